import PyProof.Rows.All
import Wide.All
import OpenK.AllK
import Wide.FinOn
import Lean
import PyProof.EqAt
import PyProof.EqKinds
import PyProof.TupleCall
import PyProof.Rows.EqDataRows
import PyProof.DictList
import PyProof.FactsAll.dict_1
import PyProof.FactsAll.subtypes_4
import KE.KTryMore
import PyProof.WalksEnum
import PyProof.EnumMake
import PyProof.ListStr
import PyProof.TupleOfStr
import PyProof.Dict
import PyProof.StrLawsIn
import PySem.Challenge.RW_inkloom_k12_the_stock
-- CHANGE: your row's module here, as the last of these rows
set_option Elab.async false
set_option linter.all false
set_option maxRecDepth 100000
/-! THE HAND LAYER, for ints, bools, texts, own classes, LISTS and tuples (index, slices, in, append, pop ..), calls, loops. Paste it whole ahead of your own text; what your proof does not reach may be deleted. -/
namespace L2
open PySem PySem.Spec PyProof.Rows
/-- a key: an int or a str -/
abbrev Key := Sum Int Str
def keyIs : Key → Value → Bool
  | .inl k, v => Value.isInt k v
  | .inr x, v => Value.isStrOf x v
def keyH (w : World) : Key → Int
  | .inl k => hashInt k
  | .inr x => hashStr w x
theorem keyIs_shape : ∀ {k : Key} {v : Value}, keyIs k v = true → (∃ i t, k = Sum.inl i ∧ v = Value.int i t) ∨ (∃ x t, k = Sum.inr x ∧ v = Value.str x t)
  | .inl i, v, h => by
    obtain ⟨t, e⟩ := Value.isInt_shape (k := i) (v := v) h
    exact .inl ⟨i, t, rfl, e⟩
  | .inr x, v, h => by
    obtain ⟨t, e⟩ := Value.isStrOf_shape (x := x) (v := v) h
    exact .inr ⟨x, t, rfl, e⟩
theorem keyIs_int (i : Int) (t : Tok) : keyIs (.inl i) (.int i t) = true := by simp [keyIs, Value.isInt]
theorem keyIs_str (x : Str) (t : Tok) : keyIs (.inr x) (.str x t) = true := by simp [keyIs, Value.isStrOf]
theorem key_ll (a b : Int) : decide ((Sum.inl a : Key) = Sum.inl b) = (a == b) := by
  by_cases e : a = b
  · subst e; simp
  · have h : ¬ (Sum.inl a : Key) = Sum.inl b := fun q => e (Sum.inl.inj q)
    rw [decide_eq_false h]
    exact (beq_eq_false_iff_ne.mpr e).symm
theorem key_rr (a b : Str) : decide ((Sum.inr a : Key) = Sum.inr b) = decide (a = b) := by
  by_cases e : a = b
  · subst e; simp
  · have h : ¬ (Sum.inr a : Key) = Sum.inr b := fun q => e (Sum.inr.inj q)
    rw [decide_eq_false h, decide_eq_false e]
theorem key_lr (a : Int) (b : Str) : decide ((Sum.inl a : Key) = Sum.inr b) = false := decide_eq_false (fun q => nomatch q)
theorem key_rl (a : Str) (b : Int) : decide ((Sum.inr a : Key) = Sum.inl b) = false := decide_eq_false (fun q => nomatch q)
def mixKind (prog : Program) (w : World) : PySem.KeyKind prog w Key where
  is := keyIs
  hash := keyH w
  inj := fun v a b ha hb => by
    rcases keyIs_shape ha with ⟨i, t, rfl, rfl⟩ | ⟨x, t, rfl, rfl⟩
    · rcases keyIs_shape hb with ⟨j, u, rfl, e⟩ | ⟨y, u, rfl, e⟩
      · injection e with e1 _; rw [e1]
      · exact nomatch e
    · rcases keyIs_shape hb with ⟨j, u, rfl, e⟩ | ⟨y, u, rfl, e⟩
      · exact nomatch e
      · injection e with e1 _; rw [e1]
  byValue := fun k v h => by
    rcases keyIs_shape h with ⟨i, t, rfl, rfl⟩ | ⟨x, t, rfl, rfl⟩ <;> rfl
  pyHash := fun hv h => by
    rcases keyIs_shape hv with ⟨i, t, rfl, rfl⟩ | ⟨x, t, rfl, rfl⟩
    · exact wpAny_pyHash_int h
    · exact wpAny_pyHash_str h
  eqBool := fun hu hv h => by
    rcases keyIs_shape hu with ⟨i, t, rfl, rfl⟩ | ⟨x, t, rfl, rfl⟩
    · rcases keyIs_shape hv with ⟨j, u, rfl, rfl⟩ | ⟨y, u, rfl, rfl⟩
      · rw [key_ll] at h; exact wpAny_eqBool_int h
      · rw [key_lr] at h; exact SeqAt.EqAt.int_str i t y u _ _ _ _ h
    · rcases keyIs_shape hv with ⟨j, u, rfl, rfl⟩ | ⟨y, u, rfl, rfl⟩
      · rw [key_rl] at h; exact SeqAt.EqAt.str_int x t j u _ _ _ _ h
      · rw [key_rr] at h; exact wpAny_eqBool_str h
  «strs» := fun k x t v h => by
    rcases keyIs_shape h with ⟨i, u, rfl, e⟩ | ⟨y, u, rfl, e⟩
    · exact nomatch e
    · injection e with e1 _
      subst e1
      cases v <;> rfl
theorem mixKind_int (prog : Program) (w : World) (i : Int) (t : Tok) : (mixKind prog w).is (.inl i) (.int i t) = true := keyIs_int i t
theorem mixKind_str (prog : Program) (w : World) (x : Str) (t : Tok) : (mixKind prog w).is (.inr x) (.str x t) = true := keyIs_str x t
end L2
namespace L2
open PySem PySem.Spec PyProof.Rows
/-- a value, without the heap -/
inductive V where
  | non | bl (b : Bool) | int (i : Int) | str (x : Str) | byt (b : Array UInt8) | flt (b : UInt64) | ref (a : Addr) | ty (n : String)
  deriving DecidableEq
def RelV : V → Value → Prop
  | .non, u => u = Value.none
  | .bl b, u => u = Value.bool b
  | .int i, u => ∃ t, u = Value.int i t
  | .str x, u => ∃ t, u = Value.str x t
  | .byt b, u => ∃ t, u = Value.bytes b t
  | .flt b, u => ∃ t, u = Value.float b t
  | .ref a, u => u = Value.ref a
  | .ty n, u => u = Value.type n
abbrev Vals : List V → List Value → Prop := Paired RelV
theorem Vals.length {xs : List V} {us : List Value} (r : Vals xs us) : xs.length = us.length := Paired.length r
theorem Vals.get : ∀ {xs : List V} {us : List Value} {i : Nat} {x : V}, Vals xs us → xs[i]? = some x → ∃ u, us[i]? = some u ∧ RelV x u
  | _, _, _, _, .nil, e => by simp at e
  | _, _, 0, _, .cons r _, e => by simp at e; subst e; exact ⟨_, rfl, r⟩
  | _, _, i + 1, x, .cons _ t, e => by
    obtain ⟨u, h1, h2⟩ := Vals.get (i := i) (x := x) t (by simpa using e)
    exact ⟨u, by simpa using h1, h2⟩
theorem Vals.append : ∀ {xs ys : List V} {us ws : List Value}, Vals xs us → Vals ys ws → Vals (xs ++ ys) (us ++ ws)
  | _, _, _, _, .nil, s => s
  | _, _, _, _, .cons r t, s => .cons r (Vals.append t s)
theorem Vals.take : ∀ {xs : List V} {us : List Value} (n : Nat), Vals xs us → Vals (xs.take n) (us.take n)
  | _, _, 0, _ => .nil
  | _, _, _ + 1, .nil => .nil
  | _, _, n + 1, .cons r t => .cons r (Vals.take n t)
theorem Vals.drop : ∀ {xs : List V} {us : List Value} (n : Nat), Vals xs us → Vals (xs.drop n) (us.drop n)
  | _, _, 0, r => r
  | _, _, _ + 1, .nil => .nil
  | _, _, n + 1, .cons _ t => Vals.drop n t
def RelO : Option V → Option Value → Prop
  | some v, some u => RelV v u
  | none, none => True
  | _, _ => False
def KV {κ : Type} : List (κ × V) → List (κ × Value) → Prop := Paired fun (p : κ × V) (q : κ × Value) => p.1 = q.1 ∧ RelV p.2 q.2
/-- a key of a dict (00_mix): an int or a text -/
def kV : Key → V
  | .inl i => .int i
  | .inr x => .str x
/-- what stands at a tracked address -/
inductive HO where
  /-- a list -/
  | lst (xs : List V)
  /-- a tuple (never changes) -/
  | tup (xs : List V)
  /-- a dict whose keys are ints and texts; one whose keys are tuples of ints and texts (the empty one is both) -/
  | dK (kvs : List (Key × V)) | dT (kvs : List (List Key × V))
  /-- a set of ints: its members, its size -/
  | set (S : Int → Bool) (n : Nat)
  /-- an instance of the class at C, its dict at dx, its attributes -/
  | ins (C dx : Addr) (fs : List (Str × V))
  /-- the dict of the instance at x -/
  | own (x : Addr)
  /-- the dict of an exception -/
  | xd (fs : List (Str × V))
  /-- a bound method, f of x -/
  | met (f x : Addr)
  /-- a range object lo, lo + 1, .. below hi -/
  | rng (lo hi : Int)
  /-- a thing that is known to the object (the script; a dict while a loop walks it): read, never written while it is so -/
  | frz (o : Obj) (u : HO)
  /-- a code object's table -/
  | tbl (ps : Array Value)
  /-- any other thing, by what is true of its one object (a def of one's own: SetO a S n := HO.ext fun h => ..) -/
  | ext (φ : Heap → Prop)
abbrev Hp := Addr → Option HO
def upd (H : Hp) (a : Addr) (o : HO) : Hp := fun b => if b = a then some o else H b
theorem upd_same {H : Hp} {a : Addr} {o : HO} : upd H a o a = some o := by unfold upd; rw [if_pos rfl]
theorem upd_ne {H : Hp} {a b : Addr} {o : HO} (h : b ≠ a) : upd H a o b = H b := by unfold upd; rw [if_neg h]
/-- two objects of different content stand apart -/
theorem ne_of {H : Hp} {a b : Addr} {o u : HO} (h : H a = some o) (h' : H b = some u) (d : o ≠ u) : a ≠ b := by
  intro e; subst e; rw [h] at h'; exact d (Option.some.inj h')
theorem ne_of_none {H : Hp} {a b : Addr} {o : HO} (h : H a = some o) (h' : H b = none) : a ≠ b := by
  intro e; subst e; rw [h] at h'; cases h'
section
variable (P : Program) (w : World)
def ObjOk (H : Hp) (h : Heap) (a : Addr) : HO → Prop
  | .lst xs => xs.length ≤ sizeLine ∧ ∃ (its : List Value) (n : Nat), Vals xs its ∧ h.get? a = some { cls := .type "list", data := .seq its.toArray n }
  | .tup xs => xs.length ≤ sizeLine ∧ ∃ its : List Value, Vals xs its ∧ IsTup h a its.toArray
  | .dK kvs => kvs.length ≤ sizeLine ∧ (a == sysModules) = false ∧ ∃ vs, KV kvs vs ∧ h.DictOf (mixKind P w) a vs
  | .dT kvs => kvs.length ≤ sizeLine ∧ (a == sysModules) = false ∧ ∃ xs : List (List Key × Addr × Value),
      Paired (fun (p : List Key × V) (q : List Key × Addr × Value) => p.1 = q.1 ∧ H q.2.1 = some (.tup (p.1.map kV)) ∧ RelV p.2 q.2.2) kvs xs ∧
      ∃ o es ep, h.get? a = some o ∧ o.ExactDict ∧ o.data = .dict es ep ∧ es.toList = xs.map (entryOfKey (tupleKind (mixKind P w))) ∧ (xs.map (·.1)).Nodup
  | .set S n => h.SetOf (intKind P w) a S n
  | .ins C dx fs => H dx = some (.own a) ∧ fs.length ≤ 1000 ∧ dx ≠ a ∧ h.get? a = some (PySem.W.instObj C dx) ∧
      ∃ mA, h.Ns1 dx mA ∧ (∀ f, RelO (fs.lookup f) (mA f)) ∧ PySem.Within mA (fs.map (·.1))
  | .own _ => ∃ o, h.get? a = some o
  | .xd fs => ∃ mA, h.Ns1 a mA ∧ ∀ f, RelO (fs.lookup f) (mA f)
  | .rng lo hi => ∃ t u v, h.get? a = some { cls := .type "range", data := .fields #[.int lo t, .int hi u, .int 1 v] }
  | .frz o u => h.get? a = some o ∧ ObjOk H h a u
  | .tbl ps => h.get? a = some { cls := .none, data := .fields ps }
  | .met f x => h.get? a = some (PySem.W.methodObj (.ref f) (.ref x))
  | .ext φ => φ h ∧ (∃ o, h.get? a = some o) ∧ ∀ h1 h2 : Heap, φ h1 → (∀ o, h1.get? a = some o → h2.get? a = some o) → φ h2
/-- the abstract heap is held -/
def HOk (H : Hp) (h : Heap) : Prop := ∀ a o, H a = some o → ObjOk P w H h a o
end
section
variable {P : Program} {w : World} {H H' : Hp} {h h' : Heap} {a : Addr} {o : HO}
theorem ObjOk.lt (x : ObjOk P w H h a o) : a < h.objs.size := by
  cases o with
  | lst xs => obtain ⟨_, _, _, _, e⟩ := x; exact Heap.lt_size e
  | tup xs => obtain ⟨_, _, _, p⟩ := x; exact p.lt
  | dK kvs => obtain ⟨_, _, _, _, o, _, _, e, _⟩ := x; exact Heap.lt_size e
  | dT kvs => obtain ⟨_, _, _, _, o, _, _, e, _⟩ := x; exact Heap.lt_size e
  | set S n => obtain ⟨o, _, _, _, e, _⟩ := x; exact Heap.lt_size e
  | ins C dx fs => obtain ⟨_, _, _, e, _⟩ := x; exact Heap.lt_size e
  | own y => obtain ⟨_, e⟩ := x; exact Heap.lt_size e
  | xd fs => obtain ⟨_, ⟨_, _, _, e, _⟩, _⟩ := x; exact Heap.lt_size e
  | rng lo hi => obtain ⟨_, _, _, e⟩ := x; exact Heap.lt_size e
  | frz ob u => obtain ⟨e, _⟩ := x; exact Heap.lt_size e
  | tbl ps => exact Heap.lt_size (show h.get? a = some _ from x)
  | met f y => exact Heap.lt_size (show h.get? a = some _ from x)
  | ext φ => obtain ⟨_, ⟨_, e⟩, _⟩ := x; exact Heap.lt_size e
theorem Paired.mapP {α β : Type} {F G : α → β → Prop} : ∀ {l₁ : List α} {l₂ : List β}, Paired F l₁ l₂ → (∀ a b, F a b → G a b) → Paired G l₁ l₂
  | _, _, .nil, _ => .nil
  | _, _, .cons r t, f => .cons (f _ _ r) (Paired.mapP t f)
/-- what an object's description leans on: its own object, its own dict, the tuples -/
theorem ObjOk.stay (x : ObjOk P w H h a o) (k : ∀ b u, (b = a ∨ H b = some (.own a)) → h.get? b = some u → h'.get? b = some u)
    (ho : ∀ b, H b = some (.own a) → H' b = some (.own a)) (ht : ∀ b xs, H b = some (.tup xs) → H' b = some (.tup xs)) : ObjOk P w H' h' a o := by
  induction o with
  | lst xs => obtain ⟨z, its, n, r, e⟩ := x; exact ⟨z, its, n, r, k _ _ (.inl rfl) e⟩
  | tup xs => obtain ⟨z, its, r, ob, e, c⟩ := x; exact ⟨z, its, r, ob, k _ _ (.inl rfl) e, c⟩
  | dK kvs => obtain ⟨z, y, vs, r, ob, es, ep, e, c⟩ := x; exact ⟨z, y, vs, r, ob, es, ep, k _ _ (.inl rfl) e, c⟩
  | dT kvs =>
    obtain ⟨z, y, xs, r, ob, es, ep, e, c⟩ := x
    exact ⟨z, y, xs, Paired.mapP r fun p q z => ⟨z.1, ht _ _ z.2.1, z.2.2⟩, ob, es, ep, k _ _ (.inl rfl) e, c⟩
  | set S n => obtain ⟨ob, es, ep, t, e, c⟩ := x; exact ⟨ob, es, ep, t, k _ _ (.inl rfl) e, c⟩
  | ins C dx fs =>
    obtain ⟨d, z, ne, e, mA, ⟨od, es, ep, e2, c⟩, r⟩ := x
    exact ⟨ho _ d, z, ne, k _ _ (.inl rfl) e, mA, ⟨od, es, ep, k _ _ (.inr d) e2, c⟩, r⟩
  | own y => obtain ⟨ob, e⟩ := x; exact ⟨ob, k _ _ (.inl rfl) e⟩
  | xd fs => obtain ⟨mA, ⟨od, es, ep, e, c⟩, r⟩ := x; exact ⟨mA, ⟨od, es, ep, k _ _ (.inl rfl) e, c⟩, r⟩
  | rng lo hi => obtain ⟨t, u, v, e⟩ := x; exact ⟨t, u, v, k _ _ (.inl rfl) e⟩
  | frz ob u ih => obtain ⟨e, q⟩ := x; exact ⟨k _ _ (.inl rfl) e, ih q⟩
  | tbl ps =>
    have e : h.get? a = some { cls := .none, data := .fields ps } := x
    show h'.get? a = some { cls := .none, data := .fields ps }
    exact k a _ (.inl rfl) e
  | met f y =>
    have e : h.get? a = some (PySem.W.methodObj (.ref f) (.ref y)) := x
    show h'.get? a = some (PySem.W.methodObj (.ref f) (.ref y))
    exact k a _ (.inl rfl) e
  | ext φ => obtain ⟨p, ⟨o, e⟩, st⟩ := x; exact ⟨st _ _ p fun o q => k _ _ (.inl rfl) q, ⟨o, k _ _ (.inl rfl) e⟩, st⟩
theorem HOk.lt (x : HOk P w H h) (e : H a = some o) : a < h.objs.size := (x a o e).lt
theorem HOk.fresh (x : HOk P w H h) (e : h.objs.size ≤ a) : H a = none := by
  cases q : H a with
  | none => rfl
  | some u => exact absurd (Nat.lt_of_lt_of_le (x.lt q) e) (Nat.lt_irrefl _)
/-- every object of the heap is kept -/
theorem HOk.kept (x : HOk P w H h) (k : ∀ b u, h.get? b = some u → h'.get? b = some u) : HOk P w H h' := fun a o e =>
  (x a o e).stay (fun b u _ q => k b u q) (fun _ q => q) fun _ _ q => q
/-- a new object is laid and tracked -/
theorem HOk.laid (x : HOk P w H h) (k : ∀ b u, h.get? b = some u → h'.get? b = some u) (hp : h.objs.size ≤ a) (new : ObjOk P w (upd H a o) h' a o) : HOk P w (upd H a o) h' := fun b u e => by
  have hn := x.fresh hp
  by_cases hb : b = a
  · subst hb; rw [upd_same] at e; cases e; exact new
  · rw [upd_ne hb] at e
    exact (x b u e).stay (fun c v _ q => k c v q) (fun c q => by rw [upd_ne (ne_of_none q hn)]; exact q) fun c xs q => by rw [upd_ne (ne_of_none q hn)]; exact q
end
/-- what may be read as u: it is u, or a known u -/
def Rd (H : Hp) (a : Addr) (u : HO) : Prop := H a = some u ∨ ∃ o, H a = some (.frz o u)
theorem Rd.ok {P : Program} {w : World} {H : Hp} {h : Heap} {a : Addr} {u : HO} (r : Rd H a u) (x : HOk P w H h) : ObjOk P w H h a u := by
  rcases r with r | ⟨o, r⟩
  · exact x a u r
  · obtain ⟨_, q⟩ := x a _ r
    exact q
/-- what may be written -/
def Mut : Option HO → Prop
  | some (.lst _) => True
  | some (.dK _) => True
  | some (.dT _) => True
  | some (.set _ _) => True
  | some (.ins _ _ _) => True
  | some (.ext _) => True
  | _ => False
section
variable {P : Program} {w : World} {H : Hp} {h h' : Heap} {x e : Addr} {o' : HO}
/-- the object at e is changed: x itself, or the dict of the instance x -/
theorem HOk.write (ok : HOk P w H h) (mu : Mut (H x)) (he : e = x ∨ H e = some (.own x)) (k : ∀ b u, b ≠ e → h.get? b = some u → h'.get? b = some u) (heo : ∃ u, h'.get? e = some u)
    (new : ObjOk P w (upd H x o') h' x o') : HOk P w (upd H x o') h' := fun b u q => by
  have nown : ∀ c y, H c = some (.own y) → c ≠ x := fun c y r z => by subst z; rw [r] at mu; exact mu
  have ntup : ∀ c xs, H c = some (.tup xs) → c ≠ x := fun c xs r z => by subst z; rw [r] at mu; exact mu
  by_cases hb : b = x
  · subst hb; rw [upd_same] at q; cases q; exact new
  · rw [upd_ne hb] at q
    by_cases hbe : b = e
    · have q' : H b = some (.own x) := by
        rcases he with z | z
        · exact absurd (hbe.trans z) hb
        · rw [hbe]; exact z
      rw [q] at q'; cases q'
      obtain ⟨v, hv⟩ := heo
      exact ⟨v, by rw [hbe]; exact hv⟩
    · refine (ok b u q).stay (fun c v hc r => k c v ?_ r) (fun c r => by rw [upd_ne (nown c b r)]; exact r) fun c xs r => by rw [upd_ne (ntup c xs r)]; exact r
      rcases hc with rfl | hc
      · exact hbe
      · rintro rfl
        rcases he with z | z
        · exact nown c b hc z
        · rw [hc] at z; cases z; exact hb rfl
end
/-! ### kept unless tracked; of the frames at fs (the callers') the slots may change (an exception that passes writes there); of the records at ex (iterators) nothing is said -/
structure Un (fs ex : List Addr) (H H' : Hp) (h h' : Heap) : Prop where
  keep : ∀ b o, h.get? b = some o → H b = none → b ∉ fs → b ∉ ex → h'.get? b = some o
  slot : ∀ b o, h.get? b = some o → H b = none → b ∈ fs → b ∉ ex → ∃ sl, h'.get? b = some { o with slots := sl }
  free : ∀ b o, h.get? b = some o → H b = none → b ∉ ex → H' b = none
  there : ∀ b o, h.get? b = some o → b ∉ ex → ∃ o', h'.get? b = some o'
  tups : ∀ b xs, H b = some (.tup xs) → H' b = some (.tup xs)
  frzs : ∀ b o u, H b = some (.frz o u) → H' b = some (.frz o u)
  tbls : ∀ b ps, H b = some (.tbl ps) → ∃ more, H' b = some (.tbl (ps ++ more))
section
variable {fs fs' ex ex' : List Addr} {H H1 H2 : Hp} {h h1 h2 h' : Heap} {a x e : Addr} {o : HO}
theorem Un.any (u : Un fs ex H H1 h h1) {b : Addr} {ob : Obj} (q : h.get? b = some ob) (n : H b = none) (hx : b ∉ ex) : ∃ sl, h1.get? b = some { ob with slots := sl } := by
  by_cases hb : b ∈ fs
  · exact u.slot b ob q n hb hx
  · exact ⟨ob.slots, u.keep b ob q n hb hx⟩
theorem Un.kept (k : ∀ b u, h.get? b = some u → h'.get? b = some u) : Un fs ex H H h h' :=
  ⟨fun b ob q _ _ _ => k b ob q, fun b ob q _ _ _ => ⟨ob.slots, k b ob q⟩, fun _ _ _ n _ => n, fun b ob q _ => ⟨ob, k b ob q⟩, fun _ _ q => q, fun _ _ _ q => q, fun _ ps q => ⟨#[], by rw [q]; simp⟩⟩
theorem Un.refl : Un fs ex H H h h := Un.kept fun _ _ q => q
theorem Un.laid (k : ∀ b u, h.get? b = some u → h'.get? b = some u) (hp : h.objs.size ≤ a) (hn : H a = none) : Un fs ex H (upd H a o) h h' where
  keep := fun b u q _ _ _ => k b u q
  slot := fun b u q _ _ _ => ⟨u.slots, k b u q⟩
  free := fun b u q n _ => by rw [upd_ne (Nat.ne_of_lt (Nat.lt_of_lt_of_le (Heap.lt_size q) hp))]; exact n
  there := fun b u q _ => ⟨u, k b u q⟩
  tups := fun b xs q => by rw [upd_ne (ne_of_none q hn)]; exact q
  frzs := fun b u xs q => by rw [upd_ne (ne_of_none q hn)]; exact q
  tbls := fun b ps q => ⟨#[], by rw [upd_ne (ne_of_none q hn), q]; simp⟩
theorem Un.write (mu : Mut (H x)) (he : e = x ∨ H e = some (.own x)) (k : ∀ b u, b ≠ e → h.get? b = some u → h'.get? b = some u) (heo : ∃ u, h'.get? e = some u) : Un fs ex H (upd H x o) h h' := by
  have hx : ∀ b, H b = none → b ≠ x := fun b n z => by subst z; rw [n] at mu; exact mu
  have hb : ∀ b, H b = none → b ≠ e := fun b n z => by
    subst z
    rcases he with r | r
    · exact hx b n r
    · rw [n] at r; cases r
  have hm : ∀ b u, H b = some u → ¬ Mut (some u) → b ≠ x := fun b u q nm z => by subst z; rw [q] at mu; exact nm mu
  refine ⟨fun b u q n _ _ => k b u (hb b n) q, fun b u q n _ _ => ⟨u.slots, k b u (hb b n) q⟩, fun b u q n _ => by rw [upd_ne (hx b n)]; exact n, fun b u q _ => ?_,
    fun b xs q => by rw [upd_ne (hm b _ q fun z => z)]; exact q, fun b u xs q => by rw [upd_ne (hm b _ q fun z => z)]; exact q, fun b ps q => ⟨#[], by rw [upd_ne (hm b _ q fun z => z), q]; simp⟩⟩
  by_cases hbe : b = e
  · subst hbe; exact heo
  · exact ⟨u, k b u hbe q⟩
end
/-! ### the heap without what is tracked -/
def trk (h : Heap) (H : Hp) : List Addr := (List.range h.objs.size).filter fun a => (H a).isSome
def hidT (h : Heap) (H : Hp) : Heap := PySem.W.hideAll h (trk h H)
theorem hidT_size (h : Heap) (H : Hp) : (hidT h H).objs.size = h.objs.size := PySem.W.hideAll_size _ _
theorem hidT_get {h : Heap} {H : Hp} {b : Addr} {o : Obj} (e : h.get? b = some o) (n : H b = none) : (hidT h H).get? b = some o :=
  PySem.W.hideAll_get _ e fun hm => by
    have q : (H b).isSome = true := (List.mem_filter.mp hm).2
    rw [n] at q; simp at q
theorem of_hidT {h : Heap} {H : Hp} {b : Addr} {o : Obj} (e : (hidT h H).get? b = some o) : h.get? b = some o ∧ H b = none := by
  have e' : h.get? b = some o := PySem.W.of_hideAll (trk h H) e
  refine ⟨e', ?_⟩
  cases q : H b with
  | none => rfl
  | some x =>
    have hm : b ∈ trk h H := List.mem_filter.mpr ⟨List.mem_range.mpr (Heap.lt_size e'), by simp [q]⟩
    have z : (hidT h H).get? b = none := PySem.W.hideAll_none (trk h H) hm
    rw [z] at e; cases e
/-! ### OpenK's ledger, filled with every new object but one -/
end L2
namespace L2
open PySem PySem.Spec PyProof.Rows
/-- the module's facts, over the base: the heap at the law's entry without what is tracked there -/
structure Mod (K : PySem.W.Frag) (mg : Str → Option Value) (base : Heap) : Prop where
  kin : K.In base
  glob : base.Ns mainGlobals mg
  blt : ∃ mb, base.Ns builtinsNs mb ∧ ∀ x : Str, x ≠ "__name__" → mb x = bootBuiltins x
  nolimit : base.NoLimit
/-- the context: a def's body (or a comprehension's block) running. base: fixed through the whole law; s₀, H₀: the entry; outer: the frames whose slots others may change (a def's callers); stack: all frames that run;
   ex: iterators that were made ahead of the entry and are walked here (a comprehension's); fn: the names whose cells were made at the entry (a def: all; a comprehension's block: its own); calm: not within an except suite; pn: pins that every state bears; xe: what is wanted of an exception that leaves the code -/
structure Cx where
  prog : Program
  w : World
  K : PySem.W.Frag
  mg : Str → Option Value
  base : Heap
  A : Around
  N : List Str
  s₀ : Shared
  H₀ : Hp
  env : Env
  outer : List Env
  stack : List Env
  ex : List Addr
  fn : Str → Bool
  calm : Bool
  pn : List (Addr × Obj)
  xe : Value → Shared → Prop
/-- the callers' frames -/
def frs (l : List Env) : List Addr := l.filterMap (·.frame)
abbrev Cx.fs (X : Cx) : List Addr := frs X.outer
def Vis (sc : Scope) (x : Str) : Prop := sc.names.lookup x = some .local ∨ sc.names.lookup x = some .cell ∨ sc.names.lookup x = some .free
def Loc (sc : Scope) (x : Str) : Prop := sc.names.lookup x = some .local ∨ sc.names.lookup x = some .cell
def Look (env : Env) (h : Heap) (m : Str → Option Value) (x : Str) (u : Value) : Prop :=
  (env.kindOf x = some .local ∧ m x = some u) ∨ ((env.kindOf x = some .cell ∨ env.kindOf x = some .free) ∧ ∃ c, env.cells.lookup x = some c ∧ h.IsCell c (some u))
structure Cx.Ok (X : Cx) : Prop where
  mod : Mod X.K X.mg X.base
  kind : X.env.scope.kind = .function
  glob : X.env.globals = mainGlobals
  blt : X.env.builtins = builtinsNs
  above : X.s₀.heap.objs.size ≤ X.env.locals
  inj : ∀ x y c, X.env.cells.lookup x = some c → X.env.cells.lookup y = some c → x = y
  has : ∀ x, (X.env.kindOf x = some .cell ∨ X.env.kindOf x = some .free) → ∃ c, X.env.cells.lookup x = some c
  cab : ∀ x c, X.fn x = true → X.env.cells.lookup x = some c → X.s₀.heap.objs.size ≤ c
  hd : X.calm = true → X.A.handled = none
  frames : X.A.frames = some X.stack
  stk : X.stack = X.outer ∨ (X.stack = X.env :: X.outer ∧ X.env.frame = some X.env.locals)
  exf : ∀ b ∈ X.ex, b ≠ X.env.locals ∧ ∀ x c, X.env.cells.lookup x = some c → c ≠ b
  bs : ∀ b o, X.base.get? b = some o → X.s₀.heap.get? b = some o ∧ X.H₀ b = none
  bsz : X.base.objs.size ≤ X.s₀.heap.objs.size
  noex : ∀ b o, X.base.get? b = some o → b ∉ X.ex
  exfs : ∀ b ∈ X.ex, b ∉ X.fs
  funs : X.s₀.heap.FunFrames X.base X.outer
  frf : ∀ b ∈ X.fs, X.H₀ b = none
structure Inv (X : Cx) (pins : List (Addr × Obj)) (σ : List (Option V)) (H : Hp) (s : Shared) : Prop where
  ok : X.Ok
  os : s.os = X.s₀.os
  bare : AllBare s.gens
  base : Un X.fs X.ex X.H₀ H X.s₀.heap s.heap
  loc : ∃ m, s.heap.Ns X.env.locals m ∧ ∀ (i : Nat) (x : Str) (v : V), X.N[i]? = some x → σ[i]? = some (some v) → Vis X.env.scope x → ∃ u, RelV v u ∧ Look X.env s.heap m x u
  cell : ∀ x c, X.env.cells.lookup x = some c → ∃ v, s.heap.IsCell c v
  free : H X.env.locals = none
  freeC : ∀ x c, X.env.cells.lookup x = some c → H c = none
  pin : ∀ p ∈ X.pn ++ pins, s.heap.get? p.1 = some p.2 ∧ H p.1 = none ∧ p.1 ≠ X.env.locals ∧ p.1 ∉ X.fs ∧ ∀ v, p.2.data ≠ .cell v
  hok : HOk X.prog X.w H s.heap
  len : σ.length = X.N.length
section
variable {X : Cx} {pins : List (Addr × Obj)} {σ : List (Option V)} {H H' : Hp} {s : Shared} {h' : Heap}
theorem Cx.Ok.nofr (ok : X.Ok) {b : Addr} {o : Obj} (e : X.base.get? b = some o) : b ∉ X.fs := fun hb => by
  have := (ok.funs.mem hb).1
  rw [e] at this; cases this
theorem Inv.bs (I : Inv X pins σ H s) : ∀ b o, X.base.get? b = some o → s.heap.get? b = some o ∧ H b = none := fun b o e =>
  ⟨I.base.keep b o (I.ok.bs b o e).1 (I.ok.bs b o e).2 (I.ok.nofr e) (I.ok.noex b o e), I.base.free b o (I.ok.bs b o e).1 (I.ok.bs b o e).2 (I.ok.noex b o e)⟩
theorem Inv.bk (I : Inv X pins σ H s) : ∀ b o, X.base.get? b = some o → s.heap.get? b = some o := fun b o e => (I.bs b o e).1
theorem Inv.mod (I : Inv X pins σ H s) : Mod X.K X.mg X.base := I.ok.mod
theorem Inv.kIn (I : Inv X pins σ H s) : X.K.In s.heap := I.ok.mod.kin.keeps I.bk
theorem Inv.lt (I : Inv X pins σ H s) : X.env.locals < s.heap.objs.size := let ⟨_, hn, _⟩ := I.loc; hn.lt
theorem Inv.sz (I : Inv X pins σ H s) : X.s₀.heap.objs.size ≤ s.heap.objs.size := Nat.le_trans I.ok.above (Nat.le_of_lt I.lt)
theorem Inv.nofs (I : Inv X pins σ H s) {a : Addr} (h : s.heap.objs.size ≤ a) : a ∉ X.fs := fun hb => by
  obtain ⟨_, o, ho, _⟩ := I.ok.funs.mem hb
  exact absurd (Nat.lt_of_lt_of_le (Heap.lt_size ho) (Nat.le_trans I.sz h)) (Nat.lt_irrefl _)
theorem Inv.cne (I : Inv X pins σ H s) : ∀ x c, X.env.cells.lookup x = some c → c ≠ X.env.locals := fun x c e z => by
  obtain ⟨v, o, ho, hd⟩ := I.cell x c e
  obtain ⟨m, ⟨o', es, ep, ho', hd', _⟩, _⟩ := I.loc
  rw [z, ho'] at ho; cases ho; rw [hd'] at hd; cases hd
theorem Inv.funs (I : Inv X pins σ H s) : s.heap.FunFrames X.base X.outer := by
  have all : ∀ (l : List Env), (∀ b ∈ frs l, b ∈ X.fs) → X.s₀.heap.FunFrames X.base l → s.heap.FunFrames X.base l := by
    intro l
    induction l with
    | nil => intro _ _; trivial
    | cons env r ih =>
      intro hs hl
      obtain ⟨hk, ⟨L, o, hf, hn, ho, hd⟩, hr⟩ := hl
      have hL : L ∈ X.fs := hs L (by unfold frs; rw [List.filterMap_cons, hf]; exact List.mem_cons_self)
      obtain ⟨sl, e⟩ := I.base.slot L o ho (I.ok.frf L hL) hL fun z => I.ok.exfs L z hL
      exact ⟨hk, ⟨L, _, hf, hn, e, hd⟩, ih (fun b hb => hs b (by unfold frs; rw [List.filterMap_cons, hf]; exact List.mem_cons_of_mem _ hb)) hr⟩
  exact all X.outer (fun _ hb => hb) I.ok.funs
/-- the frames that run, for a call -/
theorem Inv.stack (I : Inv X pins σ H s) : s.heap.FunFrames X.base X.stack := by
  rcases I.ok.stk with e | ⟨e, hf⟩
  · rw [e]; exact I.funs
  · rw [e]
    obtain ⟨m, hn, _⟩ := I.loc
    refine .cons (by rw [I.ok.kind]; decide) hf hn ?_ I.funs
    exact Heap.get?_none_of_le (Nat.le_trans I.ok.bsz I.ok.above)
theorem Inv.stkSub (I : Inv X pins σ H s) : ∀ b ∈ frs X.stack, b ∈ X.env.locals :: X.fs := fun b hb => by
  rcases I.ok.stk with e | ⟨e, hf⟩
  · rw [e] at hb; exact List.mem_cons_of_mem _ hb
  · rw [e] at hb
    unfold frs at hb
    rw [List.filterMap_cons, hf] at hb
    exact hb
theorem Inv.stkFree (I : Inv X pins σ H s) : ∀ b ∈ frs X.stack, H b = none := fun b hb => by
  rcases List.mem_cons.mp (I.stkSub b hb) with e | hb
  · rw [e]; exact I.free
  · obtain ⟨_, o, ho, _⟩ := I.ok.funs.mem hb
    exact I.base.free b o ho (I.ok.frf b hb) fun z => I.ok.exfs b z hb
/-- THE STEP: the untracked objects but the frame and the records at ch are kept (the callers' frames up to slots), the frame's map is kept, the new abstract heap is held -/
theorem Inv.step {g' : Array GenState} {t' : Nat} {d' : Drawn} {ch : List Addr} (I : Inv X pins σ H s)
    (hch : ∀ b ∈ ch, (b ∈ X.ex ∨ X.s₀.heap.objs.size ≤ b) ∧ b ≠ X.env.locals ∧ (∀ x c, X.env.cells.lookup x = some c → c ≠ b) ∧ ∀ p ∈ X.pn ++ pins, p.1 ≠ b)
    (keep : ∀ b o, b ≠ X.env.locals → b ∉ X.fs → b ∉ ch → s.heap.get? b = some o → H b = none → h'.get? b = some o)
    (slot : ∀ b o, b ≠ X.env.locals → b ∈ X.fs → b ∉ ch → s.heap.get? b = some o → H b = none → ∃ sl, h'.get? b = some { o with slots := sl }) (free : ∀ b o, b ∉ ch → s.heap.get? b = some o → H b = none → H' b = none)
    (there : ∀ b o, b ∉ ch → s.heap.get? b = some o → ∃ o', h'.get? b = some o')
    (tups : ∀ b xs, H b = some (.tup xs) → H' b = some (.tup xs)) (frzs : ∀ b o u, H b = some (.frz o u) → H' b = some (.frz o u)) (tbls : ∀ b ps, H b = some (.tbl ps) → ∃ more, H' b = some (.tbl (ps ++ more)))
    (ns : ∀ m, s.heap.Ns X.env.locals m → h'.Ns X.env.locals m) (hok : HOk X.prog X.w H' h') (hg : AllBare g') :
    Inv X pins σ H' { s with heap := h', gens := g', drawn := d', toks := t' } := by
  have neL : ∀ b o, X.s₀.heap.get? b = some o → b ≠ X.env.locals := fun b o e => Nat.ne_of_lt (Nat.lt_of_lt_of_le (Heap.lt_size e) I.ok.above)
  have neC : ∀ b o, X.s₀.heap.get? b = some o → b ∉ X.ex → b ∉ ch := fun b o e hx hb => by
    rcases (hch b hb).1 with z | z
    · exact hx z
    · exact absurd (Nat.lt_of_lt_of_le (Heap.lt_size e) z) (Nat.lt_irrefl _)
  have cellK : ∀ x c, X.env.cells.lookup x = some c → ∀ v, s.heap.IsCell c v → h'.IsCell c v := fun x c e v ⟨o, ho, hd⟩ => by
    have nch : c ∉ ch := fun z => (hch c z).2.2.1 x c e rfl
    by_cases hc : c ∈ X.fs
    · obtain ⟨sl, q⟩ := slot c o (I.cne x c e) hc nch ho (I.freeC x c e)
      exact ⟨_, q, hd⟩
    · exact ⟨o, keep c o (I.cne x c e) hc nch ho (I.freeC x c e), hd⟩
  refine ⟨I.ok, I.os, hg, ⟨fun b o e n hb hx => ?_, fun b o e n hb hx => ?_, fun b o e n hx => ?_, fun b o e hx => ?_, fun b xs e => tups b xs (I.base.tups b xs e), fun b o xs e => frzs b o xs (I.base.frzs b o xs e), fun b ps e => ?_⟩, ?_, fun x c e => ?_, ?_, fun x c e => ?_, fun p hp => ?_, hok, I.len⟩
  · exact keep b o (neL b o e) hb (neC b o e hx) (I.base.keep b o e n hb hx) (I.base.free b o e n hx)
  · obtain ⟨sl, e1⟩ := I.base.slot b o e n hb hx
    obtain ⟨sl', e2⟩ := slot b _ (neL b o e) hb (neC b o e hx) e1 (I.base.free b o e n hx)
    exact ⟨sl', e2⟩
  · obtain ⟨o', e1⟩ := I.base.there b o e hx
    exact free b o' (neC b o e hx) e1 (I.base.free b o e n hx)
  · obtain ⟨o', e1⟩ := I.base.there b o e hx
    exact there b o' (neC b o e hx) e1
  · obtain ⟨m1, e1⟩ := I.base.tbls b ps e
    obtain ⟨m2, e2⟩ := tbls b _ e1
    exact ⟨m1 ++ m2, by rw [e2, Array.append_assoc]⟩
  · obtain ⟨m, hn, hl⟩ := I.loc
    refine ⟨m, ns m hn, fun i x v e1 e2 e3 => ?_⟩
    obtain ⟨u, r, l⟩ := hl i x v e1 e2 e3
    refine ⟨u, r, ?_⟩
    rcases l with l | ⟨k, c, e, z⟩
    · exact .inl l
    · exact .inr ⟨k, c, e, cellK x c e _ z⟩
  · obtain ⟨v, z⟩ := I.cell x c e
    exact ⟨v, cellK x c e v z⟩
  · obtain ⟨m, ⟨o, _, _, ho, _⟩, _⟩ := I.loc
    exact free _ o (fun z => (hch _ z).2.1 rfl) ho I.free
  · obtain ⟨v, o, ho, hd⟩ := I.cell x c e
    exact free c o (fun z => (hch c z).2.2.1 x c e rfl) ho (I.freeC x c e)
  · obtain ⟨e, n, ne, nf, d⟩ := I.pin p hp
    have nch : p.1 ∉ ch := fun z => (hch p.1 z).2.2.2 p hp rfl
    exact ⟨keep p.1 p.2 ne nf nch e n, free p.1 p.2 nch e n, ne, nf, d⟩
/-- .. where the frame's own object is kept too -/
theorem Inv.un {t' : Nat} (I : Inv X pins σ H s) (u : Un X.fs [] H H' s.heap h') (hok : HOk X.prog X.w H' h') : Inv X pins σ H' { s with heap := h', toks := t' } := by
  obtain ⟨m, ⟨o, es, ep, ho, r⟩, _⟩ := id I.loc
  obtain ⟨sl, hL⟩ := u.any ho I.free (by simp)
  exact I.step (g' := s.gens) (d' := s.drawn) (ch := []) (fun _ z => nomatch z) (fun b o _ hb _ e n => u.keep b o e n hb (by simp)) (fun b o _ hb _ e n => u.slot b o e n hb (by simp)) (fun b o _ e n => u.free b o e n (by simp)) (fun b o _ e => u.there b o e (by simp)) u.tups u.frzs u.tbls (fun m' hm => by
    obtain ⟨o', es', ep', ho', r'⟩ := hm
    rw [ho] at ho'; cases ho'
    exact ⟨_, es', ep', hL, r'⟩) hok I.bare
/-- behind a call (or a comprehension's block): the slots of this frame may have changed too, the records at ch may have turned -/
theorem Inv.call {g' : Array GenState} {t' : Nat} {d' : Drawn} {ch : List Addr} (I : Inv X pins σ H s) (u : Un (frs X.stack) ch H H' s.heap h') (hok : HOk X.prog X.w H' h') (hg : AllBare g')
    (hch : ∀ b ∈ ch, (b ∈ X.ex ∨ X.s₀.heap.objs.size ≤ b) ∧ b ≠ X.env.locals ∧ (∀ x c, X.env.cells.lookup x = some c → c ≠ b) ∧ ∀ p ∈ X.pn ++ pins, p.1 ≠ b) :
    Inv X pins σ H' { s with heap := h', gens := g', drawn := d', toks := t' } := by
  obtain ⟨m, ⟨o, es, ep, ho, r⟩, _⟩ := id I.loc
  obtain ⟨sl, hL⟩ := u.any ho I.free fun z => (hch _ z).2.1 rfl
  exact I.step (ch := ch) hch (fun b o hL hb hc e n => u.keep b o e n (fun z => (List.mem_cons.mp (I.stkSub b z)).elim hL hb) hc) (fun b o _ _ hc e n => u.any e n hc) (fun b o hc e n => u.free b o e n hc) (fun b o hc e => u.there b o e hc) u.tups u.frzs u.tbls (fun m' hm => by
    obtain ⟨o', es', ep', ho', r'⟩ := hm
    rw [ho] at ho'; cases ho'
    exact ⟨_, es', ep', hL, r'⟩) hok hg
/-- an untracked record of ours (an iterator) has turned -/
theorem Inv.turned {t' : Nat} {it : Addr} (I : Inv X pins σ H s) (k : ∀ b o, b ≠ it → s.heap.get? b = some o → h'.get? b = some o) (hn : H it = none) (hL : it ≠ X.env.locals)
    (h1 : it ∈ X.ex ∨ X.s₀.heap.objs.size ≤ it) (h2 : ∀ x c, X.env.cells.lookup x = some c → c ≠ it) (h3 : ∀ p ∈ X.pn ++ pins, p.1 ≠ it) : Inv X pins σ H { s with heap := h', toks := t' } := by
  have nit : ∀ b u, H b = some u → b ≠ it := fun b u e z => by rw [z, hn] at e; cases e
  refine I.step (g' := s.gens) (d' := s.drawn) (ch := [it]) (fun b hb => ?_) (fun b o _ _ hc e _ => k b o (fun z => hc (by simp [z])) e) (fun b o _ _ hc e _ => ⟨o.slots, k b o (fun z => hc (by simp [z])) e⟩) (fun _ _ _ _ n => n)
    (fun b o hc e => ⟨o, k b o (fun z => hc (by simp [z])) e⟩) (fun _ _ e => e) (fun _ _ _ e => e) (fun b ps e => ⟨#[], by rw [e]; simp⟩) (fun m hm => ?_) (fun b u e => ?_) I.bare
  · have e : b = it := by simpa using hb
    subst e
    exact ⟨h1, hL, h2, h3⟩
  · obtain ⟨o, es, ep, ho, r⟩ := hm
    exact ⟨o, es, ep, k _ o (Ne.symm hL) ho, r⟩
  · refine (I.hok b u e).stay (fun c v hc q => k c v ?_ q) (fun _ q => q) fun _ _ q => q
    rcases hc with z | z
    · rw [z]; exact nit b u e
    · exact nit c _ z
theorem Inv.tok (I : Inv X pins σ H s) (t : Nat) : Inv X pins σ H { s with toks := t } := I.un (h' := s.heap) (t' := t) Un.refl I.hok
/-- all objects kept -/
theorem Inv.kept {t' : Nat} (I : Inv X pins σ H s) (k : ∀ b u, s.heap.get? b = some u → h'.get? b = some u) : Inv X pins σ H { s with heap := h', toks := t' } := I.un (Un.kept k) (I.hok.kept k)
/-- a new object laid and tracked -/
theorem Inv.laid {a : Addr} {o : HO} {t' : Nat} (I : Inv X pins σ H s) (k : ∀ b u, s.heap.get? b = some u → h'.get? b = some u) (hp : s.heap.objs.size ≤ a) (new : ObjOk X.prog X.w (upd H a o) h' a o) :
    Inv X pins σ (upd H a o) { s with heap := h', toks := t' } := I.un (Un.laid k hp (I.hok.fresh hp)) (I.hok.laid k hp new)
/-- an object written -/
theorem Inv.write {x e : Addr} {o : HO} {t' : Nat} (I : Inv X pins σ H s) (mu : Mut (H x)) (he : e = x ∨ H e = some (.own x)) (k : ∀ b u, b ≠ e → s.heap.get? b = some u → h'.get? b = some u) (heo : ∃ u, h'.get? e = some u)
    (new : ObjOk X.prog X.w (upd H x o) h' x o) : Inv X pins σ (upd H x o) { s with heap := h', toks := t' } := I.un (Un.write mu he k heo) (I.hok.write mu he k heo new)
theorem Inv.pins_of {pins' : List (Addr × Obj)} (I : Inv X pins σ H s) (h : ∀ p ∈ pins', s.heap.get? p.1 = some p.2 ∧ H p.1 = none ∧ p.1 ≠ X.env.locals ∧ p.1 ∉ X.fs ∧ ∀ v, p.2.data ≠ .cell v) : Inv X pins' σ H s :=
  ⟨I.ok, I.os, I.bare, I.base, I.loc, I.cell, I.free, I.freeC, fun p hp => (List.mem_append.mp hp).elim (fun z => I.pin p (List.mem_append_left _ z)) (h p), I.hok, I.len⟩
theorem nodup_ix {N : List Str} (hN : N.Nodup) {i j : Nat} {x : Str} (a : N[i]? = some x) (b : N[j]? = some x) : i = j := by
  obtain ⟨h1, e1⟩ := List.getElem?_eq_some_iff.mp a
  obtain ⟨h2, e2⟩ := List.getElem?_eq_some_iff.mp b
  exact (List.getElem_inj hN).mp (e1.trans e2.symm)
/-- a name is stored; what changed -/
theorem store_ok2 {M : Model} {A : Around} {E : Value → Shared → Prop} {i : Nat} {x : Str} {v : V} {u : Value} {Q : Unit → Shared → Prop} (I : Inv X pins σ H s) (hN : X.N.Nodup) (hi : X.N[i]? = some x) (hx : Loc X.env.scope x) (r : RelV v u)
    (h : ∀ s', Inv X pins (σ.set i (some v)) H s' → (∃ a, Heap.SameBut a s.heap s'.heap ∧ (a = X.env.locals ∨ X.env.cells.lookup x = some a)) → Q () s') (hf : X.fn x = true ∨ X.env.scope.names.lookup x = some .local := by first | exact .inl rfl | exact .inr rfl | assumption) : wpAny M A (storeName X.env x u) Q E s := by
  obtain ⟨m, hn, hl⟩ := id I.loc
  have hcls : (X.env.scope.kind == .class || (X.env.scope.kind == .module && X.env.locals != X.env.globals)) = false := by rw [I.ok.kind]; rfl
  have hiσ : i < σ.length := by rw [I.len]; exact (List.getElem?_eq_some_iff.mp hi).1
  have cne := I.cne
  have tracked : ∀ {a : Addr} {h' : Heap}, (∃ o, s.heap.get? a = some o ∧ H a = none) → Heap.SameBut a s.heap h' → HOk X.prog X.w H h' := fun {a h'} ha hs b ob e => by
    obtain ⟨_, _, hfree⟩ := ha
    refine (I.hok b ob e).stay (fun c w' hc q => (hs.2 c ?_).trans q) (fun _ q => q) fun _ _ q => q
    rintro rfl
    rcases hc with rfl | hc
    · rw [hfree] at e; cases e
    · rw [hfree] at hc; cases hc
  rcases hx with hk | hk
  · refine wpAny_storeName_local hk hn (fun h' hn' hs => ?_) hcls
    obtain ⟨oL, _, _, hoL, _⟩ := id hn
    refine h _ ⟨I.ok, I.os, I.bare, ⟨fun b o e n hb hx => ?_, fun b o e n hb hx => ?_, I.base.free, fun b o e hx => ?_, I.base.tups, I.base.frzs, I.base.tbls⟩, ⟨_, hn', fun j y v' e1 e2 e3 => ?_⟩, fun y c e => ?_, I.free, I.freeC, fun p hp => ?_, tracked ⟨oL, hoL, I.free⟩ hs, by simpa using I.len⟩ ⟨_, hs, .inl rfl⟩
    · exact (hs.2 b (Nat.ne_of_lt (Nat.lt_of_lt_of_le (Heap.lt_size e) I.ok.above))).trans (I.base.keep b o e n hb hx)
    · obtain ⟨sl, e1⟩ := I.base.slot b o e n hb hx
      exact ⟨sl, (hs.2 b (Nat.ne_of_lt (Nat.lt_of_lt_of_le (Heap.lt_size e) I.ok.above))).trans e1⟩
    · obtain ⟨o', e1⟩ := I.base.there b o e hx
      exact ⟨o', (hs.2 b (Nat.ne_of_lt (Nat.lt_of_lt_of_le (Heap.lt_size e) I.ok.above))).trans e1⟩
    · by_cases hj : j = i
      · subst hj
        rw [hi] at e1; cases e1
        rw [List.getElem?_set_self hiσ] at e2
        cases e2
        exact ⟨u, r, .inl ⟨hk, by simp⟩⟩
      · rw [List.getElem?_set_ne (Ne.symm hj)] at e2
        obtain ⟨u', r', q⟩ := hl j y v' e1 e2 e3
        refine ⟨u', r', ?_⟩
        rcases q with ⟨k, e⟩ | ⟨k, c, e, z⟩
        · refine .inl ⟨k, ?_⟩
          have : y ≠ x := fun e => hj (nodup_ix hN e1 (e ▸ hi))
          simp [this, e]
        · exact .inr ⟨k, c, e, z.sameBut hs (cne y c e)⟩
    · obtain ⟨w', z⟩ := I.cell y c e
      exact ⟨w', z.sameBut hs (cne y c e)⟩
    · obtain ⟨e, n, ne, nf, d⟩ := I.pin p hp
      exact ⟨(hs.2 p.1 ne).trans e, n, ne, nf, d⟩
  · have hfn : X.fn x = true := by
      rcases hf with z | z
      · exact z
      · rw [z] at hk; cases hk
    obtain ⟨c, hc⟩ := I.ok.has x (.inl hk)
    obtain ⟨w', z⟩ := I.cell x c hc
    refine wpAny_storeName_cell I.ok.kind hk hc z (fun h' hc' hs => ?_)
    obtain ⟨oc, hoc, hocd⟩ := id z
    refine h { s with heap := h' } ⟨I.ok, I.os, I.bare, ⟨fun b o e n hb hx => ?_, fun b o e n hb hx => ?_, I.base.free, fun b o e hx => ?_, I.base.tups, I.base.frzs, I.base.tbls⟩, ⟨m, hn.sameBut hs (Ne.symm (cne x c hc)), fun j y v' e1 e2 e3 => ?_⟩, fun y c' e => ?_, I.free, I.freeC, fun p hp => ?_, tracked ⟨oc, hoc, I.freeC x c hc⟩ hs, by simpa using I.len⟩ ⟨c, hs, .inr hc⟩
    · exact (hs.2 b (Nat.ne_of_lt (Nat.lt_of_lt_of_le (Heap.lt_size e) (I.ok.cab x c hfn hc)))).trans (I.base.keep b o e n hb hx)
    · obtain ⟨sl, e1⟩ := I.base.slot b o e n hb hx
      exact ⟨sl, (hs.2 b (Nat.ne_of_lt (Nat.lt_of_lt_of_le (Heap.lt_size e) (I.ok.cab x c hfn hc)))).trans e1⟩
    · obtain ⟨o', e1⟩ := I.base.there b o e hx
      exact ⟨o', (hs.2 b (Nat.ne_of_lt (Nat.lt_of_lt_of_le (Heap.lt_size e) (I.ok.cab x c hfn hc)))).trans e1⟩
    · by_cases hj : j = i
      · subst hj
        rw [hi] at e1; cases e1
        rw [List.getElem?_set_self hiσ] at e2
        cases e2
        exact ⟨u, r, .inr ⟨.inl hk, c, hc, hc'⟩⟩
      · rw [List.getElem?_set_ne (Ne.symm hj)] at e2
        obtain ⟨u', r', q⟩ := hl j y v' e1 e2 e3
        refine ⟨u', r', ?_⟩
        rcases q with q | ⟨k, c', e, z'⟩
        · exact .inl q
        · refine .inr ⟨k, c', e, z'.sameBut hs ?_⟩
          rintro rfl
          exact hj (nodup_ix hN e1 (I.ok.inj _ _ _ e hc ▸ hi))
    · by_cases hcc : c' = c
      · subst hcc; exact ⟨_, hc'⟩
      · obtain ⟨w2, z2⟩ := I.cell y c' e
        exact ⟨w2, z2.sameBut hs hcc⟩
    · obtain ⟨e, n, ne, nf, d⟩ := I.pin p hp
      refine ⟨(hs.2 p.1 ?_).trans e, n, ne, nf, d⟩
      intro q
      rw [q, hoc] at e
      have q' : oc = p.2 := Option.some.inj e
      exact d w' (by rw [← q']; exact hocd)
theorem store_ok {M : Model} {A : Around} {E : Value → Shared → Prop} {i : Nat} {x : Str} {v : V} {u : Value} {Q : Unit → Shared → Prop} (I : Inv X pins σ H s) (hN : X.N.Nodup) (hi : X.N[i]? = some x) (hx : Loc X.env.scope x) (r : RelV v u)
    (h : ∀ s', Inv X pins (σ.set i (some v)) H s' → Q () s') (hf : X.fn x = true ∨ X.env.scope.names.lookup x = some .local := by first | exact .inl rfl | exact .inr rfl | assumption) : wpAny M A (storeName X.env x u) Q E s :=
  store_ok2 I hN hi hx r (fun s' I' _ => h s' I') hf
/-- behind a call or a block, the state as it is -/
theorem Inv.call' {s' : Shared} {ch : List Addr} (I : Inv X pins σ H s) (ho : s'.os = s.os) (u : Un (frs X.stack) ch H H' s.heap s'.heap) (hok : HOk X.prog X.w H' s'.heap) (hg : AllBare s'.gens)
    (hch : ∀ b ∈ ch, (b ∈ X.ex ∨ X.s₀.heap.objs.size ≤ b) ∧ b ≠ X.env.locals ∧ (∀ x c, X.env.cells.lookup x = some c → c ≠ b) ∧ ∀ p ∈ X.pn ++ pins, p.1 ≠ b) : Inv X pins σ H' s' := by
  obtain ⟨h', g', d', t', o'⟩ := s'
  have e : o' = s.os := ho
  subst e
  exact I.call (g' := g') (t' := t') (d' := d') u hok hg hch
end
/-! ### the judgements -/
/-- an exception: its class, its own dict's address (where it has one), the abstract heap behind it -/
abbrev XK := Value → Option Addr → Hp → Prop
abbrev St := List (Option V)
abbrev VK := V → Hp → Prop
/-- an expression's reading; a test's; an argument list's -/
abbrev TE := St → Hp → VK → Prop
abbrev TT := St → Hp → (Bool → Hp → Prop) → Prop
abbrev TA := St → Hp → (List V → Hp → Prop) → Prop
/-- what is wanted behind a statement -/
structure Ends where
  nx : St → Hp → Prop
  rt : VK
  bk : St → Hp → Prop := fun _ _ => False
  ct : St → Hp → Prop := fun _ _ => False
abbrev TS := Ends → St → Hp → Prop
def EP (X : Cx) (pins : List (Addr × Obj)) (σ : St) (Q : VK) (u : Value) (s' : Shared) : Prop := ∃ v H', Inv X pins σ H' s' ∧ RelV v u ∧ Q v H'
def TP (X : Cx) (pins : List (Addr × Obj)) (σ : St) (Q : Bool → Hp → Prop) (b : Bool) (s' : Shared) : Prop := ∃ H', Inv X pins σ H' s' ∧ Q b H'
def AP (X : Cx) (pins : List (Addr × Obj)) (σ : St) (Q : List V → Hp → Prop) (us : List Value) (s' : Shared) : Prop := ∃ vs H', Inv X pins σ H' s' ∧ Vals vs us ∧ Q vs H'
def SP (X : Cx) (pins : List (Addr × Obj)) (D : Ends) (f : Flow) (s' : Shared) : Prop :=
  match f with
  | .next => ∃ σ' H', Inv X pins σ' H' s' ∧ D.nx σ' H'
  | .brk => ∃ σ' H', Inv X pins σ' H' s' ∧ D.bk σ' H'
  | .cont => ∃ σ' H', Inv X pins σ' H' s' ∧ D.ct σ' H'
  | .ret u => ∃ v σ' H', Inv X pins σ' H' s' ∧ RelV v u ∧ D.rt v H'
def PE (X : Cx) (e : Expr) (t : TE) : Prop :=
  ∀ (pins : List (Addr × Obj)) (s : Shared) (σ : St) (H : Hp) (Q : VK), Inv X pins σ H s → t σ H Q → wpAny (model X.prog X.w) X.A (eval e X.env) (EP X pins σ Q) X.xe s
def PT (X : Cx) (e : Expr) (t : TT) : Prop :=
  ∀ (pins : List (Addr × Obj)) (s : Shared) (σ : St) (H : Hp) (Q : Bool → Hp → Prop), Inv X pins σ H s → t σ H Q → wpAny (model X.prog X.w) X.A (isTrue e X.env (eval e X.env)) (TP X pins σ Q) X.xe s
/-- a test whatever its 'whole' is (and, or) -/
def PW (X : Cx) (e : Expr) (t : TT) : Prop :=
  ∀ (whole : Sem Value) (pins : List (Addr × Obj)) (s : Shared) (σ : St) (H : Hp) (Q : Bool → Hp → Prop), Inv X pins σ H s → t σ H Q → wpAny (model X.prog X.w) X.A (isTrue e X.env whole) (TP X pins σ Q) X.xe s
theorem PW.pt {X : Cx} {e : Expr} {t : TT} (h : PW X e t) : PT X e t := h _
/-- an argument list (no star), from the left -/
def PA (X : Cx) (es : List Expr) (t : TA) : Prop :=
  ∀ (pos : Pos) (pins : List (Addr × Obj)) (s : Shared) (σ : St) (H : Hp) (Q : List V → Hp → Prop), Inv X pins σ H s → t σ H Q → wpAny (model X.prog X.w) X.A (spliced (backTo pos (starEach es X.env))) (AP X pins σ Q) X.xe s
def PS (X : Cx) (st : Stmt) (t : TS) : Prop :=
  ∀ (pins : List (Addr × Obj)) (s : Shared) (σ : St) (H : Hp) (D : Ends), Inv X pins σ H s → t D σ H → wpAny (model X.prog X.w) X.A (exec st X.env) (SP X pins D) X.xe s
def PSs (X : Cx) (st : List Stmt) (t : TS) : Prop :=
  ∀ (pins : List (Addr × Obj)) (s : Shared) (σ : St) (H : Hp) (D : Ends), Inv X pins σ H s → t D σ H → wpAny (model X.prog X.w) X.A (execs st X.env) (SP X pins D) X.xe s
/-- weaken the end -/
theorem thn {α : Type} {t : Sem α} {Q Q' : α → Shared → Prop} {M : Model} {A : Around} {E : Value → Shared → Prop} {s : Shared} (h : wpAny M A t Q E s) (hQ : ∀ a s, Q a s → Q' a s) : wpAny M A t Q' E s := wpAny_mono h hQ fun _ _ x => x
end L2
namespace L2
open PySem PySem.Spec PyProof.Rows
section
variable {X : Cx}
/-! ### names and constants -/
def tVar (i : Nat) : TE := fun σ H Q => ∃ v, σ[i]? = some (some v) ∧ Q v H
def tC (v : V) : TE := fun _ H Q => Q v H
theorem pe_var {i : Nat} {x : Str} {pos : Pos} (hN : X.N[i]? = some x) (hv : Vis X.env.scope x) (hd : (x == ("__debug__" : Str)) = false := by decide) (hcd : (x == ("__classdict__" : Str)) = false := by decide) : PE X (.Name x pos) (tVar i) := by
  intro pins s σ H Q I h
  obtain ⟨v, e, h⟩ := h
  obtain ⟨m, hn, hl⟩ := I.loc
  obtain ⟨u, r, l⟩ := hl i x v hN e hv
  have fin : EP X pins σ Q u s := ⟨v, H, I, r, h⟩
  rcases l with ⟨hk, hm⟩ | ⟨hk, c, hc, hcell⟩
  · exact wpAny_Name (wpAny_loadName_local I.ok.kind hk hn hm fin) hd
  · rcases hk with hk | hk
    · exact wpAny_Name (wpAny_loadName_cell I.ok.kind hk hc hcell fin) hd
    · exact wpAny_Name (wpAny_loadName_free I.ok.kind hk hc hcell fin hcd) hd
theorem pe_int {i j pos} : PE X (.Constant (.int i) j pos) (tC (.int i)) := fun _ _ _ H _ I h => wpAny_Constant_int ⟨.int i, H, I.tok _, ⟨_, rfl⟩, h⟩
theorem pe_bl {b j pos} : PE X (.Constant (.bool b) j pos) (tC (.bl b)) := fun _ _ _ H _ I h => Constant_bool ⟨.bl b, H, I, rfl, h⟩
theorem pe_non {j pos} : PE X (.Constant .none j pos) (tC .non) := fun _ _ _ H _ I h => Constant_none ⟨.non, H, I, rfl, h⟩
theorem pe_str {x j pos} : PE X (.Constant (.str x) j pos) (tC (.str x)) := fun _ _ _ H _ I h => Calls.Constant_str ⟨.str x, H, I.tok _, ⟨_, rfl⟩, h⟩
/-- a global name of the def -/
def Gl (X : Cx) (x : Str) : Prop := X.env.kindOf x = some .globalImplicit
theorem ld_glob {E : Value → Shared → Prop} {pins : List (Addr × Obj)} {s : Shared} {σ : St} {H : Hp} {x : Str} {u : Value} {pos : Pos} {Q : Value → Shared → Prop} (I : Inv X pins σ H s) (hg : Gl X x) (hm : X.mg x = some u) (h : Q u s)
    (hd : (x == ("__debug__" : Str)) = false := by decide) : wpAny (model X.prog X.w) X.A (eval (.Name x pos) X.env) Q E s :=
  Calls.Name_function_global I.ok.kind hg (Calls.loadGlobal_global (by rw [I.ok.glob]; exact I.mod.glob.keeps I.bk) hm h) hd
theorem ld_blt {E : Value → Shared → Prop} {pins : List (Addr × Obj)} {s : Shared} {σ : St} {H : Hp} {x : Str} {u : Value} {pos : Pos} {Q : Value → Shared → Prop} (I : Inv X pins σ H s) (hg : Gl X x) (hm : X.mg x = none) (hv : bootBuiltins x = some u) (h : Q u s)
    (hn : x ≠ "__name__" := by decide) (hd : (x == ("__debug__" : Str)) = false := by decide) : wpAny (model X.prog X.w) X.A (eval (.Name x pos) X.env) Q E s := by
  obtain ⟨mb, h1, h2⟩ := I.mod.blt
  exact Calls.Name_function_global I.ok.kind hg (Calls.loadGlobal_builtin (by rw [I.ok.glob]; exact I.mod.glob.keeps I.bk) hm (by rw [I.ok.blt]; exact h1.keeps I.bk) ((h2 x hn).trans hv) h) hd
/-- a module's constant, a class, a function, as a value -/
theorem pe_glob {x : Str} {v : V} {u : Value} {pos : Pos} (hg : Gl X x) (hm : X.mg x = some u) (r : RelV v u) (hd : (x == ("__debug__" : Str)) = false := by decide) : PE X (.Name x pos) (tC v) :=
  fun _ _ _ H _ I h => ld_glob I hg hm ⟨v, H, I, r, h⟩ hd
theorem pe_bltn {x : Str} {v : V} {u : Value} {pos : Pos} (hg : Gl X x) (hm : X.mg x = none) (hv : bootBuiltins x = some u) (r : RelV v u) (hn : x ≠ "__name__" := by decide) (hd : (x == ("__debug__" : Str)) = false := by decide) : PE X (.Name x pos) (tC v) :=
  fun _ _ _ H _ I h => ld_blt I hg hm hv ⟨v, H, I, r, h⟩ hn hd
/-! ### arithmetic -/
variable {a b : Expr} {ta tb : TE} {pos : Pos}
/-! ### comparisons -/
/-! ### and, or, not -/
variable {tA tB' : TT} {rest : List Expr}
def tAnd (t u : TT) : TT := fun σ H Q => t σ H fun c H1 => if c = true then u σ H1 Q else Q false H1
def tOr (t u : TT) : TT := fun σ H Q => t σ H fun c H1 => if c = true then Q true H1 else u σ H1 Q
def tNot (t : TT) : TT := fun σ H Q => t σ H fun c H1 => Q (!c) H1
theorem pw_and1 (ha : PT X a tA) : PW X (.BoolOp .And [a] pos) tA := by
  intro wh pins s σ H Q I h
  refine isTrue_and (thn (ha pins s σ H Q I h) fun c s1 e => ?_)
  cases c with
  | true => exact isTrue_and_nil e
  | false => exact e
theorem pw_or1 (ha : PT X a tA) : PW X (.BoolOp .Or [a] pos) tA := by
  intro wh pins s σ H Q I h
  refine isTrue_or (thn (ha pins s σ H Q I h) fun c s1 e => ?_)
  cases c with
  | false => exact isTrue_or_nil e
  | true => exact e
theorem pw_and (ha : PT X a tA) (hb : PW X (.BoolOp .And (b :: rest) pos) tB') : PW X (.BoolOp .And (a :: b :: rest) pos) (tAnd tA tB') := by
  intro wh pins s σ H Q I h
  refine isTrue_and (thn (ha pins s σ H _ I h) fun c s1 ⟨H1, I1, q1⟩ => ?_)
  cases c with
  | true => exact hb wh pins s1 σ H1 Q I1 q1
  | false => exact ⟨H1, I1, q1⟩
theorem pw_or (ha : PT X a tA) (hb : PW X (.BoolOp .Or (b :: rest) pos) tB') : PW X (.BoolOp .Or (a :: b :: rest) pos) (tOr tA tB') := by
  intro wh pins s σ H Q I h
  refine isTrue_or (thn (ha pins s σ H _ I h) fun c s1 ⟨H1, I1, q1⟩ => ?_)
  cases c with
  | true => exact ⟨H1, I1, q1⟩
  | false => exact hb wh pins s1 σ H1 Q I1 q1
theorem pt_not (ha : PT X a tA) : PT X (.UnaryOp .Not a pos) (tNot tA) := by
  intro pins s σ H Q I h
  exact isTrue_not (ha pins s σ H (fun c H1 => Q (!c) H1) I h)
/-- .. as values (bools) -/
def tAndV (ta tb : TE) : TE := fun σ H Q => ta σ H fun x H1 => ∃ c, x = .bl c ∧ if c = true then tb σ H1 Q else Q (.bl false) H1
def tOrV (ta tb : TE) : TE := fun σ H Q => ta σ H fun x H1 => ∃ c, x = .bl c ∧ if c = true then Q (.bl true) H1 else tb σ H1 Q
theorem pe_one {op} {t : TE} (h : PE X a t) : PE X (.BoolOp op [a] pos) t := fun pins s σ H Q I hw => BoolOp_one (h pins s σ H Q I hw)
theorem pe_and (ha : PE X a ta) (hb : PE X (.BoolOp .And (b :: rest) pos) tb) : PE X (.BoolOp .And (a :: b :: rest) pos) (tAndV ta tb) := by
  intro pins s σ H Q I h
  refine BoolOp_and (thn (ha pins s σ H _ I h) fun v s1 ⟨x, H1, I1, r1, q1⟩ => ?_)
  obtain ⟨c, rfl, q1⟩ := q1
  cases r1
  refine wpAny_truthy_bool ?_
  cases c with
  | true => exact hb pins s1 σ H1 Q I1 q1
  | false => exact ⟨.bl false, H1, I1, rfl, q1⟩
/-- a if t else b -/
def tIf (t : TT) (ta tb : TE) : TE := fun σ H Q => t σ H fun c H1 => if c = true then ta σ H1 Q else tb σ H1 Q
end
end L2
namespace L2
open PySem PySem.Spec PyProof.Rows
/-! ### a list, a tuple that is read: tracked, frozen, or an object of the module -/
def SqL (K : PySem.W.Frag) (H : Hp) (a : Addr) (xs : List V) : Prop :=
  Rd H a (.lst xs) ∨
    ∃ (o : Obj) (its : Array Value) (n : Nat), K.lookup a = some o ∧ o.cls = .type "list" ∧ o.dict = none ∧ o.data = .seq its n ∧ its.size ≤ sizeLine ∧ Vals xs its.toList
def SqT (K : PySem.W.Frag) (H : Hp) (a : Addr) (xs : List V) : Prop :=
  Rd H a (.tup xs) ∨
    ∃ (o : Obj) (its : Array Value) (n : Nat), K.lookup a = some o ∧ o.cls = .type "tuple" ∧ o.data = .seq its n ∧ its.size ≤ sizeLine ∧ Vals xs its.toList
def absV : Value → Option V
  | .none => some .non
  | .bool b => some (.bl b)
  | .int i _ => some (.int i)
  | .str x _ => some (.str x)
  | .bytes b _ => some (.byt b)
  | .float b _ => some (.flt b)
  | .ref a => some (.ref a)
  | .type n => some (.ty n)
  | _ => none
theorem RelV.abs {x : V} {u : Value} (r : RelV x u) : absV u = some x := by
  cases x with
  | non => cases r; rfl
  | bl _ => cases r; rfl
  | int _ => obtain ⟨t, rfl⟩ := r; rfl
  | str _ => obtain ⟨t, rfl⟩ := r; rfl
  | byt _ => obtain ⟨t, rfl⟩ := r; rfl
  | flt _ => obtain ⟨t, rfl⟩ := r; rfl
  | ref _ => cases r; rfl
  | ty _ => cases r; rfl
theorem RelV.inj {x y : V} {u : Value} (r : RelV x u) (q : RelV y u) : x = y := Option.some.inj (r.abs.symm.trans q.abs)
theorem Vals.inj : ∀ {xs ys : List V} {us : List Value}, Vals xs us → Vals ys us → xs = ys
  | _, _, _, .nil, .nil => rfl
  | _, _, _, .cons r t, .cons r' t' => by rw [r.inj r', Vals.inj t t']
section
variable {X : Cx} {pins : List (Addr × Obj)} {σ : St} {H : Hp} {s : Shared} {a : Addr} {xs ys : List V}
theorem SqL.of {K : PySem.W.Frag} (h : H a = some (.lst xs)) : SqL K H a xs := .inl (.inl h)
theorem SqT.of {K : PySem.W.Frag} (h : H a = some (.tup xs)) : SqT K H a xs := .inl (.inl h)
theorem Inv.list (I : Inv X pins σ H s) (h : SqL X.K H a xs) : ∃ its : List Value, Vals xs its ∧ PlainL s.heap a its.toArray ∧ xs.length ≤ sizeLine := by
  rcases h with h | ⟨o, its, n, hk, hc, hd, hs, hz, r⟩
  · obtain ⟨z, its, n, r, e⟩ := h.ok I.hok
    exact ⟨its, r, ⟨_, n, e, rfl, rfl, rfl⟩, z⟩
  · refine ⟨its.toList, r, ⟨o, n, I.kIn a o hk, hc, hd, by simpa using hs⟩, ?_⟩
    have e := r.length
    simp only [Array.length_toList] at e
    omega
theorem Inv.tuple (I : Inv X pins σ H s) (h : SqT X.K H a xs) : ∃ its : List Value, Vals xs its ∧ IsTup s.heap a its.toArray ∧ xs.length ≤ sizeLine := by
  rcases h with h | ⟨o, its, n, hk, hc, hs, hz, r⟩
  · obtain ⟨z, its, r, p⟩ := h.ok I.hok
    exact ⟨its, r, p, z⟩
  · refine ⟨its.toList, r, ⟨o, I.kIn a o hk, hc, n, by simpa using hs⟩, ?_⟩
    have e := r.length
    simp only [Array.length_toList] at e
    omega
theorem Inv.list_inj (I : Inv X pins σ H s) (h : SqL X.K H a xs) (h' : SqL X.K H a ys) : xs = ys := by
  obtain ⟨its, r, ⟨o, n, e, _, _, d⟩, _⟩ := I.list h
  obtain ⟨its', r', ⟨o', n', e', _, _, d'⟩, _⟩ := I.list h'
  rw [e] at e'; cases e'
  rw [d] at d'
  injection d' with d1 _
  have : its = its' := by simpa using congrArg Array.toList d1
  subst this
  exact r.inj r'
end
/-! ### another wish about exceptions -/
section
variable {X : Cx} {pins : List (Addr × Obj)} {σ : St} {H : Hp} {s : Shared} {E : Value → Shared → Prop}
end
/-! ### blocks and small statements -/
section
variable {X : Cx} {st : Stmt} {rest : List Stmt} {t u : TS} {e : Expr} {te : TE} {pos : Pos}
def tNext : TS := fun D σ H => D.nx σ H
def tSeq (t u : TS) : TS := fun D σ H => t { D with nx := u D } σ H
theorem pss_nil : PSs X [] tNext := fun _ _ σ H _ I h => wpAny_execs_nil ⟨σ, H, I, h⟩
theorem pss_cons (h1 : PS X st t) (h2 : PSs X rest u) : PSs X (st :: rest) (tSeq t u) := by
  intro pins s σ H D I h
  refine wpAny_execs_cons (thn (h1 pins s σ H { D with nx := u D } I h) fun f s1 q => ?_)
  cases f with
  | next =>
    obtain ⟨σ', H', I', q⟩ := q
    exact h2 pins s1 σ' H' D I' q
  | ret v => exact q
  | brk => exact q
  | cont => exact q
def tBreak : TS := fun D σ H => D.bk σ H
def tCont : TS := fun D σ H => D.ct σ H
/-- in a def's body nothing is shown -/
theorem Inv.quiet {pins : List (Addr × Obj)} {σ : St} {H : Hp} {s : Shared} (I : Inv X pins σ H s) : interactive X.env = false := by simp [interactive, I.ok.kind]
/-- an expression whose value is dropped -/
def tDrop (te : TE) : TS := fun D σ H => te σ H fun _ H1 => D.nx σ H1
theorem ps_expr (he : PE X e te) (hs : swapsWith e none pos.line X.env = pure false := by rfl) : PS X (.Expr e pos) (tDrop te) := by
  intro pins s σ H D I h
  exact wpAny_Expr_any (thn (he pins s σ H _ I h) fun v s1 ⟨x, H1, I1, r1, q1⟩ => ⟨σ, H1, I1, q1⟩) I.quiet hs
def tRet (te : TE) : TS := fun D σ H => te σ H D.rt
theorem ps_ret (he : PE X e te) : PS X (.Return (some e) pos) (tRet te) := by
  intro pins s σ H D I h
  exact wpAny_Return_some (thn (he pins s σ H _ I h) fun v s1 ⟨x, H1, I1, r1, q1⟩ => ⟨x, σ, H1, I1, r1, q1⟩)
def tRetN : TS := fun D _ H => D.rt .non H
def tIfS (c : TT) (t u : TS) : TS := fun D σ H => c σ H fun b H1 => if b = true then t D σ H1 else u D σ H1
theorem ps_if {c : Expr} {a b : List Stmt} {tc : TT} (hc : PT X c tc) (ha : PSs X a t) (hb : PSs X b u) : PS X (.If c a b pos) (tIfS tc t u) := by
  intro pins s σ H D I h
  refine wpAny_If (thn (hc pins s σ H _ I h) fun d s1 ⟨H1, I1, q1⟩ => ?_)
  cases d with
  | true => exact ha pins s1 σ H1 D I1 q1
  | false => exact hb pins s1 σ H1 D I1 q1
/-- code that the proof never comes to -/
def tNever : TS := fun _ _ _ => False
end
/-! ### targets -/
abbrev TG := V → St → Hp → (St → Hp → Prop) → Prop
abbrev TGs := List V → St → Hp → (St → Hp → Prop) → Prop
def PG (X : Cx) (target : Expr) (t : TG) : Prop :=
  ∀ (pins : List (Addr × Obj)) (s : Shared) (σ : St) (H : Hp) (v : V) (u : Value) (Q : St → Hp → Prop), Inv X pins σ H s → RelV v u → t v σ H Q →
    wpAny (model X.prog X.w) X.A (assign target X.env u) (fun _ s' => ∃ σ' H', Inv X pins σ' H' s' ∧ Q σ' H') X.xe s
/-- several targets, one after another -/
def PGs (X : Cx) (ts : List Expr) (t : TGs) : Prop :=
  ∀ (pins : List (Addr × Obj)) (s : Shared) (σ : St) (H : Hp) (vs : List V) (us : List Value) (Q : St → Hp → Prop), Inv X pins σ H s → Vals vs us → t vs σ H Q →
    wpAny (model X.prog X.w) X.A (assignInOrder ((assignEach ts X.env).map (·.2)) us) (fun _ s' => ∃ σ' H', Inv X pins σ' H' s' ∧ Q σ' H') X.xe s
/-- o[i] = v, by values -/
abbrev TSet := V → V → V → Hp → (Hp → Prop) → Prop
section
variable {X : Cx} {pos : Pos}
def gName (i : Nat) : TG := fun v σ H Q => Q (σ.set i (some v)) H
theorem pg_name {i : Nat} {x : Str} (hN : X.N.Nodup) (hi : X.N[i]? = some x) (hx : Loc X.env.scope x) (hf : X.fn x = true ∨ X.env.scope.names.lookup x = some .local := by first | exact .inl rfl | exact .inr rfl | assumption) : PG X (.Name x pos) (gName i) := by
  intro pins s σ H v u Q I r h
  exact wpAny_assign_Name (store_ok I hN hi hx r (fun s' I' => ⟨_, H, I', h⟩) hf)
def gNil : TGs := fun vs σ H Q => vs = [] ∧ Q σ H
def gCons (t : TG) (u : TGs) : TGs := fun vs σ H Q => ∃ v r, vs = v :: r ∧ t v σ H fun σ' H' => u r σ' H' Q
theorem pgs_nil : PGs X [] gNil := by
  intro pins s σ H vs us Q I r h
  obtain ⟨e, h⟩ := h
  subst e
  cases r
  exact assignInOrder_nil ⟨σ, H, I, h⟩
theorem pgs_cons {e : Expr} {es : List Expr} {t : TG} {u : TGs} (h1 : PG X e t) (h2 : PGs X es u)
    (hs : (assignEach (e :: es) X.env).map (·.2) = assign e X.env :: (assignEach es X.env).map (·.2) := by rfl) : PGs X (e :: es) (gCons t u) := by
  intro pins s σ H vs us Q I r h
  obtain ⟨v, vr, e1, h⟩ := h
  subst e1
  cases r with
  | cons r rr =>
    rw [hs]
    refine assignInOrder_cons (thn (h1 pins s σ H _ _ _ I r h) fun _ s1 ⟨σ1, H1, I1, q1⟩ => ?_)
    exact h2 pins s1 σ1 H1 _ _ Q I1 rr q1
/-- (a, b, ..) = a tuple of that length -/
def gTup (K : PySem.W.Frag) (n : Nat) (t : TGs) : TG := fun v σ H Q => ∃ a xs, v = .ref a ∧ SqT K H a xs ∧ xs.length = n ∧ t xs σ H Q
theorem pg_tup {es : List Expr} {k : Nat} {t : TGs} {n : Nat} (hc : X.calm = true) (h : PGs X es t)
    (hn : (assignEach es X.env).length = n := by rfl) (hst : (assignEach es X.env).findIdx? (·.1) = none := by rfl) : PG X (.Tuple es k pos) (gTup X.K n t) := by
  intro pins s σ H v u Q I r hw
  obtain ⟨a, xs, e1, hq, hl, hw⟩ := hw
  subst e1
  cases r
  obtain ⟨its, rv, ht, hz⟩ := I.tuple hq
  refine assign_Tuple_tuple (I.ok.hd hc) ht (by simp [hn, ← hl, rv.length]) hst fun h' hx => ?_
  have I1 : Inv X pins σ H { s with heap := h' } := I.kept (t' := s.toks) fun b o e => hx b o (Nat.ne_of_lt (Heap.lt_size e)) e
  exact h pins _ σ H xs _ Q I1 (by simpa using rv) hw
/-- o[i] = .. -/
def gSub (to ti : TE) (t : TSet) : TG := fun v σ H Q => to σ H fun o H1 => ti σ H1 fun i H2 => t o i v H2 fun H3 => Q σ H3
/-- target = value -/
def tAsg (te : TE) (g : TG) : TS := fun D σ H => te σ H fun x H1 => g x σ H1 D.nx
/-- name = value -/
theorem ps_set {i : Nat} {x : Str} {e : Expr} {te : TE} {pos' : Pos} (hN : X.N.Nodup) (hi : X.N[i]? = some x) (hx : Loc X.env.scope x) (he : PE X e te) (hs : swapsWith e (some (.Name x pos')) pos.line X.env = pure false := by rfl) (hf : X.fn x = true ∨ X.env.scope.names.lookup x = some .local := by first | exact .inl rfl | exact .inr rfl | assumption) :
    PS X (.Assign [.Name x pos'] e pos) (tAsg te (gName i)) := by
  intro pins s σ H D I h
  refine wpAny_Assign_Name (thn (he pins s σ H _ I h) fun v s1 ⟨y, H1, I1, r1, q1⟩ => ?_) hs
  exact store_ok I1 hN hi hx r1 (fun s2 I2 => ⟨_, H1, I2, q1⟩) hf
end
/-! ### while -/
section
variable {X : Cx} {pos : Pos}
/-- the invariant W with its measure -/
def tWhile (c : TT) (tb : TS) : TS := fun D σ H => ∃ W : Nat → St → Hp → Prop, (∃ m, W m σ H) ∧ ∀ m σ H, W m σ H →
  c σ H fun b H1 => if b = true then ∃ N : St → Hp → Prop, (∀ σ' H', N σ' H' → ∃ m', m' < m ∧ W m' σ' H') ∧ tb { D with nx := N, ct := N, bk := D.nx } σ H1 else D.nx σ H1
theorem ps_while {c : Expr} {body : List Stmt} {tc : TT} {tb : TS} (hp : PassesOwn (model X.prog X.w) X.A X.env X.xe) (hc : PT X c tc) (hb : PSs X body tb) : PS X (.While c body [] pos) (tWhile tc tb) := by
  intro pins s σ H D I h
  obtain ⟨W, ⟨m0, w0⟩, turn⟩ := h
  refine wpAny_While (codeAny_whileLoop (fun n s' => ∃ σ' H', Inv X pins σ' H' s' ∧ W n σ' H') ?_ m0 ⟨σ, H, I, w0⟩)
  rintro n s1 ⟨σ1, H1, I1, w1⟩
  refine wpAny_passesOwn hp (thn (hc pins s1 σ1 H1 _ I1 (turn n σ1 H1 w1)) fun b s2 ⟨H2, I2, q2⟩ => ?_)
  cases b with
  | true =>
    obtain ⟨N, hN, q2⟩ := q2
    rw [if_pos rfl]
    refine wpAny_passesOwn hp (thn (hb pins s2 σ1 H2 _ I2 q2) fun f s3 q3 => ?_)
    cases f with
    | next =>
      obtain ⟨σ3, H3, I3, n3⟩ := q3
      obtain ⟨m', hm, w3⟩ := hN σ3 H3 n3
      exact ⟨m', hm, σ3, H3, I3, w3⟩
    | cont =>
      obtain ⟨σ3, H3, I3, n3⟩ := q3
      obtain ⟨m', hm, w3⟩ := hN σ3 H3 n3
      exact ⟨m', hm, σ3, H3, I3, w3⟩
    | brk => exact q3
    | ret v => exact q3
  | false =>
    rw [if_neg Bool.false_ne_true]
    exact wpAny_execs_nil ⟨σ1, H2, I2, q2⟩
end
/-! ### what a loop or a comprehension walks -/
/-- at turn i: it yields x (the heap may grow), or it stops -/
structure It where
  go : Nat → Hp → Prop
  yld : Nat → Hp → V → Hp → Prop
  stop : Nat → Hp → Prop
/-- the iterator's own objects may turn: they are not the frame's, not pinned, younger than the entry (or a comprehension's own) -/
def FpOk (X : Cx) (pins : List (Addr × Obj)) (H : Hp) (b : Addr) : Prop :=
  H b = none ∧ b ≠ X.env.locals ∧ b ∉ X.fs ∧ (b ∈ X.ex ∨ X.s₀.heap.objs.size ≤ b) ∧ (∀ x c, X.env.cells.lookup x = some c → c ≠ b) ∧ ∀ p ∈ X.pn ++ pins, p.1 ≠ b
theorem Inv.fpOk {X : Cx} {pins : List (Addr × Obj)} {σ : St} {H H' : Hp} {s : Shared} {b : Addr} (I : Inv X pins σ H s) (hb : s.heap.objs.size ≤ b) (hn : H' b = none) : FpOk X pins H' b := by
  refine ⟨hn, Nat.ne_of_gt (Nat.lt_of_lt_of_le I.lt hb), I.nofs hb, .inr (Nat.le_trans I.sz hb), fun x c e z => ?_, fun p hp z => ?_⟩
  · obtain ⟨v, q⟩ := I.cell x c e
    exact absurd (Nat.lt_of_lt_of_le q.lt (by rw [z]; exact hb)) (Nat.lt_irrefl _)
  · exact absurd (Nat.lt_of_lt_of_le (Heap.lt_size (I.pin p hp).1) (by rw [z]; exact hb)) (Nat.lt_irrefl _)
structure Turn (P : Program) (w : World) (K : PySem.W.Frag) (tg : Expr) (J : It) (fp : List Addr) (it : Addr) (tn : Nat → Heap → Prop) : Prop where
  mem : it ∈ fp
  obj : ∀ i h, tn i h → ∀ b ∈ fp, ∃ o, h.get? b = some o ∧ ∀ v, o.data ≠ .cell v
  keep : ∀ i h h', tn i h → (∀ b ∈ fp, ∀ o, h.get? b = some o → h'.get? b = some o) → tn i h'
  item : ∀ (X : Cx), X.prog = P → X.w = w → X.K = K → X.calm = true → ∀ (i : Nat) (pins : List (Addr × Obj)) (s : Shared) (σ : St) (H : Hp) (E : Value → Shared → Prop), Inv X pins σ H s → (∀ b ∈ fp, FpOk X pins H b) → tn i s.heap → J.go i H →
    wpAny (model P w) X.A (pyNext (.ref it)) (fun r s1 => ∃ u, r = some u ∧
      wpAny (model P w) X.A (letOwnedTupleGo tg (.ref it) u) (fun _ s2 => ∃ x H', Inv X pins σ H' s2 ∧ RelV x u ∧ J.yld i H x H' ∧ tn (i + 1) s2.heap ∧ ∀ b ∈ fp, H' b = none) E s1) E s
  done : ∀ (X : Cx), X.prog = P → X.w = w → X.K = K → X.calm = true → ∀ (i : Nat) (pins : List (Addr × Obj)) (s : Shared) (σ : St) (H : Hp) (E : Value → Shared → Prop), Inv X pins σ H s → (∀ b ∈ fp, FpOk X pins H b) → tn i s.heap → J.stop i H →
    wpAny (model P w) X.A (pyNext (.ref it)) (fun r s1 => r = none ∧ Inv X pins σ H s1) E s
  self : ∀ (A : Around) (i : Nat) (s : Shared) (Q : Value → Shared → Prop) (E : Value → Shared → Prop), tn i s.heap → Q (.ref it) s → wpAny (model P w) A (pyIter (.ref it)) Q E s
abbrev TI := St → Hp → (It → Hp → Prop) → Prop
/-- an iterator has come -/
def PIE (X : Cx) (pins : List (Addr × Obj)) (σ : St) (tg : Expr) (R : It → Hp → Prop) (itv : Value) (s2 : Shared) : Prop :=
  ∃ (it : Addr) (fp : List Addr) (tn : Nat → Heap → Prop) (J : It) (H' : Hp), itv = .ref it ∧ Inv X pins σ H' s2 ∧ Turn X.prog X.w X.K tg J fp it tn ∧ tn 0 s2.heap ∧ (∀ b ∈ fp, FpOk X pins H' b) ∧ R J H'
def PI (X : Cx) (tg iter : Expr) (wi : TI) : Prop :=
  ∀ (pins : List (Addr × Obj)) (s : Shared) (σ : St) (H : Hp) (R : It → Hp → Prop), Inv X pins σ H s → wi σ H R →
    wpAny (model X.prog X.w) X.A (eval iter X.env) (fun v s1 => wpAny (model X.prog X.w) X.A (pyIter v) (PIE X pins σ tg R) X.xe s1) X.xe s
/-- the step ahead of the store is nothing for an iterator that keeps no tuple -/
theorem go_of {M : Model} {A : Around} {E : Value → Shared → Prop} {s : Shared} {tg : Expr} {it : Addr} {u : Value} {o : Obj} {n : String} {vs : Array Value} {Q : Unit → Shared → Prop} (ho : s.heap.get? it = some o) (hc : o.cls = .type n) (hd : o.data = .fields vs)
    (hn : ["enumerate", "zip", "dict_itemiterator", "dict_reverseitemiterator", "odict_iterator", "itertools.zip_longest", "itertools.pairwise"].contains n = false) (hQ : Q () s) : wpAny M A (letOwnedTupleGo tg (.ref it) u) Q E s := by
  unfold letOwnedTupleGo
  cases tg <;> first
    | exact wpAny_pure hQ
    | (cases u <;> first
        | exact wpAny_pure hQ
        | (refine wpAny_bind (wpAny_load ho ?_)
           rw [hc, hd]
           show wpAny M A (if (["enumerate", "zip", "dict_itemiterator", "dict_reverseitemiterator", "odict_iterator", "itertools.zip_longest", "itertools.pairwise"].contains n && vs[0]? == some (rawInt _)) = true then _ else _) Q E s
           rw [if_neg (by intro h; rw [hn, Bool.false_and] at h; cases h)]
           exact wpAny_pure hQ))
/-- the list at a, as it stands at each turn (a loop may append to it) -/
def Itl (K : PySem.W.Frag) (a : Addr) : It :=
  ⟨fun i H => ∃ xs x, SqL K H a xs ∧ xs[i]? = some x, fun i H x H' => H' = H ∧ ∀ xs, SqL K H a xs → xs[i]? = some x, fun i H => ∃ xs, SqL K H a xs ∧ xs.length ≤ i⟩
def Itt (K : PySem.W.Frag) (a : Addr) : It :=
  ⟨fun i H => ∃ xs x, SqT K H a xs ∧ xs[i]? = some x, fun i H x H' => H' = H ∧ ∀ xs, SqT K H a xs → xs[i]? = some x, fun i H => ∃ xs, SqT K H a xs ∧ xs.length ≤ i⟩
/-- lo, lo + 1, .. (n of them) -/
def Itr (lo : Int) (n : Nat) : It := ⟨fun i _ => i < n, fun i H x H' => H' = H ∧ x = .int (lo + i), fun i _ => n ≤ i⟩
theorem turn_range {P : Program} {w : World} {K : PySem.W.Frag} {tg : Expr} (it : Addr) (lo : Int) (n : Nat) : Turn P w K tg (Itr lo n) [it] it (fun i h => IsRangeIter h it (lo + (i : Nat) * 1) ((n : Int) - (i : Nat)) 1) where
  mem := by simp
  obj := fun i h st b hb => by
    have e : b = it := by simpa using hb
    subst e
    exact ⟨_, st, fun v z => by
      have z' : Data.fields _ = Data.cell v := z
      cases z'⟩
  keep := fun i h h' st k => k it (by simp) _ st
  item := by
    intro X hP hw hK hc i pins s σ H E I hf st hg
    subst hP hw hK
    obtain ⟨f0, f1, f2, f3, f4, f5⟩ := hf it (by simp)
    have W := Walks.range (prog := X.prog) (w := X.w) (I.ok.hd hc) it lo 1 n
    refine W.item i s _ _ hg st fun v h' tk hv st' kk => ?_
    obtain ⟨t, rfl⟩ := hv
    have I1 : Inv X pins σ H { s with heap := h', toks := tk } := I.turned (fun b o hb e => kk b o (by simpa using hb) e) f0 f1 f3 f4 f5
    refine ⟨_, rfl, go_of (s := { s with heap := h', toks := tk }) (n := "range_iterator") st' rfl rfl (by decide) ⟨.int (lo + i), H, I1, ⟨t, ?_⟩, ⟨rfl, rfl⟩, st', fun b hb => (hf b hb).1⟩⟩
    rw [Int.mul_one]
  done := by
    intro X hP hw hK hc i pins s σ H E I hf st hg
    subst hP hw hK
    obtain ⟨f0, f1, f2, f3, f4, f5⟩ := hf it (by simp)
    exact wpAny_pyNext_range_end (I.ok.hd hc) st (by have : n ≤ i := hg; omega) fun h' eb => ⟨rfl, I.turned (t' := s.toks) (fun b o hb e => eb b o hb e) f0 f1 f3 f4 f5⟩
  self := fun _ _ _ _ _ st h => wpAny_pyIter_rangeiter st h
end L2
namespace L2
open PySem PySem.Spec PyProof.Rows
section
variable {X : Cx} {tg : Expr}
def iList (K : PySem.W.Frag) (tl : TE) : TI := fun σ H R => tl σ H fun x H1 => ∃ a, x = .ref a ∧ (∃ xs, SqL K H1 a xs) ∧ R (Itl K a) H1
def iTup (K : PySem.W.Frag) (tl : TE) : TI := fun σ H R => tl σ H fun x H1 => ∃ a, x = .ref a ∧ (∃ xs, SqT K H1 a xs) ∧ R (Itt K a) H1
/-- a range object just made, walked -/
theorem range_it {pins : List (Addr × Obj)} {σ : St} {H : Hp} {s : Shared} {R : It → Hp → Prop} {E : Value → Shared → Prop} {lo hi : Int} {t u v : Tok} {tk : Nat} (I : Inv X pins σ H s) (h1 : -(2 ^ 62) ≤ lo) (h2 : lo < 2 ^ 62) (h3 : -(2 ^ 62) ≤ hi) (h4 : hi < 2 ^ 62)
    (q : R (Itr lo (hi - lo).toNat) H) : wpAny (model X.prog X.w) X.A (pyIter (.ref s.heap.objs.size)) (PIE X pins σ tg R) E { s with heap := s.heap.push { cls := .type "range", data := .fields #[.int lo t, .int hi u, .int 1 v] }, toks := tk } := by
  refine wpAny_pyIter_range (IsRange.new ..) (small_one h1 h2 h3 h4) ?_
  have I1 : Inv X pins σ H { s with heap := s.heap.push { cls := .type "range", data := .fields #[.int lo t, .int hi u, .int 1 v] }, toks := tk } := I.kept fun b o e => Heap.get?_push_of_some _ e
  refine ⟨(s.heap.push { cls := .type "range", data := .fields #[.int lo t, .int hi u, .int 1 v] }).objs.size, [(s.heap.push { cls := .type "range", data := .fields #[.int lo t, .int hi u, .int 1 v] }).objs.size], _, _, H, rfl,
    I1.kept (t' := tk) fun b o e => Heap.get?_push_of_some _ e, turn_range _ lo (hi - lo).toNat, ?_, fun b hb => ?_, q⟩
  · have e1 : lo + ((0 : Nat) : Int) * 1 = lo := by simp
    have e2 : (((hi - lo).toNat : Nat) : Int) - ((0 : Nat) : Int) = Builtin.Range.rangeSize lo hi 1 := by rw [rangeSize_one]; split <;> omega
    show IsRangeIter _ _ (lo + ((0 : Nat) : Int) * 1) ((((hi - lo).toNat : Nat) : Int) - ((0 : Nat) : Int)) 1
    rw [e1, e2]
    exact Heap.get?_push_size _ rfl
  · have e : b = (s.heap.push { cls := .type "range", data := .fields #[.int lo t, .int hi u, .int 1 v] }).objs.size := by simpa using hb
    subst e
    exact I1.fpOk (Nat.le_refl _) (I1.hok.fresh (Nat.le_refl _))
def iRng1 (ta : TA) : TI := fun σ H R => ta σ H fun vs H1 => ∃ j : Int, vs = [.int j] ∧ -(2 ^ 62) ≤ j ∧ j < 2 ^ 62 ∧ R (Itr 0 j.toNat) H1
def iRng2 (ta : TA) : TI := fun σ H R => ta σ H fun vs H1 => ∃ i j : Int, vs = [.int i, .int j] ∧ (-(2 ^ 62) ≤ i ∧ i < 2 ^ 62 ∧ -(2 ^ 62) ≤ j ∧ j < 2 ^ 62) ∧ R (Itr i (j - i).toNat) H1
theorem pi_range1 {a : Expr} {ta : TA} {p pos : Pos} (hg : Gl X "range") (hm : X.mg "range" = none) (ha : PA X [a] ta) (hs : starEach [a] X.env = [(false, eval a X.env)] := by rfl) : PI X tg (.Call (.Name "range" p) [a] [] pos) (iRng1 ta) := by
  intro pins s σ H R I h
  refine Call_ (ld_blt I hg hm boot_range (PyProof.Rows.callWith_type1 (thn (ha pos pins s σ H _ I h) fun us s1 ⟨vs, H1, I1, r1, q1⟩ => ?_) hs rfl))
  obtain ⟨j, e, q1, q2, q⟩ := q1
  subst e
  cases r1 with
  | cons r rr =>
    cases rr
    obtain ⟨t, rfl⟩ := r
    exact call_range_1 (range_it I1 (by omega) (by omega) q1 q2 (by simpa using q))
/-! ### for -/
/-- W: the invariant by the turn and a measure; N: what the body is to reach -/
def tFor (wi : TI) (g : TG) (tb : TS) : TS := fun D σ H => wi σ H fun J H1 => ∃ W : Nat → Nat → St → Hp → Prop, (∃ m, W 0 m σ H1) ∧ ∀ i m σ H, W i m σ H →
  (J.stop i H ∧ D.nx σ H) ∨ (J.go i H ∧ ∃ N : St → Hp → Prop, (∀ σ' H', N σ' H' → ∃ m', m' < m ∧ W (i + 1) m' σ' H') ∧ ∀ x H', J.yld i H x H' → g x σ H' fun σ2 H2 => tb { D with nx := N, ct := N, bk := D.nx } σ2 H2)
/-- the records at fp as they stand -/
def pinsAt (fp : List Addr) (h : Heap) : List (Addr × Obj) := fp.filterMap fun b => (h.get? b).map fun o => (b, o)
theorem mem_pinsAt {fp : List Addr} {h : Heap} {b : Addr} {o : Obj} (hb : b ∈ fp) (e : h.get? b = some o) : (b, o) ∈ pinsAt fp h := List.mem_filterMap.mpr ⟨b, hb, by rw [e]; rfl⟩
theorem of_pinsAt {fp : List Addr} {h : Heap} {p : Addr × Obj} (hp : p ∈ pinsAt fp h) : p.1 ∈ fp ∧ h.get? p.1 = some p.2 := by
  obtain ⟨b, hb, e⟩ := List.mem_filterMap.mp hp
  cases q : h.get? b with
  | none => rw [q] at e; cases e
  | some o =>
    rw [q] at e
    have e' : (b, o) = p := Option.some.inj e
    subst e'
    exact ⟨hb, q⟩
theorem Inv.pinned {pins : List (Addr × Obj)} {σ : St} {H : Hp} {s : Shared} {fp : List Addr} (I : Inv X pins σ H s) (hf : ∀ b ∈ fp, FpOk X pins H b) (ho : ∀ b ∈ fp, ∃ o, s.heap.get? b = some o ∧ ∀ v, o.data ≠ .cell v) : Inv X (pins ++ pinsAt fp s.heap) σ H s :=
  I.pins_of fun p hp => (List.mem_append.mp hp).elim (fun z => I.pin p (List.mem_append_right _ z)) fun z => by
    obtain ⟨hb, e⟩ := of_pinsAt z
    obtain ⟨f0, f1, f2, _⟩ := hf p.1 hb
    obtain ⟨o, e', d⟩ := ho p.1 hb
    rw [e] at e'; cases e'
    exact ⟨e, f0, f1, f2, d⟩
theorem Inv.unpinned {pins pl : List (Addr × Obj)} {σ : St} {H : Hp} {s : Shared} (I : Inv X (pins ++ pl) σ H s) : Inv X pins σ H s := I.pins_of fun p hp => I.pin p (List.mem_append_right _ (List.mem_append_left _ hp))
theorem ps_for {iter : Expr} {body : List Stmt} {wi : TI} {g : TG} {tb : TS} {pos : Pos} (hp : PassesOwn (model X.prog X.w) X.A X.env X.xe) (hc : X.calm = true) (hi : PI X tg iter wi) (hg : PG X tg g) (hb : PSs X body tb)
    (hs : ∀ x, foldedSetIterable iter X.env x = pure x := by intro _; rfl) : PS X (.For tg iter body [] pos) (tFor wi g tb) := by
  intro pins s σ H D I h
  refine wpAny_For (thn (hi pins s σ H _ I h) fun v s1 h1 => thn h1 fun itv s2 h2 => ?_) hs
  obtain ⟨it, fp, tn, J, H2, e, I2, T, st2, f2, W, ⟨m0, w0⟩, turn⟩ := h2
  subst e
  -- what stays true of the iterator's objects through the loop
  have stat : ∀ {H' : Hp}, (∀ b ∈ fp, H' b = none) → ∀ b ∈ fp, FpOk X pins H' b := fun hn b hb => ⟨hn b hb, (f2 b hb).2⟩
  refine codeAny_forLoop_any (fun n s' => ∃ i σ' H', Inv X pins σ' H' s' ∧ tn i s'.heap ∧ (∀ b ∈ fp, H' b = none) ∧ W i n σ' H') ?_ m0 ⟨0, σ, H2, I2, st2, fun b hb => (f2 b hb).1, w0⟩
  rintro n s3 ⟨i, σ3, H3, I3, st3, fr3, w3⟩
  rcases turn i n σ3 H3 w3 with ⟨stop, qn⟩ | ⟨go, N, hN, step⟩
  · refine wpAny_passesOwn hp (thn (T.done X rfl rfl rfl hc i pins s3 σ3 H3 X.xe I3 (stat fr3) st3 stop) fun r s4 ⟨hr, I4⟩ => ?_)
    subst hr
    exact wpAny_execs_nil ⟨σ3, H3, I4, qn⟩
  · refine wpAny_passesOwn hp (thn (T.item X rfl rfl rfl hc i pins s3 σ3 H3 X.xe I3 (stat fr3) st3 go) fun r s4 ⟨u, hr, h4⟩ => ?_)
    subst hr
    refine wpAny_passesOwn hp (thn h4 fun _ s5 ⟨x, H5, I5, r5, y5, st5, fr5⟩ => ?_)
    have I5' := I5.pinned (stat fr5) (T.obj _ _ st5)
    refine wpAny_passesOwn hp (thn (hg _ s5 σ3 H5 x u _ I5' r5 (step x H5 y5)) fun _ s6 ⟨σ6, H6, I6, q6⟩ => ?_)
    refine wpAny_passesOwn hp (thn (hb _ s6 σ6 H6 _ I6 q6) fun f s7 q7 => ?_)
    have again : ∀ {σ7 : St} {H7 : Hp}, Inv X (pins ++ pinsAt fp s5.heap) σ7 H7 s7 → N σ7 H7 → ∃ m, m < n ∧ ∃ i σ' H', Inv X pins σ' H' s7 ∧ tn i s7.heap ∧ (∀ b ∈ fp, H' b = none) ∧ W i m σ' H' := fun {σ7 H7} I7 n7 => by
      obtain ⟨m', hm, w7⟩ := hN σ7 H7 n7
      refine ⟨m', hm, i + 1, σ7, H7, I7.unpinned, T.keep _ _ _ st5 fun b hb o e => (I7.pin (b, o) (List.mem_append_right _ (List.mem_append_right _ (mem_pinsAt hb e)))).1, fun b hb => ?_, w7⟩
      obtain ⟨o, e, d⟩ := T.obj _ _ st5 b hb
      exact (I7.pin (b, o) (List.mem_append_right _ (List.mem_append_right _ (mem_pinsAt hb e)))).2.1
    cases f with
    | next => obtain ⟨σ7, H7, I7, n7⟩ := q7; exact again I7 n7
    | cont => obtain ⟨σ7, H7, I7, n7⟩ := q7; exact again I7 n7
    | brk => obtain ⟨σ7, H7, I7, q7⟩ := q7; exact ⟨σ7, H7, I7.unpinned, q7⟩
    | ret v => obtain ⟨x7, σ7, H7, I7, r7, q7⟩ := q7; exact ⟨x7, σ7, H7, I7.unpinned, r7, q7⟩
end
/-! ### the forms one uses -/
theorem for_range {lo : Int} {n : Nat} {g : TG} {tb : TS} {D : Ends} {σ : St} {H : Hp} (Pv : Nat → St → Hp → Prop) (h0 : Pv 0 σ H)
    (hs : ∀ i σ H, i < n → Pv i σ H → g (.int (lo + i)) σ H fun σ2 H2 => tb { D with nx := Pv (i + 1), ct := Pv (i + 1), bk := D.nx } σ2 H2) (hd : ∀ σ H, Pv n σ H → D.nx σ H) :
    ∃ W : Nat → Nat → St → Hp → Prop, (∃ m, W 0 m σ H) ∧ ∀ i m σ H, W i m σ H →
      ((Itr lo n).stop i H ∧ D.nx σ H) ∨ ((Itr lo n).go i H ∧ ∃ N : St → Hp → Prop, (∀ σ' H', N σ' H' → ∃ m', m' < m ∧ W (i + 1) m' σ' H') ∧ ∀ x H', (Itr lo n).yld i H x H' → g x σ H' fun σ2 H2 => tb { D with nx := N, ct := N, bk := D.nx } σ2 H2) := by
  refine ⟨fun i m σ H => m = n - i ∧ i ≤ n ∧ Pv i σ H, ⟨n, by simp, Nat.zero_le _, h0⟩, ?_⟩
  rintro i m σ H ⟨rfl, hi, p⟩
  by_cases hlt : i < n
  · refine .inr ⟨hlt, Pv (i + 1), fun σ' H' p' => ⟨n - (i + 1), by omega, rfl, hlt, p'⟩, fun x H' y => ?_⟩
    obtain ⟨e, y⟩ := y
    subst e y
    exact hs i σ _ hlt p
  · have e : i = n := by omega
    subst e
    exact .inl ⟨Nat.le_refl _, hd σ H p⟩
end L2
namespace L2
open PySem PySem.Spec PyProof.Rows
abbrev R2 := V → V → Hp → VK → Prop
/-- a two-place operation on values: f is binaryOp op, inplaceOp op or compareOp op -/
def OpR (X : Cx) (f : Value → Value → Sem Value) (r : R2) : Prop :=
  ∀ (pins : List (Addr × Obj)) (s : Shared) (σ : St) (H : Hp) (x y : V) (v u : Value) (Q : VK), Inv X pins σ H s → RelV x v → RelV y u → r x y H Q →
    wpAny (model X.prog X.w) X.A (f v u) (EP X pins σ Q) X.xe s
/-- a call of a value that is known (a builtin, a type) with values -/
def CallR (X : Cx) (f : Value) (r : List V → Hp → VK → Prop) : Prop :=
  ∀ (pins : List (Addr × Obj)) (s : Shared) (σ : St) (H : Hp) (xs : List V) (us : List Value) (Q : VK), Inv X pins σ H s → Vals xs us → r xs H Q →
    wpAny (model X.prog X.w) X.A (call f us) (EP X pins σ Q) X.xe s
/-- a value's truth -/
def TruR (X : Cx) (r : V → Hp → (Bool → Hp → Prop) → Prop) : Prop :=
  ∀ (pins : List (Addr × Obj)) (s : Shared) (σ : St) (H : Hp) (x : V) (v : Value) (Q : Bool → Hp → Prop), Inv X pins σ H s → RelV x v → r x H Q →
    wpAny (model X.prog X.w) X.A (truthy v) (TP X pins σ Q) X.xe s
def tOp (r : R2) (ta tb : TE) : TE := fun σ H Q => ta σ H fun x H1 => tb σ H1 fun y H2 => r x y H2 Q
def tUn (r : V → Hp → VK → Prop) (ta : TE) : TE := fun σ H Q => ta σ H fun x H1 => r x H1 Q
/-- ints in, under C, and a value out -/
def rI (C : Int → Int → Prop) (g : Int → Int → V) : R2 := fun x y H Q => ∃ i j, x = .int i ∧ y = .int j ∧ C i j ∧ Q (g i j) H
def rI0 (g : Int → Int → V) : R2 := fun x y H Q => ∃ i j, x = .int i ∧ y = .int j ∧ Q (g i j) H
section
variable {X : Cx} {a b c : Expr} {ta tb tc : TE} {pos : Pos}
theorem binT (ha : PE X a ta) (hb : PE X b tb) {pins : List (Addr × Obj)} {s : Shared} {σ : St} {H : Hp} {R : V → V → Hp → Prop} (I : Inv X pins σ H s)
    (h : ta σ H fun x H1 => tb σ H1 fun y H2 => R x y H2) {Q : Value → Shared → Prop} {f : Value → Value → Sem Value}
    (hf : ∀ v u s2 x y H2, Inv X pins σ H2 s2 → RelV x v → RelV y u → R x y H2 → wpAny (model X.prog X.w) X.A (f v u) Q X.xe s2) :
    wpAny (model X.prog X.w) X.A (eval a X.env) (fun v s₁ => wpAny (model X.prog X.w) X.A (eval b X.env) (fun u s₂ => wpAny (model X.prog X.w) X.A (f v u) Q X.xe s₂) X.xe s₁) X.xe s := by
  refine thn (ha pins s σ H _ I h) fun v s1 ⟨x, H1, I1, r1, q1⟩ => ?_
  refine thn (hb pins s1 σ H1 _ I1 q1) fun u s2 ⟨y, H2, I2, r2, q2⟩ => ?_
  exact hf v u s2 x y H2 I2 r1 r2 q2
theorem pe_op {op : Operator} {r : R2} (ho : OpR X (binaryOp op) r) (ha : PE X a ta) (hb : PE X b tb) : PE X (.BinOp a op b pos) (tOp r ta tb) := by
  intro pins s σ H Q I h
  exact wpAny_BinOp (binT ha hb I h fun v u s2 x y H2 I2 rx ry q => ho pins s2 σ H2 x y v u Q I2 rx ry q)
/-! ### ints -/
theorem opI {f : Value → Value → Sem Value} {C : Int → Int → Prop} {g : Int → Int → Int}
    (rule : ∀ (i j : Int) (t u : Tok) (s : Shared) (Q : Value → Shared → Prop) (E : Value → Shared → Prop), C i j → Q (.int (g i j) s.toks) { s with toks := s.toks + 1 } → wpAny (model X.prog X.w) X.A (f (.int i t) (.int j u)) Q E s) :
    OpR X f (rI C fun i j => .int (g i j)) := by
  intro pins s σ H x y v u Q I rx ry h
  obtain ⟨i, j, rfl, rfl, hc, q⟩ := h
  obtain ⟨t, rfl⟩ := rx
  obtain ⟨t', rfl⟩ := ry
  exact rule i j t t' s _ _ hc ⟨.int (g i j), H, I.tok _, ⟨_, rfl⟩, q⟩
theorem opI0 {f : Value → Value → Sem Value} {g : Int → Int → Int}
    (rule : ∀ (i j : Int) (t u : Tok) (s : Shared) (Q : Value → Shared → Prop) (E : Value → Shared → Prop), Q (.int (g i j) s.toks) { s with toks := s.toks + 1 } → wpAny (model X.prog X.w) X.A (f (.int i t) (.int j u)) Q E s) :
    OpR X f (rI0 fun i j => .int (g i j)) := by
  intro pins s σ H x y v u Q I rx ry h
  obtain ⟨i, j, rfl, rfl, q⟩ := h
  obtain ⟨t, rfl⟩ := rx
  obtain ⟨t', rfl⟩ := ry
  exact rule i j t t' s _ _ ⟨.int (g i j), H, I.tok _, ⟨_, rfl⟩, q⟩
theorem opB0 {f : Value → Value → Sem Value} {g : Int → Int → Bool}
    (rule : ∀ (i j : Int) (t u : Tok) (s : Shared) (Q : Value → Shared → Prop) (E : Value → Shared → Prop), Q (.bool (g i j)) s → wpAny (model X.prog X.w) X.A (f (.int i t) (.int j u)) Q E s) :
    OpR X f (rI0 fun i j => .bl (g i j)) := by
  intro pins s σ H x y v u Q I rx ry h
  obtain ⟨i, j, rfl, rfl, q⟩ := h
  obtain ⟨t, rfl⟩ := rx
  obtain ⟨t', rfl⟩ := ry
  exact rule i j t t' s _ _ ⟨.bl (g i j), H, I, rfl, q⟩
def CDiv (i j : Int) : Prop := 0 < j ∧ j < 1073741824
def CPow (i j : Int) : Prop := 0 ≤ j ∧ j ≤ 1000000 ∧ i.natAbs < 2 ^ 64
def CMul (i j : Int) : Prop := (-(2 ^ 64) < i ∧ i < 2 ^ 64) ∨ (-(2 ^ 64) < j ∧ j < 2 ^ 64)
theorem CMul.ok {i j : Int} (h : CMul i j) : IntMulOk i j := by
  rcases h with ⟨h1, h2⟩ | ⟨h1, h2⟩
  · exact .of_left (intBits_le_64 h1 h2)
  · exact .of_right (intBits_le_64 h1 h2)
theorem op_add : OpR X (binaryOp .Add) (rI0 fun i j => .int (i + j)) := opI0 fun _ _ _ _ _ _ _ q => add_int q
theorem op_sub : OpR X (binaryOp .Sub) (rI0 fun i j => .int (i - j)) := opI0 fun _ _ _ _ _ _ _ q => sub_int q
theorem op_mul : OpR X (binaryOp .Mult) (rI CMul fun i j => .int (i * j)) := opI fun _ _ _ _ _ _ _ hc q => mul_int q hc.ok
/-- // by a positive divisor -/
theorem op_fdiv : OpR X (binaryOp .FloorDiv) (rI CDiv fun i j => .int (i / j)) := opI fun i j _ _ _ _ _ hc q => by
  have h1 : (0 : Int) < j := hc.1
  have h2 : j < 1073741824 := hc.2
  exact floordiv_int (by omega) (by rw [Int.fdiv_eq_ediv_of_nonneg i (by omega)]; exact q) (.inl (PyProof.noPylong_small (by omega)))
/-- % by a positive divisor of any size -/
theorem op_mod : OpR X (binaryOp .Mod) (rI (fun _ j => 0 < j) fun i j => .int (i % j)) := opI fun i j _ _ _ _ _ hc q => by
  have h1 : (0 : Int) < j := hc
  exact mod_int' (by omega) (by rw [Int.fmod_eq_emod_of_nonneg i (by omega)]; exact q)
theorem op_pow : OpR X (binaryOp .Pow) (rI CPow fun i j => .int (i ^ j.toNat)) := opI fun _ _ _ _ _ _ _ hc q => pow_int_small hc.1 hc.2.1 hc.2.2 q
/-! ### bools among ints: n += (a < b) -/
end
/-! ### comparisons -/
/-- the scalars that == tells apart as data does -/
def scal : V → V → Bool
  | .non, .non => true | .non, .int _ => true | .int _, .non => true | .non, .bl _ => true | .bl _, .non => true | .non, .str _ => true | .str _, .non => true
  | .int _, .int _ => true | .bl _, .bl _ => true | .str _, .str _ => true | .byt _, .byt _ => true
  | .int _, .str _ => true | .str _, .int _ => true | .bl _, .str _ => true | .str _, .bl _ => true
  | _, _ => false
def rEq : R2 := fun x y H Q => scal x y = true ∧ Q (.bl (decide (x = y))) H
def rNe : R2 := fun x y H Q => scal x y = true ∧ Q (.bl (!decide (x = y))) H
theorem dec_int {i j : Int} : decide (V.int i = V.int j) = (i == j) := by
  rw [Bool.eq_iff_iff]
  simp
theorem dec_bl {i j : Bool} : decide (V.bl i = V.bl j) = (i == j) := by
  rw [Bool.eq_iff_iff]
  simp
theorem dec_str {i j : Str} : decide (V.str i = V.str j) = (i == j) := by
  rw [Bool.eq_iff_iff]
  simp
theorem dec_byt {i j : Array UInt8} : decide (V.byt i = V.byt j) = (i.toList == j.toList) := by
  rw [Bool.eq_iff_iff]
  cases i
  cases j
  simp
section
variable {X : Cx} {a b c : Expr} {ta tb tc : TE} {pos : Pos}
theorem fin_bl {pins : List (Addr × Obj)} {σ : St} {H : Hp} {s : Shared} {Q : VK} {k k' : Bool} (I : Inv X pins σ H s) (q : Q (.bl k) H) (e : k = k') : EP X pins σ Q (.bool k') s := by
  subst e
  exact ⟨.bl k, H, I, rfl, q⟩
theorem op_eq : OpR X (compareOp .Eq) rEq := by
  intro pins s σ H x y v u Q I rx ry h
  obtain ⟨hs, q⟩ := h
  cases x with
  | non =>
    cases rx
    cases y with
    | non => cases ry; exact PySem.EqNone.eq_none_none (fin_bl I q (by simp))
    | bl j => cases ry; exact PySem.EqNone.eq_none_bool (fin_bl I q (by simp))
    | int j => obtain ⟨t', rfl⟩ := ry; exact PySem.EqNone.eq_none_int (fin_bl I q (by simp))
    | str j => obtain ⟨t', rfl⟩ := ry; exact PySem.EqNone.eq_none_str (fin_bl I q (by simp))
    | _ => exact absurd (show false = true from hs) Bool.false_ne_true
  | bl i =>
    cases rx
    cases y with
    | non => cases ry; exact PySem.EqNone.eq_bool_none (fin_bl I q (by simp))
    | bl j => cases ry; exact eq_bool (fin_bl I q dec_bl)
    | str j => obtain ⟨t', rfl⟩ := ry; exact PySem.EqMixed.eq_bool_str (fin_bl I q (by simp))
    | _ => exact absurd (show false = true from hs) Bool.false_ne_true
  | int i =>
    obtain ⟨t, rfl⟩ := rx
    cases y with
    | non => cases ry; exact PySem.EqNone.eq_int_none (fin_bl I q (by simp))
    | int j => obtain ⟨t', rfl⟩ := ry; exact eq_int (fin_bl I q dec_int)
    | str j => obtain ⟨t', rfl⟩ := ry; exact PySem.EqMixed.eq_int_str (fin_bl I q (by simp))
    | _ => exact absurd (show false = true from hs) Bool.false_ne_true
  | str i =>
    obtain ⟨t, rfl⟩ := rx
    cases y with
    | non => cases ry; exact PySem.EqNone.eq_str_none (fin_bl I q (by simp))
    | bl j => cases ry; exact PySem.EqMixed.eq_str_bool (fin_bl I q (by simp))
    | int j => obtain ⟨t', rfl⟩ := ry; exact PySem.EqMixed.eq_str_int (fin_bl I q (by simp))
    | str j => obtain ⟨t', rfl⟩ := ry; exact eq_str (fin_bl I q dec_str)
    | _ => exact absurd (show false = true from hs) Bool.false_ne_true
  | byt i =>
    obtain ⟨t, rfl⟩ := rx
    cases y with
    | byt j => obtain ⟨t', rfl⟩ := ry; exact PySem.W.eq_bytes (fin_bl I q dec_byt)
    | _ => exact absurd (show false = true from hs) Bool.false_ne_true
  | _ => cases y <;> exact absurd (show false = true from hs) Bool.false_ne_true
theorem op_ne : OpR X (compareOp .NotEq) rNe := by
  intro pins s σ H x y v u Q I rx ry h
  obtain ⟨hs, q⟩ := h
  cases x with
  | non =>
    cases rx
    cases y with
    | non => cases ry; exact PySem.EqNone.ne_none_none (fin_bl I q (by simp))
    | bl j => cases ry; exact PySem.EqNone.ne_none_bool (fin_bl I q (by simp))
    | int j => obtain ⟨t', rfl⟩ := ry; exact PySem.EqNone.ne_none_int (fin_bl I q (by simp))
    | str j => obtain ⟨t', rfl⟩ := ry; exact PySem.EqNone.ne_none_str (fin_bl I q (by simp))
    | _ => exact absurd (show false = true from hs) Bool.false_ne_true
  | bl i =>
    cases rx
    cases y with
    | non => cases ry; exact PySem.EqNone.ne_bool_none (fin_bl I q (by simp))
    | bl j => cases ry; exact ne_bool (fin_bl I q (congrArg not dec_bl))
    | str j => obtain ⟨t', rfl⟩ := ry; exact PySem.EqMixed.ne_bool_str (fin_bl I q (by simp))
    | _ => exact absurd (show false = true from hs) Bool.false_ne_true
  | int i =>
    obtain ⟨t, rfl⟩ := rx
    cases y with
    | non => cases ry; exact PySem.EqNone.ne_int_none (fin_bl I q (by simp))
    | int j => obtain ⟨t', rfl⟩ := ry; exact ne_int (fin_bl I q (congrArg not dec_int))
    | str j => obtain ⟨t', rfl⟩ := ry; exact PySem.EqMixed.ne_int_str (fin_bl I q (by simp))
    | _ => exact absurd (show false = true from hs) Bool.false_ne_true
  | str i =>
    obtain ⟨t, rfl⟩ := rx
    cases y with
    | non => cases ry; exact PySem.EqNone.ne_str_none (fin_bl I q (by simp))
    | bl j => cases ry; exact PySem.EqMixed.ne_str_bool (fin_bl I q (by simp))
    | int j => obtain ⟨t', rfl⟩ := ry; exact PySem.EqMixed.ne_str_int (fin_bl I q (by simp))
    | str j => obtain ⟨t', rfl⟩ := ry; exact ne_str (fin_bl I q (congrArg not dec_str))
    | _ => exact absurd (show false = true from hs) Bool.false_ne_true
  | byt i =>
    obtain ⟨t, rfl⟩ := rx
    cases y with
    | byt j => obtain ⟨t', rfl⟩ := ry; exact PySem.W.ne_bytes (fin_bl I q (congrArg not dec_byt))
    | _ => exact absurd (show false = true from hs) Bool.false_ne_true
  | _ => cases y <;> exact absurd (show false = true from hs) Bool.false_ne_true
theorem op_lt : OpR X (compareOp .Lt) (rI0 fun i j => .bl (decide (i < j))) := opB0 fun _ _ _ _ _ _ _ q => lt_int q
theorem op_le : OpR X (compareOp .LtE) (rI0 fun i j => .bl (decide (i ≤ j))) := opB0 fun _ _ _ _ _ _ _ q => le_int q
theorem op_gt : OpR X (compareOp .Gt) (rI0 fun i j => .bl (decide (j < i))) := opB0 fun _ _ _ _ _ _ _ q => gt_int q
theorem op_ge : OpR X (compareOp .GtE) (rI0 fun i j => .bl (decide (j ≤ i))) := opB0 fun _ _ _ _ _ _ _ q => ge_int q
/-- the one string within the other -/
theorem op_in_str : OpR X (compareOp .In) (fun x y H Q => ∃ i j, x = .str i ∧ y = .str j ∧ Q (.bl (!(Builtin.Str.occurrences j i 0 j.length 1).isEmpty)) H) := by
  intro pins s σ H x y v u Q I rx ry h
  obtain ⟨i, j, rfl, rfl, q⟩ := h
  obtain ⟨t, rfl⟩ := rx
  obtain ⟨t', rfl⟩ := ry
  exact in_str (fin_bl I q rfl)
/-- is None, is not None: the right side a value none -/
theorem op_isN : OpR X (compareOp .Is) (fun x y H Q => y = .non ∧ Q (.bl (decide (x = .non))) H) := by
  intro pins s σ H x y v u Q I rx ry h
  obtain ⟨rfl, q⟩ := h
  cases ry
  refine is_none_gen (fin_bl I q ?_)
  cases x <;> first
    | (cases rx; rfl)
    | (obtain ⟨t, rfl⟩ := rx; rfl)
theorem op_notN : OpR X (compareOp .IsNot) (fun x y H Q => y = .non ∧ Q (.bl (!decide (x = .non))) H) := by
  intro pins s σ H x y v u Q I rx ry h
  obtain ⟨rfl, q⟩ := h
  cases ry
  refine isnot_none_gen (fin_bl I q ?_)
  cases x <;> first
    | (cases rx; rfl)
    | (obtain ⟨t, rfl⟩ := rx; rfl)
theorem op_notin_str : OpR X (compareOp .NotIn) (fun x y H Q => ∃ i j, x = .str i ∧ y = .str j ∧ Q (.bl (!(!(Builtin.Str.occurrences j i 0 j.length 1).isEmpty))) H) := by
  intro pins s σ H x y v u Q I rx ry h
  obtain ⟨i, j, rfl, rfl, q⟩ := h
  obtain ⟨t, rfl⟩ := rx
  obtain ⟨t', rfl⟩ := ry
  exact notIn_str (fin_bl I q rfl)
/-- two rules for one operation: by cases -/
theorem OpR.or {f : Value → Value → Sem Value} {r r' : R2} (h : OpR X f r) (h' : OpR X f r') : OpR X f (fun x y H Q => r x y H Q ∨ r' x y H Q) := by
  intro pins s σ H x y v u Q I rx ry q
  rcases q with q | q
  · exact h pins s σ H x y v u Q I rx ry q
  · exact h' pins s σ H x y v u Q I rx ry q
/-- a comparison as a value; hm: nomark b, or (for in, not in) by with_unfolding_all rfl -/
theorem pe_cmpR {op : CmpOp} {r : R2} (ho : OpR X (compareOp op) r) (ha : PE X a ta) (hb : PE X b tb) (hm : behindInMarks op b = false) : PE X (.Compare a [op] [b] pos) (tOp r ta tb) := by
  intro pins s σ H Q I h
  exact wpAny_Compare1 (binT ha hb I h fun v u s2 x y H2 I2 rx ry q => ho pins s2 σ H2 x y v u Q I2 rx ry q) hm
/-- a reading of a value as a test -/
def tTest (t : TE) : TT := fun σ H Q => t σ H fun x H' => ∃ k, x = .bl k ∧ Q k H'
theorem pt_cmpR {op : CmpOp} {r : R2} (ho : OpR X (compareOp op) r) (ha : PE X a ta) (hb : PE X b tb) (hm : behindInMarks op b = false) : PT X (.Compare a [op] [b] pos) (tTest (tOp r ta tb)) := by
  intro pins s σ H Q I h
  refine wpAny_isTrue_Compare1 (thn (ha pins s σ H _ I h) fun v s1 ⟨x, H1, I1, r1, q1⟩ => thn (hb pins s1 σ H1 _ I1 q1) fun u s2 ⟨y, H2, I2, r2, q2⟩ =>
    thn (ho pins s2 σ H2 x y v u _ I2 r1 r2 q2) fun c s3 ⟨z, H3, I3, r3, k, e, q3⟩ => ?_) hm
  subst e
  cases r3
  exact wpAny_truthy_bool ⟨H3, I3, q3⟩
/-- a op1 b op2 c -/
def tChain (r r' : R2) (ta tb tc : TE) : TE := fun σ H Q => ta σ H fun x H1 => tb σ H1 fun y H2 => r x y H2 fun z H3 => ∃ k, z = .bl k ∧
  (if k = true then tc σ H3 fun w' H4 => r' y w' H4 Q else Q (.bl false) H3)
theorem pe_chain {op op' : CmpOp} {r r' : R2} (ho : OpR X (compareOp op) r) (ho' : OpR X (compareOp op') r') (ha : PE X a ta) (hb : PE X b tb) (hc : PE X c tc)
    (hm : lastMarks [op, op'] [b, c] = false := by with_unfolding_all rfl) : PE X (.Compare a [op, op'] [b, c] pos) (tChain r r' ta tb tc) := by
  intro pins s σ H Q I h
  refine Compare_chain (thn (ha pins s σ H _ I h) fun v s1 ⟨x, H1, I1, r1, q1⟩ => chain_link (thn (hb pins s1 σ H1 _ I1 q1) fun u s2 ⟨y, H2, I2, r2, q2⟩ =>
    thn (ho pins s2 σ H2 x y v u _ I2 r1 r2 q2) fun d s3 ⟨z, H3, I3, r3, k, e, q3⟩ => ?_)) hm
  subst e
  cases r3
  refine wpAny_truthy_bool ?_
  cases k with
  | false => exact ite_ff ⟨.bl false, H3, I3, rfl, q3⟩
  | true => exact ite_tt (chain_last (thn (hc pins s3 σ H3 _ I3 q3) fun w' s4 ⟨z', H4, I4, r4, q4⟩ => ho' pins s4 σ H4 y z' u w' Q I4 r2 r4 q4))
/-! ### truth -/
/-- a value's truth by the abstract heap -/
def TruV (K : PySem.W.Frag) (x : V) (H : Hp) (k : Bool) : Prop :=
  match x with
  | .non => k = false
  | .bl b => k = b
  | .int i => k = (i != 0)
  | .str y => y.length ≤ sizeLine ∧ k = ((y.length : Int) != 0)
  | .byt y => y.size ≤ sizeLine ∧ k = ((y.size : Int) != 0)
  | .ref p => (∃ xs, SqL K H p xs ∧ k = !xs.isEmpty) ∨ (∃ xs, SqT K H p xs ∧ k = !xs.isEmpty) ∨ ∃ kvs, H p = some (.dK kvs) ∧ k = !kvs.isEmpty
  | _ => False
theorem isEmpty_kv {κ : Type} {kvs : List (κ × V)} {vs : List (κ × Value)} (r : KV kvs vs) : (!vs.isEmpty) = !kvs.isEmpty := by
  cases r <;> rfl
theorem isEmpty_of {xs : List V} {its : List Value} (r : Vals xs its) : (!its.toArray.isEmpty) = !xs.isEmpty := by
  cases r <;> simp
theorem line63 : (sizeLine : Nat) < 2 ^ 63 := by rw [sizeLine_eq]; decide
theorem tru_ok : TruR X (fun x H Q => ∃ k, TruV X.K x H k ∧ Q k H) := by
  intro pins s σ H x v Q I rx h
  obtain ⟨k, e, q⟩ := h
  have hl := line63
  have hs : sizeLine = 16777216 := sizeLine_eq
  cases x with
  | non =>
    cases rx
    have e' : k = false := e
    subst e'
    exact truthy_none ⟨H, I, q⟩
  | bl b =>
    cases rx
    have e' : k = b := e
    subst e'
    exact wpAny_truthy_bool ⟨H, I, q⟩
  | int i =>
    obtain ⟨t, rfl⟩ := rx
    have e' : k = (i != 0) := e
    subst e'
    exact PySem.P.truthy_int ⟨H, I, q⟩
  | str y =>
    obtain ⟨t, rfl⟩ := rx
    obtain ⟨hy, e'⟩ : y.length ≤ sizeLine ∧ k = ((y.length : Int) != 0) := e
    subst e'
    exact PySem.P.truthy_str (by omega) ⟨H, I.tok _, q⟩
  | byt y =>
    obtain ⟨t, rfl⟩ := rx
    obtain ⟨hy, e'⟩ : y.size ≤ sizeLine ∧ k = ((y.size : Int) != 0) := e
    subst e'
    exact PySem.W.truthy_bytes (by omega) ⟨H, I.tok _, q⟩
  | ref p =>
    cases rx
    have e' : (∃ xs, SqL X.K H p xs ∧ k = !xs.isEmpty) ∨ (∃ xs, SqT X.K H p xs ∧ k = !xs.isEmpty) ∨ ∃ kvs, H p = some (.dK kvs) ∧ k = !kvs.isEmpty := e
    rcases e' with ⟨xs, hx, e'⟩ | ⟨xs, hx, e'⟩ | ⟨kvs, hx, e'⟩
    · subst e'
      obtain ⟨its, r, pl, hz⟩ := I.list hx
      have hlen := r.length
      exact wpAny_truthy_list pl.isList (by simp only [List.size_toArray]; omega) ⟨H, I.tok _, by rw [isEmpty_of r]; exact q⟩
    · subst e'
      obtain ⟨its, r, pl, hz⟩ := I.tuple hx
      have hlen := r.length
      exact truthy_tuple pl (by simp only [List.size_toArray]; omega) ⟨H, I.tok _, by rw [isEmpty_of r]; exact q⟩
    · subst e'
      obtain ⟨hz, hS, vs, r, m⟩ : kvs.length ≤ sizeLine ∧ (p == sysModules) = false ∧ ∃ vs, KV kvs vs ∧ s.heap.DictOf (mixKind X.prog X.w) p vs := I.hok p _ hx
      have hlen : kvs.length = vs.length := Paired.length r
      exact wpAny_truthy_dict hS m (by omega) ⟨H, I.tok _, by rw [isEmpty_kv r]; exact q⟩
  | _ => exact (show False from e).elim
/-! ### strs and bytes -/
theorem op_add_str : OpR X (binaryOp .Add) (fun x y H Q => ∃ i j, x = .str i ∧ y = .str j ∧ i.length + j.length ≤ sizeLine ∧ Q (.str (i ++ j)) H) := by
  intro pins s σ H x y v u Q I rx ry h
  obtain ⟨i, j, rfl, rfl, hz, q⟩ := h
  obtain ⟨t, rfl⟩ := rx
  obtain ⟨t', rfl⟩ := ry
  exact add_str (fun t' tk => ⟨.str (i ++ j), H, I.tok _, ⟨_, rfl⟩, q⟩) hz
/-! ### scalar builtins, by CallR -/
theorem vals1 {x : V} {us : List Value} (r : Vals [x] us) : ∃ u, us = [u] ∧ RelV x u := by
  cases r with
  | cons r1 r2 => cases r2; exact ⟨_, rfl, r1⟩
theorem vals2 {x y : V} {us : List Value} (r : Vals [x, y] us) : ∃ u w', us = [u, w'] ∧ RelV x u ∧ RelV y w' := by
  cases r with
  | cons r1 r2 =>
    cases r2 with
    | cons r3 r4 => cases r4; exact ⟨_, _, rfl, r1, r3⟩
theorem call_abs : CallR X (.builtin "abs") (fun xs H Q => ∃ i, xs = [.int i] ∧ Q (.int (if i < 0 then -i else i)) H) := by
  intro pins s σ H xs us Q I r h
  obtain ⟨i, rfl, q⟩ := h
  obtain ⟨u, rfl, t, rfl⟩ := vals1 r
  exact call_abs_int fun u tk => ⟨.int (if i < 0 then -i else i), H, I.tok _, ⟨_, rfl⟩, q⟩
theorem call_max2 (hc : X.calm = true) : CallR X (.builtin "max") (fun xs H Q => ∃ i j, xs = [.int i, .int j] ∧ Q (.int (if j > i then j else i)) H) := by
  intro pins s σ H xs us Q I r h
  obtain ⟨i, j, rfl, q⟩ := h
  obtain ⟨u, w', rfl, ⟨t, rfl⟩, ⟨t', rfl⟩⟩ := vals2 r
  refine max_two_ints (I.ok.hd hc) fun h' tk k => ⟨_, H, I.kept k, ?_, q⟩
  by_cases hj : j > i
  · rw [if_pos hj, if_pos hj]; exact ⟨_, rfl⟩
  · rw [if_neg hj, if_neg hj]; exact ⟨_, rfl⟩
theorem call_min2 (hc : X.calm = true) : CallR X (.builtin "min") (fun xs H Q => ∃ i j, xs = [.int i, .int j] ∧ Q (.int (if j < i then j else i)) H) := by
  intro pins s σ H xs us Q I r h
  obtain ⟨i, j, rfl, q⟩ := h
  obtain ⟨u, w', rfl, ⟨t, rfl⟩, ⟨t', rfl⟩⟩ := vals2 r
  refine min_two_ints (I.ok.hd hc) fun h' tk k => ⟨_, H, I.kept k, ?_, q⟩
  by_cases hj : j < i
  · rw [if_pos hj, if_pos hj]; exact ⟨_, rfl⟩
  · rw [if_neg hj, if_neg hj]; exact ⟨_, rfl⟩
theorem call_int1 : CallR X (.type "int") (fun xs H Q => (∃ i, xs = [.int i] ∧ Q (.int i) H) ∨ ∃ k, xs = [.bl k] ∧ Q (.int (if k then 1 else 0)) H) := by
  intro pins s σ H xs us Q I r h
  rcases h with ⟨i, rfl, q⟩ | ⟨k, rfl, q⟩
  · obtain ⟨u, rfl, t, rfl⟩ := vals1 r
    exact call_int_int ⟨.int i, H, I, ⟨_, rfl⟩, q⟩
  · obtain ⟨u, rfl, r1⟩ := vals1 r
    cases r1
    exact call_int_bool ⟨.int (if k then 1 else 0), H, I.tok _, ⟨_, rfl⟩, q⟩
/-- len of a str, a bytes, a list, a tuple -/
def LenV (K : PySem.W.Frag) (x : V) (H : Hp) (n : Nat) : Prop :=
  match x with
  | .str y => y.length ≤ sizeLine ∧ n = y.length
  | .byt y => y.size ≤ sizeLine ∧ n = y.size
  | .ref p => (∃ xs, SqL K H p xs ∧ n = xs.length) ∨ ∃ xs, SqT K H p xs ∧ n = xs.length
  | _ => False
theorem call_len : CallR X (.builtin "len") (fun xs H Q => ∃ x n, xs = [x] ∧ LenV X.K x H n ∧ Q (.int n) H) := by
  intro pins s σ H xs us Q I r h
  obtain ⟨x, n, rfl, e, q⟩ := h
  obtain ⟨u, rfl, rx⟩ := vals1 r
  have hl := line63
  have hs : sizeLine = 16777216 := sizeLine_eq
  cases x with
  | str y =>
    obtain ⟨t, rfl⟩ := rx
    obtain ⟨hy, e'⟩ : y.length ≤ sizeLine ∧ n = y.length := e
    subst e'
    exact len_str (by omega) ⟨.int _, H, I.tok _, ⟨_, rfl⟩, q⟩
  | byt y =>
    obtain ⟨t, rfl⟩ := rx
    obtain ⟨hy, e'⟩ : y.size ≤ sizeLine ∧ n = y.size := e
    subst e'
    exact PySem.W.len_bytes (by omega) ⟨.int _, H, I.tok _, ⟨_, rfl⟩, q⟩
  | ref p =>
    cases rx
    have e' : (∃ xs, SqL X.K H p xs ∧ n = xs.length) ∨ ∃ xs, SqT X.K H p xs ∧ n = xs.length := e
    rcases e' with ⟨xs, hx, e'⟩ | ⟨xs, hx, e'⟩
    · subst e'
      obtain ⟨its, r', pl, hz⟩ := I.list hx
      have hlen := r'.length
      exact Calls.call_len_list pl.isList (by simp only [List.size_toArray]; omega) ⟨.int xs.length, H, I.tok _, ⟨_, by simp only [List.size_toArray]; rw [hlen]⟩, q⟩
    · subst e'
      obtain ⟨its, r', pl, hz⟩ := I.tuple hx
      have hlen := r'.length
      exact len_tuple pl (by simp only [List.size_toArray]; omega) ⟨.int xs.length, H, I.tok _, ⟨_, by simp only [List.size_toArray]; rw [hlen]⟩, q⟩
  | _ => exact (show False from e).elim
end
end L2
namespace L2
open PySem PySem.Spec PyProof.Rows
/-! ### an instance, its attributes a map -/
structure ObjM (h : Heap) (x dx C : Addr) (mA : Str → Option Value) : Prop where
  obj : h.get? x = some (PySem.W.instObj C dx)
  ns : h.Ns1 dx mA
  ne : dx ≠ x
theorem lookIn_ns {h : Heap} {dx : Addr} {mA : Str → Option Value} (n : h.Ns1 dx mA) : ∃ od, h.get? dx = some od ∧ ∀ name, PySem.W.lookIn name od = some (mA name) := by
  obtain ⟨o, es, ep, ho, hd, hk, _, hm⟩ := n
  refine ⟨o, ho, fun name => ?_⟩
  have e := hm name
  unfold nsFind findBy at e
  rw [← Array.find?_toList] at e
  unfold PySem.W.lookIn
  rw [hd]
  dsimp only
  split
  · rename_i y q
    rw [q] at e
    exact congrArg some e
  · rename_i q
    rw [q] at e
    have a : es.toList.any (·.refKey) = false := by
      rw [List.any_eq_false]
      intro y hy
      obtain ⟨z, t, hkey⟩ := hk y (Array.mem_toList_iff.mp hy)
      simp [DictEntry.refKey, hkey]
    have a' : ¬ es.toList.any (·.refKey) = true := by rw [a]; exact Bool.false_ne_true
    rw [if_neg a']
    exact congrArg some e
theorem ObjM.look {h : Heap} {x dx C : Addr} {mA : Str → Option Value} (I : ObjM h x dx C mA) : ∃ od, PySem.W.InstAt h x (PySem.W.instObj C dx) C (some od) ∧ ∀ name, PySem.W.lookIn name od = some (mA name) :=
  let ⟨od, ho, hl⟩ := lookIn_ns I.ns
  ⟨od, ⟨I.obj, rfl, rfl, ho⟩, hl⟩
section
variable {prog : Program} {w : World} {A : Around} {E : Value → Shared → Prop} {s : Shared} {K : PySem.W.Frag} {x dx C f : Addr} {mA : Str → Option Value} {name : Str} {v : Value}
theorem get_map {expr : Bool} {Q : Value → Shared → Prop} (X : K.In s.heap) (I : ObjM s.heap x dx C mA) (hg : PySem.W.plainGet K C name = true) (hh : PySem.W.hasDictIn K C = true)
    (ha : PySem.W.findIn K (.ref C) name = some none) (hv : mA name = some v) (hv' : PySem.W.handedIn v = true) (h : Q v { s with toks := s.toks + 1 }) :
    wpAny (model prog w) A (getAttr (.ref x) name expr) Q E s := by
  obtain ⟨od, J, hl⟩ := I.look
  exact PySem.W.get_value X J (PySem.W.plainGet_of hg).1 (PySem.W.findObj_own hh ha rfl (by rw [hl, hv])) hv' h
theorem get_meth {pl : Sem Bool} {Q : Value × List Value → Shared → Prop} (X : K.In s.heap) (I : ObjM s.heap x dx C mA) (hg : PySem.W.plainGet K C name = true)
    (hf : PySem.W.findIn K (.ref C) name = some (some (.ref f))) (ht : PySem.W.isFn K (.ref f) = true) (hv : mA name = none) (h : Q (.ref f, [.ref x]) s) :
    wpAny (model prog w) A (getMethod (.ref x) name pl) Q E s := by
  obtain ⟨od, J, hl⟩ := I.look
  exact PySem.W.method_fn X J (PySem.W.plainGet_of hg).1 (PySem.W.plainGet_of hg).2 hf (beq_iff_eq.mp ht) (by show (PySem.W.lookIn name od).map (·.isSome) = some false; rw [hl, hv]; rfl) h
theorem set_map {ns : List Str} {Q : Unit → Shared → Prop} (X : K.In s.heap) (I : ObjM s.heap x dx C mA)
    (hs : PySem.W.findIn K (.ref C) "__setattr__" = some (some (.builtin "object.__setattr__"))) (hp : PySem.W.plainOver K C = true) (ht : PySem.W.takerIn K C name = some none) (hh : PySem.W.hasDictIn K C = true)
    (hw : PySem.Within mA ns) (hsz : ns.length ≤ sizeLine)
    (h : ∀ h', ObjM h' x dx C (fun y => if y = name then some v else mA y) → Heap.SameBut dx s.heap h' → Q () { s with heap := h', toks := s.toks + 2 }) :
    wpAny (model prog w) A (setAttr (.ref x) name v) Q E s := by
  obtain ⟨od, J, hl⟩ := I.look
  refine PySem.W.set_plain X J hs (PySem.W.osa_open (s := { s with toks := s.toks + 1 }) (r := none) X J hp ht fun b => ?_)
  obtain ⟨cd, hc, hd'⟩ := PySem.W.any_some hh
  have hx : s.heap.get? x = some ⟨.ref C, some dx, .plain, #[]⟩ := I.obj
  refine wpAny_bind (wpAny_pure (wpAny_bind (wpAny_bind (wpAny_loadPart hx (wpAny_bind (PySem.W.Looks.here (s := { s with toks := s.toks + 1 }) (PySem.W.looks_clsIn X hc) ?_))))))
  rw [hd']
  refine wpAny_pure (a := some dx) (wpAny_bind (wpAny_pure (wpAny_bind ?_)))
  refine wpAny_nsSet1 (s := { s with toks := s.toks + 1 }) I.ns fun h' hn2 hs2 => ?_
  obtain ⟨oD, esD, epD, hoD, hdD, hcD⟩ := hn2.count (PySem.Within.cons name v hw)
  refine wpAny_bind (wpAny_lookBehind hoD (by rw [hdD]; exact pastItsLine_dict (Nat.le_trans hcD (by rw [List.length_cons]; omega))) ?_)
  exact wpAny_pure (h _ ⟨(hs2.2 _ (Ne.symm I.ne)).trans I.obj, hn2, I.ne⟩ hs2)
/-- C(..): the dict at the heap's end, the instance behind it; then its __init__ -/
theorem make_map {R : Result → Shared → Prop} {vs : List Value} {kw : List (Str × Value)} (X : K.In s.heap) (hm : PySem.W.makesIn K C = true)
    (hi : PySem.W.findIn K (.ref C) "__init__" = some (some (.ref f))) (hf : PySem.W.typeIn K (.ref f) = some (.type "function"))
    (h : codeAny (model prog w) (A.under (.builtin "type.__call__" ⟨.ref C :: vs, kw⟩)) (.call (.ref f) ⟨.ref (s.heap.objs.size + 1) :: vs, kw⟩) (PySem.W.InitBack (s.heap.objs.size + 1) R)
      { s with heap := (s.heap.push PySem.W.emptyDict).push (PySem.W.instObj C s.heap.objs.size) }) :
    codeAny (model prog w) A (.call (.ref C) ⟨vs, kw⟩) R s := by
  obtain ⟨hh, g, d, t, os⟩ := s
  exact PySem.W.make_core (PySem.W.makes_of X hm) (PySem.W.looks_findIn X hi) (fun self => PySem.W.bind_fn X self hf) (.inl rfl) h
end
/-! ### the attributes as a list of pairs -/
def putF (f : Str) (v : V) : List (Str × V) → List (Str × V)
  | [] => [(f, v)]
  | (g, x) :: r => if g = f then (g, v) :: r else (g, x) :: putF f v r
theorem lookup_putF (f g : Str) (v : V) : ∀ fs : List (Str × V), (putF f v fs).lookup g = if g = f then some v else fs.lookup g
  | [] => by
    show List.lookup g [(f, v)] = _
    by_cases h : g = f
    · have hb : (g == f) = true := beq_iff_eq.mpr h
      simp only [List.lookup, hb, if_pos h]
    · have hb : (g == f) = false := beq_eq_false_iff_ne.mpr h
      simp only [List.lookup, hb, if_neg h]
  | (k, x) :: r => by
    have ih := lookup_putF f g v r
    rw [show putF f v ((k, x) :: r) = (if k = f then (k, v) :: r else (k, x) :: putF f v r) from rfl]
    by_cases hk : k = f
    · rw [if_pos hk]
      by_cases h : g = k
      · have hb : (g == k) = true := beq_iff_eq.mpr h
        simp only [List.lookup, hb, if_pos (h.trans hk)]
      · have hb : (g == k) = false := beq_eq_false_iff_ne.mpr h
        simp only [List.lookup, hb, if_neg (fun e : g = f => h (e.trans hk.symm))]
    · rw [if_neg hk]
      by_cases h : g = k
      · have hb : (g == k) = true := beq_iff_eq.mpr h
        simp only [List.lookup, hb, if_neg (fun e : g = f => hk (h.symm.trans e))]
      · have hb : (g == k) = false := beq_eq_false_iff_ne.mpr h
        simp only [List.lookup, hb]
        exact ih
theorem keys_putF (f : Str) (v : V) : ∀ fs : List (Str × V), f ∈ (putF f v fs).map (·.1) ∧ ∀ g, g ∈ fs.map (·.1) → g ∈ (putF f v fs).map (·.1)
  | [] => ⟨by simp [putF], fun g h => by simp at h⟩
  | (k, x) :: r => by
    obtain ⟨i1, i2⟩ := keys_putF f v r
    rw [show putF f v ((k, x) :: r) = (if k = f then (k, v) :: r else (k, x) :: putF f v r) from rfl]
    by_cases hk : k = f
    · rw [if_pos hk]
      subst hk
      exact ⟨by simp, fun g h => by simpa using h⟩
    · rw [if_neg hk]
      refine ⟨?_, fun g h => ?_⟩
      · rw [List.map_cons]
        exact List.mem_cons_of_mem _ i1
      · rw [List.map_cons] at h ⊢
        rcases List.mem_cons.mp h with e | e
        · exact List.mem_cons.mpr (.inl e)
        · exact List.mem_cons_of_mem _ (i2 g e)
theorem length_putF (f : Str) (v : V) : ∀ fs : List (Str × V), (putF f v fs).length ≤ fs.length + 1
  | [] => by simp [putF]
  | (k, x) :: r => by
    have ih := length_putF f v r
    rw [show putF f v ((k, x) :: r) = (if k = f then (k, v) :: r else (k, x) :: putF f v r) from rfl]
    by_cases hk : k = f
    · rw [if_pos hk, List.length_cons, List.length_cons]; omega
    · rw [if_neg hk, List.length_cons, List.length_cons]; omega
theorem RelO.some_of {v : V} {o : Option Value} (r : RelO (some v) o) : ∃ u, o = some u ∧ RelV v u := by
  cases o with
  | none => exact (show False from r).elim
  | some u => exact ⟨u, rfl, r⟩
theorem RelO.none_of {o : Option Value} (r : RelO none o) : o = none := by
  cases o with
  | none => rfl
  | some u => exact (show False from r).elim
theorem handed_of {v : V} {u : Value} (r : RelV v u) : PySem.W.handedIn u = true := by
  cases v with
  | non => cases (show u = Value.none from r); rfl
  | bl b => cases (show u = Value.bool b from r); rfl
  | int i => obtain ⟨t, e⟩ := (show ∃ t, u = Value.int i t from r); cases e; rfl
  | str x => obtain ⟨t, e⟩ := (show ∃ t, u = Value.str x t from r); cases e; rfl
  | byt b => obtain ⟨t, e⟩ := (show ∃ t, u = Value.bytes b t from r); cases e; rfl
  | flt b => obtain ⟨t, e⟩ := (show ∃ t, u = Value.float b t from r); cases e; rfl
  | ref a => cases (show u = Value.ref a from r); rfl
  | ty n => cases (show u = Value.type n from r); rfl
section
variable {P : Program} {w : World} {H H' : Hp} {h h' : Heap} {a C dx : Addr} {fs fs' : List (Str × V)}
theorem ins_get (hok : HOk P w H h) (e : H a = some (.ins C dx fs)) : ∃ mA, ObjM h a dx C mA ∧ (∀ f, RelO (fs.lookup f) (mA f)) ∧ PySem.Within mA (fs.map (·.1)) ∧ fs.length ≤ 1000 ∧ H dx = some (.own a) := by
  obtain ⟨d, z, ne, ob, mA, n, r, q⟩ := (show ObjOk P w H h a (.ins C dx fs) from hok a _ e)
  exact ⟨mA, ⟨ob, n, ne⟩, r, q, z, d⟩
end
/-! ### what of the text a class must have -/
structure Cls (K : PySem.W.Frag) (C : Addr) : Prop where
  pg : PySem.W.plainGet K C Str.empty = true
  hd : PySem.W.hasDictIn K C = true
  po : PySem.W.plainOver K C = true
  sa : PySem.W.findIn K (.ref C) "__setattr__" = some (some (.builtin "object.__setattr__"))
theorem Cls.get {K : PySem.W.Frag} {C : Addr} (c : Cls K C) (f : Str) : PySem.W.plainGet K C f = true := c.pg
/-- no class of it has the name -/
def NoAttr (K : PySem.W.Frag) (C : Addr) (f : Str) : Prop := PySem.W.findIn K (.ref C) f = some none
theorem NoAttr.taker {K : PySem.W.Frag} {C : Addr} {f : Str} (n : NoAttr K C f) : PySem.W.takerIn K C f = some none := by
  unfold PySem.W.takerIn
  rw [show PySem.W.findIn K (.ref C) f = some none from n]
  rfl
/-- a method: a plain def of the class or of one above it -/
structure Meth (K : PySem.W.Frag) (C : Addr) (m : Str) (f : Addr) : Prop where
  at_ : PySem.W.findIn K (.ref C) m = some (some (.ref f))
  fn : PySem.W.isFn K (.ref f) = true
  kp : PySem.W.keepIn K (.ref f) = true
section
variable {X : Cx} {pins : List (Addr × Obj)} {σ : St} {H : Hp} {s : Shared} {a C dx : Addr} {fs : List (Str × V)} {f : Str} {v : V} {A : Around} {E : Value → Shared → Prop}
theorem getattr_ok {b : Bool} {Q : Value → Shared → Prop} (I : Inv X pins σ H s) (e : H a = some (.ins C dx fs)) (c : Cls X.K C) (n : NoAttr X.K C f) (l : fs.lookup f = some v)
    (h : ∀ u s', Inv X pins σ H s' → RelV v u → Q u s') : wpAny (model X.prog X.w) A (getAttr (.ref a) f b) Q E s := by
  obtain ⟨mA, O, r, _, _, _⟩ := ins_get I.hok e
  obtain ⟨u, hu, ru⟩ := RelO.some_of (v := v) (o := mA f) (by rw [← l]; exact r f)
  exact get_map I.kIn O (c.get f) c.hd n hu (handed_of ru) (h u _ (I.tok _) ru)
theorem getmeth_ok {m : Str} {g : Addr} {pl : Sem Bool} {Q : Value × List Value → Shared → Prop} (I : Inv X pins σ H s) (e : H a = some (.ins C dx fs)) (c : Cls X.K C) (k : Meth X.K C m g) (l : fs.lookup m = none)
    (h : Q (.ref g, [.ref a]) s) : wpAny (model X.prog X.w) A (getMethod (.ref a) m pl) Q E s := by
  obtain ⟨mA, O, r, _, _, _⟩ := ins_get I.hok e
  have hn : mA m = none := RelO.none_of (by rw [← l]; exact r m)
  exact get_meth I.kIn O (c.get m) k.at_ k.fn hn h
theorem setattr_ok {y : V} {u : Value} {Q : Unit → Shared → Prop} (I : Inv X pins σ H s) (e : H a = some (.ins C dx fs)) (c : Cls X.K C) (n : NoAttr X.K C f) (hl : fs.length < 1000) (ry : RelV y u)
    (h : ∀ s', Inv X pins σ (upd H a (.ins C dx (putF f y fs))) s' → Q () s') : wpAny (model X.prog X.w) A (setAttr (.ref a) f u) Q E s := by
  obtain ⟨mA, O, r, wi, _, ho⟩ := ins_get I.hok e
  have hz : (fs.map (·.1)).length ≤ sizeLine := by rw [List.length_map, sizeLine_eq]; omega
  refine set_map I.kIn O c.sa c.po n.taker c.hd wi hz fun h' O' sb => h _ ?_
  have hd : ∃ o, h'.get? dx = some o := let ⟨o, _, _, e', _⟩ := O'.ns; ⟨o, e'⟩
  refine I.write (x := a) (e := dx) (by rw [e]; exact True.intro) (.inr ho) (fun b q hb z => (sb.2 b hb).trans z) hd ?_
  refine ⟨by rw [upd_ne O.ne]; exact ho, ?_, O.ne, O'.obj, _, O'.ns, fun g => ?_, fun g hg => ?_⟩
  · have := length_putF f y fs; omega
  · show RelO ((putF f y fs).lookup g) (if g = f then some u else mA g)
    rw [lookup_putF]
    by_cases q : g = f
    · rw [if_pos q, if_pos q]; exact ry
    · rw [if_neg q, if_neg q]; exact r g
  · by_cases q : g = f
    · rw [q]; exact (keys_putF f y fs).1
    · refine (keys_putF f y fs).2 g (wi g fun z => hg ?_)
      show (if g = f then some u else mA g) = none
      rw [if_neg q]; exact z
/-- a new instance, tracked, without attributes -/
theorem Inv.made (I : Inv X pins σ H s) : Inv X pins σ (upd (upd H s.heap.objs.size (.own (s.heap.objs.size + 1))) (s.heap.objs.size + 1) (.ins C s.heap.objs.size []))
    { s with heap := (s.heap.push PySem.W.emptyDict).push (PySem.W.instObj C s.heap.objs.size) } := by
  have e1 : (s.heap.push PySem.W.emptyDict).get? s.heap.objs.size = some PySem.W.emptyDict := Heap.get?_push_size s.heap rfl
  have e2 : ((s.heap.push PySem.W.emptyDict).push (PySem.W.instObj C s.heap.objs.size)).get? (s.heap.objs.size + 1) = some (PySem.W.instObj C s.heap.objs.size) := by
    have := Heap.get?_push_size (s.heap.push PySem.W.emptyDict) (o := PySem.W.instObj C s.heap.objs.size) rfl
    rwa [Heap.size_push] at this
  have e3 : (s.heap.push PySem.W.emptyDict).Ns s.heap.objs.size (fun _ => none) := ⟨PySem.W.emptyDict, #[], _, e1, rfl, (fun e he => absurd he (by simp)), fun _ => rfl⟩
  have I1 := I.laid (a := s.heap.objs.size) (o := .own (s.heap.objs.size + 1)) (h' := s.heap.push PySem.W.emptyDict) (t' := s.toks) (fun b u q => Heap.get?_push_of_some _ q) (Nat.le_refl _) ⟨_, e1⟩
  refine I1.laid (a := s.heap.objs.size + 1) (o := .ins C s.heap.objs.size []) (t' := s.toks) (fun b u q => Heap.get?_push_of_some _ q) (Nat.le_of_eq (Heap.size_push _ _)) ?_
  have ne : s.heap.objs.size ≠ s.heap.objs.size + 1 := Nat.ne_of_lt (Nat.lt_succ_self _)
  refine ⟨by rw [upd_ne ne, upd_same], Nat.zero_le _, ne, e2, fun _ => none, (Heap.Ns1.of_empty e3).at fun o q => Heap.get?_push_of_some _ q, fun _ => True.intro, fun y hy => absurd rfl hy⟩
/-- e.f where nothing but the object is asked: through attributeBase (super) and the last hold -/
theorem attr_of {prog : Program} {w : World} {env : Env} {e : Expr} {f : Str} {pos : Pos} {s : Shared} {Q : Value → Shared → Prop} (hb : attributeBase e f env (eval e env) = eval e env)
    (h : wpAny (model prog w) A (eval e env) (fun o s₁ => wpAny (model prog w) A (getAttr o f true) Q E s₁) E s) : wpAny (model prog w) A (eval (.Attribute e f pos) env) Q E s :=
  Attribute_any_ h (by rw [arm_eval_Attribute, hb])
end
/-! ### readings and rules -/
/-- e.f, an attribute of the instance -/
def tFld (K : PySem.W.Frag) (ta : TE) (f : Str) : TE := fun σ H Q => ta σ H fun x H1 => ∃ a C dx fs v, x = .ref a ∧ H1 a = some (.ins C dx fs) ∧ Cls K C ∧ NoAttr K C f ∧ fs.lookup f = some v ∧ Q v H1
/-- e.f = value -/
def sFld (K : PySem.W.Frag) (ta tv : TE) (f : Str) : TS := fun D σ H => tv σ H fun y H1 => ta σ H1 fun x H2 => ∃ a C dx fs, x = .ref a ∧ H2 a = some (.ins C dx fs) ∧ Cls K C ∧ NoAttr K C f ∧ fs.length < 1000 ∧
  D.nx σ (upd H2 a (.ins C dx (putF f y fs)))
section
variable {X : Cx} {o e value : Expr} {f : Str} {pos pos' tpos : Pos} {ta tv : TE}
theorem pe_fld (he : PE X e ta) (hb : attributeBase e f X.env (eval e X.env) = eval e X.env) : PE X (.Attribute e f pos) (tFld X.K ta f) := by
  intro pins s σ H Q I h
  refine attr_of hb (thn (he pins s σ H _ I h) fun u s1 ⟨x, H1, I1, rx, a, C, dx, fs, v, ex, ea, c, n, l, q⟩ => ?_)
  subst ex
  obtain rfl : u = Value.ref a := rx
  exact getattr_ok I1 ea c n l fun u' s2 I2 ru => ⟨v, H1, I2, ru, q⟩
theorem ps_fld (ha : PE X o ta) (hv : PE X value tv) (hs : swapsWith value (some (.Attribute o f pos')) pos.line X.env = pure false) : PS X (.Assign [.Attribute o f pos'] value pos) (sFld X.K ta tv f) := by
  intro pins s σ H D I h
  refine plainObj_wpAny_Assign_Attribute (thn (hv pins s σ H _ I h) fun u s1 ⟨y, H1, I1, ry, q⟩ => thn (ha pins s1 σ H1 _ I1 q) fun ov s2 ⟨x, H2, I2, rx, a, C, dx, fs, ex, ea, c, n, l, q2⟩ => ?_) hs
  subst ex
  obtain rfl : ov = Value.ref a := rx
  exact setattr_ok I2 ea c n l ry fun s3 I3 => ⟨σ, _, I3, q2⟩
end
/-! ### isinstance -/
section
variable {X : Cx} {pins : List (Addr × Obj)} {σ : St} {H : Hp} {s : Shared} {A : Around} {E : Value → Shared → Prop} {Q : Value → Shared → Prop} {c : Value} {b : Bool}
/-- the type of a value, as the fragment's deciders take it; for an instance its class -/
inductive TyOf (K : PySem.W.Frag) (H : Hp) : V → Value → Prop where
  | non : TyOf K H .non (.type "NoneType")
  | bl (x : Bool) : TyOf K H (.bl x) (.type "bool")
  | int (i : Int) : TyOf K H (.int i) (.type "int")
  | str (x : Str) : TyOf K H (.str x) (.type "str")
  | flt (x : UInt64) : TyOf K H (.flt x) (.type "float")
  | lst {a : Addr} {xs : List V} (e : H a = some (.lst xs)) : TyOf K H (.ref a) (.type "list")
  | frz {a : Addr} {o : Obj} {xs : List V} (e : H a = some (.frz o (.lst xs))) : TyOf K H (.ref a) (.type "list")
  | tup {a : Addr} {xs : List V} (e : H a = some (.tup xs)) : TyOf K H (.ref a) (.type "tuple")
  | dK {a : Addr} {kvs : List (Key × V)} (e : H a = some (.dK kvs)) : TyOf K H (.ref a) (.type "dict")
  | dT {a : Addr} {kvs : List (List Key × V)} (e : H a = some (.dT kvs)) : TyOf K H (.ref a) (.type "dict")
  | ins {a C dx : Addr} {fs : List (Str × V)} (e : H a = some (.ins C dx fs)) (cl : Cls K C) (ha : PySem.W.findIn K (.ref C) "__class__" = some (some (.builtin "object.__class__")))
      (hn : PySem.W.specialIn K (.builtin "object.__class__") "__get__" = some (some (.builtin "getset_descriptor.__get__"))) (htk : PySem.W.takesIn K (.builtin "object.__class__") = some true)
      (hm : PySem.W.mroIn K C (.type "object") = some true) : TyOf K H (.ref a) (.ref C)
/-- isinstance(x, c) for one class c, a built-in or an own one: kitOne's answer -/
theorem isinst_ok {x : V} {u t : Value} (I : Inv X pins σ H s) (rx : RelV x u) (ty : TyOf X.K H x t) (e : PySem.W.kitOne X.K t c = some b) (h : ∀ tk, Q (.bool b) { s with toks := tk }) :
    wpAny (model X.prog X.w) A (call (.builtin "isinstance") [u, c]) Q E s := by
  cases ty with
  | non => cases (show u = Value.none from rx); exact PySem.W.kia_one PySem.W.kitx_none I.kIn True.intro e (fun z => nomatch z) h
  | bl y => cases (show u = Value.bool y from rx); exact PySem.W.kia_one PySem.W.kitx_bool I.kIn True.intro e (fun z => nomatch z) h
  | int i => obtain ⟨t, q⟩ := (show ∃ t, u = Value.int i t from rx); cases q; exact PySem.W.kia_one PySem.W.kitx_int I.kIn True.intro e (fun z => nomatch z) h
  | str y => obtain ⟨t, q⟩ := (show ∃ t, u = Value.str y t from rx); cases q; exact PySem.W.kia_one PySem.W.kitx_str I.kIn True.intro e (fun z => nomatch z) h
  | flt y => obtain ⟨t, q⟩ := (show ∃ t, u = Value.float y t from rx); cases q; exact PySem.W.kia_one PySem.W.kitx_float I.kIn True.intro e (fun z => nomatch z) h
  | @lst a xs ea =>
    cases (show u = Value.ref a from rx)
    obtain ⟨_, _, n, _, h1⟩ := (show ObjOk X.prog X.w H s.heap a (.lst xs) from I.hok a _ ea)
    exact PySem.W.kia_one PySem.W.kitx_list I.kIn ⟨_, h1, rfl⟩ e (fun z => nomatch z) h
  | @frz a ob xs ea =>
    cases (show u = Value.ref a from rx)
    obtain ⟨_, _, _, n, _, h1⟩ := (show ObjOk X.prog X.w H s.heap a (.frz ob (.lst xs)) from I.hok a _ ea)
    exact PySem.W.kia_one PySem.W.kitx_list I.kIn ⟨_, h1, rfl⟩ e (fun z => nomatch z) h
  | @tup a xs ea =>
    cases (show u = Value.ref a from rx)
    obtain ⟨_, _, _, p⟩ := (show ObjOk X.prog X.w H s.heap a (.tup xs) from I.hok a _ ea)
    obtain ⟨o, h1, h2, _⟩ := p
    exact PySem.W.kia_one PySem.W.kitx_tuple I.kIn ⟨o, h1, h2⟩ e (fun z => nomatch z) h
  | @dK a kvs ea =>
    cases (show u = Value.ref a from rx)
    obtain ⟨_, _, vs, _, p⟩ := (show ObjOk X.prog X.w H s.heap a (.dK kvs) from I.hok a _ ea)
    obtain ⟨o, es, ep, h1, h2, _⟩ := p
    exact PySem.W.kia_one PySem.W.kitx_dict I.kIn ⟨o, h1, h2.1⟩ e (fun z => nomatch z) h
  | @dT a kvs ea =>
    cases (show u = Value.ref a from rx)
    obtain ⟨_, _, xs, _, o, es, ep, h1, h2, _⟩ := (show ObjOk X.prog X.w H s.heap a (.dT kvs) from I.hok a _ ea)
    exact PySem.W.kia_one PySem.W.kitx_dict I.kIn ⟨o, h1, h2.1⟩ e (fun z => nomatch z) h
  | @ins a C dx fs ea cl ha hn htk hm =>
    cases (show u = Value.ref a from rx)
    obtain ⟨mA, O, _⟩ := ins_get I.hok ea
    obtain ⟨od, J, _⟩ := O.look
    exact PySem.W.kia_one (PySem.W.kitx_own (cl.get _) cl.hd ha hn htk hm) I.kIn J e (fun z => nomatch z) h
end
end L2
namespace L2
open PySem PySem.Spec PyProof.Rows
/-! ### room -/
structure Room (k : Nat) (A : Around) : Prop where
  hd : A.handled = none
  dp : A.depth + 3 * k + 5 < recursionLimit
  un : A.units + 16 * k + 200 < cLine
theorem Room.mono {j k : Nat} {A : Around} (r : Room k A) (h : j ≤ k) : Room j A := ⟨r.hd, by have := r.dp; omega, by have := r.un; omega⟩
theorem Room.deeper {k : Nat} {A : Around} (r : Room (k + 1) A) (env : Env) : Room k (A.deeper env) :=
  ⟨r.hd, by have := r.dp; show A.depth + 1 + 3 * k + 5 < _; omega, by have := r.un; show A.units + 3 + 16 * k + 200 < _; omega⟩
theorem make_depth {A : Around} {C : Addr} {us : List Value} {kw : List (Str × Value)} : (A.under (.builtin "type.__call__" ⟨.ref C :: us, kw⟩)).depth = A.depth + 1 := by
  first | rfl | simp [Around.under, Code.weight, Code.isCreation, Code.isGuard, Code.isCaller, Code.frames, Code.isFrame, guardIds]
theorem make_units {A : Around} {C : Addr} {us : List Value} {kw : List (Str × Value)} : (A.under (.builtin "type.__call__" ⟨.ref C :: us, kw⟩)).units = A.units + 1 := by
  first | rfl | simp [Around.under, Code.cUnits, Code.frames, Code.isFrame]
theorem Room.make {k : Nat} {A : Around} (r : Room (k + 1) A) (C : Addr) (us : List Value) (kw : List (Str × Value)) : Room k (A.under (.builtin "type.__call__" ⟨.ref C :: us, kw⟩)) :=
  ⟨r.hd, by have := r.dp; rw [make_depth]; omega, by have := r.un; rw [make_units]; omega⟩
theorem Room.depth {k : Nat} {A : Around} (r : Room k A) : A.depth < recursionLimit := by have := r.dp; omega
theorem Room.units {k : Nat} {A : Around} (r : Room k A) : A.units + 64 < cLine := by have := r.un; omega
/-! ### argument lists and displays -/
def tNil : TA := fun _ H Q => Q [] H
def tCons (ta : TE) (tr : TA) : TA := fun σ H Q => ta σ H fun x H1 => tr σ H1 fun xs H2 => Q (x :: xs) H2
section
variable {X : Cx} {e : Expr} {es : List Expr} {te : TE} {t : TA} {pos : Pos}
theorem pa_nil : PA X [] tNil := fun _ _ _ _ H Q I h => Calls.spliced_nil ⟨[], H, I, .nil, h⟩
theorem pa_cons (ha : PE X e te) (hr : PA X es t) (hs : starEach (e :: es) X.env = (false, eval e X.env) :: starEach es X.env := by rfl) : PA X (e :: es) (tCons te t) := by
  intro pos pins s σ H Q I h
  rw [hs]
  show wpAny _ _ (spliced ((false, eval e X.env) :: backTo pos (starEach es X.env))) _ _ s
  refine Calls.spliced_cons (thn (ha pins s σ H _ I h) fun u s1 ⟨x, H1, I1, r1, q1⟩ => ?_)
  exact thn (hr pos pins s1 σ H1 _ I1 q1) fun us s2 ⟨xs, H2, I2, r2, q2⟩ => ⟨x :: xs, H2, I2, .cons r1 r2, q2⟩
/-- a tuple, a list of written items -/
def tTup (t : TA) : TE := fun σ H Q => t σ H fun xs H1 => xs.length ≤ sizeLine ∧ ∀ p, H1 p = none → Q (.ref p) (upd H1 p (.tup xs))
def tLst (t : TA) : TE := fun σ H Q => t σ H fun xs H1 => xs.length ≤ sizeLine ∧ ∀ p, H1 p = none → Q (.ref p) (upd H1 p (.lst xs))
theorem pe_tup {x1} (h : PA X es t) : PE X (.Tuple es x1 pos) (tTup t) := by
  intro pins s σ H Q I hq
  refine wpAny_Tuple_spliced (thn (h pos pins s σ H _ I hq) fun us s1 ⟨xs, H1, I1, r, z, q⟩ => ⟨by rw [← r.length]; exact z, ?_⟩)
  have hf : H1 s1.heap.objs.size = none := I1.hok.fresh (Nat.le_refl _)
  refine ⟨.ref s1.heap.objs.size, upd H1 s1.heap.objs.size (.tup xs), I1.laid (t' := s1.toks) (fun b u e => Heap.get?_push_of_some _ e) (Nat.le_refl _) ?_, rfl, q _ hf⟩
  exact ⟨z, us, r, ⟨_, Heap.get?_push_size _ rfl, rfl, _, rfl⟩⟩
theorem pe_lst (h : PA X es t) : PE X (.List es pos) (tLst t) := by
  intro pins s σ H Q I hq
  refine wpAny_List_spliced (thn (h pos pins s σ H _ I hq) fun us s1 ⟨xs, H1, I1, r, z, q⟩ => ⟨by rw [← r.length]; exact z, ?_⟩)
  have hf : H1 s1.heap.objs.size = none := I1.hok.fresh (Nat.le_refl _)
  refine ⟨.ref s1.heap.objs.size, upd H1 s1.heap.objs.size (.lst xs), I1.laid (t' := s1.toks) (fun b u e => Heap.get?_push_of_some _ e) (Nat.le_refl _) ?_, rfl, q _ hf⟩
  exact ⟨z, us, 0, r, Heap.get?_push_size _ rfl⟩
end
/-! ### what a def promises -/
/-- a def's promise: the bound arguments in the parameters' order, the heap, the wanted end, the wanted exception -/
abbrev Sp := List V → Hp → VK → XK → Prop
/-- how an exception lies behind a call (file 08 gives it): the callers' frames, abstract heap and state ahead of the call, the wish, the exception, the state -/
abbrev CXT := List Env → Hp → Shared → XK → Value → Shared → Prop
/-- the state at a call -/
structure Env0 (P : Program) (w : World) (K : PySem.W.Frag) (mg : Str → Option Value) (base : Heap) (A : Around) (outer : List Env) (s : Shared) (H : Hp) : Prop where
  frames : A.frames = some outer
  mod : Mod K mg base
  bs : ∀ b o, base.get? b = some o → s.heap.get? b = some o ∧ H b = none
  bsz : base.objs.size ≤ s.heap.objs.size
  funs : s.heap.FunFrames base outer
  frf : ∀ b ∈ frs outer, H b = none
  hok : HOk P w H s.heap
  bare : AllBare s.gens
/-- a call's end -/
def CE (outer : List Env) (P : Program) (w : World) (H : Hp) (s : Shared) (Q : VK) (u : Value) (s' : Shared) : Prop :=
  ∃ v H', s'.os = s.os ∧ AllBare s'.gens ∧ Un (frs outer) [] H H' s.heap s'.heap ∧ HOk P w H' s'.heap ∧ RelV v u ∧ Q v H'
def CR (CX : CXT) (outer : List Env) (P : Program) (w : World) (H : Hp) (s : Shared) (Q : VK) (E : XK) (r : Result) (s' : Shared) : Prop :=
  match r with
  | .ok (.ret u) => CE outer P w H s Q u s'
  | .ok _ => False
  | .error e => CX outer H s E e s'
structure FnOk (P : Program) (w : World) (K : PySem.W.Frag) (mg : Str → Option Value) (base : Heap) (CX : CXT) (k : Nat) (f : Addr) (fd : FuncData) (ps : List Str) (sp : Sp) : Prop where
  len : ∀ vs H Q E, sp vs H Q E → vs.length = ps.length
  run : ∀ (A : Around) (outer : List Env) (s : Shared) (H : Hp) (args : Args) (us : List Value) (vs : List V) (Q : VK) (E : XK), Room k A → Env0 P w K mg base A outer s H → BindsTo s fd args (ps.zip us) → Vals vs us → sp vs H Q E →
    codeAny (model P w) A (.call (.ref f) args) (CR CX outer P w H s Q E) s
theorem FnOk.mono {P : Program} {w : World} {K : PySem.W.Frag} {mg : Str → Option Value} {base : Heap} {CX : CXT} {j k : Nat} {f : Addr} {fd : FuncData} {ps : List Str} {sp : Sp} (F : FnOk P w K mg base CX j f fd ps sp) (h : j ≤ k) :
    FnOk P w K mg base CX k f fd ps sp := ⟨F.len, fun A outer s H args us vs Q E hr => F.run A outer s H args us vs Q E (hr.mono h)⟩
theorem Env0.make {P : Program} {w : World} {K : PySem.W.Frag} {mg : Str → Option Value} {base : Heap} {A : Around} {outer : List Env} {s : Shared} {H : Hp} (e : Env0 P w K mg base A outer s H) (C : Addr) (us : List Value) (kw : List (Str × Value)) :
    Env0 P w K mg base (A.under (.builtin "type.__call__" ⟨.ref C :: us, kw⟩)) outer s H := ⟨by first | exact e.frames | (simpa [Around.under, Code.envs, Code.isFrame, pushEnvs] using e.frames), e.mod, e.bs, e.bsz, e.funs, e.frf, e.hok, e.bare⟩
section
variable {X : Cx} {pins : List (Addr × Obj)} {σ : St} {H : Hp} {s s' : Shared}
/-- from a body: what a callee wants -/
theorem Inv.env0 (I : Inv X pins σ H s) : Env0 X.prog X.w X.K X.mg X.base X.A X.stack s H :=
  ⟨I.ok.frames, I.ok.mod, I.bs, Nat.le_trans I.ok.bsz I.sz, I.stack, I.stkFree, I.hok, I.bare⟩
/-- behind a call -/
theorem Inv.after {Q : VK} {u : Value} (I : Inv X pins σ H s) (h : CE X.stack X.prog X.w H s Q u s') : EP X pins σ Q u s' := by
  obtain ⟨v, H', os, bare, un, hok, r, q⟩ := h
  obtain ⟨hh, g, d, t, os'⟩ := s'
  obtain rfl : os' = s.os := os
  exact ⟨v, H', I.call (h' := hh) (g' := g) (d' := d) (t' := t) (ch := []) un hok bare (fun b z => absurd z (by simp)), r, q⟩
end
/-! ### calls -/
/-- f(..): the written arguments, then the defaults dvs; E: what is wanted of an exception -/
def tCall (sp : Sp) (dvs : List V) (E : XK) (t : TA) : TE := fun σ H Q => t σ H fun vs H1 => sp (vs ++ dvs) H1 Q E
/-- o.m(..) of an instance of the class at C -/
def tMeth (C : Addr) (m : Str) (sp : Sp) (dvs : List V) (E : XK) (ta : TE) (t : TA) : TE := fun σ H Q => ta σ H fun x H1 => ∃ a dx fs, x = .ref a ∧ H1 a = some (.ins C dx fs) ∧ fs.lookup m = none ∧
  t σ H1 fun vs H2 => sp (x :: (vs ++ dvs)) H2 Q E
/-- C(..): a new instance and its dict, then __init__ -/
def tMake (C : Addr) (sp : Sp) (dvs : List V) (E : XK) (t : TA) : TE := fun σ H Q => t σ H fun vs H1 => ∀ x dx, H1 x = none → H1 dx = none → dx ≠ x →
  sp (.ref x :: (vs ++ dvs)) (upd (upd H1 dx (.own x)) x (.ins C dx [])) (fun v H2 => v = .non ∧ Q (.ref x) H2) E
/-- how the parameters are bound: us the positional arguments, kw the keywords' values by name, ds the defaults that fill up -/
def Binds (K : PySem.W.Frag) (fd : FuncData) (ps : List Str) (ds : List Value) : Prop :=
  ∀ (s : Shared) (us : List Value), K.In s.heap → (us ++ ds).length = ps.length → BindsTo s fd ⟨us, []⟩ (ps.zip (us ++ ds))
/-- every parameter is given -/
theorem Binds.all {K : PySem.W.Frag} {fd : FuncData} {ps : List Str} (h : ∀ us : List Value, us.length = ps.length → bindArgs fd ⟨us, []⟩ = pure (ps.zip us)) : Binds K fd ps [] := fun s us _ hl => by
  rw [List.append_nil] at hl ⊢
  exact .of_eq (h us hl)
/-- an exception of a callee reaches what this body wants of exceptions -/
def Passes (CX : CXT) (X : Cx) (E : XK) : Prop := ∀ (pins : List (Addr × Obj)) (σ : St) (H : Hp) (s : Shared) (e : Value) (s' : Shared), Inv X pins σ H s → CX X.stack H s E e s' → X.xe e s'
section
variable {X : Cx} {CX : CXT} {k : Nat} {f C : Addr} {fd : FuncData} {ps : List Str} {sp : Sp} {dvs : List V} {ds : List Value} {E : XK} {x m : Str} {p pos apos : Pos} {e o : Expr} {es : List Expr} {ta : TE} {t : TA}
/-- the callee runs -/
theorem run_fn {pins : List (Addr × Obj)} {σ : St} {H : Hp} {s : Shared} {Q : VK} {us : List Value} {vs : List V} (F : FnOk X.prog X.w X.K X.mg X.base CX k f fd ps sp) (hr : Room k X.A) (hb : Binds X.K fd ps ds) (hd : Vals dvs ds) (hx : Passes CX X E)
    (I : Inv X pins σ H s) (r : Vals vs us) (h : sp (vs ++ dvs) H Q E) : wpAny (model X.prog X.w) X.A (call (.ref f) us) (EP X pins σ Q) X.xe s := by
  have r2 : Vals (vs ++ dvs) (us ++ ds) := r.append hd
  have hl : (us ++ ds).length = ps.length := by rw [← r2.length]; exact F.len _ _ _ _ h
  refine wpAny_call (codeAny_mono (F.run X.A X.stack s H ⟨us, []⟩ (us ++ ds) (vs ++ dvs) Q E hr I.env0 (hb s us I.kIn hl) r2 h) fun r s' hq => ?_)
  cases r with
  | error e => exact hx pins σ H s e s' I hq
  | ok fl =>
    cases fl with
    | ret u => exact I.after hq
    | next => exact False.elim hq
    | brk => exact False.elim hq
    | cont => exact False.elim hq
theorem pe_call (F : FnOk X.prog X.w X.K X.mg X.base CX k f fd ps sp) (hr : Room k X.A) (hg : Gl X x) (hm : X.mg x = some (.ref f)) (hk : PySem.W.keepIn X.K (.ref f) = true) (hb : Binds X.K fd ps ds) (hd : Vals dvs ds) (hx : Passes CX X E)
    (ha : PA X (e :: es) t) (hdb : (x == ("__debug__" : Str)) = false := by decide) (he : starEach (e :: es) X.env = (false, eval e X.env) :: starEach es X.env := by rfl) (hpl : (backTo pos (starEach es X.env)).any (·.1) = false := by rfl) :
    PE X (.Call (.Name x p) (e :: es) [] pos) (tCall sp dvs E t) := by
  intro pins s σ H Q I h
  refine wpAny_Call_Name_kw (ld_glob I hg hm ?_ hdb)
  refine PySem.W.callWith_K (h₀ := X.base) I.ok.mod.kin hk (thn (ha pos pins s σ H _ I h) fun us s1 ⟨vs, H1, I1, r, q⟩ => ⟨I1.kIn, ?_⟩) he hpl
  exact run_fn F hr hb hd hx I1 r q
/-- what a class must have to be made -/
structure Mk (K : PySem.W.Frag) (C f : Addr) : Prop where
  makes : PySem.W.makesIn K C = true
  init : PySem.W.findIn K (.ref C) "__init__" = some (some (.ref f))
  fn : PySem.W.isFn K (.ref f) = true
  kp : PySem.W.keepIn K (.ref C) = true
theorem run_make {pins : List (Addr × Obj)} {σ : St} {H : Hp} {s : Shared} {Q : VK} {us : List Value} {vs : List V} (M : Mk X.K C f) (F : FnOk X.prog X.w X.K X.mg X.base CX k f fd ps sp) (hr : Room (k + 1) X.A) (hb : Binds X.K fd ps ds) (hd : Vals dvs ds)
    (hx : Passes CX X E) (I : Inv X pins σ H s) (r : Vals vs us)
    (h : ∀ x dx, H x = none → H dx = none → dx ≠ x → sp (.ref x :: (vs ++ dvs)) (upd (upd H dx (.own x)) x (.ins C dx [])) (fun v H2 => v = .non ∧ Q (.ref x) H2) E) :
    wpAny (model X.prog X.w) X.A (call (.ref C) us) (EP X pins σ Q) X.xe s := by
  have hq := h (s.heap.objs.size + 1) s.heap.objs.size (I.hok.fresh (Nat.le_succ _)) (I.hok.fresh (Nat.le_refl _)) (Nat.ne_of_lt (Nat.lt_succ_self _))
  have I2 := Inv.made (C := C) I
  have r2 : Vals (V.ref (s.heap.objs.size + 1) :: (vs ++ dvs)) (Value.ref (s.heap.objs.size + 1) :: (us ++ ds)) := .cons rfl (r.append hd)
  have hl : (Value.ref (s.heap.objs.size + 1) :: us ++ ds).length = ps.length := by
    have e := r2.length
    rw [F.len _ _ _ _ hq] at e
    exact e.symm
  refine wpAny_call (make_map (f := f) I.kIn M.makes M.init (beq_iff_eq.mp M.fn) (codeAny_mono (F.run _ X.stack _ _ ⟨Value.ref (s.heap.objs.size + 1) :: us, []⟩ (Value.ref (s.heap.objs.size + 1) :: (us ++ ds)) _ _ E (hr.make C us [])
    (I2.env0.make C us []) (hb _ (Value.ref (s.heap.objs.size + 1) :: us) I2.kIn hl) r2 hq) fun r s' hq' => ?_))
  cases r with
  | error e => exact hx pins σ _ _ e s' I2 hq'
  | ok fl =>
    cases fl with
    | ret u =>
      obtain ⟨v, H', I3, rv, ev, q3⟩ := I2.after hq'
      subst ev
      exact ⟨rv, ⟨V.ref (s.heap.objs.size + 1), H', I3, rfl, q3⟩⟩
    | next => exact False.elim hq'
    | brk => exact False.elim hq'
    | cont => exact False.elim hq'
theorem pe_make0 (M : Mk X.K C f) (F : FnOk X.prog X.w X.K X.mg X.base CX k f fd ps sp) (hr : Room (k + 1) X.A) (hg : Gl X x) (hm : X.mg x = some (.ref C)) (hb : Binds X.K fd ps ds) (hd : Vals dvs ds) (hx : Passes CX X E)
    (hdb : (x == ("__debug__" : Str)) = false := by decide) : PE X (.Call (.Name x p) [] [] pos) (tMake C sp dvs E tNil) := by
  intro pins s σ H Q I h
  refine wpAny_Call_Name_kw (ld_glob I hg hm ?_ hdb)
  exact PySem.W.callWith_K0 I.kIn M.kp (run_make (us := []) M F hr hb hd hx I .nil h)
end
/-! ### keywords -/
section
variable {X : Cx} {CX : CXT} {k : Nat} {f C : Addr} {fd : FuncData} {ps ks : List Str} {sp : Sp} {E : XK} {x m : Str} {p pos apos kpos : Pos} {e o : Expr} {es : List Expr} {kws : List Keyword} {te ta : TE} {t tk : TA} {nm : Option Str}
variable {g : List Value → List Value → List Value} {gV : List V → List V → List V}
end
/-! ### a def's body keeps its promise -/
/-- names: the parameters first -/
structure FnScope (N P : List Str) (sc : Scope) : Prop where
  kind : sc.kind = .function
  co : sc.isCoroutine = false
  gen : sc.isGenerator = false
  nd : N.Nodup
  pre : N.take P.length = P
  par : ∀ x ∈ P, sc.names.lookup x = some .local ∨ sc.names.lookup x = some .cell
  nofree : ∀ y ∈ sc.names, y.2 ≠ .free
theorem bindL_out {kindOf : Str → Option NameKind} {x : Str} : ∀ {binds : List (Str × Value)} {m : Str → Option Value}, (∀ v, (x, v) ∉ binds) → bindL kindOf binds m x = m x
  | [], _, _ => rfl
  | (n, v) :: r, m, h => by
    unfold bindL
    rw [bindL_out fun w hw => h w (List.mem_cons_of_mem _ hw)]
    split
    · have : x ≠ n := by rintro rfl; exact h v List.mem_cons_self
      simp [this]
    · rfl
theorem bindC_out {kindOf : Str → Option NameKind} {x : Str} : ∀ {binds : List (Str × Value)} {m : Str → Option Value}, (∀ v, (x, v) ∉ binds) → bindC kindOf binds m x = m x
  | [], _, _ => rfl
  | (n, v) :: r, m, h => by
    unfold bindC
    rw [bindC_out fun w hw => h w (List.mem_cons_of_mem _ hw)]
    split
    · rfl
    · have : x ≠ n := by rintro rfl; exact h v List.mem_cons_self
      simp [this]
theorem bindL_get {kindOf : Str → Option NameKind} {x : Str} {v : Value} : ∀ {P : List Str} {vs : List Value} {i : Nat} {m : Str → Option Value}, P.Nodup → P[i]? = some x → vs[i]? = some v → kindOf x = some .local →
    bindL kindOf (P.zip vs) m x = some v
  | [], _, _, _, _, h, _, _ => by simp at h
  | _ :: _, [], _, _, _, _, h, _ => by simp at h
  | p :: P, w :: vs, 0, m, nd, h1, h2, hk => by
    simp at h1 h2; subst h1; subst h2
    show bindL kindOf ((p, w) :: P.zip vs) m p = _
    unfold bindL
    rw [bindL_out fun v hv => (List.nodup_cons.mp nd).1 (List.of_mem_zip hv).1, if_pos hk]
    simp
  | p :: P, w :: vs, i + 1, m, nd, h1, h2, hk => by
    show bindL kindOf ((p, w) :: P.zip vs) m x = _
    unfold bindL
    exact bindL_get (i := i) (List.nodup_cons.mp nd).2 (by simpa using h1) (by simpa using h2) hk
theorem bindC_get {kindOf : Str → Option NameKind} {x : Str} {v : Value} : ∀ {P : List Str} {vs : List Value} {i : Nat} {m : Str → Option Value}, P.Nodup → P[i]? = some x → vs[i]? = some v → kindOf x ≠ some .local →
    bindC kindOf (P.zip vs) m x = some v
  | [], _, _, _, _, h, _, _ => by simp at h
  | _ :: _, [], _, _, _, _, h, _ => by simp at h
  | p :: P, w :: vs, 0, m, nd, h1, h2, hk => by
    simp at h1 h2; subst h1; subst h2
    show bindC kindOf ((p, w) :: P.zip vs) m p = _
    unfold bindC
    rw [bindC_out fun v hv => (List.nodup_cons.mp nd).1 (List.of_mem_zip hv).1, if_neg hk]
    simp
  | p :: P, w :: vs, i + 1, m, nd, h1, h2, hk => by
    show bindC kindOf ((p, w) :: P.zip vs) m x = _
    unfold bindC
    exact bindC_get (i := i) (List.nodup_cons.mp nd).2 (by simpa using h1) (by simpa using h2) hk
/-- the names' values at the entry -/
def start (N : List Str) (vs : List V) : St := vs.map some ++ List.replicate (N.length - vs.length) none
/-- the context of a def's body, at its entry; an exception leaves the frame, then lies as CX says -/
def cxOf (CX : CXT) (P : Program) (w : World) (K : PySem.W.Frag) (mg : Str → Option Value) (base : Heap) (N : List Str) (qual : Str) (scope : Scope) (f : Addr) (cd : Value) (A : Around) (outer : List Env) (s : Shared) (H : Hp) (E : XK) : Cx where
  prog := P
  w := w
  K := K
  mg := mg
  base := base
  A := A.deeper (envOfC qual scope s.heap.objs.size f cd)
  N := N
  s₀ := s
  H₀ := H
  env := envOfC qual scope s.heap.objs.size f cd
  outer := outer
  stack := envOfC qual scope s.heap.objs.size f cd :: outer
  ex := []
  calm := true
  fn := fun _ => true
  pn := []
  xe := fun e s' => wpAny (model P w) (A.deeper (envOfC qual scope s.heap.objs.size f cd)) (leaving (envOfC qual scope s.heap.objs.size f cd) e) (fun _ s'' => CX outer H s E e s'') (fun e' s'' => CX outer H s E e' s'') s'
theorem cell_has {sc : Scope} {n : Nat} {x : Str} (h : sc.names.lookup x = some .cell) : ∃ c, (cellsFrom n sc.names []).lookup x = some c := by
  have q := PySem.W.cellsFrom_some sc.names n [] (.inl h)
  exact Option.isSome_iff_exists.mp q
theorem inv_start {CX : CXT} {P : Program} {w : World} {K : PySem.W.Frag} {mg : Str → Option Value} {base : Heap} {N ps : List Str} {qual : Str} {scope : Scope} {f : Addr} {cd : Value} {A : Around} {outer : List Env} {s s1 : Shared} {H : Hp} {E : XK} {us : List Value} {vs : List V}
    (S : FnScope N ps scope) (hd : A.handled = none) (e0 : Env0 P w K mg base A outer s H) (hl : vs.length = ps.length) (r : Vals vs us)
    (x : InCallC s s.heap.objs.size (bindL (envOfC qual scope s.heap.objs.size f cd).kindOf (ps.zip us) fun _ => none) (cellsFrom (s.heap.objs.size + 1) scope.names []) (bindC (envOfC qual scope s.heap.objs.size f cd).kindOf (ps.zip us) fun _ => none) s1) :
    Inv (cxOf CX P w K mg base N qual scope f cd A outer s H E) [] (start N vs) H s1 := by
  have hpl : ps.length ≤ N.length := by have := congrArg List.length S.pre; rw [List.length_take] at this; omega
  obtain ⟨h1, tk, rfl, hk⟩ := x.done
  have noA : ∀ b : Addr, b ∉ (cxOf CX P w K mg base N qual scope f cd A outer s H E).ex := fun b z => absurd (show b ∈ ([] : List Addr) from z) (by simp)
  refine ⟨⟨e0.mod, S.kind, rfl, rfl, Nat.le_refl _, fun y z c h1 h2 => ?_, fun y hy => ?_, fun y c _ h => ?_, fun _ => hd, Around.frames_deeper e0.frames, .inr ⟨rfl, rfl⟩, fun b z => absurd z (noA b), e0.bs, e0.bsz, fun b _ _ => noA b, fun b z => absurd z (noA b), e0.funs, e0.frf⟩,
    rfl, e0.bare, Un.kept hk, ⟨_, x.toInCall.ns, fun i y v h1 h2 h3 => ?_⟩, fun y c h => ⟨_, x.cell y c h⟩, e0.hok.fresh (Nat.le_refl _), fun y c h => ?_, fun p hp => absurd (show p ∈ ([] : List (Addr × Obj)) from hp) (by simp), e0.hok.kept hk, ?_⟩
  · exact name_of_addr x.apart (PySem.mem_of_lookup h1) (PySem.mem_of_lookup h2)
  · have hy : scope.names.lookup y = some .cell ∨ scope.names.lookup y = some .free := hy
    rcases hy with hy | hy
    · exact cell_has hy
    · exact absurd rfl (S.nofree _ (PySem.mem_of_lookup hy))
  · exact Nat.le_of_lt (x.above y c (PySem.mem_of_lookup h))
  · have hi : i < vs.length := by
      unfold start at h2
      by_cases hi : i < vs.length
      · exact hi
      · rw [List.getElem?_append_right (by simpa using hi)] at h2
        rw [List.getElem?_replicate] at h2
        split at h2 <;> cases h2
    have ha : vs[i]? = some v := by
      unfold start at h2
      rw [List.getElem?_append_left (by simpa using hi), List.getElem?_map] at h2
      cases e : vs[i]? with
      | none => rw [e] at h2; cases h2
      | some a => rw [e] at h2; cases h2; rfl
    obtain ⟨u, hu, rv⟩ := r.get ha
    have hp : ps[i]? = some y := by
      rw [← S.pre, List.getElem?_take_of_lt (by omega)]; exact h1
    have ndP : ps.Nodup := by rw [← S.pre]; exact S.nd.sublist (List.take_sublist _ _)
    refine ⟨u, rv, ?_⟩
    rcases S.par y (List.mem_of_getElem? hp) with k | k
    · exact .inl ⟨k, bindL_get ndP hp hu k⟩
    · obtain ⟨c, e⟩ := cell_has (n := s.heap.objs.size + 1) k
      refine .inr ⟨.inl k, c, e, ?_⟩
      have q := x.cell y c e
      rw [bindC_get ndP hp hu (by show scope.names.lookup y ≠ _; rw [k]; decide)] at q
      exact q
  · exact e0.hok.fresh (Nat.le_of_lt (x.above y c (PySem.mem_of_lookup h)))
  · unfold start
    show _ = N.length
    rw [List.length_append, List.length_map, List.length_replicate]
    omega
/-- THE RULE: a def (or a method) of the text, by its body. The body's reading t is chosen for each entry; it is run at the parameters' values -/
theorem fn_of {CX : CXT} {P : Program} {w : World} {K : PySem.W.Frag} {mg : Str → Option Value} {base : Heap} {k : Nat} {f : Addr} {name qual : Str} {params : Arguments} {body : List Stmt} {scope : Scope} {dV kV doc pm cdv ct oc : Value} {an od : Option Addr}
    {osl : Array (Option Value)} {N ps : List Str} {sp : Sp} (lk : K.lookup f = some ⟨oc, od, .func (PySem.W.fnOf name qual params body scope dV kV doc pm an cdv ct), osl⟩) (hcd : PySem.W.codeIn K cdv qual = true) (S : FnScope N ps scope)
    (len : ∀ vs H Q E, sp vs H Q E → vs.length = ps.length)
    (hbody : ∀ (A : Around) (outer : List Env) (s : Shared) (H : Hp) (vs : List V) (Q : VK) (E : XK), Room k (A.deeper (envOfC qual scope s.heap.objs.size f cdv)) → sp vs H Q E →
      ∃ t, PSs (cxOf CX P w K mg base N qual scope f cdv A outer s H E) body t ∧ t { nx := fun _ H' => Q .non H', rt := Q } (start N vs) H) :
    FnOk P w K mg base CX (k + 1) f (PySem.W.fnOf name qual params body scope dV kV doc pm an cdv ct) ps sp := by
  refine ⟨len, fun A outer s H args us vs Q E hr e0 hb r hsp => ?_⟩
  have hl := len _ _ _ _ hsp
  have KX : K.In s.heap := e0.mod.kin.keeps fun b o e => (e0.bs b o e).1
  have lim : s.heap.NoLimit := e0.mod.nolimit.keeps fun b o e => (e0.bs b o e).1
  have hkind : ∀ y ∈ ps.zip us, scope.names.lookup y.1 = some .local ∨ (scope.names.lookup y.1 = some .cell ∧ ((cellsFrom (s.heap.objs.size + 1) scope.names []).lookup y.1).isSome = true) := fun ⟨n, v⟩ hy => by
    rcases S.par n (List.of_mem_zip hy).1 with q | q
    · exact .inl q
    · exact .inr ⟨q, PySem.W.cellsFrom_some _ _ _ (.inl q)⟩
  refine codeAny_call_function hr.depth (KX _ _ lk) rfl S.co S.gen rfl (PySem.W.codeRec_of KX hcd) (hb _ _ _ _ ?_)
  refine wpAny_newFunctionEnv_cells S.kind hkind fun env he s1 x => ?_
  subst he
  refine ⟨lim.keeps x.toInCall.keep, codeAny_func ?_⟩
  obtain ⟨t, ht, hq⟩ := hbody A outer s H vs Q E (hr.deeper _) hsp
  have I : Inv (cxOf CX P w K mg base N qual scope f cdv A outer s H E) [] (start N vs) H s1 := inv_start S hr.hd e0 hl r x
  refine wpAny_mono (ht [] s1 (start N vs) H _ I hq) (fun fl s' hs => ?_) fun e s' hs => hs
  have fin : ∀ {σ' : St} {H' : Hp} {v : V} {u : Value}, Inv (cxOf CX P w K mg base N qual scope f cdv A outer s H E) [] σ' H' s' → RelV v u → Q v H' → CE outer P w H s Q u s' :=
    fun {σ' H' v u} J rv q => ⟨v, H', J.os, J.bare, J.base, J.hok, rv, q⟩
  cases fl with
  | ret u =>
    obtain ⟨v, σ', H', J, rv, q⟩ := hs
    exact fin J rv q
  | next =>
    obtain ⟨σ', H', J, q⟩ := hs
    exact fin (v := V.non) (u := Value.none) J rfl q
  | brk =>
    obtain ⟨_, _, _, q⟩ := hs
    exact False.elim q
  | cont =>
    obtain ⟨_, _, _, q⟩ := hs
    exact False.elim q
end L2
namespace L2
open PySem PySem.Spec PyProof.Rows
section
variable {X : Cx} {x : Str} {p pos : Pos} {e : Expr} {es : List Expr} {t : TA} {id T : String} {r : List V → Hp → VK → Prop}
def tCB (r : List V → Hp → VK → Prop) (t : TA) : TE := fun σ H Q => t σ H fun vs H1 => r vs H1 Q
/-- f(e, ..), f a built-in function -/
theorem pe_callB (hc : CallR X (.builtin id) r) (hg : Gl X x) (hm : X.mg x = none) (hv : bootBuiltins x = some (.builtin id)) (ha : PA X (e :: es) t) (hn : x ≠ "__name__" := by decide) (hdb : (x == ("__debug__" : Str)) = false := by decide)
    (he : starEach (e :: es) X.env = (false, eval e X.env) :: starEach es X.env := by rfl) (hpl : (backTo pos (starEach es X.env)).any (·.1) = false := by rfl) : PE X (.Call (.Name x p) (e :: es) [] pos) (tCB r t) := by
  intro pins s σ H Q I h
  refine wpAny_Call_Name_kw (ld_blt I hg hm hv ?_ hn hdb)
  exact PyProof.Rows.callWith_builtin1 (thn (ha pos pins s σ H _ I h) fun us s1 ⟨vs, H1, I1, r1, q1⟩ => hc pins s1 σ H1 vs us Q I1 r1 q1) he hpl
/-- T(e, ..), T a built-in type -/
theorem pe_callTy (hc : CallR X (.type T) r) (hg : Gl X x) (hm : X.mg x = none) (hv : bootBuiltins x = some (.type T)) (ha : PA X (e :: es) t) (hn : x ≠ "__name__" := by decide) (hdb : (x == ("__debug__" : Str)) = false := by decide)
    (he : starEach (e :: es) X.env = (false, eval e X.env) :: starEach es X.env := by rfl) (hpl : (backTo pos (starEach es X.env)).any (·.1) = false := by rfl) : PE X (.Call (.Name x p) (e :: es) [] pos) (tCB r t) := by
  intro pins s σ H Q I h
  refine wpAny_Call_Name_kw (ld_blt I hg hm hv ?_ hn hdb)
  exact PyProof.Rows.callWith_type1 (thn (ha pos pins s σ H _ I h) fun us s1 ⟨vs, H1, I1, r1, q1⟩ => hc pins s1 σ H1 vs us Q I1 r1 q1) he hpl
end
end L2
namespace HT
open PySem PyProof.Rows
section
open PySem.SeqAt
open PySem.AutoSeq1 (wpAny_loadPart')
open PySem.MeetsSeq PySem.MeetsSeq2 PySem.MeetsSeq3
end
section
variable {prog : Program} {w : World} {A : Around} {E : Value → Shared → Prop} {s : Shared}
/-- t + u, t not empty -/
theorem cat_tup {t b : Addr} {vs ws : List Value} {Q : Value → Shared → Prop} (ht : IsTup s.heap t vs.toArray) (hb : IsTup s.heap b ws.toArray) (hv : vs ≠ [])
    (h1 : ws = [] → Q (.ref t) s) (h2 : ws ≠ [] → Q (.ref s.heap.objs.size) { s with heap := s.heap.push { cls := .type "tuple", data := .seq (vs ++ ws).toArray } })
    (hsz : vs.length + ws.length ≤ sizeLine) : wpAny (model prog w) A (binaryOp .Add (.ref t) (.ref b)) Q E s := by
  obtain ⟨⟨cls, dd, data, sl⟩, ho, hc, n, hd⟩ := id ht
  obtain ⟨⟨cls2, dd2, data2, sl2⟩, ho2, hc2, n2, hd2⟩ := id hb
  simp only at hc hd hc2 hd2
  subst hc hd hc2 hd2
  have e : vs.toArray ++ ws.toArray = (vs ++ ws).toArray := by simp
  by_cases hw : ws = []
  · exact concat_meets ⟨_, ho, rfl⟩ ⟨_, ho2, rfl⟩ noFill_tuple_add seq_tuple_add PySem.F.slot_tuple_add PySem.F.entry_tuple_add (PySem.F.args_tuple_add_2 _ _)
      (tuple_addW1 t b vs.toArray ws.toArray n n2 dd dd2 sl sl2 (by simpa using hv) (by simp [hw])) ⟨ho, ho2, h1 hw⟩
  · refine concat_meets ⟨_, ho, rfl⟩ ⟨_, ho2, rfl⟩ noFill_tuple_add seq_tuple_add PySem.F.slot_tuple_add PySem.F.entry_tuple_add (PySem.F.args_tuple_add_2 _ _)
      (tuple_addW2 t b vs.toArray ws.toArray n n2 dd dd2 sl sl2 (by simpa using hv) (by simpa using hw) (by rw [List.size_toArray, List.size_toArray]; exact hsz)) ⟨ho, ho2, ?_⟩
    rw [e]
    exact h2 hw
/-! ### t[a:b], not the whole -/
/-- a slice's bound as a place among n (d where it is left out) -/
def sIx (n d : Nat) : Option Int → Nat
  | none => d
  | some v => if v < 0 then (v + (n : Int)).toNat else min v.toNat n
theorem sIx_nat (n d k : Nat) : sIx n d (some (k : Int)) = min k n := by
  show (if (k : Int) < 0 then ((k : Int) + (n : Int)).toNat else min (k : Int).toNat n) = min k n
  rw [if_neg (by omega), Int.toNat_natCast]
theorem sIx_le (n d : Nat) (hd : d ≤ n) (o : Option Int) : sIx n d o ≤ n := by
  cases o with
  | none => exact hd
  | some v =>
    show (if v < 0 then (v + (n : Int)).toNat else min v.toNat n) ≤ n
    by_cases hv : v < 0
    · rw [if_pos hv]; omega
    · rw [if_neg hv]; exact Nat.min_le_right _ _
theorem clip_eq (v : Int) (n d : Nat) : (if v < 0 then max (v + (n : Int)) 0 else min v (n : Int)) = ((sIx n d (some v) : Nat) : Int) := by
  show (if v < 0 then max (v + (n : Int)) 0 else min v (n : Int)) = (((if v < 0 then (v + (n : Int)).toNat else min v.toNat n) : Nat) : Int)
  by_cases hv : v < 0
  · simp only [if_pos hv]; omega
  · simp only [if_neg hv]; omega
theorem adjust_gen (lo hi : Option Int) (n : Nat) : Builtin.Slice.sliceAdjust lo hi 1 (n : Int) = (((sIx n 0 lo : Nat) : Int), ((sIx n n hi : Nat) : Int)) := by
  have h1 : ¬ ((1 : Int) < 0) := by omega
  unfold Builtin.Slice.sliceAdjust
  simp only [h1, if_false]
  refine Prod.ext ?_ ?_
  · cases lo with
    | none => rfl
    | some v => exact clip_eq v n 0
  · cases hi with
    | none => rfl
    | some v => exact clip_eq v n n
theorem places_gen (i j : Nat) : Builtin.Slice.slicePlaces (i : Int) (j : Int) 1 = j - i := by
  unfold Builtin.Slice.slicePlaces
  have h1 : (1 : Int) > 0 := by omega
  simp only [h1, if_true, Int.ediv_one]
  split <;> omega
theorem slicePart_ {v : Value} {o : Option Int} {Q : Option Int → Shared → Prop} (p : IsPart v o) (h : Q o s) : wpAny (model prog w) A (Builtin.Slice.slicePartIndex v) Q E s := by
  cases p with
  | none => exact slicePart_none h
  | int i t => exact slicePart_int h
theorem sliceApplied_gen {sl : Addr} {vl vu : Value} {lo hi : Option Int} {n : Nat} {Q : Int × Int × Nat → Shared → Prop} (hs : s.heap.IsSliceOf sl vl vu .none) (pl : IsPart vl lo) (pu : IsPart vu hi)
    (h : Q (((sIx n 0 lo : Nat) : Int), 1, sIx n n hi - sIx n 0 lo) s) : wpAny (model prog w) A (Builtin.Slice.sliceApplied (.ref sl) (pure (n : Int))) Q E s := by
  obtain ⟨os, hos, hcs, hds⟩ := id hs
  unfold Builtin.Slice.sliceApplied Builtin.Slice.sliceFields
  refine wpAny_bind (wpAny_bind (wpAny_field hos hds (x := vl) rfl (wpAny_bind (wpAny_field hos hds (x := vu) rfl (wpAny_bind (wpAny_field hos hds (x := .none) rfl (wpAny_pure ?_)))))))
  refine wpAny_bind (slicePart_none ?_)
  show wpAny _ _ (if ((1 : Int) == 0) = true then _ else _) _ _ s
  rw [if_neg (by decide)]
  refine wpAny_bind (slicePart_ pl (wpAny_bind (slicePart_ pu (wpAny_bind (wpAny_pure ?_)))))
  show wpAny _ _ (match Builtin.Slice.sliceAdjust lo hi 1 (n : Int) with | (lo, hi) => pure (lo, (1 : Int), Builtin.Slice.slicePlaces lo hi 1)) _ _ s
  rw [adjust_gen lo hi n]
  show wpAny _ _ (pure (((sIx n 0 lo : Nat) : Int), (1 : Int), Builtin.Slice.slicePlaces ((sIx n 0 lo : Nat) : Int) ((sIx n n hi : Nat) : Int) 1)) _ _ s
  rw [places_gen]
  exact wpAny_pure h
theorem pick_gen (xs : Array Value) (i k : Nat) : ((List.range k).filterMap fun (m : Nat) => xs[((i : Int) + (m : Int) * 1).toNat]?).toArray = ((xs.toList.drop i).take k).toArray := by
  have e : (fun (m : Nat) => xs[((i : Int) + (m : Int) * 1).toNat]?) = fun m => xs[i + m]? := by
    funext m
    have : ((i : Int) + (m : Int) * 1).toNat = i + m := by omega
    rw [this]
  rw [e]
  have := pick_run xs i k
  rw [List.filterMap_map] at this
  have e2 : ((fun x => xs[x]?) ∘ fun x => i + x) = fun m => xs[i + m]? := rfl
  rw [e2] at this
  rw [this]
theorem getItem_tuple_cut {t sl : Addr} {items : Array Value} {vl vu : Value} {lo hi : Option Int} {Q : Value → Shared → Prop} (ht : IsTup s.heap t items) (hs : s.heap.IsSliceOf sl vl vu .none) (pl : IsPart vl lo) (pu : IsPart vu hi)
    (hw : ¬ (sIx items.size 0 lo = 0 ∧ sIx items.size items.size hi = items.size))
    (h : Q (.ref s.heap.objs.size) { s with heap := s.heap.push { cls := .type "tuple", data := .seq ((items.toList.drop (sIx items.size 0 lo)).take (sIx items.size items.size hi - sIx items.size 0 lo)).toArray } })
    (hsz : items.size ≤ sizeLine) : wpAny (model prog w) A (getItem (.ref t) (.ref sl)) Q E s := by
  have htake : sizeOk (.seq ((items.toList.drop (sIx items.size 0 lo)).take (sIx items.size items.size hi - sIx items.size 0 lo)).toArray) := by
    show ((items.toList.drop (sIx items.size 0 lo)).take (sIx items.size items.size hi - sIx items.size 0 lo)).toArray.size ≤ sizeLine
    rw [List.size_toArray, List.length_take, List.length_drop, Array.length_toList]
    omega
  have hj : sIx items.size items.size hi ≤ items.size := sIx_le _ _ (Nat.le_refl _) hi
  obtain ⟨os, hos, hcs, hds⟩ := id hs
  have hTs : s.TypeIs (.ref sl) "slice" := ⟨os, hos, hcs⟩
  unfold getItem
  try with_reducible refine wpAny_holding ?_
  first | refine wpAny_bind (wpAny_pure ?_) | skip
  refine wpAny_bind (wpAny_sequenceKey ht.typeIs (by decide) ?_)
  refine wpAny_bind (wpAny_callSpecial?_slot (name := Str.ofString "__getitem__") ht.typeIs PyProof.Rows.slot_tuple_getitem
    (wpAny_call_entry PyProof.Rows.slot_tuple_getitem ht.typeIs entry_tuple_getitem ?_ (args_tuple_getitem _ _)))
  show wpAny _ _ (Builtin.Tuple.tupleItemsOf (.ref t) >>= _) _ _ s
  refine wpAny_bind (tupleItemsOf_ ht ?_)
  refine wpAny_bind (wpAny_typeOf hTs ?_)
  rw [if_pos (by decide)]
  refine wpAny_bind (sliceApplied_gen hs pl pu ?_)
  have hno : ¬ ((((sIx items.size 0 lo : Nat) : Int) == 0 && (1 : Int) == 1 && (sIx items.size items.size hi - sIx items.size 0 lo) == items.size) = true) := by
    intro q
    rw [Bool.and_eq_true, Bool.and_eq_true] at q
    have q1 : ((sIx items.size 0 lo : Nat) : Int) = 0 := eq_of_beq q.1.1
    have q2 : sIx items.size items.size hi - sIx items.size 0 lo = items.size := eq_of_beq q.2
    exact hw ⟨by omega, by omega⟩
  show wpAny _ _ (if (((sIx items.size 0 lo : Nat) : Int) == 0 && (1 : Int) == 1 && (sIx items.size items.size hi - sIx items.size 0 lo) == items.size) = true then _ else _) _ _ s
  rw [if_neg hno, pick_gen]
  first
    | exact wpAny_bind (m := Builtin.Tuple.tupleExact _) (wpAny_newObj_type (wpAny_pure ⟨_, rfl, wpAny_pure h⟩) htake)
    | exact wpAny_bind (m := Builtin.Tuple.tupleExact _) (wpAny_newObj_type (wpAny_bind (wpAny_pure (wpAny_pure ⟨_, rfl, wpAny_pure h⟩))) htake)
    | exact wpAny_bind (wpAny_bind (m := Builtin.Tuple.tupleExact _) (wpAny_newObj_type (wpAny_pure (wpAny_pure ⟨_, rfl, wpAny_pure h⟩)) htake))
    | exact wpAny_bind (wpAny_bind (m := Builtin.Tuple.tupleExact _) (wpAny_newObj_type (wpAny_pure ⟨_, rfl, wpAny_pure h⟩) htake))
end
end HT
namespace L2
open PySem PySem.Spec PyProof.Rows
/-! ### the parts of a slice -/
abbrev TO := St → Hp → (Option Int → Hp → Prop) → Prop
/-- a slice's part (left out, or an int) -/
def PO (X : Cx) (e : Option Expr) (t : TO) : Prop :=
  ∀ (pins : List (Addr × Obj)) (s : Shared) (σ : St) (H : Hp) (Q : Option Int → Hp → Prop), Inv X pins σ H s → t σ H Q →
    wpAny (model X.prog X.w) X.A (evalPart e X.env) (fun u s' => ∃ o H', Inv X pins σ H' s' ∧ IsPart u o ∧ Q o H') X.xe s
def tNoPart : TO := fun _ H Q => Q none H
def tPart (t : TE) : TO := fun σ H Q => t σ H fun x H1 => ∃ i, x = .int i ∧ Q (some i) H1
theorem intsAre_of {ns : List Int} : ∀ {us : List Value}, Vals (ns.map V.int) us → IntsAre us ns := by
  induction ns with
  | nil => intro us r; rw [List.map_nil] at r; cases r; exact .nil
  | cons n ns ih =>
    intro us r
    rw [List.map_cons] at r
    cases r with
    | cons r1 r2 =>
      obtain ⟨t, e⟩ := r1
      subst e
      exact .cons n t (ih r2)
section
variable {X : Cx} {e : Expr} {te : TE} {lo hi : Option Expr} {tl th : TO} {pos p2 : Pos}
theorem po_none : PO X none tNoPart := by
  intro pins s σ H Q I h
  rw [evalPart_none]
  exact wpAny_pure ⟨none, H, I, .none, h⟩
theorem po_some (h : PE X e te) : PO X (some e) (tPart te) := by
  intro pins s σ H Q I hw
  rw [evalPart_some]
  refine thn (h pins s σ H _ I hw) fun u s1 ⟨x, H1, I1, r1, q1⟩ => ?_
  obtain ⟨i, rfl, q⟩ := q1
  obtain ⟨t, rfl⟩ := r1
  exact ⟨some i, H1, I1, .int i t, q⟩
/-- what a slice of a value is, by values: the slice object stands at sl -/
def SlR (X : Cx) (r : V → Option Int → Option Int → Hp → VK → Prop) : Prop :=
  ∀ (pins : List (Addr × Obj)) (s : Shared) (σ : St) (H : Hp) (x : V) (v vl vu : Value) (lo hi : Option Int) (sl : Addr) (Q : VK), Inv X pins σ H s → RelV x v → s.heap.IsSliceOf sl vl vu .none → IsPart vl lo → IsPart vu hi → r x lo hi H Q →
    ∃ T id, typeLookup (.type T) "__getitem__" = pure (some (.builtin id)) ∧ s.TypeIs v T ∧ wpAny (model X.prog X.w) X.A (getItem v (.ref sl)) (EP X pins σ Q) X.xe s
def tSl (r : V → Option Int → Option Int → Hp → VK → Prop) (te : TE) (tl th : TO) : TE := fun σ H Q => te σ H fun x H1 => tl σ H1 fun l H2 => th σ H2 fun u H3 => r x l u H3 Q
/-- a[lo:hi], any a -/
theorem pe_slice {r : V → Option Int → Option Int → Hp → VK → Prop} (hr : SlR X r) (he : PE X e te) (hl : PO X lo tl) (hu : PO X hi th) : PE X (.Subscript e (.Slice lo hi none p2) pos) (tSl r te tl th) := by
  intro pins s σ H Q I h
  refine Subscript_ (thn (he pins s σ H _ I h) fun v s1 ⟨x, H1, I1, r1, q1⟩ => ?_)
  refine wpAny_Slice (thn (hl pins s1 σ H1 _ I1 q1) fun vl s2 ⟨l, H2, I2, pl, q2⟩ => thn (hu pins s2 σ H2 _ I2 q2) fun vu s3 ⟨u, H3, I3, pu, q3⟩ => ?_)
  rw [evalPart_none]
  refine wpAny_pure ?_
  have I4 : Inv X pins σ H3 { s3 with heap := s3.heap.push { cls := .type "slice", data := .fields #[vl, vu, .none] } } := I3.kept (t' := s3.toks) fun b ob q => Heap.get?_push_of_some _ q
  obtain ⟨T, id, hT, ht, hg⟩ := hr pins { s3 with heap := s3.heap.push { cls := .type "slice", data := .fields #[vl, vu, .none] } } σ H3 x v vl vu l u s3.heap.objs.size Q I4 r1 (Heap.IsSliceOf.new ..) pl pu q3
  show wpAny (model X.prog X.w) X.A (subscriptTail e (.Slice lo hi none p2) v (.ref s3.heap.objs.size)) (EP X pins σ Q) X.xe { s3 with heap := s3.heap.push { cls := .type "slice", data := .fields #[vl, vu, .none] } }
  exact tail_any (ops := [.ref s3.heap.objs.size, v]) ht hT hg (by with_unfolding_all rfl)
/-- the items of xs[lo:hi] -/
def cutV (xs : List V) (lo hi : Option Int) : List V := (xs.drop (HT.sIx xs.length 0 lo)).take (HT.sIx xs.length xs.length hi - HT.sIx xs.length 0 lo)
theorem cutV_length (xs : List V) (lo hi : Option Int) : (cutV xs lo hi).length ≤ xs.length := by
  unfold cutV
  rw [List.length_take, List.length_drop]
  omega
/-- t[lo:hi], not the whole of it (the whole would be t itself) -/
def rSlT (K : PySem.W.Frag) : V → Option Int → Option Int → Hp → VK → Prop := fun x lo hi H Q => ∃ a xs, x = .ref a ∧ SqT K H a xs ∧
  ¬ (HT.sIx xs.length 0 lo = 0 ∧ HT.sIx xs.length xs.length hi = xs.length) ∧ ∀ p, H p = none → Q (.ref p) (upd H p (.tup (cutV xs lo hi)))
theorem sl_tup : SlR X (rSlT X.K) := by
  intro pins s σ H x v vl vu lo hi sl Q I rx hs pl pu h
  obtain ⟨a, xs, rfl, hx, hw, q⟩ := h
  cases rx
  obtain ⟨its, r, ht, hz⟩ := I.tuple hx
  have hlen : its.toArray.size = xs.length := by rw [List.size_toArray]; exact r.length.symm
  refine ⟨"tuple", _, PyProof.Rows.slot_tuple_getitem.lookup, ht.typeIs, ?_⟩
  refine HT.getItem_tuple_cut ht hs pl pu (by rw [hlen]; exact hw) ?_ (by rw [hlen]; exact hz)
  rw [hlen]
  refine ⟨.ref s.heap.objs.size, _, I.laid (t' := s.toks) (o := .tup (cutV xs lo hi)) (fun b ob q => Heap.get?_push_of_some _ q) (Nat.le_refl _) ?_, rfl, q _ (I.hok.fresh (Nat.le_refl _))⟩
  exact ⟨Nat.le_trans (cutV_length xs lo hi) hz, _, (r.drop (HT.sIx xs.length 0 lo)).take (HT.sIx xs.length xs.length hi - HT.sIx xs.length 0 lo), IsTup.new _ _⟩
/-! ### t < u, t + u -/
/-- t + u, t not empty: u empty gives t itself -/
def rCatT (K : PySem.W.Frag) : R2 := fun x y H Q => ∃ a b xs ys, x = .ref a ∧ y = .ref b ∧ SqT K H a xs ∧ SqT K H b ys ∧ xs ≠ [] ∧ xs.length + ys.length ≤ sizeLine ∧
  (ys = [] → Q (.ref a) H) ∧ (ys ≠ [] → ∀ p, H p = none → Q (.ref p) (upd H p (.tup (xs ++ ys))))
theorem Vals.nil_iff {xs : List V} {us : List Value} (r : Vals xs us) : us = [] ↔ xs = [] := by
  cases r with
  | nil => simp
  | cons _ _ => simp
theorem op_catT : OpR X (binaryOp .Add) (rCatT X.K) := by
  intro pins s σ H x y v u Q I rx ry h
  obtain ⟨a, b, xs, ys, rfl, rfl, ha, hb, hx, hz, q1, q2⟩ := h
  cases rx
  cases ry
  obtain ⟨its, r1, p1, _⟩ := I.tuple ha
  obtain ⟨its2, r2, p2, _⟩ := I.tuple hb
  refine HT.cat_tup p1 p2 (fun z => hx (r1.nil_iff.mp z)) (fun z => ⟨.ref a, H, I, rfl, q1 (r2.nil_iff.mp z)⟩) (fun z => ?_) (by rw [← r1.length, ← r2.length]; exact hz)
  refine ⟨.ref s.heap.objs.size, _, I.laid (t' := s.toks) (o := .tup (xs ++ ys)) (fun b ob q => Heap.get?_push_of_some _ q) (Nat.le_refl _) ?_, rfl, q2 (fun w => z (r2.nil_iff.mpr w)) _ (I.hok.fresh (Nat.le_refl _))⟩
  exact ⟨by rw [List.length_append]; exact hz, _, r1.append r2, IsTup.new _ _⟩
end
end L2
namespace L2
open PySem PySem.Spec PyProof.Rows
/-! ### places -/
/-- the place that an index of any sign means -/
def ixN (n : Nat) (i : Int) : Option Nat := if 0 ≤ i then (if i < n then some i.toNat else none) else if -(n : Int) ≤ i then some (i + n).toNat else none
def atI {α : Type} (xs : List α) (i : Int) : Option α := (ixN xs.length i).bind fun j => xs[j]?
theorem ixN_seq {n : Nat} {i : Int} {j : Nat} (h : ixN n i = some j) : seqIndex? i n = some j ∧ j < n ∧ -(n : Int) ≤ i ∧ i < n := by
  unfold ixN at h
  by_cases h0 : 0 ≤ i
  · rw [if_pos h0] at h
    by_cases h1 : i < n
    · rw [if_pos h1] at h
      have e : i.toNat = j := Option.some.inj h
      exact ⟨by rw [seqIndex_of h0 h1, e], by omega, by omega, h1⟩
    · rw [if_neg h1] at h; cases h
  · rw [if_neg h0] at h
    by_cases h1 : -(n : Int) ≤ i
    · rw [if_pos h1] at h
      have e : (i + n).toNat = j := Option.some.inj h
      exact ⟨by rw [seqIndex_neg (by omega) h1, e], by omega, h1, by omega⟩
    · rw [if_neg h1] at h; cases h
theorem atI_get {α : Type} {xs : List α} {i : Int} {v : α} (h : atI xs i = some v) : ∃ j, seqIndex? i xs.length = some j ∧ xs[j]? = some v ∧ j < xs.length ∧ -(xs.length : Int) ≤ i ∧ i < xs.length := by
  unfold atI at h
  cases e : ixN xs.length i with
  | none => rw [e] at h; cases h
  | some j =>
    rw [e] at h
    obtain ⟨h1, h2, h3, h4⟩ := ixN_seq e
    exact ⟨j, h1, h, h2, h3, h4⟩
theorem atI_nat {α : Type} {xs : List α} {j : Nat} {v : α} (h : xs[j]? = some v) : atI xs (j : Int) = some v := by
  have hj : j < xs.length := (List.getElem?_eq_some_iff.mp h).1
  have e : ixN xs.length (j : Int) = some j := by
    unfold ixN
    rw [if_pos (by omega), if_pos (by omega)]; simp
  unfold atI; rw [e]; exact h
/-! ### what may be subscripted -/
/-- what stands as an index of a plain subscript -/
def PlainIx (b : Expr) : Prop := ∀ o i, subscripted b false o i = operate [o, i] (getItem o i)
/-- a subscript by values -/
def IxR (X : Cx) (r : R2) : Prop :=
  ∀ (value slice : Expr) (pins : List (Addr × Obj)) (s : Shared) (σ : St) (H : Hp) (x y : V) (v u : Value) (Q : VK), Inv X pins σ H s → RelV x v → RelV y u → r x y H Q →
    subscripted slice false v u = operate [v, u] (getItem v u) → wpAny (model X.prog X.w) X.A (subscriptTail value slice v u) (EP X pins σ Q) X.xe s
/-- a call of a builtin's method by values: the receiver, the arguments -/
def MtR (X : Cx) (id : String) (r : V → List V → Hp → VK → Prop) : Prop :=
  ∀ (pins : List (Addr × Obj)) (s : Shared) (σ : St) (H : Hp) (x : V) (xs : List V) (v : Value) (us : List Value) (Q : VK), Inv X pins σ H s → RelV x v → Vals xs us → r x xs H Q →
    wpAny (model X.prog X.w) X.A (call (.builtin id) (v :: us)) (EP X pins σ Q) X.xe s
section
variable {X : Cx} {a b : Expr} {ta tb : TE} {pos : Pos}
theorem IxR.or {r r' : R2} (h : IxR X r) (h' : IxR X r') : IxR X (fun x y H Q => r x y H Q ∨ r' x y H Q) := by
  intro value slice pins s σ H x y v u Q I rx ry q hs
  rcases q with q | q
  · exact h value slice pins s σ H x y v u Q I rx ry q hs
  · exact h' value slice pins s σ H x y v u Q I rx ry q hs
/-- a[b] -/
theorem pe_ix {r : R2} (hr : IxR X r) (ha : PE X a ta) (hb : PE X b tb) (hs : PlainIx b) : PE X (.Subscript a b pos) (tOp r ta tb) := by
  intro pins s σ H Q I h
  exact Subscript_ (binT ha hb I h fun v u s2 x y H2 I2 rx ry q => hr a b pins s2 σ H2 x y v u Q I2 rx ry q (hs _ _))
def rIxL (K : PySem.W.Frag) : R2 := fun x y H Q => ∃ p xs i v, x = .ref p ∧ y = .int i ∧ SqL K H p xs ∧ atI xs i = some v ∧ Q v H
def rIxT (K : PySem.W.Frag) : R2 := fun x y H Q => ∃ p xs i v, x = .ref p ∧ y = .int i ∧ SqT K H p xs ∧ atI xs i = some v ∧ Q v H
def rIxS : R2 := fun x y H Q => ∃ z i c, x = .str z ∧ y = .int i ∧ z.length ≤ sizeLine ∧ atI z.cps.toList i = some c ∧ Q (.str ⟨#[c]⟩) H
theorem ix_list : IxR X (rIxL X.K) := by
  intro value slice pins s σ H x y v u Q I rx ry h hs
  obtain ⟨p, xs, i, z, rfl, rfl, hq, he, q⟩ := h
  cases rx
  obtain ⟨t, rfl⟩ := ry
  obtain ⟨its, r, pl, hz⟩ := I.list hq
  obtain ⟨j, h1, h2, h3, h4, h5⟩ := atI_get he
  obtain ⟨w, ew, rw'⟩ := r.get h2
  have hl := r.length
  have hn := line63
  have fin : EP X pins σ Q w s := ⟨z, H, I, rw', q⟩
  by_cases h0 : 0 ≤ i
  · have hj : i.toNat = j := by
      rw [seqIndex_of h0 h5] at h1
      exact Option.some.inj h1
    exact item_listR pl.isList h0 (by omega) (by rw [hj]; simpa using ew) fin hs
  · have hj : (i + (its.toArray.size : Int)).toNat = j := by
      rw [seqIndex_neg (by omega) h4] at h1
      rw [List.size_toArray, ← hl]
      exact Option.some.inj h1
    exact subscriptTail_builtinR (x := w) pl.isList.typeIs slot_list_getitem.lookup
      (wpAny_getItem_list_neg (Q := fun r s' => r = w ∧ EP X pins σ Q r s') pl.isList (by omega) (by rw [List.size_toArray] <;> omega) (by omega) (by rw [hj]; simpa using ew) ⟨rfl, fin⟩) hs
theorem ix_tup : IxR X (rIxT X.K) := by
  intro value slice pins s σ H x y v u Q I rx ry h hs
  obtain ⟨p, xs, i, z, rfl, rfl, hq, he, q⟩ := h
  cases rx
  obtain ⟨t, rfl⟩ := ry
  obtain ⟨its, r, pl, hz⟩ := I.tuple hq
  obtain ⟨j, h1, h2, h3, h4, h5⟩ := atI_get he
  obtain ⟨w, ew, rw'⟩ := r.get h2
  have hl := r.length
  have hn := line63
  have fin : EP X pins σ Q w s := ⟨z, H, I, rw', q⟩
  exact subscriptTail_builtinR (x := w) pl.typeIs slot_tuple_getitem.lookup
    (getItem_tuple (j := j) (Q := fun r s' => r = w ∧ EP X pins σ Q r s') pl (by omega) (by omega) (by rw [List.size_toArray, ← hl]; exact h1) (by simpa using ew) ⟨rfl, fin⟩) hs
theorem ix_str : IxR X rIxS := by
  intro value slice pins s σ H x y v u Q I rx ry h hs
  obtain ⟨z, i, c, rfl, rfl, hz, he, q⟩ := h
  obtain ⟨t, rfl⟩ := rx
  obtain ⟨t', rfl⟩ := ry
  obtain ⟨j, h1, h2, h3, h4, h5⟩ := atI_get he
  have hl : z.cps.toList.length = z.length := by simp [Str.length]
  rw [hl] at h1 h4 h5
  have hn := line63
  exact tail_any (typeIs_str s z t) slot_str_getitem.lookup (getItem_str (c := c) (by
    have e1 : decide (i < -(2 ^ 63 : Int)) = false := decide_eq_false (by omega)
    have e2 : decide (i ≥ 2 ^ 63) = false := decide_eq_false (by omega)
    rw [e1, e2, Bool.or_false]) (by rw [h1]; simpa using h2) ⟨.str ⟨#[c]⟩, H, I.tok _, ⟨_, rfl⟩, q⟩) hs
/-! ### xs[i] = v, any sign -/
def rSetL : V → V → V → Hp → (Hp → Prop) → Prop := fun o i v H Q => ∃ p xs k j, o = .ref p ∧ i = .int k ∧ H p = some (.lst xs) ∧ ixN xs.length k = some j ∧ Q (upd H p (.lst (xs.set j v)))
/-! ### slices -/
theorem slice_bounds (lo hi : Option Int) (n : Nat) : (sliceBounds lo hi none n).1 = ((HT.sIx n 0 lo : Nat) : Int) ∧ (sliceBounds lo hi none n).2.1 = ((HT.sIx n n hi : Nat) : Int) ∧ (sliceBounds lo hi none n).2.2 = 1 := by
  refine ⟨?_, ?_, rfl⟩
  · cases lo with
    | none => simp [sliceBounds, HT.sIx]
    | some i =>
      simp only [sliceBounds, HT.sIx, Option.getD_none, show (1 : Int) > 0 by decide, if_true]
      by_cases h : i < 0
      · simp only [h, if_true] <;> omega
      · simp only [h, if_false] <;> omega
  · cases hi with
    | none => simp [sliceBounds, HT.sIx]
    | some i =>
      simp only [sliceBounds, HT.sIx, Option.getD_none, show (1 : Int) > 0 by decide, if_true]
      by_cases h : i < 0
      · simp only [h, if_true] <;> omega
      · simp only [h, if_false] <;> omega
theorem slicePick_cut (its : List Value) (lo hi : Option Int) : slicePick its.toArray lo hi none = ((its.drop (HT.sIx its.length 0 lo)).take (HT.sIx its.length its.length hi - HT.sIx its.length 0 lo)).toArray := by
  obtain ⟨h1, h2, h3⟩ := slice_bounds lo hi its.toArray.size
  unfold slicePick
  rw [h1, h2, h3]
  simp only [sliceRange_one, pick_run, List.size_toArray] <;> rfl
/-- xs[lo:hi] of a list: a new list -/
def rSlL (K : PySem.W.Frag) : V → Option Int → Option Int → Hp → VK → Prop := fun x lo hi H Q => ∃ a xs, x = .ref a ∧ SqL K H a xs ∧ ∀ p, H p = none → Q (.ref p) (upd H p (.lst (cutV xs lo hi)))
theorem sl_list : SlR X (rSlL X.K) := by
  intro pins s σ H x v vl vu lo hi sl Q I rx hs pl pu h
  obtain ⟨a, xs, rfl, hx, q⟩ := h
  cases rx
  obtain ⟨its, r, ht, hz⟩ := I.list hx
  have hlen := r.length
  refine ⟨"list", _, slot_list_getitem.lookup, ht.isList.typeIs, ?_⟩
  refine wpAny_getItem_list_slice ht.isList hs pl pu .none (by simp) ?_ (by rw [List.size_toArray] <;> omega)
  rw [slicePick_cut, ← hlen]
  refine ⟨.ref s.heap.objs.size, _, I.laid (t' := s.toks) (o := .lst (cutV xs lo hi)) (fun b ob q => Heap.get?_push_of_some _ q) (Nat.le_refl _) ?_, rfl, q _ (I.hok.fresh (Nat.le_refl _))⟩
  exact ⟨Nat.le_trans (cutV_length xs lo hi) hz, _, 0, (r.drop (HT.sIx xs.length 0 lo)).take (HT.sIx xs.length xs.length hi - HT.sIx xs.length 0 lo), Heap.get?_push_size _ rfl⟩
/-! ### in, not in: flat items -/
def flatV : V → Bool
  | .non => true
  | .bl _ => true
  | .int _ => true
  | .str _ => true
  | _ => false
/-- == of flat values -/
def eqV : V → V → Bool
  | .non, .non => true
  | .bl a, .bl b => a == b
  | .bl a, .int b => (if a then 1 else 0) == b
  | .int a, .bl b => a == (if b then 1 else 0)
  | .int a, .int b => a == b
  | .str a, .str b => a == b
  | _, _ => false
theorem eqAt_V {A : Around} {s : Shared} {y x : V} {u v : Value} (ry : RelV y u) (rx : RelV x v) (fy : flatV y = true) (fx : flatV x = true) : SeqAt.EqAt A s u v (eqV y x) := by
  cases y with
  | non =>
    cases ry
    cases x with
    | non => cases rx; exact SeqAt.EqAt.same _
    | bl b => cases rx; exact SeqAt.EqAt.none_bool b
    | int b => obtain ⟨t, rfl⟩ := rx; exact SeqAt.EqAt.none_int b t
    | str b => obtain ⟨t, rfl⟩ := rx; exact SeqAt.EqAt.none_str b t
    | _ => exact absurd (show false = true from fx) Bool.false_ne_true
  | bl a =>
    cases ry
    cases x with
    | non => cases rx; exact SeqAt.EqAt.bool_none a
    | bl b => cases rx; exact SeqAt.EqAt.bool_bool a b
    | int b => obtain ⟨t, rfl⟩ := rx; exact SeqAt.EqAt.bool_int a b t
    | str b => obtain ⟨t, rfl⟩ := rx; exact SeqAt.EqAt.bool_str a b t
    | _ => exact absurd (show false = true from fx) Bool.false_ne_true
  | int a =>
    obtain ⟨t', rfl⟩ := ry
    cases x with
    | non => cases rx; exact SeqAt.EqAt.int_none a t'
    | bl b => cases rx; exact SeqAt.EqAt.int_bool a t' b
    | int b => obtain ⟨t, rfl⟩ := rx; exact SeqAt.EqAt.int_int a t' b t
    | str b => obtain ⟨t, rfl⟩ := rx; exact SeqAt.EqAt.int_str a t' b t
    | _ => exact absurd (show false = true from fx) Bool.false_ne_true
  | str a =>
    obtain ⟨t', rfl⟩ := ry
    cases x with
    | non => cases rx; exact SeqAt.EqAt.str_none a t'
    | bl b => cases rx; exact SeqAt.EqAt.str_bool a t' b
    | int b => obtain ⟨t, rfl⟩ := rx; exact SeqAt.EqAt.str_int a t' b t
    | str b => obtain ⟨t, rfl⟩ := rx; exact SeqAt.EqAt.str_str a t' b t
    | _ => exact absurd (show false = true from fx) Bool.false_ne_true
  | _ => exact absurd (show false = true from fy) Bool.false_ne_true
/-- the items' answers, read off the values (a value's own answer does not lean on its token) -/
def eqU (x : V) (u : Value) : Bool := match u with
  | .none => eqV .non x
  | .bool b => eqV (.bl b) x
  | .int i _ => eqV (.int i) x
  | .str z _ => eqV (.str z) x
  | _ => false
theorem eqU_of {x y : V} {u : Value} (r : RelV y u) (f : flatV y = true) : eqU x u = eqV y x := by
  cases y with
  | non => cases r; rfl
  | bl b => cases r; rfl
  | int i => obtain ⟨t, rfl⟩ := r; rfl
  | str z => obtain ⟨t, rfl⟩ := r; rfl
  | _ => exact absurd (show false = true from f) Bool.false_ne_true
theorem any_eqU {x : V} : ∀ {xs : List V} {us : List Value}, Vals xs us → xs.all flatV = true → us.any (eqU x) = xs.any fun y => eqV y x
  | _, _, .nil, _ => rfl
  | y :: xs, u :: us, .cons r t, f => by
    rw [List.all_cons, Bool.and_eq_true] at f
    rw [List.any_cons, List.any_cons, eqU_of r f.1, any_eqU t f.2]
theorem mem_eqAt {A : Around} {s : Shared} {x : V} {v : Value} (rx : RelV x v) (fx : flatV x = true) : ∀ {xs : List V} {us : List Value}, Vals xs us → xs.all flatV = true → ∀ u ∈ us, SeqAt.EqAt A s u v (eqU x u)
  | _, _, .nil, _ => fun u hu => by cases hu
  | y :: xs, u :: us, .cons r t, f => fun u' hu => by
    rw [List.all_cons, Bool.and_eq_true] at f
    rcases List.mem_cons.mp hu with rfl | hu
    · rw [eqU_of r f.1]; exact eqAt_V r rx f.1 fx
    · exact mem_eqAt rx fx t f.2 u' hu
def inV (x : V) (xs : List V) : Bool := xs.any fun y => eqV y x
/-- x in a list or tuple of flat items -/
def rIn (K : PySem.W.Frag) (neg : Bool) : R2 := fun x y H Q => ∃ p xs, y = .ref p ∧ (SqL K H p xs ∨ SqT K H p xs) ∧ flatV x = true ∧ xs.all flatV = true ∧ Q (.bl (if neg then !inV x xs else inV x xs)) H
theorem op_in_seq : OpR X (compareOp .In) (rIn X.K false) := by
  intro pins s σ H x y v u Q I rx ry h
  obtain ⟨p, xs, rfl, hq, fx, fs, q⟩ := h
  cases ry
  rcases hq with hq | hq
  · obtain ⟨its, r, pl, hz⟩ := I.list hq
    refine SeqAt.in_listAt (eqU x) pl.isList (fun w hw => mem_eqAt rx fx r fs w (by simpa using hw)) ⟨.bl _, H, I, rfl, ?_⟩
    rw [show its.toArray.any (eqU x) = its.any (eqU x) by simp, any_eqU r fs]
    exact q
  · obtain ⟨its, r, pl, hz⟩ := I.tuple hq
    refine SeqAt.in_tupleAt (eqU x) pl (fun w hw => mem_eqAt rx fx r fs w (by simpa using hw)) ⟨.bl _, H, I, rfl, ?_⟩
    rw [show its.toArray.any (eqU x) = its.any (eqU x) by simp, any_eqU r fs]
    exact q
theorem op_notIn_seq : OpR X (compareOp .NotIn) (rIn X.K true) := by
  intro pins s σ H x y v u Q I rx ry h
  obtain ⟨p, xs, rfl, hq, fx, fs, q⟩ := h
  cases ry
  rcases hq with hq | hq
  · obtain ⟨its, r, pl, hz⟩ := I.list hq
    refine SeqAt.notIn_listAt (eqU x) pl.isList (fun w hw => mem_eqAt rx fx r fs w (by simpa using hw)) ⟨.bl _, H, I, rfl, ?_⟩
    rw [show its.toArray.any (eqU x) = its.any (eqU x) by simp, any_eqU r fs]
    exact q
  · obtain ⟨its, r, pl, hz⟩ := I.tuple hq
    refine SeqAt.notIn_tupleAt (eqU x) pl (fun w hw => mem_eqAt rx fx r fs w (by simpa using hw)) ⟨.bl _, H, I, rfl, ?_⟩
    rw [show its.toArray.any (eqU x) = its.any (eqU x) by simp, any_eqU r fs]
    exact q
/-! ### len, list(x), tuple(x) of any list or tuple that is read -/
theorem CallR.or {f : Value} {r r' : List V → Hp → VK → Prop} (h : CallR X f r) (h' : CallR X f r') : CallR X f (fun xs H Q => r xs H Q ∨ r' xs H Q) := by
  intro pins s σ H xs us Q I rs q
  rcases q with q | q
  · exact h pins s σ H xs us Q I rs q
  · exact h' pins s σ H xs us Q I rs q
theorem call_list_of : CallR X (.type "list") (fun xs H Q => ∃ p ys, xs = [.ref p] ∧ (SqL X.K H p ys ∨ SqT X.K H p ys) ∧ ∀ l, H l = none → Q (.ref l) (upd H l (.lst ys))) := by
  intro pins s σ H xs us Q I r h
  obtain ⟨p, ys, rfl, hq, q⟩ := h
  obtain ⟨u, rfl, rx⟩ := vals1 r
  cases rx
  have fin : ∀ (its : List Value), Vals ys its → ys.length ≤ sizeLine → ∀ (h' : Heap) (c' : Nat), (∀ b o', s.heap.get? b = some o' → h'.get? b = some o') →
      h'.get? s.heap.objs.size = some { cls := .type "list", dict := none, data := .seq its.toArray c', slots := #[] } → EP X pins σ Q (.ref s.heap.objs.size) { s with heap := h' } := fun its r' hz h' c' kp e =>
    ⟨.ref s.heap.objs.size, _, I.laid (t' := s.toks) kp (Nat.le_refl _) (show ObjOk X.prog X.w _ h' _ (.lst ys) from ⟨hz, its, c', r', e⟩), rfl, q _ (I.hok.fresh (Nat.le_refl _))⟩
  rcases hq with hq | hq
  · obtain ⟨its, r', pl, hz⟩ := I.list hq
    have hlen := r'.length
    obtain ⟨o, ho, hc, n, hd⟩ := pl.isList
    exact call_list_seq p (.inl rfl) ho hc hd (fun h' c' kp e => fin its r' hz h' c' kp e) (by simp only [List.size_toArray] <;> omega)
  · obtain ⟨its, r', pl, hz⟩ := I.tuple hq
    have hlen := r'.length
    obtain ⟨o, ho, hc, n, hd⟩ := pl
    exact call_list_seq p (.inr rfl) ho hc hd (fun h' c' kp e => fin its r' hz h' c' kp e) (by simp only [List.size_toArray] <;> omega)
theorem call_tuple_of : CallR X (.type "tuple") (fun xs H Q => ∃ p ys, xs = [.ref p] ∧ ((SqL X.K H p ys ∧ ∀ l, H l = none → Q (.ref l) (upd H l (.tup ys))) ∨ (SqT X.K H p ys ∧ Q (.ref p) H))) := by
  intro pins s σ H xs us Q I r h
  obtain ⟨p, ys, rfl, h⟩ := h
  obtain ⟨u, rfl, rx⟩ := vals1 r
  cases rx
  rcases h with ⟨hq, q⟩ | ⟨hq, q⟩
  · obtain ⟨its, r', pl, hz⟩ := I.list hq
    have hlen := r'.length
    refine call_tuple_list pl.isList (fun h' kp => ?_) (by simp only [List.size_toArray] <;> omega)
    have I1 : Inv X pins σ H { s with heap := h' } := I.kept (t' := s.toks) kp
    have I2 : Inv X pins σ (upd H h'.objs.size (.tup ys)) { s with heap := h'.push { cls := .type "tuple", data := .seq its.toArray } } :=
      I1.laid (t' := s.toks) (fun b o e => Heap.get?_push_of_some _ e) (Nat.le_refl _) (show ObjOk X.prog X.w _ _ _ (.tup ys) from ⟨hz, its, r', IsTup.new _ _⟩)
    exact ⟨.ref h'.objs.size, _, I2, rfl, q _ (I1.hok.fresh (Nat.le_refl _))⟩
  · obtain ⟨its, r', pl, hz⟩ := I.tuple hq
    exact call_tuple_same pl ⟨.ref p, H, I, rfl, q⟩
/-! ### the call of a builtin's method: o.m(..) -/
/-- the value is of that builtin type -/
def tyV (K : PySem.W.Frag) (T : String) (x : V) (H : Hp) : Prop := match x with
  | .str _ => T = "str"
  | .int _ => T = "int"
  | .ref p => (T = "list" ∧ ∃ xs, SqL K H p xs) ∨ (T = "tuple" ∧ ∃ o, K.lookup p = some o ∧ o.cls = .type "tuple" ∧ o.dict = none) ∨
      (T = "dict" ∧ ((∃ kvs, H p = some (.dK kvs)) ∨ ∃ kvs, H p = some (.dT kvs))) ∨ (T = "set" ∧ ∃ S n, H p = some (.set S n))
  | _ => False
theorem tyV_is {pins : List (Addr × Obj)} {σ : St} {H : Hp} {s : Shared} {T : String} {x : V} {v : Value} (I : Inv X pins σ H s) (r : RelV x v) (ty : tyV X.K T x H) :
    s.TypeIs v T ∧ ∀ a, v = .ref a → ∃ ob, s.heap.get? a = some ob ∧ ob.dict = none := by
  cases x with
  | str z =>
    obtain ⟨t, rfl⟩ := r
    cases (show T = "str" from ty)
    exact ⟨typeIs_str s z t, fun _ e => nomatch e⟩
  | int i =>
    obtain ⟨t, rfl⟩ := r
    cases (show T = "int" from ty)
    exact ⟨typeIs_int s i t, fun _ e => nomatch e⟩
  | ref p =>
    cases r
    rcases ty with ⟨rfl, xs, hq⟩ | ⟨rfl, o, hk, hc, hd⟩ | ⟨rfl, hk⟩ | ⟨rfl, S, n, hk⟩
    · obtain ⟨its, _, pl, _⟩ := I.list hq
      refine ⟨pl.isList.typeIs, fun a e => ?_⟩
      cases e
      obtain ⟨o, n, e, c, hd, _⟩ := pl
      exact ⟨o, e, hd⟩
    · refine ⟨⟨o, I.kIn p o hk, hc⟩, fun a e => ?_⟩
      cases e
      exact ⟨o, I.kIn _ o hk, hd⟩
    · have z : ∃ o, s.heap.get? p = some o ∧ o.ExactDict := by
        rcases hk with ⟨kvs, hk⟩ | ⟨kvs, hk⟩
        · obtain ⟨_, _, _, _, o, _, _, e, ex, _⟩ := I.hok p _ hk
          exact ⟨o, e, ex⟩
        · obtain ⟨_, _, _, _, o, _, _, e, ex, _⟩ := I.hok p _ hk
          exact ⟨o, e, ex⟩
      obtain ⟨o, e, ex⟩ := z
      refine ⟨⟨o, e, ex.1⟩, fun a e2 => ?_⟩
      cases e2
      exact ⟨o, e, ex.2.1⟩
    · obtain ⟨o, _, _, _, e, ex, _⟩ := I.hok p _ hk
      refine ⟨⟨o, e, ex.1⟩, fun a e2 => ?_⟩
      cases e2
      exact ⟨o, e, ex.2.1⟩
  | _ => exact False.elim ty
def tBM (K : PySem.W.Frag) (T : String) (r : V → List V → Hp → VK → Prop) (to : TE) (t : TA) : TE := fun σ H Q => to σ H fun x H1 => tyV K T x H1 ∧ t σ H1 fun xs H2 => r x xs H2 Q
variable {o e : Expr} {es : List Expr} {to : TE} {t : TA} {name : Str} {apos cpos : Pos} {T id : String} {r : V → List V → Hp → VK → Prop}
theorem pe_bm (pa : PlainAttrs T) (slot : Slot T name id) (hty : typeOf (.builtin id) = pure (.type "method_descriptor")) (hm : MtR X id r) (ho : PE X o to) (ha : PA X (e :: es) t)
    (hbase : attributeBase o name X.env (eval o X.env) = eval o X.env := by rfl)
    (hfew : ((backTo cpos (starEach (e :: es) X.env)).all (fun x => !x.1) && (backToKw cpos (keywordEach [] X.env)).all (fun x => x.1.isSome)
      && decide ((e :: es).length + ([] : List Keyword).length + (if ([] : List Keyword).isEmpty then 0 else 1) < 30)) = true := by rfl)
    (hline : (apos.endLine == cpos.line) = true := by rfl) (hs : starEach (e :: es) X.env = (false, eval e X.env) :: starEach es X.env := by rfl) (hplain : (backTo cpos (starEach es X.env)).any (·.1) = false := by rfl) :
    PE X (.Call (.Attribute o name apos) (e :: es) [] cpos) (tBM X.K T r to t) := by
  intro pins s σ H Q I h
  refine wpAny_Call_method_late hbase hfew hline rfl (thn (ho pins s σ H _ I h) fun v s1 ⟨x, H1, I1, r1, ty, q1⟩ => ?_)
  obtain ⟨h1, h2⟩ := tyV_is I1 r1 ty
  refine ⟨T, id, pa, slot, hty, h1, h2, ?_⟩
  have hA := ha cpos pins s1 σ H1 _ I1 q1
  rw [hs] at hA ⊢
  refine Calls.callWith_builtin (by show (false || (backTo cpos (starEach es X.env)).any (·.1)) = false; rw [hplain] <;> rfl) (Calls.evalArgs_plain ?_)
  exact thn hA fun us s2 ⟨vs, H2, I2, r2, q2⟩ => hm pins s2 σ H2 x vs v us Q I2 r1 r2 q2
/- xs.append(e), list.index on a module's tuple .. are MtR facts of 06m -/
end
end L2
namespace L2
open PySem PySem.Spec PyProof.Rows
def MtM (X : Cx) (id : String) (r : V → List V → Hp → VK → Prop) : Prop :=
  ∀ (pins : List (Addr × Obj)) (s : Shared) (σ : St) (H : Hp) (x : V) (xs : List V) (v : Value) (us : List Value) (Q : VK), Inv X pins σ H s → RelV x v → Vals xs us → r x xs H Q →
    wpAny (model X.prog X.w) X.A (call (.builtin id) (v :: us)) (EP X pins σ Q) X.xe s
/-! ### lists of values -/
theorem Vals.one : ∀ {x : V} {us : List Value}, Vals [x] us → ∃ u, us = [u] ∧ RelV x u
  | _, _, .cons r .nil => ⟨_, rfl, r⟩
theorem Vals.zero : ∀ {us : List Value}, Vals [] us → us = []
  | _, .nil => rfl
theorem Vals.dropLast {xs : List V} {us : List Value} (h : Vals xs us) : Vals xs.dropLast us.dropLast := by
  induction h with
  | nil => exact .nil
  | cons r t ih =>
    cases t with
    | nil => exact .nil
    | cons q t' => exact .cons r ih
theorem Vals.reverse {xs : List V} {us : List Value} (h : Vals xs us) : Vals xs.reverse us.reverse := by
  induction h with
  | nil => exact .nil
  | cons r t ih => rw [List.reverse_cons, List.reverse_cons]; exact Vals.append ih (.cons r .nil)
theorem Vals.rep {xs : List V} {us : List Value} (h : Vals xs us) : ∀ k : Nat, Vals (List.replicate k xs).flatten (List.replicate k us).flatten
  | 0 => .nil
  | k + 1 => by
    rw [List.replicate_succ, List.replicate_succ, List.flatten_cons, List.flatten_cons]
    exact Vals.append h (Vals.rep h k)
theorem erase_last {α : Type} (l : List α) : l.eraseIdx (l.length - 1) = l.dropLast := by
  induction l with
  | nil => rfl
  | cons a r ih =>
    cases r with
    | nil => rfl
    | cons b r =>
      have e : (a :: b :: r).length - 1 = ((b :: r).length - 1) + 1 := by
        have h1 : (a :: b :: r).length = r.length + 2 := rfl
        have h2 : (b :: r).length = r.length + 1 := rfl
        omega
      rw [e, List.eraseIdx_cons_succ, ih]
      all_goals rfl
theorem foldl_rep (its : List Value) : ∀ (k : Nat) (acc : List Value),
    List.foldl (fun x1 x2 => x1 ++ x2) acc.toArray (List.replicate k its.toArray) = (acc ++ (List.replicate k its).flatten).toArray
  | 0, acc => by simp
  | k + 1, acc => by
    have e : acc.toArray ++ its.toArray = (acc ++ its).toArray := by simp
    have e2 : (acc ++ its) ++ (List.replicate k its).flatten = acc ++ (List.replicate (k + 1) its).flatten := by
      rw [List.replicate_succ, List.flatten_cons, List.append_assoc]
    rw [← e2, ← foldl_rep its k (acc ++ its), ← e, List.replicate_succ, List.foldl_cons]
section
variable {X : Cx} {pins : List (Addr × Obj)} {σ : St} {H : Hp} {s : Shared} {l b : Addr} {xs ys zs : List V}
/-! ### the two steps: a tracked list is rewritten, a new list is laid -/
theorem Inv.lset {its its' : List Value} {n : Nat} {f : Array Value → Array Value} {t' : Nat} (I : Inv X pins σ H s) (hH : H l = some (.lst xs))
    (e : s.heap.get? l = some { cls := .type "list", data := .seq its.toArray n }) (hf : f its.toArray = its'.toArray) (hv : Vals ys its') (hz : ys.length ≤ sizeLine) :
    Inv X pins σ (upd H l (.lst ys)) { s with heap := s.heap.update l (Obj.mapSeq f), toks := t' } := by
  have q := PySem.IsL.update e f
  rw [hf] at q
  refine I.write (x := l) (e := l) (by rw [hH]; exact trivial) (.inl rfl) (fun b' u hb hu => (Heap.get?_update_other s.heap (Obj.mapSeq f) (Ne.symm hb)).trans hu) ⟨_, q⟩ ?_
  exact ⟨hz, its', _, hv, q⟩
theorem Inv.lnew {its : List Value} {t' : Nat} (I : Inv X pins σ H s) (hv : Vals ys its) (hz : ys.length ≤ sizeLine) :
    Inv X pins σ (upd H s.heap.objs.size (.lst ys)) { s with heap := s.heap.push { cls := .type "list", data := .seq its.toArray }, toks := t' } :=
  I.laid (fun _ _ q => Heap.get?_push_of_some _ q) (Nat.le_refl _) ⟨hz, its, 0, hv, Heap.get?_push_size _ rfl⟩
theorem Inv.fresh (I : Inv X pins σ H s) : H s.heap.objs.size = none := I.hok.fresh (Nat.le_refl _)
theorem Inv.lstM (I : Inv X pins σ H s) (hH : H l = some (.lst xs)) : xs.length ≤ sizeLine ∧ ∃ (its : List Value) (n : Nat), Vals xs its ∧ xs.length = its.length ∧ s.heap.get? l = some { cls := .type "list", data := .seq its.toArray n } := by
  obtain ⟨z, its, n, r, e⟩ := I.hok l _ hH
  exact ⟨z, its, n, r, r.length, e⟩
theorem notLongL {n : Nat} (h : n ≤ sizeLine) : Builtin.List.listTooLong n = false := by
  unfold Builtin.List.listTooLong
  exact decide_eq_false (by omega)
end
section
variable {X : Cx}
/-! ### methods -/
def rAppend : V → List V → Hp → VK → Prop := fun x vs H Q => ∃ l xs y, x = .ref l ∧ vs = [y] ∧ H l = some (.lst xs) ∧ xs.length < sizeLine ∧ Q .non (upd H l (.lst (xs ++ [y])))
theorem mt_append : MtM X "list.append" rAppend := by
  intro pins s σ H x vs v us Q I rx rv h
  obtain ⟨l, xs, y, rfl, rfl, hH, hz, q⟩ := h
  cases rx
  obtain ⟨u, rfl, ru⟩ := rv.one
  obtain ⟨z, its, n, r, hl, e⟩ := I.lstM hH
  refine call_meets F.slot_list_append ⟨_, e, rfl⟩ F.entry_list_append (F.args_list_append_2 _ _) (PySem.list_append l its.toArray n u (by rw [List.size_toArray]; omega)) ⟨e, ?_⟩
  refine ⟨.non, _, I.lset (its' := its ++ [u]) hH e (by simp) (r.append (.cons ru .nil)) ?_, rfl, q⟩
  rw [List.length_append, List.length_singleton]
  omega
def rExtend : V → List V → Hp → VK → Prop := fun x vs H Q => ∃ l b xs zs, x = .ref l ∧ vs = [.ref b] ∧ H l = some (.lst xs) ∧ H b = some (.lst zs) ∧ xs.length + zs.length ≤ sizeLine ∧ Q .non (upd H l (.lst (xs ++ zs)))
theorem mt_extend : MtM X "list.extend" rExtend := by
  intro pins s σ H x vs v us Q I rx rv h
  obtain ⟨l, b, xs, zs, rfl, rfl, hH, hB, hz, q⟩ := h
  cases rx
  obtain ⟨u, rfl, ru⟩ := rv.one
  cases ru
  obtain ⟨z, its, n, r, hl, e⟩ := I.lstM hH
  obtain ⟨z2, its2, n2, r2, hl2, e2⟩ := I.lstM hB
  have hsz : its.toArray.size + its2.toArray.size ≤ sizeLine := by rw [List.size_toArray, List.size_toArray]; omega
  have hlong : ¬ (!its.toArray.isEmpty && Builtin.List.listTooLong (its.toArray.size + its2.toArray.size)) = true := by
    rw [notLongL hsz, Bool.and_false]
    exact Bool.false_ne_true
  refine call_meets F.slot_list_extend ⟨_, e, rfl⟩ F.entry_list_extend (F.args_list_extend_2 _ _)
    (AutoSeq1.list_extend_list_list_0 l its.toArray n b its2.toArray n2 hlong (by rw [List.size_toArray]; omega) (by omega)) ⟨e, e2, ?_⟩
  refine ⟨.non, _, I.lset (its' := its ++ its2) hH e (by simp) (r.append r2) ?_, rfl, q⟩
  rw [List.length_append]
  omega
def rPop : V → List V → Hp → VK → Prop := fun x vs H Q => ∃ l xs y, x = .ref l ∧ vs = [] ∧ H l = some (.lst xs) ∧ xs[xs.length - 1]? = some y ∧ Q y (upd H l (.lst xs.dropLast))
theorem mt_pop : MtM X "list.pop" rPop := by
  intro pins s σ H x vs v us Q I rx rv h
  obtain ⟨l, xs, y, rfl, rfl, hH, hy, q⟩ := h
  cases rx
  have hus := rv.zero
  subst hus
  obtain ⟨z, its, n, r, hl, e⟩ := I.lstM hH
  obtain ⟨u, hu, ru⟩ := r.get hy
  have hy' : its.toArray[its.toArray.size - 1]? = some u := by
    show its.toArray[its.length - 1]? = some u
    rw [← Array.getElem?_toList, ← hl]
    exact hu
  refine call_meets F.slot_list_pop ⟨_, e, rfl⟩ F.entry_list_pop (F.args_list_pop_1 _) (MeetsSeq.list_pop_last l its.toArray n u hy' (by rw [List.size_toArray]; omega)) ⟨e, ?_⟩
  refine ⟨y, _, I.lset (its' := its.dropLast) hH e ?_ r.dropLast ?_, ru, q⟩
  · show its.toArray.eraseIdxIfInBounds (its.toArray.size - 1) = its.dropLast.toArray
    rw [List.size_toArray, List.eraseIdxIfInBounds_toArray, erase_last]
  · rw [List.length_dropLast]
    omega
def rReverse : V → List V → Hp → VK → Prop := fun x vs H Q => ∃ l xs, x = .ref l ∧ vs = [] ∧ H l = some (.lst xs) ∧ Q .non (upd H l (.lst xs.reverse))
theorem mt_reverse : MtM X "list.reverse" rReverse := by
  intro pins s σ H x vs v us Q I rx rv h
  obtain ⟨l, xs, rfl, rfl, hH, q⟩ := h
  cases rx
  have hus := rv.zero
  subst hus
  obtain ⟨z, its, n, r, hl, e⟩ := I.lstM hH
  refine call_meets F.slot_list_reverse ⟨_, e, rfl⟩ F.entry_list_reverse (F.args_list_reverse_1 _) (AutoSeq1.list_reverse_list_0 l its.toArray n (by rw [List.size_toArray]; omega)) ⟨e, ?_⟩
  refine ⟨.non, _, I.lset (its' := its.reverse) hH e (by simp) r.reverse ?_, rfl, q⟩
  rw [List.length_reverse]
  omega
def rClear : V → List V → Hp → VK → Prop := fun x vs H Q => ∃ l xs, x = .ref l ∧ vs = [] ∧ H l = some (.lst xs) ∧ Q .non (upd H l (.lst []))
theorem mt_clear : MtM X "list.clear" rClear := by
  intro pins s σ H x vs v us Q I rx rv h
  obtain ⟨l, xs, rfl, rfl, hH, q⟩ := h
  cases rx
  have hus := rv.zero
  subst hus
  obtain ⟨z, its, n, r, hl, e⟩ := I.lstM hH
  refine call_meets F.slot_list_clear ⟨_, e, rfl⟩ F.entry_list_clear (F.args_list_clear_1 _) (AutoSeq1.list_clear_list_0 l its.toArray n (by rw [List.size_toArray]; omega)) ⟨e, ?_⟩
  exact ⟨.non, _, I.lset (its' := []) (ys := []) hH e rfl .nil (Nat.zero_le _), rfl, q⟩
/-! ### list + list, list += list, list * int -/
def rCat : R2 := fun x y H Q => ∃ l b xs zs, x = .ref l ∧ y = .ref b ∧ H l = some (.lst xs) ∧ H b = some (.lst zs) ∧ xs.length + zs.length ≤ sizeLine ∧ ∀ p, H p = none → Q (.ref p) (upd H p (.lst (xs ++ zs)))
theorem op_cat : OpR X (binaryOp .Add) rCat := by
  intro pins s σ H x y v u Q I rx ry h
  obtain ⟨l, b, xs, zs, rfl, rfl, hH, hB, hz, q⟩ := h
  cases rx
  cases ry
  obtain ⟨z, its, n, r, hl, e⟩ := I.lstM hH
  obtain ⟨z2, its2, n2, r2, hl2, e2⟩ := I.lstM hB
  refine PySem.P.add_list e e2 ?_ (by rw [List.size_toArray, List.size_toArray]; omega)
  have ea : its.toArray ++ its2.toArray = (its ++ its2).toArray := by simp
  rw [ea]
  exact ⟨.ref _, _, I.lnew (t' := s.toks) (r.append r2) (by rw [List.length_append]; omega), rfl, q _ I.fresh⟩
/-- a list times an int (a negative one is nothing) -/
def rRep : R2 := fun x y H Q => ∃ l k xs, x = .ref l ∧ y = .int k ∧ H l = some (.lst xs) ∧ -(2 ^ 63) ≤ k ∧ k < 2 ^ 63 ∧ xs.length * k.toNat ≤ sizeLine ∧
  ∀ p, H p = none → Q (.ref p) (upd H p (.lst (List.replicate k.toNat xs).flatten))
theorem len_rep {α : Type} (xs : List α) (k : Nat) : (List.replicate k xs).flatten.length = k * xs.length := by
  induction k with
  | zero => simp
  | succ k ih => rw [List.replicate_succ, List.flatten_cons, List.length_append, ih, Nat.succ_mul, Nat.add_comm]
theorem op_rep : OpR X (binaryOp .Mult) rRep := by
  intro pins s σ H x y v u Q I rx ry h
  obtain ⟨l, k, xs, rfl, rfl, hH, h1, h2, hz, q⟩ := h
  cases rx
  obtain ⟨t, rfl⟩ := ry
  obtain ⟨z, its, n, r, hl, e⟩ := I.lstM hH
  have hlen : its.toArray.size * k.toNat ≤ sizeLine := by rw [List.size_toArray, ← hl]; exact hz
  have hcap : ¬ its.toArray.size * k.toNat > (2 ^ 63 - 1) / 8 := by
    have : (sizeLine : Nat) ≤ (2 ^ 63 - 1) / 8 := by decide
    omega
  have hfit : ¬ (!Builtin.List.listFitsIndex k) = true := by
    rw [fitsIndex_both h1 h2]
    exact Bool.false_ne_true
  have hlong : ¬ Builtin.List.listTooLong (its.toArray.size * k.toNat) = true := by
    rw [notLongL hlen]
    exact Bool.false_ne_true
  have hnew : List.foldl (fun x1 x2 => x1 ++ x2) #[] (List.replicate (if its.toArray.isEmpty = true then 0 else k.toNat) its.toArray) = (List.replicate k.toNat its).flatten.toArray := by
    have f0 : ∀ m : Nat, List.foldl (fun x1 x2 => x1 ++ x2) #[] (List.replicate m its.toArray) = (List.replicate m its).flatten.toArray := fun m => by
      have := foldl_rep its m []
      rw [List.nil_append] at this
      exact this
    rw [f0]
    cases its with
    | nil => simp
    | cons a r' => rw [if_neg (by simp)]
  refine wpAny_binaryOp_repeat_ref (T := "list") (U := "int") (by decide) ⟨_, e, rfl⟩ (fun s' => typeIs_int s' k t) noFill_list_mul F.fills_int_mul F.slot_int_rmul repeat_list F.slot_int_index.lookup
    (call_meets F.slot_int_rmul (typeIs_int s k t) F.entry_int_rmul (F.args_int_rmul_2 _ _) (int___rmul___int_list k t l its.toArray n)
      ⟨e, rfl, ⟨_, e, rfl⟩, call_meets F.slot_list_mul ⟨_, e, rfl⟩ F.entry_list_mul (F.args_list_mul_2 _ _) (AutoListH.list___mul___list_int_3 l its.toArray n k t hfit hcap hlong) ⟨e, ?_⟩⟩)
  rw [hnew]
  exact ⟨.ref _, _, I.lnew (t' := s.toks) (r.rep k.toNat) (by rw [len_rep, Nat.mul_comm]; exact hz), rfl, q _ I.fresh⟩
/-! ### del xs[i] -/
end
/-! ### xs[a:b] = ys -/
section
variable {prog : Program} {w : World} {A : Around} {E : Value → Shared → Prop} {s : Shared}
end
section
variable {X : Cx}
end
end L2
namespace Att
open PySem PySem.W PySem.Calls PyProof.Rows
/-! ### the script -/
theorem ints_of_wellAll {P : Params} {h : Heap} : ∀ (ns : List Int) (vs : List Value), WellAll P h vs (ns.map WData.int) → IntsAre vs ns := by
  intro ns
  induction ns with
  | nil =>
    intro vs w
    rw [List.map_nil] at w
    cases w
    exact .nil
  | cons n ns ih =>
    intro vs w
    rw [List.map_cons] at w
    cases w with
    | cons a b =>
      cases a
      exact .cons _ _ (ih _ b)
theorem script_of {l : OpenLaw} {n : Nat} (hn : l.most = some n) {P : Params} {h : Heap} {args : List WData} {vals : List Value}
    (hpre : l.row.toRowW.claim.pre args = true) (hwl : WellAll P h vals args) :
    ∃ a vs ns, vals = [Value.ref a] ∧ args = [WData.list (ns.map WData.int)] ∧ h.get? a = some { cls := .type "list", data := .seq vs.toArray } ∧ IntsAre vs ns ∧ ns.length ≤ n := by
  have hsh : WShape.hasAll [] args [.list .int] = true := (pre_splitW hpre).1
  have hc : l.pre.holds [] { args := args } = true := (pre_splitW hpre).2
  obtain ⟨d, r, rfl, h1, h2⟩ := hasAllW_cons hsh
  obtain rfl := hasAllW_nil h2
  obtain ⟨xs, rfl, h3⟩ := hasW_list h1
  obtain ⟨ns, rfl⟩ := items_int h3
  have hlen : ns.length ≤ n := by
    unfold OpenLaw.pre at hc
    have h4 : (WTm.not (.lt (.lit (.int (n : Int))) (.len (.arg 0)))).holds [] { args := [.list (ns.map .int)] } = true := by
      have h4 := (holds_andW hc).1
      rw [hn] at h4
      exact h4
    have h5 := condW_of h4 (w_not (w_lt w_lit (w_len_list (w_arg rfl))))
    rw [List.length_map] at h5
    refine Nat.le_of_not_lt fun q => ?_
    have q' : (n : Int) < ((ns.length : Nat) : Int) := by omega
    first
      | (rw [decide_eq_true q'] at h5; exact absurd h5 (by decide))
      | (simp at h5; omega)
  cases hwl with
  | cons w1 w2 =>
    cases w2
    cases w1 with
    | list ho hall => exact ⟨_, _, ns, rfl, rfl, ho, ints_of_wellAll ns _ hall, hlen⟩
theorem post_true (l : OpenLaw) (args : List WData) : l.row.toRowW.claim.post args (.bool true) args = true :=
  postW_of (r := l.row.toRowW) (X := (true == true))
    (show WShape.has [] (.bool true) .bool = true by first | rfl | decide | simp [WShape.has, WShape.arms, WShape.armsAll])
    (show (WTm.eq .res (.lit (.bool true))).value [] { args := args, res := some (.bool true), after := args } = some (.bool (true == true)) from w_eq_bool (w_res rfl) w_lit) rfl
/-! ### the attachment: holds_open's last premise (the goal 'hc' behind k_head) from a wpAny of the law's body -/
/-- the same from a codeAny of the CALL (for a layer whose function contracts speak of calls) -/
theorem attach_call {l : OpenLaw} {n : Nat} {q : Program} {loose : List Str} {XP : (Str → Option Value) → Heap → Prop} {YP : World → Heap → Prop} {d : DefRec}
    (hn : l.most = some n) (hdf : d.params.defaults = [])
    (call : ∀ (w : World) (s₀ s₁ : Shared) (mg mb : Str → Option Value) (fa : Addr) (o : Obj) (pm cd doc : Value) (a : Addr) (vs : List Value) (ns : List Int),
      Ground q loose [] XP w s₀ mg mb s₁.heap → YP w s₁.heap →
      s₁.heap.get? fa = some o → o.data = .func (docDef d.name d.params d.body d.scope pm cd doc) → s₁.heap.CodeRec cd d.name → mg d.name = some (.ref fa) →
      s₁.heap.get? a = some { cls := .type "list", data := .seq vs.toArray } → IntsAre vs ns → ns.length ≤ n → s₁.gens = #[] →
      codeAny (model l.prog w) callerA (.call (.ref fa) ⟨[.ref a], []⟩) (fun r s' => r = .ok (.ret (.bool true)) ∧ OldK s₁.heap s'.heap ∧ s'.os = s₁.os ∧ AllBare s'.gens) s₁) :
    WalkO q loose XP YP l.row.toRowW d [] (fun f vs => PySem.call f vs) := by
  intro w s₀ s₁ mg mb G Y fa o pm cd doc dV kV ho hd hcd hD hmg hg args vals as hpre hlay hrd hwl hlo
  obtain rfl : dV = .none := Dflts.none hD hdf
  obtain rfl : kV = .none := Dflts.noKw hD
  obtain ⟨a, vs, ns, rfl, rfl, hobj, hints, hlen⟩ := script_of hn hpre hwl
  refine enter_call (codeAny_mono (call w s₀ s₁ mg mb fa o pm cd doc a vs ns G Y ho (fd_plain hd) hcd hmg hobj hints hlen hg) fun r s' hq => ?_)
  obtain ⟨rfl, h2, h3, h4⟩ := hq
  exact ⟨.inl ⟨.bool true, .bool true, [], rfl, fun _ => rfl, .bool true, post_true l _, fun _ => ⟨List.Pairwise.nil, fun _ hm => (nomatch hm)⟩⟩, h2, h3, h4⟩
/-! ### rules over ANY heap (no ledger) from facts about the written part K: the library's own take a ledger (News) for what they write -/
section
variable {prog : Program} {w : World} {A : Around} {E : Value → Shared → Prop} {s : Shared} {K : Frag}
/-! the whole heap as the ledger: makes every rule that writes through a ledger a rule over any heap -/
end
end Att
namespace L2
open PySem PySem.Spec PyProof.Rows
theorem vals_ints : ∀ {vs : List Value} {ns : List Int}, IntsAre vs ns → Vals (ns.map V.int) vs
  | _, _, .nil => .nil
  | _, _, .cons n t h => .cons ⟨t, rfl⟩ (vals_ints h)
/-- nothing is tracked but the script, known to the object (or it is an object of the module) -/
def Only (H : Hp) : Prop := ∀ b, H b = none ∨ ∃ o xs, H b = some (.frz o (.lst xs))
/-- THE HEAD: the law's promise, at the heap behind the top. F, the promise of the law's def, may use that base is part of the heap (so K.In base, base.Ns mainGlobals mg stand in Mod) -/
theorem law_call {P : Program} {w : World} {K : PySem.W.Frag} {mg mb : Str → Option Value} {CX : CXT} {k : Nat} {fa a : Addr} {fd : FuncData} {x : Str} {sp : Sp} {s₁ : Shared} {vs : List Value} {ns : List Int}
    (KX : K.In s₁.heap) (hns : s₁.heap.Ns mainGlobals mg) (hb : s₁.heap.Ns builtinsNs mb) (hbb : ∀ x : Str, x ≠ "__name__" → mb x = bootBuiltins x) (hlim : s₁.heap.NoLimit) (hg : s₁.gens = #[])
    (ha : s₁.heap.get? a = some { cls := .type "list", data := .seq vs.toArray }) (hi : IntsAre vs ns) (hl : ns.length ≤ sizeLine) (hr : Room k callerA)
    (F : ∀ base : Heap, K.In base → base.Ns mainGlobals mg → FnOk P w K mg base CX k fa fd [x] sp) (hbind : ∀ (s : Shared) (u : Value), BindsTo s fd ⟨[u], []⟩ [(x, u)])
    (hsp : ∀ H : Hp, Only H → SqL K H a (ns.map V.int) → sp [.ref a] H (fun v _ => v = .bl true) fun _ _ _ => False)
    (hCX : ∀ H e s', CX [] H s₁ (fun _ _ _ => False) e s' → False) :
    codeAny (model P w) callerA (.call (.ref fa) ⟨[.ref a], []⟩) (fun r s' => r = .ok (.ret (.bool true)) ∧ OldK s₁.heap s'.heap ∧ s'.os = s₁.os ∧ AllBare s'.gens) s₁ := by
  have rv := vals_ints hi
  have lenV := hi.length
  -- from an abstract heap in which nothing but the script may be tracked
  have core : ∀ H : Hp, Only H → SqL K H a (ns.map V.int) → HOk P w H s₁.heap → (∀ b, H b ≠ none → b = a) → (H a ≠ none → K.lookup a = none) →
      codeAny (model P w) callerA (.call (.ref fa) ⟨[.ref a], []⟩) (fun r s' => r = .ok (.ret (.bool true)) ∧ OldK s₁.heap s'.heap ∧ s'.os = s₁.os ∧ AllBare s'.gens) s₁ := by
    intro H hO hS hok hA hK
    have base_of : ∀ {b : Addr} {o : Obj}, s₁.heap.get? b = some o → H b = none → (hidT s₁.heap H).get? b = some o := fun e n => hidT_get e n
    have noA : ∀ {b : Addr} {o : Obj} {es : Array DictEntry} {ep : Nat}, s₁.heap.get? b = some o → o.data = .dict es ep → H b = none := fun {b o es ep} e d => by
      cases q : H b with
      | none => rfl
      | some u =>
        have e' : b = a := hA b (by rw [q]; simp)
        subst e'
        rw [ha] at e; cases e
        have d' : Data.seq vs.toArray _ = Data.dict es ep := d
        cases d'
    have nsK : ∀ {b : Addr} {m : Str → Option Value}, s₁.heap.Ns b m → (hidT s₁.heap H).Ns b m := fun {b m} ⟨o, es, ep, e, d, r⟩ => ⟨o, es, ep, base_of e (noA e d), d, r⟩
    have hKb : K.In (hidT s₁.heap H) := fun b o e => base_of (KX b o e) (by
      cases q : H b with
      | none => rfl
      | some u =>
        have e' : b = a := hA b (by rw [q]; simp)
        subst e'
        rw [hK (by rw [q]; simp)] at e; cases e)
    have hM : Mod K mg (hidT s₁.heap H) := ⟨hKb, nsK hns, ⟨mb, nsK hb, hbb⟩, let ⟨mc, h1, h2⟩ := hlim; ⟨mc, nsK h1, h2⟩⟩
    have e0 : Env0 P w K mg (hidT s₁.heap H) callerA [] s₁ H := ⟨rfl, hM, fun b o e => of_hidT e, Nat.le_of_eq (hidT_size _ _), trivial, fun b hb => absurd (show b ∈ ([] : List Addr) from hb) (by simp), hok, .of_eq hg⟩
    refine codeAny_mono ((F _ hKb (nsK hns)).run callerA [] s₁ H ⟨[.ref a], []⟩ [.ref a] [.ref a] _ _ hr e0 (hbind s₁ (.ref a)) (.cons rfl .nil) (hsp H hO hS)) fun r s' h => ?_
    cases r with
    | error e => exact (hCX H e s' h).elim
    | ok fl =>
      cases fl with
      | next => exact False.elim h
      | brk => exact False.elim h
      | cont => exact False.elim h
      | ret u =>
        obtain ⟨v, H', os, bare, un, hok', r', q⟩ := h
        have q' : v = .bl true := q
        subst q'
        obtain rfl : u = Value.bool true := r'
        refine ⟨rfl, OldK.of_keep fun b o e => ?_, os, bare⟩
        cases q : H b with
        | none => exact un.keep b o e q (by intro z; exact absurd (show b ∈ ([] : List Addr) from z) (by simp)) (by simp)
        | some u =>
          rcases hO b with z | ⟨ob, xs, z⟩
          · rw [q] at z; cases z
          · have z2 := un.frzs b ob _ z
            obtain ⟨e1, _⟩ := hok b _ z
            obtain ⟨e2, _⟩ := hok' b _ z2
            rw [e] at e1; cases e1
            exact e2
  cases hk : K.lookup a with
  | some o =>
    -- the script is one of the module's own objects
    have e := KX a o hk
    rw [ha] at e
    cases e
    refine core (fun _ => none) (fun _ => .inl rfl) (.inr ⟨_, vs.toArray, _, hk, rfl, rfl, rfl, by rw [List.size_toArray, lenV]; exact hl, by simpa using rv⟩) (fun b u z => by have z' : (none : Option HO) = some u := z; cases z') (fun b z => absurd rfl z) fun z => absurd rfl z
  | none =>
    refine core (fun b => if b = a then some (.frz { cls := .type "list", data := .seq vs.toArray } (.lst (ns.map V.int))) else none) (fun b => ?_) (.inl (.inr ⟨{ cls := .type "list", data := .seq vs.toArray }, if_pos rfl⟩)) (fun b u z => ?_) (fun b z => ?_) fun _ => hk
    · by_cases hb : b = a
      · exact .inr ⟨_, _, if_pos hb⟩
      · exact .inl (if_neg hb)
    · by_cases hb : b = a
      · have z' := (if_pos hb).symm.trans z
        cases z'
        subst hb
        exact ⟨ha, by rw [List.length_map]; exact hl, vs, _, rv, ha⟩
      · have z' := (if_neg hb).symm.trans z
        cases z'
    · by_cases hb : b = a
      · exact hb
      · exact absurd (if_neg hb) z
end L2
namespace L2
open PySem PySem.Spec PyProof.Rows
/-- the goal that k_head leaves (case hc), from the law's promise. F gives the function object fd (K's own) once, then the promise over every base -/
theorem walk_of {l : PySem.W.OpenLaw} {n k : Nat} {q : Program} {loose : List Str} {XP : (Str → Option Value) → Heap → Prop} {YP : World → Heap → Prop} {d : DefRec} {K : Params → PySem.W.Frag} {CX : World → CXT} {sp : World → Sp} {x : Str}
    (hn : l.most = some n) (hn2 : n ≤ sizeLine) (hdf : d.params.defaults = []) (hr : Room k callerA)
    (hY : ∀ (w : World) (h : Heap), YP w h → (K w.params).In h)
    (F : ∀ (w : World) (mg : Str → Option Value) (fa : Addr) (h : Heap), (K w.params).In h → h.Ns mainGlobals mg → mg d.name = some (.ref fa) →
      ∃ fd : FuncData, (∀ (s : Shared) (u : Value), BindsTo s fd ⟨[u], []⟩ [(x, u)]) ∧
        ∀ base : Heap, (K w.params).In base → base.Ns mainGlobals mg → FnOk l.prog w (K w.params) mg base (CX w) k fa fd [x] (sp w))
    (hsp : ∀ (w : World) (H : Hp) (a : Addr) (ns : List Int), ns.length ≤ n → Only H → SqL (K w.params) H a (ns.map V.int) → sp w [.ref a] H (fun v _ => v = .bl true) fun _ _ _ => False)
    (hCX : ∀ (w : World) (H : Hp) (s : Shared) (e : Value) (s' : Shared), CX w [] H s (fun _ _ _ => False) e s' → False) :
    PySem.W.WalkO q loose XP YP l.row.toRowW d [] (fun f vs => PySem.call f vs) := by
  refine Att.attach_call hn hdf fun w s₀ s₁ mg mb fa o pm cd doc a vs ns G Y ho hd hcd hmg hobj hints hlen hg => ?_
  have KX := hY w _ Y
  obtain ⟨fd, hb, hF⟩ := F w mg fa _ KX G.T.g hmg
  exact law_call KX G.T.g G.T.b G.T.builtins G.T.nolimit hg hobj hints (Nat.le_trans hlen hn2) hr hF hb (fun H hO hS => hsp w H a ns hlen hO hS) fun H e s' => hCX w H s₁ e s'
end L2
/- THE LAST THEOREM (shape; LID, My.* are yours):
   My.Adr: a structure of the addresses that your layer names (classes, functions); My.Txt K t: a structure (Prop) of the equations over K;
   My.txt_mk : {K} {implicit addresses ..} (e1 : nsIn K mainGlobals "law" = some (some (.ref f))) (e2 : K.lookup f = some ⟨oc, od, .func (fnOf "law" "law" params body scope dV kV doc pm an cdv ct), sl⟩) (e3 : codeIn K cdv "law" = true) .. : ∃ t, My.Txt K t
set_option maxRecDepth 100000 in
set_option maxHeartbeats 0 in
theorem PySem.Challenge.cw_LID_holds : PySem.Challenge.rw_LID.Holds := by
  w_on; o_law; k_head; (case hw => w_witness2)
  k_fill
  refine L2.walk_of (l := PySem.Challenge.rw_LID) (n := 63) (k := 40) (x := "script") (CX := fun w => ..) (sp := fun _ => My.sp_law) rfl (by decide) rfl ⟨rfl, by decide, by decide⟩ (fun w h Y => PySem.W.kIn_of Y) ?F ?S ?C
  case F =>
    intro w mg fa h KX G hmg
    have T : ∃ t, My.Txt (L2.KOf KX) t := by
      dsimp only [L2.KOf]                          -- K must stand as «<heap const> w.params» for k_is
      refine' My.txt_mk ?e1 ?e2 ?e3 ..
      (case e1 => PySem.W.k_is)                    -- in the order: a name -> its address -> its object -> its parts
      (case e2 => PySem.W.k_is)
      ..
    obtain ⟨t, T⟩ := T
    have e0 := hmg.symm.trans (PySem.W.mg_of KX G T.law)
    cases e0                                       -- fa is the law's own address
    exact ⟨_, fun s u => .of_eq rfl, fun base kb nb => My.law_fn T kb nb⟩     -- if «.of_eq rfl» comes too early: refine' ⟨_, ?b, fun base kb nb => My.law_fn T kb nb⟩; exact fun s u => .of_eq rfl
  case S => exact fun w H a ns hl hO hS => ..
  case C => exact ..
(the tactic k_is has no namespace: write k_is) -/
/-! SHORT WORDS over the layer: a def of the text, its body, what a loop and a test want. -/
namespace L2
open PySem PySem.Spec PyProof.Rows
/-! ### the text by places -/
/-- the j-th statement of a class's body -/
def inClass (s : Stmt) (j : Nat) : Stmt := match s with
  | .ClassDef _ _ _ body _ _ _ _ _ _ _ => body.getD j (.Pass ⟨0, 0, 0, 0⟩)
  | _ => .Pass ⟨0, 0, 0, 0⟩
def defArgs (s : Stmt) : Arguments := match s with
  | .FunctionDef _ a _ _ _ _ _ _ _ _ => a
  | _ => { posonlyargs := [], args := [], vararg := none, kwonlyargs := [], kw_defaults := [], kwarg := none, defaults := [] }
def defBody (s : Stmt) : List Stmt := match s with
  | .FunctionDef _ _ b _ _ _ _ _ _ _ => b
  | _ => []
def defScope (s : Stmt) : Scope := match s with
  | .FunctionDef _ _ _ _ _ _ sc _ _ _ => sc
  | _ => { kind := .function, names := [], isGenerator := false, isCoroutine := false }
/-! ### no exception leaves a def -/
abbrev CX0 : CXT := fun _ _ _ _ _ _ => False
abbrev E0 : XK := fun _ _ _ => False
/-! ### a def (or method) of the text as it stands behind the top -/
structure Fun (K : PySem.W.Frag) (x qual : Str) (st : Stmt) (f : Addr) (fd : FuncData) : Prop where
  ex : ∃ (oc : Value) (od : Option Addr) (kV doc pm : Value) (an : Option Addr) (cdv ct : Value) (osl : Array (Option Value)),
    fd = PySem.W.fnOf x qual (defArgs st) (defBody st) (defScope st) .none kV doc pm an cdv ct ∧ K.lookup f = some ⟨oc, od, .func fd, osl⟩ ∧ PySem.W.codeIn K cdv qual = true
  kp : PySem.W.keepIn K (.ref f) = true
section
variable {P : Program} {w : World} {K : PySem.W.Frag} {mg : Str → Option Value} {base : Heap}
/-- how its arguments bind (no defaults): h is «fun _ _ _ _ _ _ us hl => match us, hl with | [_, _], _ => rfl», one _ a parameter -/
theorem Fun.binds {x qual : Str} {st : Stmt} {f : Addr} {fd : FuncData} {ps : List Str} (F : Fun K x qual st f fd)
    (h : ∀ (kV doc pm : Value) (an : Option Addr) (cdv ct : Value) (us : List Value), us.length = ps.length → bindArgs (PySem.W.fnOf x qual (defArgs st) (defBody st) (defScope st) .none kV doc pm an cdv ct) ⟨us, []⟩ = pure (ps.zip us)) : Binds K fd ps [] := by
  obtain ⟨oc, od, kV, doc, pm, an, cdv, ct, osl, rfl, lk, hcd⟩ := F.ex
  exact .all (h kV doc pm an cdv ct)
theorem fun_mk {x qual : Str} {st : Stmt} {f : Addr} {oc : Value} {od an : Option Addr} {osl : Array (Option Value)} {kV doc pm cdv ct : Value} (l : K.lookup f = some ⟨oc, od, .func (PySem.W.fnOf x qual (defArgs st) (defBody st) (defScope st) .none kV doc pm an cdv ct), osl⟩)
    (c : PySem.W.codeIn K cdv qual = true) (k : PySem.W.keepIn K (.ref f) = true) : Fun K x qual st f (PySem.W.fnOf x qual (defArgs st) (defBody st) (defScope st) .none kV doc pm an cdv ct) := ⟨⟨oc, od, kV, doc, pm, an, cdv, ct, osl, rfl, l, c⟩, k⟩
end
/-! ### expressions in short: the name that stands in the i-th slot -/
section
variable {X : Cx}
end
/-! ### tests -/
theorem iteF {A B : Prop} (h : B) : if false = true then A else B := by
  rw [if_neg Bool.false_ne_true]
  exact h
theorem iteT {A B : Prop} (h : A) : if true = true then A else B := by
  rw [if_pos rfl]
  exact h
theorem ite2 {c A B : Prop} [Decidable c] (h1 : c → A) (h2 : ¬ c → B) : if c then A else B := by
  by_cases h : c
  · rw [if_pos h]
    exact h1 h
  · rw [if_neg h]
    exact h2 h
/-! ### heaps -/
/-- all that was tracked is as it was -/
def Same (H H' : Hp) : Prop := ∀ b o, H b = some o → H' b = some o
theorem Same.refl (H : Hp) : Same H H := fun _ _ h => h
theorem Same.trans {H H1 H2 : Hp} (a : Same H H1) (b : Same H1 H2) : Same H H2 := fun c o h => b c o (a c o h)
theorem Same.seq {K : PySem.W.Frag} {H H' : Hp} {a : Addr} {xs : List V} (e : Same H H') (h : SqL K H a xs) : SqL K H' a xs := by
  rcases h with (h | ⟨o, h⟩) | h
  · exact .inl (.inl (e _ _ h))
  · exact .inl (.inr ⟨o, e _ _ h⟩)
  · exact .inr h
end L2
set_option maxRecDepth 100000
set_option maxHeartbeats 4000000
namespace L2
open PySem PySem.Spec PyProof.Rows
/-! ### an untracked object of ours comes to be tracked -/
section
variable {X : Cx} {pins : List (Addr × Obj)} {σ : St} {H : Hp} {s : Shared} {a : Addr} {o : HO}
theorem Inv.track (I : Inv X pins σ H s) (hn : H a = none) (h0 : X.s₀.heap.objs.size ≤ a) (hL : a ≠ X.env.locals) (hC : ∀ x c, X.env.cells.lookup x = some c → c ≠ a)
    (hp : ∀ p ∈ X.pn ++ pins, p.1 ≠ a) (new : ObjOk X.prog X.w (upd H a o) s.heap a o) : Inv X pins σ (upd H a o) s := by
  have ne0 : ∀ b u, X.s₀.heap.get? b = some u → b ≠ a := fun b u e => Nat.ne_of_lt (Nat.lt_of_lt_of_le (Heap.lt_size e) h0)
  have neH : ∀ b u, H b = some u → b ≠ a := fun b u e => ne_of_none e hn
  refine ⟨I.ok, I.os, I.bare, ⟨I.base.keep, I.base.slot, fun b u e n hx => ?_, I.base.there, fun b xs e => ?_, fun b u xs e => ?_, fun b ps e => ?_⟩, I.loc, I.cell, ?_, fun x c e => ?_, fun p q => ?_, fun b u e => ?_, I.len⟩
  · rw [upd_ne (ne0 b u e)]; exact I.base.free b u e n hx
  · have z := I.base.tups b xs e
    rw [upd_ne (neH b _ z)]; exact z
  · have z := I.base.frzs b u xs e
    rw [upd_ne (neH b _ z)]; exact z
  · obtain ⟨m, z⟩ := I.base.tbls b ps e
    exact ⟨m, by rw [upd_ne (neH b _ z)]; exact z⟩
  · rw [upd_ne (Ne.symm hL)]; exact I.free
  · rw [upd_ne (hC x c e)]; exact I.freeC x c e
  · obtain ⟨z1, z2, z3⟩ := I.pin p q
    exact ⟨z1, by rw [upd_ne (hp p q)]; exact z2, z3⟩
  · by_cases hb : b = a
    · subst hb; rw [upd_same] at e; cases e; exact new
    · rw [upd_ne hb] at e
      exact (I.hok b u e).stay (fun _ _ _ q => q) (fun c q => by rw [upd_ne (neH c _ q)]; exact q) fun c xs q => by rw [upd_ne (neH c _ q)]; exact q
end
/-! ### the cells that a block takes along -/
/-! ### the loop of a list comprehension, any target, no exception -/
section
variable {prog : Program} {w : World} {A : Around} {R : Result → Shared → Prop} {s : Shared}
end
/-! ### the context of a block -/
def fvals (σ : St) (fv : List (Str × Nat)) : St := fv.map fun p => (σ[p.2]?).join
/-- the targets of a block: one name, or a tuple of n names -/
def tgtK (K : PySem.W.Frag) : Option Nat → V → Hp → (List V → Prop) → Prop
  | none, x, _, Q => Q [x]
  | some n, x, H, Q => ∃ a xs, x = .ref a ∧ SqT K H a xs ∧ xs.length = n ∧ Q xs
/-- a block's test -/
def tCond : Option TT → TT
  | none => fun _ H k => k true H
  | some t => t
def tComp (K : PySem.W.Frag) (wi : TI) (tk : Option Nat) (fv : List (Str × Nat)) (tc : Option TT) (te : TE) : TE := fun σ H Q =>
  wi σ H fun J H1 => ∃ W : Nat → Nat → List V → Hp → Prop, (∃ m, W 0 m [] H1) ∧ ∀ i m ys H2, W i m ys H2 →
    (J.stop i H2 ∧ ∀ p, H2 p = none → Q (.ref p) (upd H2 p (.lst ys))) ∨
    (J.go i H2 ∧ ∀ x H3, J.yld i H2 x H3 → tgtK K tk x H3 fun xs =>
      tCond tc (xs.map some ++ fvals σ fv) H3 fun b H5 =>
        if b = true then te (xs.map some ++ fvals σ fv) H5 fun y H6 => ys.length < sizeLine ∧ ∃ m', m' < m ∧ W (i + 1) m' (ys ++ [y]) H6
        else ∃ m', m' < m ∧ W (i + 1) m' ys H5)
section
variable {X : Cx} {pins : List (Addr × Obj)} {σ : St} {H : Hp} {s₂ s₃ : Shared} {scope : Scope} {ln : List Str} {fv : List (Str × Nat)} {fp : List Addr} {h₁ : Heap} {D C : Addr} {m : Str → Option Value} {t : Nat}
end
/-! ### walking, under a wish for the context -/
/-! ### the block itself -/
section
variable {X : Cx} {pins : List (Addr × Obj)} {σ : St} {H : Hp} {s₂ : Shared} {scope : Scope} {ln : List Str} {fv : List (Str × Nat)} {elt tg iter : Expr} {ifs : List Expr} {pos : Pos}
  {J : It} {fp : List Addr} {it : Addr} {tn : Nat → Heap → Prop} {tk : Option Nat} {tc : Option TT} {te : TE} {Qv : VK} {RR : Value → Addr → Result → Shared → Prop} {E : Value → Shared → Prop}
end
section
variable {X : Cx} {scope : Scope} {ln : List Str} {fv : List (Str × Nat)} {elt tg iter : Expr} {ifs : List Expr} {pos : Pos} {wi : TI} {tk : Option Nat} {tc : Option TT} {te : TE}
end
/-! ### targets of a block -/
section
variable {X : Cx} {scope : Scope} {fv : List (Str × Nat)}
end
end L2
set_option maxRecDepth 100000
set_option maxHeartbeats 4000000
namespace L2
open PySem PySem.Spec PyProof.Rows
section
variable {X : Cx}
theorem OpR.imp {f : Value → Value → Sem Value} {r r' : R2} (h : OpR X f r) (i : ∀ x y H Q, r' x y H Q → r x y H Q) : OpR X f r' := fun pins s σ H x y v u Q I rx ry q => h pins s σ H x y v u Q I rx ry (i _ _ _ _ q)
theorem CallR.imp {f : Value} {r r' : List V → Hp → VK → Prop} (h : CallR X f r) (i : ∀ xs H Q, r' xs H Q → r xs H Q) : CallR X f r' := fun pins s σ H xs us Q I rv q => h pins s σ H xs us Q I rv (i _ _ _ q)
/-! ### + of ints, texts, lists, tuples -/
def rAddV (K : PySem.W.Frag) : R2 := fun x y H Q => match x, y with
  | .int i, .int j => Q (.int (i + j)) H
  | .str i, .str j => i.length + j.length ≤ sizeLine ∧ Q (.str (i ++ j)) H
  | .ref l, .ref b => rCat (.ref l) (.ref b) H Q ∨ rCatT K (.ref l) (.ref b) H Q
  | _, _ => False
theorem op_addV : OpR X (binaryOp .Add) (rAddV X.K) := by
  refine OpR.imp ((op_add.or op_add_str).or (op_cat.or op_catT)) fun x y H Q h => ?_
  cases x <;> cases y <;> first
    | exact False.elim h
    | exact .inl (.inl ⟨_, _, rfl, rfl, h⟩)
    | exact .inl (.inr ⟨_, _, rfl, rfl, h⟩)
    | exact .inr h
/-! ### ints -/
def rI2 (C : Int → Int → Prop) (g : Int → Int → V) : R2 := fun x y H Q => match x, y with
  | .int i, .int j => C i j ∧ Q (g i j) H
  | _, _ => False
theorem rI2_imp {C : Int → Int → Prop} {g : Int → Int → V} (x y : V) (H : Hp) (Q : VK) (h : rI2 C g x y H Q) : rI C g x y H Q := by
  cases x <;> cases y <;> first
    | exact False.elim h
    | exact ⟨_, _, rfl, rfl, h⟩
theorem rI2_imp0 {g : Int → Int → V} (x y : V) (H : Hp) (Q : VK) (h : rI2 (fun _ _ => True) g x y H Q) : rI0 g x y H Q := by
  cases x <;> cases y <;> first
    | exact False.elim h
    | exact ⟨_, _, rfl, rfl, h.2⟩
/-! ### * of ints, a list times an int -/
def rMulV : R2 := fun x y H Q => match x, y with
  | .int i, .int j => CMul i j ∧ Q (.int (i * j)) H
  | .ref l, .int k => rRep (.ref l) (.int k) H Q
  | _, _ => False
theorem op_mulV : OpR X (binaryOp .Mult) rMulV := by
  refine OpR.imp (op_mul.or op_rep) fun x y H Q h => ?_
  cases x <;> cases y <;> first
    | exact False.elim h
    | exact .inl ⟨_, _, rfl, rfl, h⟩
    | exact .inr h
def rBin (K : PySem.W.Frag) : Operator → R2
  | .Add => rAddV K
  | .Sub => rI2 (fun _ _ => True) fun i j => .int (i - j)
  | .Mult => rMulV
  | .FloorDiv => rI2 CDiv fun i j => .int (i / j)
  | .Mod => rI2 (fun _ j => 0 < j) fun i j => .int (i % j)
  | .Pow => rI2 CPow fun i j => .int (i ^ j.toNat)
  | _ => fun _ _ _ _ => False
theorem op_bin (op : Operator) : OpR X (binaryOp op) (rBin X.K op) := by
  cases op <;> first
    | exact op_addV
    | exact OpR.imp op_sub rI2_imp0
    | exact op_mulV
    | exact OpR.imp op_fdiv rI2_imp
    | exact OpR.imp op_mod rI2_imp
    | exact OpR.imp op_pow rI2_imp
    | exact fun _ _ _ _ _ _ _ _ _ _ _ _ h => False.elim h
/-! ### data of any depth, by the abstract heap -/
mutual
def Is (H : Hp) : PyData → V → Prop
  | .none, v => v = .non
  | .bool b, v => v = .bl b
  | .int i, v => v = .int i
  | .str x, v => v = .str x
  | .list xs, v => ∃ a vs, v = .ref a ∧ H a = some (.lst vs) ∧ IsL H xs vs
  | .tuple xs, v => ∃ a vs, v = .ref a ∧ H a = some (.tup vs) ∧ IsL H xs vs
  | .dict _, _ => False
def IsL (H : Hp) : List PyData → List V → Prop
  | [], vs => vs = []
  | d :: ds, vs => ∃ v r, vs = v :: r ∧ Is H d v ∧ IsL H ds r
end
mutual
theorem Is.reads {pins : List (Addr × Obj)} {σ : St} {H : Hp} {s : Shared} (I : Inv X pins σ H s) : ∀ (d : PyData) (v : V) (u : Value), Is H d v → RelV v u → ∃ as, Reads s.heap u d as
  | .none, v, u, h, r => by rw [show v = .non from h] at r; rw [show u = .none from r]; exact ⟨_, .none⟩
  | .bool b, v, u, h, r => by rw [show v = .bl b from h] at r; rw [show u = .bool b from r]; exact ⟨_, .bool b⟩
  | .int i, v, u, h, r => by rw [show v = .int i from h] at r; obtain ⟨t, e⟩ := r; rw [e]; exact ⟨_, .int i t⟩
  | .str x, v, u, h, r => by rw [show v = .str x from h] at r; obtain ⟨t, e⟩ := r; rw [e]; exact ⟨_, .str x t⟩
  | .list xs, v, u, h, r => by
    obtain ⟨a, vs, e, hH, hl⟩ := (show ∃ a vs, v = .ref a ∧ H a = some (.lst vs) ∧ IsL H xs vs by simpa only [Is] using h)
    rw [e] at r
    rw [show u = .ref a from r]
    obtain ⟨_, its, n, hv, hg⟩ := I.hok a _ hH
    obtain ⟨as, q⟩ := IsL.reads I xs vs its hl hv
    exact ⟨_, .list hg rfl rfl (by simpa using q)⟩
  | .tuple xs, v, u, h, r => by
    obtain ⟨a, vs, e, hH, hl⟩ := (show ∃ a vs, v = .ref a ∧ H a = some (.tup vs) ∧ IsL H xs vs by simpa only [Is] using h)
    rw [e] at r
    rw [show u = .ref a from r]
    obtain ⟨_, its, hv, o, hg, hc, n, hd⟩ := I.hok a _ hH
    obtain ⟨as, q⟩ := IsL.reads I xs vs its hl hv
    exact ⟨_, .tuple hg hc hd (by simpa using q)⟩
  | .dict _, v, u, h, r => by simp only [Is] at h
theorem IsL.reads {pins : List (Addr × Obj)} {σ : St} {H : Hp} {s : Shared} (I : Inv X pins σ H s) : ∀ (ds : List PyData) (vs : List V) (us : List Value), IsL H ds vs → Vals vs us → ∃ as, ReadsAll s.heap us ds as
  | [], vs, us, h, r => by
    rw [show vs = [] from h] at r
    cases r
    exact ⟨_, .nil⟩
  | d :: ds, vs, us, h, r => by
    obtain ⟨v, q, e, h1, h2⟩ := (show ∃ v r, vs = v :: r ∧ Is H d v ∧ IsL H ds r by simpa only [IsL] using h)
    rw [e] at r
    cases r with
    | cons r1 r2 =>
      obtain ⟨as, q1⟩ := Is.reads I d v _ h1 r1
      obtain ⟨bs, q2⟩ := IsL.reads I ds q _ h2 r2
      exact ⟨_, .cons q1 q2⟩
end
/-! ### ==, != -/
def rEqV (neg : Bool) : R2 := fun x y H Q => match scal x y with
  | true => Q (.bl (neg ^^ decide (x = y))) H
  | false => ∃ d e, Is H d x ∧ Is H e y ∧ SeqAt.shaped d = true ∧ SeqAt.shaped e = true ∧ Q (.bl (neg ^^ PyData.eqv d e)) H
theorem op_eqV (hu : X.A.units + 64 < cLine) : OpR X (compareOp .Eq) (rEqV false) := by
  intro pins s σ H x y v u Q I rx ry h
  unfold rEqV at h
  by_cases hs : scal x y = true
  · rw [hs] at h
    simp only [Bool.false_xor] at h
    exact op_eq pins s σ H x y v u Q I rx ry ⟨hs, h⟩
  · rw [show scal x y = false by simpa using hs] at h
    obtain ⟨d, e, h1, h2, h3, h4, q⟩ := h
    rw [Bool.false_xor] at q
    obtain ⟨as, r1⟩ := Is.reads I d x v h1 rx
    obtain ⟨bs, r2⟩ := Is.reads I e y u h2 ry
    exact eq_dataH r1 r2 h3 h4 hu ⟨.bl _, H, I, rfl, q⟩
theorem op_neV (hu : X.A.units + 64 < cLine) : OpR X (compareOp .NotEq) (rEqV true) := by
  intro pins s σ H x y v u Q I rx ry h
  unfold rEqV at h
  by_cases hs : scal x y = true
  · rw [hs] at h
    simp only [Bool.true_xor] at h
    exact op_ne pins s σ H x y v u Q I rx ry ⟨hs, h⟩
  · rw [show scal x y = false by simpa using hs] at h
    obtain ⟨d, e, h1, h2, h3, h4, q⟩ := h
    rw [Bool.true_xor] at q
    obtain ⟨as, r1⟩ := Is.reads I d x v h1 rx
    obtain ⟨bs, r2⟩ := Is.reads I e y u h2 ry
    exact ne_dataH r1 r2 h3 h4 hu ⟨.bl _, H, I, rfl, q⟩
/-! ### is, in -/
theorem dict_eq_no_str (l : Addr) (o : Obj) (es : Array DictEntry) (ep : Nat) (hc : o.cls = .type "dict") (hd : o.data = .dict es ep) (b : Str) (u : Tok) :
    Meets (Builtin.«dict.__eq__» ⟨[.ref l, .str b u], []⟩) (fun _ R s => s.heap.get? l = some o ∧ R (.ok (.ret .notImplemented)) s) :=
  .of_wp fun prog w A R s h => by obtain ⟨hp, g, d, tk, os⟩ := s; obtain ⟨hl, h⟩ := h; obtain ⟨cls, dd, data, sl⟩ := o; simp only at hc hd; subst hc hd; have f1 := F.sub_str_dict; wp_walk using AutoSeq1.wpAny_loadPart' hl; exact ⟨_, rfl, h⟩
theorem str_eq_no_dict (b : Str) (u : Tok) (l : Addr) (o : Obj) (es : Array DictEntry) (ep : Nat) (hc : o.cls = .type "dict") (hd : o.data = .dict es ep) :
    Meets (Builtin.«str.__eq__» ⟨[.str b u, .ref l], []⟩) (fun _ R s => s.heap.get? l = some o ∧ R (.ok (.ret .notImplemented)) s) :=
  .of_wp fun prog w A R s h => by obtain ⟨hp, g, d, tk, os⟩ := s; obtain ⟨hl, h⟩ := h; obtain ⟨cls, dd, data, sl⟩ := o; simp only at hc hd; subst hc hd; wp_walk using AutoSeq1.wpAny_loadPart' hl, wpAny_load hl; exact ⟨_, rfl, h⟩
theorem eqAt_str_dict {A : Around} {s : Shared} {l : Addr} {o : Obj} {es : Array DictEntry} {ep : Nat} (b : Str) (u : Tok) (ho : s.heap.get? l = some o) (hc : o.cls = .type "dict") (hd : o.data = .dict es ep) (hu : A.units < cLine) : SeqAt.EqAt A s (.str b u) (.ref l) false := fun prog w E Q h => by
  have rc : SeqAt.RcAt A s (.str b u) (.ref l) false := fun prog w E Q h =>
    SeqAt.rc_eq_decline_or (k := false) (typeIs_str s b u) ⟨_, ho, hc⟩ (by decide) F.sub_dict_str F.slot_str_eq F.slot_dict_eq_refl
      (fun _ hq => call_meets F.slot_str_eq (typeIs_str s b u) F.entry_str_eq (F.args_str_eq_2 _ _) (str_eq_no_dict b u l o es ep hc hd) ⟨ho, hq⟩)
      (fun _ hq => call_meets F.slot_dict_eq_refl ⟨_, ho, hc⟩ F.entry_dict_eq (F.args_dict_eq_2 _ _) (dict_eq_no_str l o es ep hc hd b u) ⟨ho, hq⟩)
      (fun _ hq => wpAny_of_eq (rfl : isSame (.str b u) (.ref l) = pure false) hq) (.inr hu) h
  unfold eqBool
  refine wpAny_holding ?_
  refine wpAny_ite_split (fun hab => absurd (eq_of_beq hab) nofun) (fun _ => ?_)
  exact wpAny_bind (rc prog w E _ (wpAny_truthy_bool h))
/-- a list, a tuple or a dict -/
def Cont (K : PySem.W.Frag) (H : Hp) (a : Addr) : Prop := (∃ xs, SqL K H a xs) ∨ (∃ xs, SqT K H a xs) ∨ ∃ kvs, H a = some (.dK kvs)
theorem str_no_cont {pins : List (Addr × Obj)} {σ : St} {H : Hp} {s : Shared} {a : Addr} (I : Inv X pins σ H s) (hc : Cont X.K H a) (hu : X.A.units + 64 < cLine) : ∀ {ts : List Str} {us : List Value}, Vals (ts.map V.str) us → ∀ u ∈ us, SeqAt.EqAt X.A.in1 s u (.ref a) false
  | [], _, .nil => fun u hu => by cases hu
  | t :: ts, u :: us, .cons r rs => fun u' hu' => by
    rcases List.mem_cons.mp hu' with rfl | hu'
    · obtain ⟨k, rfl⟩ := (show ∃ k, _ = Value.str t k from r)
      have hu1 : X.A.in1.units < cLine := by show X.A.units + 1 < cLine; omega
      rcases hc with ⟨xs, hc⟩ | ⟨xs, hc⟩ | ⟨kvs, hc⟩
      · obtain ⟨its, _, pl, _⟩ := I.list hc
        exact SeqAt.EqAt.str_list t k pl.isList hu1
      · obtain ⟨its, _, pl, _⟩ := I.tuple hc
        exact SeqAt.EqAt.str_tuple t k pl hu1
      · obtain ⟨_, _, vs, _, o, es, ep, ho, hx, hd, _⟩ := (show ObjOk X.prog X.w H s.heap a (.dK kvs) from I.hok a _ hc)
        exact eqAt_str_dict t k ho hx.1 hd hu1
    · exact str_no_cont I hc hu rs u' hu'
def rInV (K : PySem.W.Frag) (neg : Bool) : R2 := fun x y H Q => match y with
  | .str j => ∃ i, x = .str i ∧ Q (.bl (if neg then !(!(Builtin.Str.occurrences j i 0 j.length 1).isEmpty) else !(Builtin.Str.occurrences j i 0 j.length 1).isEmpty)) H
  | .ref p => match x with
    | .ref a => ∃ ts : List Str, (SqL K H p (ts.map V.str) ∨ SqT K H p (ts.map V.str)) ∧ Cont K H a ∧ Q (.bl neg) H
    | x => rIn K neg x (.ref p) H Q
  | _ => False
theorem op_inV (hu : X.A.units + 64 < cLine) : OpR X (compareOp .In) (rInV X.K false) := by
  intro pins s σ H x y v u Q I rx ry h
  cases y with
  | str j =>
    obtain ⟨i, e, q⟩ := h
    exact op_in_str pins s σ H x _ v u Q I rx ry ⟨i, j, e, rfl, q⟩
  | ref p =>
    cases x with
    | ref a =>
      obtain ⟨ts, hq, hc, q⟩ := h
      cases rx
      cases ry
      rcases hq with hq | hq
      · obtain ⟨its, r, pl, hz⟩ := I.list hq
        refine SeqAt.in_listAt (fun _ => false) pl.isList (fun w hw => str_no_cont I hc hu r w (by simpa using hw)) ⟨.bl _, H, I, rfl, ?_⟩
        rw [show (its.toArray.any fun _ => false) = false by simp]; exact q
      · obtain ⟨its, r, pl, hz⟩ := I.tuple hq
        refine SeqAt.in_tupleAt (fun _ => false) pl (fun w hw => str_no_cont I hc hu r w (by simpa using hw)) ⟨.bl _, H, I, rfl, ?_⟩
        rw [show (its.toArray.any fun _ => false) = false by simp]; exact q
    | _ => exact op_in_seq pins s σ H _ _ v u Q I rx ry h
  | _ => exact False.elim h
theorem op_notInV (hu : X.A.units + 64 < cLine) : OpR X (compareOp .NotIn) (rInV X.K true) := by
  intro pins s σ H x y v u Q I rx ry h
  cases y with
  | str j =>
    obtain ⟨i, e, q⟩ := h
    exact op_notin_str pins s σ H x _ v u Q I rx ry ⟨i, j, e, rfl, q⟩
  | ref p =>
    cases x with
    | ref a =>
      obtain ⟨ts, hq, hc, q⟩ := h
      cases rx
      cases ry
      rcases hq with hq | hq
      · obtain ⟨its, r, pl, hz⟩ := I.list hq
        refine SeqAt.notIn_listAt (fun _ => false) pl.isList (fun w hw => str_no_cont I hc hu r w (by simpa using hw)) ⟨.bl _, H, I, rfl, ?_⟩
        rw [show (its.toArray.any fun _ => false) = false by simp]; exact q
      · obtain ⟨its, r, pl, hz⟩ := I.tuple hq
        refine SeqAt.notIn_tupleAt (fun _ => false) pl (fun w hw => str_no_cont I hc hu r w (by simpa using hw)) ⟨.bl _, H, I, rfl, ?_⟩
        rw [show (its.toArray.any fun _ => false) = false by simp]; exact q
    | _ => exact op_notIn_seq pins s σ H _ _ v u Q I rx ry h
  | _ => exact False.elim h
theorem is_bool_gen {M : Model} {A : Around} {E : Value → Shared → Prop} {s : Shared} {Q : Value → Shared → Prop} {v : Value} {d : Bool} (hv : ∀ id, v ≠ .builtin id) (h : Q (.bool (v == .bool d)) s) : wpAny M A (compareOp .Is v (.bool d)) Q E s := by
  cases v <;> first | exact wpAny_pure h | exact absurd rfl (hv _)
theorem isnot_bool_gen {M : Model} {A : Around} {E : Value → Shared → Prop} {s : Shared} {Q : Value → Shared → Prop} {v : Value} {d : Bool} (hv : ∀ id, v ≠ .builtin id) (h : Q (.bool (!(v == .bool d))) s) : wpAny M A (compareOp .IsNot v (.bool d)) Q E s := by
  cases v <;> first | exact wpAny_pure h | exact absurd rfl (hv _)
def rIsV : R2 := fun x y H Q => match y with
  | .bl b => Q (.bl (decide (x = .bl b))) H
  | _ => y = .non ∧ Q (.bl (decide (x = .non))) H
def rIsNotV : R2 := fun x y H Q => match y with
  | .bl b => Q (.bl (!decide (x = .bl b))) H
  | _ => y = .non ∧ Q (.bl (!decide (x = .non))) H
theorem op_isV : OpR X (compareOp .Is) rIsV := by
  intro pins s σ H x y v u Q I rx ry h
  cases y with
  | bl b =>
    cases ry
    have nb : ∀ id, v ≠ .builtin id := fun id z => by
      subst z
      cases x <;> first
        | (obtain ⟨t, e⟩ := rx; cases e; done)
        | (cases rx; done)
    refine is_bool_gen nb (fin_bl I (show Q (.bl (decide (x = .bl b))) H from h) ?_)
    cases x <;> first
      | (cases rx; rfl)
      | (obtain ⟨t, rfl⟩ := rx; rfl)
      | (cases rx; rename_i a; cases a <;> cases b <;> rfl)
  | _ => exact op_isN pins s σ H x _ v u Q I rx ry h
theorem op_isNotV : OpR X (compareOp .IsNot) rIsNotV := by
  intro pins s σ H x y v u Q I rx ry h
  cases y with
  | bl b =>
    cases ry
    have nb : ∀ id, v ≠ .builtin id := fun id z => by
      subst z
      cases x <;> first
        | (obtain ⟨t, e⟩ := rx; cases e; done)
        | (cases rx; done)
    refine isnot_bool_gen nb (fin_bl I (show Q (.bl (!decide (x = .bl b))) H from h) ?_)
    cases x <;> first
      | (cases rx; rfl)
      | (obtain ⟨t, rfl⟩ := rx; rfl)
      | (cases rx; rename_i a; cases a <;> cases b <;> rfl)
  | _ => exact op_notN pins s σ H x _ v u Q I rx ry h
/-! ### all comparisons -/
def rCmp (K : PySem.W.Frag) : CmpOp → R2
  | .Eq => rEqV false
  | .NotEq => rEqV true
  | .Lt => rI2 (fun _ _ => True) fun i j => .bl (decide (i < j))
  | .LtE => rI2 (fun _ _ => True) fun i j => .bl (decide (i ≤ j))
  | .Gt => rI2 (fun _ _ => True) fun i j => .bl (decide (j < i))
  | .GtE => rI2 (fun _ _ => True) fun i j => .bl (decide (j ≤ i))
  | .In => rInV K false
  | .NotIn => rInV K true
  | .Is => rIsV
  | .IsNot => rIsNotV
theorem op_cmp (hu : X.A.units + 64 < cLine) (op : CmpOp) : OpR X (compareOp op) (rCmp X.K op) := by
  cases op with
  | Eq => exact op_eqV hu
  | NotEq => exact op_neV hu
  | Lt => exact OpR.imp op_lt rI2_imp0
  | LtE => exact OpR.imp op_le rI2_imp0
  | Gt => exact OpR.imp op_gt rI2_imp0
  | GtE => exact OpR.imp op_ge rI2_imp0
  | In => exact op_inV hu
  | NotIn => exact op_notInV hu
  | Is => exact op_isV
  | IsNot => exact op_isNotV
/-! ### isinstance(x, T), T one of Python's own -/
inductive Ty where | int | str | bool | list | tuple | dict
  deriving DecidableEq
def Ty.nm : Ty → String
  | .int => "int" | .str => "str" | .bool => "bool" | .list => "list" | .tuple => "tuple" | .dict => "dict"
def isiV (T : Ty) (x : V) (H : Hp) (Q : Bool → Prop) : Prop := match x with
  | .non => Q false
  | .bl _ => Q (T == .bool || T == .int)
  | .int _ => Q (T == .int)
  | .str _ => Q (T == .str)
  | .ref a => match H a with
    | some (.lst _) => Q (T == .list)
    | some (.frz _ (.lst _)) => Q (T == .list)
    | some (.tup _) => Q (T == .tuple)
    | some (.dK _) => Q (T == .dict)
    | some (.dT _) => Q (T == .dict)
    | _ => False
  | _ => False
theorem kit_tys (K : PySem.W.Frag) (S T : Ty) : PySem.W.kitOne K (.type S.nm) (.type T.nm) = some (S == T || (S == .bool && T == .int)) := by
  cases S <;> cases T <;> rfl
theorem kit_none (K : PySem.W.Frag) (T : Ty) : PySem.W.kitOne K (.type "NoneType") (.type T.nm) = some false := by
  cases T <;> rfl
/-! ### sum of ints -/
theorem call_sumI (hc : X.calm = true) : CallR X (.builtin "sum") (fun xs H Q => ∃ (p : Addr) (ns : List Int), xs = [.ref p] ∧ SqL X.K H p (ns.map V.int) ∧ Q (.int ns.sum) H) := by
  intro pins s σ H xs us Q I r h
  obtain ⟨p, ns, rfl, hq, q⟩ := h
  obtain ⟨u, rfl, ru⟩ := vals1 r
  cases ru
  obtain ⟨its, rv, pl, hz⟩ := I.list hq
  have hi := intsAre_of rv
  obtain ⟨xs, hx⟩ := hi.allInts.items
  have hl' : s.heap.IsList p (intItems xs) := hx ▸ pl.isList
  refine sum_intListG (I.ok.hd hc) hl' fun h' tk t' hk => ?_
  have e1 : ns = xs.toList.map (·.1) := by
    rw [← nums_intItems, ← hx]
    exact (show numsOf its.toArray.toList = ns from hi.numsOf).symm
  have e2 : preSum (numAt xs) xs.size = ns.sum := by
    rw [preSum_eq, List.take_of_length_le (by simp), e1]
  rw [e2]
  exact ⟨.int ns.sum, H, I.kept (t' := tk) hk, ⟨t', rfl⟩, q⟩
/-! ### texts -/
theorem strs_of : ∀ {ts : List Str} {us : List Value}, Vals (ts.map V.str) us → ∃ l : List (Str × Tok), us = strValues l ∧ l.map (·.1) = ts
  | [], _, .nil => ⟨[], rfl, rfl⟩
  | x :: ts, _, .cons ⟨t, e⟩ r => by
    obtain ⟨l, e1, e2⟩ := strs_of r
    subst e e1
    exact ⟨(x, t) :: l, rfl, by simp [e2]⟩
def rJoin (K : PySem.W.Frag) : V → List V → Hp → VK → Prop := fun x vs H Q => ∃ (sep : Str) (p : Addr) (ts : List Str), x = .str sep ∧ vs = [.ref p] ∧ SqL K H p (ts.map V.str) ∧ JoinOk sep ts = true ∧ Q (.str (Txt.join sep ts)) H
theorem mt_join : MtR X "str.join" (rJoin X.K) := by
  intro pins s σ H x vs v us Q I rx rv h
  obtain ⟨sep, p, ts, rfl, rfl, hq, hj, q⟩ := h
  obtain ⟨t, rfl⟩ := rx
  obtain ⟨u, rfl, ru⟩ := vals1 rv
  cases ru
  obtain ⟨its, rv, pl, hz⟩ := I.list hq
  obtain ⟨l, rfl, e2⟩ := strs_of rv
  exact SC.join pl.isList e2 hj fun t' k => ⟨.str _, H, I.tok k, ⟨t', rfl⟩, q⟩
def rLstrip : V → List V → Hp → VK → Prop := fun x vs H Q => ∃ z y, x = .str z ∧ vs = [.str y] ∧ z.length ≤ sizeLine ∧ Q (.str (Txt.lstripChars z y)) H
theorem mt_lstrip : MtR X "str.lstrip" rLstrip := by
  intro pins s σ H x vs v us Q I rx rv h
  obtain ⟨z, y, rfl, rfl, hz, q⟩ := h
  obtain ⟨t, rfl⟩ := rx
  obtain ⟨u, rfl, ⟨t2, rfl⟩⟩ := vals1 rv
  refine call_gives F.slot_str_lstrip (typeIs_str _ _ _) F.entry_str_lstrip (F.args_str_lstrip_2 _ _) (gives_str_lstrip_chars z y t t2) (post_val_or_made (fun _ => fits_stripped _ _ _ hz) fun t' k => ?_)
  exact ⟨.str _, H, I.tok k, ⟨t', rfl⟩, q⟩
def rStarts : V → List V → Hp → VK → Prop := fun x vs H Q => ∃ z y i, x = .str z ∧ vs = [.str y, .int i] ∧ Q (.bl (decide (fromIndex z.length i + y.length ≤ z.length) && Builtin.Str.subAt z y (fromIndex z.length i))) H
theorem mt_starts : MtR X "str.startswith" rStarts := by
  intro pins s σ H x vs v us Q I rx rv h
  obtain ⟨z, y, i, rfl, rfl, q⟩ := h
  obtain ⟨t, rfl⟩ := rx
  obtain ⟨u, w, rfl, ⟨t2, rfl⟩, ⟨t3, rfl⟩⟩ := vals2 rv
  exact call_gives F.slot_str_startswith (typeIs_str _ _ _) F.entry_str_startswith (F.args_str_startswith_3 _ _ _) (gives_str_startswith_from z y i t t2 t3) ⟨.bl _, H, I, rfl, q⟩
/-! ### z[lo:hi] -/
def cutL {α : Type} (xs : List α) (lo hi : Option Int) : List α := (xs.drop (HT.sIx xs.length 0 lo)).take (HT.sIx xs.length xs.length hi - HT.sIx xs.length 0 lo)
def cutS (z : Str) (lo hi : Option Int) : Str := ⟨(cutL z.cps.toList lo hi).toArray⟩
theorem picked_cut (z : Str) (lo hi : Option Int) : ((Builtin.Str.strSliceIndices lo hi 1 z.length).filterMap (z.cps[·]?)) = cutL z.cps.toList lo hi := by
  obtain ⟨h1, h2, h3⟩ := slice_bounds lo hi z.length
  have e0 : Builtin.Str.strSliceIndices lo hi 1 z.length = sliceRange (sliceBounds lo hi none z.length).1 (sliceBounds lo hi none z.length).2.1 (sliceBounds lo hi none z.length).2.2 := rfl
  have hz : z.cps.toList.length = z.length := by simp [Str.length]
  rw [e0, h1, h2, h3, sliceRange_one, pick_run]
  unfold cutL
  rw [hz]
end
end L2
set_option maxRecDepth 100000
set_option maxHeartbeats 4000000
namespace L2
open PySem PySem.Spec PyProof.Rows
/-! ### exceptions: what a reading says of them -/
/-- a caught exception stays as it is -/
def excU : HO := .ext fun _ => True
structure ExcObj (ob : Obj) (cls : Value) (vs : Array Value) : Prop where
  cls : ob.cls = cls
  data : ob.data = .fields vs
  noCx : vs[2]? = some .none
  dict : ob.dict = none
/-- the exception at ea, of the class at D -/
def ExcAt (H : Hp) (ea D : Addr) : Prop := ∃ ob vs, H ea = some (.frz ob excU) ∧ ExcObj ob (.ref D) vs
/-- a class of exceptions -/
structure ExcCls (K : PySem.W.Frag) (D : Addr) : Prop where
  hga : PySem.W.findIn K (.ref D) "__getattribute__" = some (some (.builtin "BaseException.__getattribute__"))
  hgn : PySem.W.findIn K (.ref D) "__getattr__" = some none
  hk : (PySem.W.clsIn K D).isSome = true
  ha : PySem.W.findIn K (.ref D) "__class__" = some (some (.builtin "object.__class__"))
  hn : PySem.W.specialIn K (.builtin "object.__class__") "__get__" = some (some (.builtin "getset_descriptor.__get__"))
  htk : PySem.W.takesIn K (.builtin "object.__class__") = some true
  hm : PySem.W.mroIn K D (.type "object") = some true
  hb : PySem.W.mroIn K D (.type "BaseException") = some true
def cV : V → Value
  | .ref a => .ref a
  | .ty n => .type n
  | _ => .none
def rIsx (K : PySem.W.Frag) : List V → Hp → VK → Prop
  | [.ref ea, c], H, Q => ∃ D b, ExcAt H ea D ∧ ExcCls K D ∧ ((∃ C, c = .ref C) ∨ ∃ n, c = .ty n) ∧ PySem.W.kitOne K (.ref D) (cV c) = some b ∧ Q (.bl b) H
  | _, _, _ => False
/-- f(e), f a def that an except suite calls -/
def tWrd (sp : Sp) (hv : Option Addr) (t : TA) : TE := fun σ H Q => t σ H fun vs H1 => (∃ ea D, hv = some ea ∧ ExcAt H1 ea D) ∧ sp vs H1 Q E0
def sRaise (C : Addr) (E : XK) (t : TA) : TS := fun _ σ H => t σ H fun vs H1 => vs.length ≤ sizeLine ∧ E (.ref C) none H1
/-- try: ..; except C as n: .. (which returns) -/
def eTry (K : PySem.W.Frag) (C : Addr) (i n : Nat) (th : Addr → TS) (D : Ends) : XK := fun cls _ H' => PySem.W.exmOne K cls (.ref C) = some true ∧
  ∀ (ea : Addr) (ob : Obj) (vs : Array Value) (σ' : St), H' ea = none → σ'.length = n → ExcObj ob cls vs → th ea { nx := fun _ _ => False, rt := D.rt } (σ'.set i (some (.ref ea))) (upd H' ea (.frz ob excU))
def sTry (K : PySem.W.Frag) (C : Addr) (i n : Nat) (tb : XK → TS) (th : Addr → TS) : TS := fun D σ H => tb (eTry K C i n th D) { nx := D.nx, rt := D.rt } σ H
/-! ### a short language for the program's own rows, and how it is read -/
inductive Blt where | len | min | max | sum | int | list | tuple | abs
  deriving DecidableEq
inductive Mth where | append | pop | extend | join | lstrip | starts | reverse | clear | index | find | count | cntL | idxL
  deriving DecidableEq
inductive IK where | list | tup | rng | rng2 | zip | enm
  deriving DecidableEq
inductive RE where
  | v (i : Nat) | c (x : V) | g (j : Nat)
  | bin (op : Operator) (a b : RE) | neg (a : RE)
  | cmp (op : CmpOp) (a b : RE) | cmp2 (op op' : CmpOp) (a b d : RE) | cmp3 (op op' op2 : CmpOp) (a b d f : RE)
  | and (as : List RE) | or (as : List RE) | not (a : RE) | ife (t a b : RE)
  | call (j : Nat) (as : List RE) | blt (b : Blt) (as : List RE) | isi (T : Ty) (a : RE)
  | mth (m : Mth) (o : RE) (as : List RE)
  | ix (a b : RE) | sl (a : RE) (lo hi : Option RE)
  | tup (as : List RE) | lst (as : List RE)
  | comp (tk : Option Nat) (fv : List (Str × Nat)) (k : IK) (its : List RE) (cond : Option RE) (elt : RE)
  | isx (a c : RE) | wrd (j : Nat) (a : RE) | dct
  | fld (o : RE) (f : Str) | meth (j : Nat) (m : Str) (o : RE) (as : List RE) | make (j : Nat) (as : List RE)
inductive RS where
  | asg (i : Nat) (e : RE) | asgC (i : Nat) (e : RE) | set (o ix e : RE)
  | drop (e : RE) | ret (e : RE) | retN
  | ite (c : RE) (t e : List RS)
  | for1 (i : Nat) (k : IK) (its : List RE) (body : List RS)
  | forT (is : List Nat) (k : IK) (its : List RE) (body : List RS)
  | whl (c : RE) (body : List RS)
  | pass | brk | cont | never
  | setSl (o lo hi e : RE) | setf (o : RE) (f : Str) (e : RE)
  | asgT (is : List Nat) (e : RE) | rais (j : Nat) (as : List RE) | tryr (n i j : Nat) (body su : List RS)
structure RCx where
  K : PySem.W.Frag
  fs : Nat → Sp
  gv : Nat → V
  E : XK
  sd : Addr → List (Key × V) → Prop
  ms : Nat → Addr × Sp
  kt : Nat → Addr × Sp
  ex : Nat → Addr
  hs : Nat → Sp
  hv : Option Addr
abbrev RCx.calm (Γ : RCx) : RCx := { Γ with E := E0 }
/-- a value's truth -/
def tru (K : PySem.W.Frag) (x : V) (H : Hp) (Q : Bool → Prop) : Prop := match x with
  | .non => Q false
  | .bl b => Q b
  | .int i => Q (i != 0)
  | .str y => y.length ≤ sizeLine ∧ Q ((y.length : Int) != 0)
  | .ref p => (∃ xs, SqL K H p xs ∧ Q (!xs.isEmpty)) ∨ (∃ xs, SqT K H p xs ∧ Q (!xs.isEmpty)) ∨ ∃ kvs, H p = some (.dK kvs) ∧ Q (!kvs.isEmpty)
  | _ => False
theorem tru_of {K : PySem.W.Frag} {x : V} {H : Hp} {Q : Bool → Prop} (h : tru K x H Q) : ∃ k, TruV K x H k ∧ Q k := by
  cases x with
  | non => exact ⟨_, rfl, h⟩
  | bl b => exact ⟨_, rfl, h⟩
  | int i => exact ⟨_, rfl, h⟩
  | str y => exact ⟨_, ⟨h.1, rfl⟩, h.2⟩
  | ref p =>
    rcases h with ⟨xs, h1, h2⟩ | ⟨xs, h1, h2⟩ | ⟨xs, h1, h2⟩
    · exact ⟨_, .inl ⟨xs, h1, rfl⟩, h2⟩
    · exact ⟨_, .inr (.inl ⟨xs, h1, rfl⟩), h2⟩
    · exact ⟨_, .inr (.inr ⟨xs, h1, rfl⟩), h2⟩
  | _ => exact False.elim h
def tTru (K : PySem.W.Frag) (t : TE) : TT := fun σ H Q => t σ H fun x H1 => tru K x H1 fun b => Q b H1
def tNotE (K : PySem.W.Frag) (t : TE) : TE := fun σ H Q => t σ H fun x H1 => tru K x H1 fun b => Q (.bl (!b)) H1
def rNeg : V → Hp → VK → Prop := fun x H Q => match x with | .int i => Q (.int (-i)) H | _ => False
def lenV (K : PySem.W.Frag) (x : V) (H : Hp) (Q : Nat → Prop) : Prop := match x with
  | .str y => y.length ≤ sizeLine ∧ Q y.length
  | .ref p => (∃ xs, SqL K H p xs ∧ Q xs.length) ∨ ∃ xs, SqT K H p xs ∧ Q xs.length
  | _ => False
/-- the signs of a text, each a text -/
def signs (x : Str) : List V := x.cps.toList.map fun c => V.str ⟨#[c]⟩
/-- {} -/
def tNewD : TE := fun _ H Q => ∀ p, H p = none → Q (.ref p) (upd H p (.dK []))
def rBlt (K : PySem.W.Frag) : Blt → List V → Hp → VK → Prop
  | .len, [x], H, Q => lenV K x H fun n => Q (.int n) H
  | .min, [.int i, .int j], H, Q => Q (.int (if j < i then j else i)) H
  | .max, [.int i, .int j], H, Q => Q (.int (if j > i then j else i)) H
  | .min, [.ref p], H, Q => ∃ ns : List Int, SqL K H p (ns.map V.int) ∧ ns ≠ [] ∧ ∀ m : Int, m ∈ ns → (∀ n ∈ ns, m ≤ n) → Q (.int m) H
  | .max, [.ref p], H, Q => ∃ ns : List Int, SqL K H p (ns.map V.int) ∧ ns ≠ [] ∧ ∀ m : Int, m ∈ ns → (∀ n ∈ ns, n ≤ m) → Q (.int m) H
  | .sum, [.ref p], H, Q => ∃ ns : List Int, SqL K H p (ns.map V.int) ∧ Q (.int ns.sum) H
  | .int, [.int i], H, Q => Q (.int i) H
  | .int, [.bl k], H, Q => Q (.int (if k then 1 else 0)) H
  | .list, [.ref p], H, Q => ∃ ys, (SqL K H p ys ∨ SqT K H p ys) ∧ ∀ l, H l = none → Q (.ref l) (upd H l (.lst ys))
  | .list, [.str x], H, Q => x.length ≤ sizeLine ∧ ∀ l, H l = none → Q (.ref l) (upd H l (.lst (signs x)))
  | .tuple, [.str x], H, Q => x.length ≤ sizeLine ∧ ∀ l, H l = none → Q (.ref l) (upd H l (.tup (signs x)))
  | .abs, [.int i], H, Q => Q (.int (if i < 0 then -i else i)) H
  | .tuple, [.ref p], H, Q => ∃ ys, (SqL K H p ys ∧ ∀ l, H l = none → Q (.ref l) (upd H l (.tup ys))) ∨ (SqT K H p ys ∧ Q (.ref p) H)
  | _, _, _, _ => False
def rIsi (T : Ty) : List V → Hp → VK → Prop
  | [x, .ty n], H, Q => n = T.nm ∧ isiV T x H fun b => Q (.bl b) H
  | _, _, _ => False
def rMth (K : PySem.W.Frag) : Mth → V → List V → Hp → VK → Prop
  | .append, .ref l, [y], H, Q => ∃ xs, H l = some (.lst xs) ∧ xs.length < sizeLine ∧ Q .non (upd H l (.lst (xs ++ [y])))
  | .pop, .ref l, [], H, Q => ∃ xs y, H l = some (.lst xs) ∧ xs[xs.length - 1]? = some y ∧ Q y (upd H l (.lst xs.dropLast))
  | .extend, .ref l, [.ref b], H, Q => ∃ xs zs, H l = some (.lst xs) ∧ H b = some (.lst zs) ∧ xs.length + zs.length ≤ sizeLine ∧ Q .non (upd H l (.lst (xs ++ zs)))
  | .join, .str sep, [.ref p], H, Q => ∃ ts : List Str, SqL K H p (ts.map V.str) ∧ JoinOk sep ts = true ∧ Q (.str (Txt.join sep ts)) H
  | .lstrip, .str z, [.str y], H, Q => z.length ≤ sizeLine ∧ Q (.str (Txt.lstripChars z y)) H
  | .starts, .str z, [.str y, .int i], H, Q => Q (.bl (decide (fromIndex z.length i + y.length ≤ z.length) && Builtin.Str.subAt z y (fromIndex z.length i))) H
  | .find, .str z, [.str y], H, Q => Q (.int (match Builtin.Str.occurrences z y 0 z.length 1 with | i :: _ => (i : Int) | [] => -1)) H
  | .find, .str z, [.str y, .int i], H, Q => Q (.int (match Builtin.Str.occurrences z y (fromIndex z.length i) z.length 1 with | k :: _ => (k : Int) | [] => -1)) H
  | .count, .str z, [.str y], H, Q => Q (.int (Builtin.Str.occurrences z y 0 z.length (z.length + 1)).length) H
  | .reverse, .ref l, [], H, Q => ∃ xs, H l = some (.lst xs) ∧ Q .non (upd H l (.lst xs.reverse))
  | .index, .ref l, [.str y], H, Q => ∃ ts : List Str, SqL K H l (ts.map V.str) ∧ y ∈ ts ∧ Q (.int (ts.idxOf y : Nat)) H
  | .clear, .ref l, [], H, Q => ∃ xs, H l = some (.lst xs) ∧ Q .non (upd H l (.lst []))
  | .cntL, .ref l, [y], H, Q => ∃ xs, SqL K H l xs ∧ flatV y = true ∧ xs.all flatV = true ∧ Q (.int (xs.countP (fun z => eqV z y) : Nat)) H
  | .idxL, .ref l, [y], H, Q => ∃ xs, SqL K H l xs ∧ flatV y = true ∧ xs.all flatV = true ∧ inV y xs = true ∧ Q (.int (xs.findIdx (fun z => eqV z y) : Nat)) H
  | _, _, _, _, _ => False
def mthTy : Mth → String
  | .join | .lstrip | .starts | .find | .count => "str"
  | _ => "list"
def tMth (K : PySem.W.Frag) (m : Mth) (to : TE) (t : TA) : TE := fun σ H Q => to σ H fun x H1 => tyV K (mthTy m) x H1 ∧ t σ H1 fun xs H2 => rMth K m x xs H2 Q
def rSl (K : PySem.W.Frag) : V → Option Int → Option Int → Hp → VK → Prop := fun x lo hi H Q => match x with
  | .str z => z.length ≤ sizeLine ∧ Q (.str (cutS z lo hi)) H
  | .ref a => (∃ xs, SqL K H a xs ∧ ∀ p, H p = none → Q (.ref p) (upd H p (.lst (cutV xs lo hi)))) ∨
    (∃ xs, SqT K H a xs ∧ ¬ (HT.sIx xs.length 0 lo = 0 ∧ HT.sIx xs.length xs.length hi = xs.length) ∧ ∀ p, H p = none → Q (.ref p) (upd H p (.tup (cutV xs lo hi))))
  | _ => False
/-- the value that a table has for a key -/
def valK (kvs : List (Key × V)) (k : Key) : Option V := (kvs.find? fun kv => decide (kv.1 = k)).map (·.2)
def rIxD (sd : Addr → List (Key × V) → Prop) : R2 := fun x y H Q => ∃ p kvs k v, x = .ref p ∧ y = kV k ∧ sd p kvs ∧ valK kvs k = some v ∧ Q v H
def rIx2 (K : PySem.W.Frag) (sd : Addr → List (Key × V) → Prop) : R2 := fun x y H Q => rIxL K x y H Q ∨ rIxT K x y H Q ∨ rIxS x y H Q ∨ rIxD sd x y H Q
/-- a < b < c < d, as a test -/
def tChain3 (r r' r2 : R2) (ta tb tc td : TE) : TT := fun σ H Q => ta σ H fun x H1 => tb σ H1 fun y H2 => r x y H2 fun z H3 => ∃ k, z = .bl k ∧
  (if k = true then tc σ H3 fun w H4 => r' y w H4 fun z2 H5 => ∃ k2, z2 = .bl k2 ∧ (if k2 = true then td σ H5 fun u H6 => r2 w u H6 fun z3 H7 => ∃ k3, z3 = .bl k3 ∧ Q k3 H7 else Q false H5) else Q false H3)
/-- two lists side by side -/
def Itz (K : PySem.W.Frag) (a b : Addr) : It :=
  ⟨fun i H => ∃ xs ys, SqL K H a xs ∧ SqL K H b ys ∧ i < xs.length ∧ i < ys.length,
   fun i H x H' => ∃ T, H T = none ∧ x = .ref T ∧ ∀ xs ys u v, SqL K H a xs → SqL K H b ys → xs[i]? = some u → ys[i]? = some v → H' = upd H T (.tup [u, v]),
   fun i H => ∃ xs ys, SqL K H a xs ∧ SqL K H b ys ∧ i = min xs.length ys.length⟩
/-- a list's items, each with its number -/
def Itn (K : PySem.W.Frag) (a : Addr) : It :=
  ⟨fun i H => ∃ xs, SqL K H a xs ∧ i < xs.length,
   fun i H x H' => ∃ T, H T = none ∧ x = .ref T ∧ ∀ xs u, SqL K H a xs → xs[i]? = some u → H' = upd H T (.tup [.int (i : Nat), u]),
   fun i H => ∃ xs, SqL K H a xs ∧ i = xs.length⟩
def iEnm (K : PySem.W.Frag) (ta : TA) : TI := fun σ H R => ta σ H fun vs H1 => ∃ a, vs = [.ref a] ∧ (∃ xs, SqL K H1 a xs) ∧ R (Itn K a) H1
def iZip (K : PySem.W.Frag) (ta : TA) : TI := fun σ H R => ta σ H fun vs H1 => ∃ a b, vs = [.ref a, .ref b] ∧ (∃ xs, SqL K H1 a xs) ∧ (∃ ys, SqL K H1 b ys) ∧ R (Itz K a b) H1
mutual
def rdE (Γ : RCx) : RE → TE
  | .v i => tVar i
  | .c x => tC x
  | .g j => tC (Γ.gv j)
  | .bin op a b => tOp (rBin Γ.K op) (rdE Γ a) (rdE Γ b)
  | .neg a => tUn rNeg (rdE Γ a)
  | .cmp op a b => tOp (rCmp Γ.K op) (rdE Γ a) (rdE Γ b)
  | .cmp2 op op' a b d => tChain (rCmp Γ.K op) (rCmp Γ.K op') (rdE Γ a) (rdE Γ b) (rdE Γ d)
  | .cmp3 _ _ _ _ _ _ _ => fun _ _ _ => False
  | .and as => rdAnd Γ as
  | .or as => rdOr Γ as
  | .not a => tNotE Γ.K (rdE Γ a)
  | .ife t a b => tIf (rdT Γ t) (rdE Γ a) (rdE Γ b)
  | .call j as => tCall (Γ.fs j) [] Γ.E (rdA Γ as)
  | .blt b as => tCB (rBlt Γ.K b) (rdA Γ as)
  | .isi T a => tCB (rIsi T) (tCons (rdE Γ a) (tCons (tC (.ty T.nm)) tNil))
  | .mth m o as => tMth Γ.K m (rdE Γ o) (rdA Γ as)
  | .ix a b => tOp (rIx2 Γ.K Γ.sd) (rdE Γ a) (rdE Γ b)
  | .sl a lo hi => tSl (rSl Γ.K) (rdE Γ a) (rdO Γ lo) (rdO Γ hi)
  | .tup as => tTup (rdA Γ as)
  | .lst as => tLst (rdA Γ as)
  | .comp tk fv k its cond elt => tComp Γ.K (rdI Γ k its) tk fv (rdC Γ.calm cond) (rdE Γ.calm elt)
  | .isx a c => tCB (rIsx Γ.K) (tCons (rdE Γ a) (tCons (rdE Γ c) tNil))
  | .dct => tNewD
  | .wrd j a => tWrd (Γ.hs j) Γ.hv (tCons (rdE Γ a) tNil)
  | .fld o f => tFld Γ.K (rdE Γ o) f
  | .meth j m o as => tMeth (Γ.ms j).1 m (Γ.ms j).2 [] Γ.E (rdE Γ o) (rdA Γ as)
  | .make j as => tMake (Γ.kt j).1 (Γ.kt j).2 [] Γ.E (rdA Γ as)
def rdT (Γ : RCx) : RE → TT
  | .not a => tNot (rdT Γ a)
  | .and as => rdTAnd Γ as
  | .or as => rdTOr Γ as
  | .cmp op a b => tTest (tOp (rCmp Γ.K op) (rdE Γ a) (rdE Γ b))
  | .cmp2 op op' a b d => tTest (tChain (rCmp Γ.K op) (rCmp Γ.K op') (rdE Γ a) (rdE Γ b) (rdE Γ d))
  | .cmp3 op op' op2 a b d f => tChain3 (rCmp Γ.K op) (rCmp Γ.K op') (rCmp Γ.K op2) (rdE Γ a) (rdE Γ b) (rdE Γ d) (rdE Γ f)
  | .v i => tTru Γ.K (tVar i)
  | .call j as => tTru Γ.K (tCall (Γ.fs j) [] Γ.E (rdA Γ as))
  | .isi T a => tTru Γ.K (tCB (rIsi T) (tCons (rdE Γ a) (tCons (tC (.ty T.nm)) tNil)))
  | .isx a c => tTru Γ.K (tCB (rIsx Γ.K) (tCons (rdE Γ a) (tCons (rdE Γ c) tNil)))
  | .mth m o as => tTru Γ.K (tMth Γ.K m (rdE Γ o) (rdA Γ as))
  | .ix a b => tTru Γ.K (tOp (rIx2 Γ.K Γ.sd) (rdE Γ a) (rdE Γ b))
  | .bin op a b => tTru Γ.K (tOp (rBin Γ.K op) (rdE Γ a) (rdE Γ b))
  | .fld o f => tTru Γ.K (tFld Γ.K (rdE Γ o) f)
  | .meth j m o as => tTru Γ.K (tMeth (Γ.ms j).1 m (Γ.ms j).2 [] Γ.E (rdE Γ o) (rdA Γ as))
  | _ => fun _ _ _ => False
def rdA (Γ : RCx) : List RE → TA
  | [] => tNil
  | a :: r => tCons (rdE Γ a) (rdA Γ r)
def rdAnd (Γ : RCx) : List RE → TE
  | [] => fun _ _ _ => False
  | [a] => rdE Γ a
  | a :: r => tAndV (rdE Γ a) (rdAnd Γ r)
def rdOr (Γ : RCx) : List RE → TE
  | [] => fun _ _ _ => False
  | [a] => rdE Γ a
  | a :: r => tOrV (rdE Γ a) (rdOr Γ r)
def rdTAnd (Γ : RCx) : List RE → TT
  | [] => fun _ _ _ => False
  | [a] => rdT Γ a
  | a :: r => tAnd (rdT Γ a) (rdTAnd Γ r)
def rdTOr (Γ : RCx) : List RE → TT
  | [] => fun _ _ _ => False
  | [a] => rdT Γ a
  | a :: r => tOr (rdT Γ a) (rdTOr Γ r)
def rdO (Γ : RCx) : Option RE → TO
  | none => tNoPart
  | some a => tPart (rdE Γ a)
def rdC (Γ : RCx) : Option RE → Option TT
  | none => none
  | some a => some (rdT Γ a)
def rdI (Γ : RCx) (k : IK) : List RE → TI
  | [] => fun _ _ _ => False
  | a :: r => match k with
    | .list => iList Γ.K (rdE Γ a)
    | .tup => iTup Γ.K (rdE Γ a)
    | .rng => iRng1 (tCons (rdE Γ a) (rdA Γ r))
    | .rng2 => iRng2 (tCons (rdE Γ a) (rdA Γ r))
    | .zip => iZip Γ.K (tCons (rdE Γ a) (rdA Γ r))
    | .enm => iEnm Γ.K (tCons (rdE Γ a) (rdA Γ r))
end
end L2
set_option maxRecDepth 100000
set_option maxHeartbeats 4000000
namespace L2
open PySem PySem.Spec PyProof.Rows
/-! ### is this the reading of that row? -/
structure SCx where
  N : List Str
  sc : Scope
  fn : List Str
  gn : List Str
  bl : List Str
  mn : List Str
  kn : List Str
  en : List Str
  hn : List Str
  md : Nat
def vis (sc : Scope) (x : Str) : Bool := match sc.names.lookup x with
  | some .local => true | some .cell => true | some .free => true | _ => false
def loc (sc : Scope) (x : Str) : Bool := match sc.names.lookup x with
  | some .local => true | some .cell => true | _ => false
def glo (sc : Scope) (x : Str) : Bool := match sc.names.lookup x with
  | some .globalImplicit => true | _ => false
theorem vis_of {sc : Scope} {x : Str} (h : vis sc x = true) : Vis sc x := by
  unfold vis at h
  unfold Vis
  cases e : sc.names.lookup x with
  | none => rw [e] at h; cases h
  | some k => rw [e] at h; cases k <;> first | exact .inl rfl | exact .inr (.inl rfl) | exact .inr (.inr rfl) | cases h
theorem loc_of {sc : Scope} {x : Str} (h : loc sc x = true) : Loc sc x := by
  unfold loc at h
  unfold Loc
  cases e : sc.names.lookup x with
  | none => rw [e] at h; cases h
  | some k => rw [e] at h; cases k <;> first | exact .inl rfl | exact .inr rfl | cases h
theorem glo_of {sc : Scope} {x : Str} (h : glo sc x = true) : sc.names.lookup x = some .globalImplicit := by
  unfold glo at h
  cases e : sc.names.lookup x with
  | none => rw [e] at h; cases h
  | some k => rw [e] at h; cases k <;> first | rfl | cases h
def Blt.nm : Blt → Str
  | .len => "len" | .min => "min" | .max => "max" | .sum => "sum" | .int => "int" | .list => "list" | .tuple => "tuple" | .abs => "abs"
def Mth.nm : Mth → Str
  | .append => "append" | .pop => "pop" | .extend => "extend" | .join => "join" | .lstrip => "lstrip" | .starts => "startswith" | .reverse => "reverse" | .clear => "clear" | .index => "index" | .find => "find" | .count => "count" | .cntL => "count" | .idxL => "index"
def noSuper : Expr → Bool
  | .Call (.Name _ _) [] [] _ => false
  | _ => true
def noStar : Expr → Bool
  | .Starred .. => false
  | _ => true
def noSet : Expr → Bool
  | .Set .. => false
  | _ => true
end L2
set_option maxRecDepth 100000
set_option maxHeartbeats 4000000
namespace L2
open PySem PySem.Spec PyProof.Rows
/-! ### for .. in zip(xs, ys), the target a tuple -/
/-! ### for .. in enumerate(xs), the target a tuple -/
theorem turn_enm {P : Program} {w : World} {K : PySem.W.Frag} {elts : List Expr} {k : Nat} {pos : Pos} {z it l : Addr} (d1 : z ≠ it) (d2 : l ≠ z) (d3 : l ≠ it) :
    Turn P w K (.Tuple elts k pos) (Itn K l) [z, it] z
      (fun i h => (∃ old, IsEnum h z it i old) ∧ h.IsListIter it l i) where
  mem := by simp
  obj := fun i h st b hb => by
    obtain ⟨⟨old, hz⟩, ⟨o2, e2, c2, d2⟩⟩ := st
    simp only [List.mem_cons, List.not_mem_nil, or_false] at hb
    rcases hb with rfl | rfl
    · exact ⟨_, hz, fun v q => by cases q⟩
    · exact ⟨_, e2, fun v q => by rw [d2] at q; cases q⟩
  keep := fun i h h' st hk => by
    obtain ⟨⟨old, hz⟩, h1⟩ := st
    exact ⟨⟨old, hk z (by simp) _ hz⟩, h1.at fun o e => hk it (by simp) o e⟩
  item := by
    intro X hP hw hK hc i pins s σ H E I hf st hg
    subst hP hw hK
    obtain ⟨xs, hx, hi1⟩ := hg
    obtain ⟨its1, r1, p1, z1⟩ := I.list hx
    have hl1 := r1.length
    have W := WalksT.enumerate (prog := X.prog) (w := X.w) (A := X.A) (I.ok.hd hc) z it l d1 d2 d3 its1.toArray
    obtain ⟨hz, h1⟩ := id st
    have hn : i < its1.toArray.size := by simp only [List.size_toArray]; omega
    refine W.item i s _ _ hn ⟨hz, h1, p1.isList⟩ fun T vals h' tk hv hT hIs mid hk => ?_
    refine ⟨.ref T, rfl, ?_⟩
    refine W.go elts k pos i T _ _ _ mid fun h'' st'' hk'' => ?_
    obtain ⟨t0, u, eu, rfl⟩ := hv
    have kk : ∀ b o, b ∉ [z, it] → s.heap.get? b = some o → h''.get? b = some o := fun b o hb e => hk'' b o hb (hk b o hb e)
    have I1 : Inv X pins σ H { s with heap := h'', toks := tk } := by
      refine I.step (g' := s.gens) (d' := s.drawn) (ch := [z, it]) (fun b hb => ?_) (fun b o _ _ hc e _ => kk b o hc e) (fun b o _ _ hc e _ => ⟨o.slots, kk b o hc e⟩) (fun _ _ _ _ n => n)
        (fun b o hc e => ⟨o, kk b o hc e⟩) (fun _ _ e => e) (fun _ _ _ e => e) (fun b ps e => ⟨#[], by rw [e]; simp⟩) (fun m hm => ?_) (fun b o e => ?_) I.bare
      · obtain ⟨f0, f1, f2, f3, f4, f5⟩ := hf b hb
        exact ⟨f3, f1, f4, f5⟩
      · obtain ⟨o, es, ep, ho, r⟩ := hm
        exact ⟨o, es, ep, kk _ o (fun hb => (hf _ hb).2.1 rfl) ho, r⟩
      · have nb : ∀ c o', H c = some o' → c ∉ [z, it] := fun c o' e hb => by
          rw [(hf c hb).1] at e; cases e
        refine (I.hok b o e).stay (fun c q hc' e' => kk c q ?_ e') (fun _ q => q) fun _ _ q => q
        rcases hc' with rfl | hc'
        · exact nb _ _ e
        · exact nb _ _ hc'
    have hTn : s.heap.objs.size ≤ T := hT
    have fT : H T = none := I.hok.fresh hTn
    have aT : T ∉ [z, it] := W.apart i T h' mid
    have tT : h''.IsTuple T #[.int (i : Nat) t0, u] := by
      obtain ⟨o, ho, q⟩ := hIs
      exact ⟨o, hk'' T o aT ho, q⟩
    obtain ⟨a, hxa, ra⟩ : ∃ a, xs[i]? = some a ∧ RelV a u := by
      have e : its1[i]? = some u := by simpa using eu
      have : i < xs.length := by omega
      obtain ⟨u', e', r'⟩ := r1.get (i := i) (x := xs[i]) (by simp [this])
      rw [e] at e'; cases e'
      exact ⟨xs[i], by simp [this], r'⟩
    have sz0 := I.sz
    have I2 : Inv X pins σ (upd H T (.tup [.int (i : Nat), a])) { s with heap := h'', toks := tk } := by
      refine Inv.track I1 fT (Nat.le_trans I.sz hTn) (Nat.ne_of_gt (Nat.lt_of_lt_of_le I.lt hTn)) (fun x c e q => ?_) (fun p hp q => ?_) ⟨by show 2 ≤ sizeLine; decide, [.int (i : Nat) t0, u], .cons ⟨t0, rfl⟩ (.cons ra .nil), tT⟩
      · obtain ⟨v', q'⟩ := I.cell x c e
        have := q'.lt
        rw [q] at this
        exact absurd (Nat.lt_of_lt_of_le this hTn) (Nat.lt_irrefl _)
      · have := Heap.lt_size (I.pin p hp).1
        rw [q] at this
        exact absurd (Nat.lt_of_lt_of_le this hTn) (Nat.lt_irrefl _)
    refine ⟨.ref T, _, I2, rfl, ⟨T, fT, rfl, fun xs' a' hx' ea => ?_⟩, ?_, fun c hc' => ?_⟩
    · rw [I.list_inj hx' hx, hxa] at ea
      cases ea; rfl
    · obtain ⟨⟨q0, q1⟩, q2, _⟩ := st''
      exact ⟨⟨q0, q1⟩, q2⟩
    · have n0 := (hf c hc').1
      have : c ≠ T := fun q => by
        obtain ⟨o, e, _⟩ : ∃ o, s.heap.get? c = some o ∧ True := by
          obtain ⟨⟨old, hz⟩, ⟨o2, e2, _⟩⟩ := st
          simp only [List.mem_cons, List.not_mem_nil, or_false] at hc'
          rcases hc' with rfl | rfl
          · exact ⟨_, hz, trivial⟩
          · exact ⟨_, e2, trivial⟩
        have := Heap.lt_size e
        rw [q] at this
        exact absurd (Nat.lt_of_lt_of_le this hTn) (Nat.lt_irrefl _)
      rw [upd_ne this]; exact n0
  done := by
    intro X hP hw hK hc i pins s σ H E I hf st hg
    subst hP hw hK
    obtain ⟨xs, hx, hi⟩ := hg
    obtain ⟨its1, r1, p1, z1⟩ := I.list hx
    have hl1 := r1.length
    have W := WalksT.enumerate (prog := X.prog) (w := X.w) (A := X.A) (I.ok.hd hc) z it l d1 d2 d3 its1.toArray
    obtain ⟨hz, h1⟩ := id st
    have hn : i = its1.toArray.size := by simp only [List.size_toArray]; omega
    subst hn
    refine W.done s _ _ ⟨hz, h1, p1.isList⟩ fun h' tk hk => ⟨rfl, ?_⟩
    refine I.step (g' := s.gens) (d' := s.drawn) (ch := [z, it]) (fun b hb => ?_) (fun b o _ _ hc e _ => hk b o hc e) (fun b o _ _ hc e _ => ⟨o.slots, hk b o hc e⟩) (fun _ _ _ _ n => n)
      (fun b o hc e => ⟨o, hk b o hc e⟩) (fun _ _ e => e) (fun _ _ _ e => e) (fun b ps e => ⟨#[], by rw [e]; simp⟩) (fun m hm => ?_) (fun b o e => ?_) I.bare
    · obtain ⟨f0, f1, f2, f3, f4, f5⟩ := hf b hb
      exact ⟨f3, f1, f4, f5⟩
    · obtain ⟨o, es, ep, ho, r⟩ := hm
      exact ⟨o, es, ep, hk _ o (fun hb => (hf _ hb).2.1 rfl) ho, r⟩
    · have nb : ∀ c o', H c = some o' → c ∉ [z, it] := fun c o' e hb => by
        rw [(hf c hb).1] at e; cases e
      refine (I.hok b o e).stay (fun c q hc' e' => hk c q ?_ e') (fun _ q => q) fun _ _ q => q
      rcases hc' with rfl | hc'
      · exact nb _ _ e
      · exact nb _ _ hc'
  self := fun A i s Q E st hQ => by
    obtain ⟨⟨old, hz⟩, _⟩ := st
    exact wpAny_pyIter_enum hz hQ
theorem boot_enm : bootBuiltins "enumerate" = some (.type "enumerate") := by decide +kernel
theorem pi_enm {X : Cx} {elts : List Expr} {k : Nat} {tpos : Pos} {a : Expr} {ta : TA} {p pos : Pos} (hg : Gl X "enumerate") (hm : X.mg "enumerate" = none) (ha : PA X [a] ta)
    (hs : starEach [a] X.env = [(false, eval a X.env)]) : PI X (.Tuple elts k tpos) (.Call (.Name "enumerate" p) [a] [] pos) (iEnm X.K ta) := by
  intro pins s σ H R I h
  refine Call_ (ld_blt I hg hm boot_enm (PyProof.Rows.callWith_type1 (thn (ha pos pins s σ H _ I h) fun us s1 ⟨vs, H1, I1, r1, q1⟩ => ?_) hs rfl))
  obtain ⟨l1, e, ⟨xs, hx⟩, q⟩ := q1
  subst e
  obtain ⟨u, rfl, ru⟩ := vals1 r1
  cases ru
  obtain ⟨its1, rr1, p1, z1⟩ := I1.list hx
  refine call_enumerate_list p1.isList fun h' a1 a2 a3 hk => ?_
  refine wpAny_pyIter_enum a1 ?_
  have lt1 : @LT.lt Nat _ l1 s1.heap.objs.size := by obtain ⟨_, e, _⟩ := p1.isList; exact Heap.lt_size e
  have I2 : Inv X pins σ H1 { s1 with heap := h' } := I1.kept (t' := s1.toks) hk
  refine ⟨_, _, _, _, H1, rfl, I2, turn_enm (z := s1.heap.objs.size + 1) (it := s1.heap.objs.size) (l := l1) (by show @Ne Nat _ _; omega) (by show @Ne Nat _ _; omega) (by show @Ne Nat _ _; omega), ⟨⟨_, a1⟩, a2⟩, fun b' hb => ?_, q⟩
  have hle : s1.heap.objs.size ≤ b' := by
    simp only [List.mem_cons, List.not_mem_nil, or_false] at hb
    rcases hb with rfl | rfl
    · exact Nat.le_add_right _ _
    · exact Nat.le_refl _
  have := I1.fpOk (b := b') (H' := H1) hle (I1.hok.fresh hle)
  exact this
theorem for_enm {K : PySem.W.Frag} {a : Addr} {xs : List V} {g : TG} {tb : TS} {D : Ends} {σ : St} {H : Hp} (Pv : Nat → St → Hp → Prop) (h0 : Pv 0 σ H) (ha : ∀ i σ H, Pv i σ H → SqL K H a xs)
    (hs : ∀ i x σ H T, xs[i]? = some x → Pv i σ H → H T = none → g (.ref T) σ (upd H T (.tup [.int (i : Nat), x])) fun σ2 H2 => tb { D with nx := Pv (i + 1), ct := Pv (i + 1), bk := D.nx } σ2 H2) (hd : ∀ σ H, Pv xs.length σ H → D.nx σ H) :
    ∃ W : Nat → Nat → St → Hp → Prop, (∃ m, W 0 m σ H) ∧ ∀ i m σ H, W i m σ H →
      ((Itn K a).stop i H ∧ D.nx σ H) ∨ ((Itn K a).go i H ∧ ∃ N : St → Hp → Prop, (∀ σ' H', N σ' H' → ∃ m', m' < m ∧ W (i + 1) m' σ' H') ∧ ∀ x H', (Itn K a).yld i H x H' → g x σ H' fun σ2 H2 => tb { D with nx := N, ct := N, bk := D.nx } σ2 H2) := by
  refine ⟨fun i m σ H => m = xs.length - i ∧ i ≤ xs.length ∧ Pv i σ H, ⟨xs.length, by simp, Nat.zero_le _, h0⟩, ?_⟩
  rintro i m σ H ⟨rfl, hi, p⟩
  have q1 := ha i σ H p
  by_cases hlt : i < xs.length
  · refine .inr ⟨⟨xs, q1, hlt⟩, Pv (i + 1), fun σ' H' p' => ⟨xs.length - (i + 1), by omega, rfl, hlt, p'⟩, fun x H' y => ?_⟩
    obtain ⟨T, hT, rfl, y⟩ := y
    have e := y xs xs[i] q1 (by simp [hlt])
    subst e
    exact hs i xs[i] σ H T (by simp [hlt]) p hT
  · have e : i = xs.length := by omega
    subst e
    exact .inl ⟨⟨xs, q1, rfl⟩, hd σ H p⟩
end L2
set_option maxRecDepth 100000
set_option maxHeartbeats 400000
namespace L2
open PySem PySem.Spec PyProof.Rows
/-! ### within an except suite: a new exception takes the caught one as its context -/
section
variable {prog : Program} {w : World} {A : Around} {E : Value → Shared → Prop} {s : Shared}
end
end L2
set_option maxRecDepth 100000
set_option maxHeartbeats 1000000
namespace L2
open PySem PySem.Spec PyProof.Rows PySem.W
section
variable {prog : Program} {w : World} {A : Around} {E : Value → Shared → Prop} {s : Shared} {K : Frag} {x D : Addr} {ox : Obj}
theorem exc_class {Q : Option Value → Shared → Prop} (X : K.In s.heap) (I : PySem.W.InstAt s.heap x ox D none) (hga : findIn K (.ref D) "__getattribute__" = some (some (.builtin "BaseException.__getattribute__"))) (hgn : findIn K (.ref D) "__getattr__" = some none)
    (hk : (clsIn K D).isSome = true) (ha : findIn K (.ref D) "__class__" = some (some (.builtin "object.__class__"))) (hn : specialIn K (.builtin "object.__class__") "__get__" = some (some (.builtin "getset_descriptor.__get__"))) (htk : takesIn K (.builtin "object.__class__") = some true)
    (hm : mroIn K D (.type "object") = some true) (hb : mroIn K D (.type "BaseException") = some true)
    (h : Q (some (.ref D)) { s with toks := s.toks + 1 }) : wpAny (model prog w) A (getAttr? (.ref x) "__class__") Q E s := by
  have hf : findObj K D none "__class__" = some (.bind (.builtin "getset_descriptor.__get__") (.builtin "object.__class__")) := by
    obtain ⟨cd, hc⟩ := Option.isSome_iff_exists.mp hk
    unfold findObj
    rw [hc, Option.bind_some, ha, Option.bind_some]
    simp only [hn, htk, Option.bind_some]
  obtain ⟨hh, g, d, t, os⟩ := s
  have L0 := I.type (M := model prog w)
  have L1 := looks_findIn (M := model prog w) X hga
  have L2 := looks_findIn (M := model prog w) X hgn
  have L3 := looks_find (M := model prog w) X I hf
  unfold getAttr? getAttrBy? getAttrBy
  refine wpAny_bind (wpAny_mkText (wpAny_bind (wpAny_attempt (wpAny_holding (wpAny_bind (L0.at (wpAny_bind (L1.at ?_))))))))
  have hx2 : (Value.builtin "BaseException.__getattribute__" == Value.builtin "object.__getattribute__") = false := by decide +kernel
  show wpAny _ _ (if (onTheHeap (Value.ref D) && Value.builtin "BaseException.__getattribute__" == Value.builtin "object.__getattribute__") = true then _ else _) _ _ _
  rw [hx2, Bool.and_false, if_neg (by decide)]
  unfold getAttrByItsOwn hookBefore
  refine wpAny_bind (L2.at ?_)
  refine wpAny_bind (wpAny_attempt (wpAny_holding ?_))
  show wpAny _ _ (boundAndCalled _ _ _) _ _ _
  unfold boundAndCalled
  rw [F.excAttr_ValueError.ga.bind (.ref x)]
  refine wpAny_bind (wpAny_pure ?_)
  refine wpAny_call (codeAny_call_builtin F.excAttr_ValueError.ga.plain F.entry_bexc_ga ?_)
  have L4 := looks_mroIn (M := model prog w) X hb
  have hk' : builtinKind "BaseException.__getattribute__" = some .slot := by decide +kernel
  have hsplit : splitId "BaseException.__getattribute__" = some ("BaseException", "__getattribute__") := by decide +kernel
  have hargs := F.args_bexc_ga (.ref x) (.str "__class__" t)
  simp only [checkBuiltinCall, hk', hsplit]
  have L5 : Looks (model prog w) hh (isInstance (.ref x) (.type "BaseException")) true := L0.andThen L4
  refine wpAny_bind (L5.at ?_)
  repeat (any_goals (first | assumption | (with_reducible refine wpAny_loadPart_at I.at_ ?_; rw [I.cls]; refine wpAny_pure (wpAny_bind (L3.at ?_))) | wp_step))
  refine class_get (s := ⟨hh, g, d, t + 1, os⟩) (ox := ox) (od := none) X I hm ?_
  exact wpAny_pure (wpAny_pure (wpAny_pure h))
/-- the type of an exception of an own class, for isinstance -/
theorem kitx_exc (hga : findIn K (.ref D) "__getattribute__" = some (some (.builtin "BaseException.__getattribute__"))) (hgn : findIn K (.ref D) "__getattr__" = some none)
    (hk : (clsIn K D).isSome = true) (ha : findIn K (.ref D) "__class__" = some (some (.builtin "object.__class__"))) (hn : specialIn K (.builtin "object.__class__") "__get__" = some (some (.builtin "getset_descriptor.__get__"))) (htk : takesIn K (.builtin "object.__class__") = some true)
    (hm : mroIn K D (.type "object") = some true) (hb : mroIn K D (.type "BaseException") = some true) : KitX K (.ref x) (.ref D) (fun h => PySem.W.InstAt h x ox D none) where
  ty := fun _ _ _ I => I.type
  it := fun _ _ X _ => by
    obtain ⟨cdD, hcD⟩ := Option.isSome_iff_exists.mp hk
    unfold clsIn at hcD
    split at hcD
    · rename_i c' d' cd' sl' ho
      intro A' Q' E' s' k q
      unfold isType loadHead
      exact wpAny_bind (wpAny_loadPart (k _ _ (X _ _ ho)) (wpAny_pure q))
    · cases hcD
  ne := fun h tp dd its n sl X htp => by
    obtain ⟨cdD, hcD⟩ := Option.isSome_iff_exists.mp hk
    refine Bool.eq_false_iff.mpr fun q => ?_
    have e : D = tp := Value.ref.inj (beq_iff_eq.mp q)
    subst e
    unfold clsIn at hcD
    split at hcD
    · rename_i c' d' cd' sl' ho
      have z := (X _ _ ho).symm.trans htp
      cases z
    · cases hcD
  ca := fun X I k => exc_class X I hga hgn hk ha hn htk hm hb k
end
end L2
set_option maxRecDepth 100000
set_option maxHeartbeats 400000
namespace L2
open PySem PySem.Spec PyProof.Rows
/-! ### what a tree without calls never touches -/
inductive KeepsT (J : Shared → Prop) {α : Type} : Sem α → Prop
  | pure (a : α) : KeepsT J (.pure a)
  | raise (e : Value) : KeepsT J (.raise e)
  | unsupported (w : String) : KeepsT J (.unsupported w)
  | rule {t : String} {k : Unit → Sem α} : KeepsT J (k ()) → KeepsT J (.rule t k)
  | load {a : Addr} {p : Option Value} {k : Obj → Sem α} : (∀ o, KeepsT J (k o)) → KeepsT J (.load a p k)
  | update {a : Addr} {p : Option Value} {f : Obj → Obj} {k : Unit → Sem α} : (∀ s, J s → J { s with heap := s.heap.update a f }) → KeepsT J (k ()) → KeepsT J (.update a p f k)
  | alloc {o : Obj} {k : Addr → Sem α} : (∀ s, J s → J { s with heap := s.heap.push o }) → (∀ a, KeepsT J (k a)) → KeepsT J (.alloc o k)
  | stack {k : List (Code × Pos) → Sem α} : (∀ t, KeepsT J (k t)) → KeepsT J (.stack k)
theorem wp_keepsT {M : Model} {Γ : PySem.Ctx} {J : Shared → Prop} {α : Type} {t : Sem α} (kt : KeepsT J t) : ∀ {Q : α → Pos → Shared → Prop} {E : Value → Pos → Shared → Prop} {p : Pos} {s : Shared}, J s → Sem.wp M Γ t Q E p s →
    Sem.wp M Γ t (fun a p s => Q a p s ∧ J s) (fun e p s => E e p s ∧ J s) p s := by
  induction kt with
  | pure a => intro Q E p s j h; rw [Sem.wp] at h ⊢; exact ⟨h, j⟩
  | raise e => intro Q E p s j h; rw [Sem.wp] at h ⊢; exact ⟨h, j⟩
  | unsupported w => intro Q E p s j h; rw [Sem.wp] at h; exact h.elim
  | rule _ ih => intro Q E p s j h; rw [Sem.wp] at h ⊢; exact ih j h
  | load _ ih => intro Q E p s j h; rw [Sem.wp] at h ⊢; obtain ⟨o, e, h⟩ := h; exact ⟨o, e, ih o j h⟩
  | update f _ ih => intro Q E p s j h; rw [Sem.wp] at h ⊢; exact ⟨h.1, ih (f _ j) h.2⟩
  | alloc f _ ih => intro Q E p s j h; rw [Sem.wp] at h ⊢; exact ih _ (f _ j) h
  | stack _ ih => intro Q E p s j h; rw [Sem.wp] at h ⊢; exact ih _ j h
theorem wpAny_keepsT {M : Model} {A : Around} {J : Shared → Prop} {α : Type} {t : Sem α} {Q : α → Shared → Prop} {E : Value → Shared → Prop} {s : Shared} (k : KeepsT J t) (j : J s) (h : wpAny M A t Q E s) :
    wpAny M A t (fun a s => Q a s ∧ J s) (fun e s => E e s ∧ J s) s := fun Γ p hΓ => wp_keepsT k j (h Γ p hΓ)
/-- no context is told of the exception at e -/
def NoCx (e : Addr) (s : Shared) : Prop := ∃ o vs, s.heap.get? e = some o ∧ o.data = .fields vs ∧ vs[2]? = some .none ∧ o.dict = none
theorem dict_mapFields (f : Array Value → Array Value) (o : Obj) : (Obj.mapFields f o).dict = o.dict := by
  unfold Obj.mapFields
  split <;> rfl
theorem noCx_set {e a : Addr} {i : Nat} {v : Value} (hi : i ≠ 2) (s : Shared) (j : NoCx e s) : NoCx e { s with heap := s.heap.update a (Obj.mapFields (·.setIfInBounds i v)) } := by
  obtain ⟨o, vs, h1, h2, h3, h4⟩ := j
  by_cases z : a = e
  · subst z
    have d := Obj.data_mapFields h2 (·.setIfInBounds i v)
    exact ⟨_, _, Heap.get?_update_self _ h1 (Obj.isFreed_of_fields d), d, by rw [Array.getElem?_setIfInBounds_ne hi]; exact h3, (dict_mapFields _ _).trans h4⟩
  · exact ⟨o, vs, (Heap.get?_update_other _ _ z).trans h1, h2, h3, h4⟩
theorem noCx_slots {e a : Addr} {f : Obj → Obj} (hf : ∀ o, (f o).data = o.data ∧ (f o).dict = o.dict) (s : Shared) (j : NoCx e s) : NoCx e { s with heap := s.heap.update a f } := by
  obtain ⟨o, vs, h1, h2, h3, h4⟩ := j
  by_cases z : a = e
  · subst z
    exact ⟨_, vs, Heap.get?_update_self _ h1 (Obj.isFreed_of_fields ((hf o).1.trans h2)), (hf o).1.trans h2, h3, (hf o).2.trans h4⟩
  · exact ⟨o, vs, (Heap.get?_update_other _ _ z).trans h1, h2, h3, h4⟩
theorem noCx_push {e : Addr} {ob : Obj} (s : Shared) (j : NoCx e s) : NoCx e { s with heap := s.heap.push ob } := by
  obtain ⟨o, vs, h1, h2, h3, h4⟩ := j
  exact ⟨o, vs, Heap.get?_push_of_some _ h1, h2, h3, h4⟩
end L2
set_option maxRecDepth 100000
set_option maxHeartbeats 400000
namespace L2
open PySem PySem.Spec PyProof.Rows
theorem KeepsT.bind {J : Shared → Prop} {α β : Type} {t : Sem α} {f : α → Sem β} (kt : KeepsT J t) (h : ∀ a, KeepsT J (f a)) : KeepsT J (t >>= f) := by
  show KeepsT J (t.bind f)
  induction kt with
  | pure a => exact h a
  | raise e => exact .raise e
  | unsupported w => exact .unsupported w
  | rule _ ih => exact .rule ih
  | load _ ih => exact .load ih
  | update g _ ih => exact .update g ih
  | alloc g _ ih => exact .alloc g ih
  | stack _ ih => exact .stack ih
section
variable {e : Addr}
theorem kt_load {a : Addr} : KeepsT (NoCx e) (load a) := .load fun o => .pure o
theorem kt_setField {v x : Value} {i : Nat} (hi : i ≠ 2) : KeepsT (NoCx e) (setField v i x) := by
  unfold setField
  split
  · rename_i a
    unfold updateField
    refine kt_load.bind fun o => ?_
    split
    · split
      · exact .update (fun s j => noCx_set hi s j) (.pure ())
      · exact .unsupported _
    · exact .unsupported _
  · exact .unsupported _
theorem kt_fieldsOf {v : Value} : KeepsT (NoCx e) (fieldsOf v) := by
  unfold fieldsOf
  split
  · refine kt_load.bind fun o => ?_
    split
    · exact .pure _
    · exact .unsupported _
  · exact .unsupported _
theorem kt_field {v : Value} {i : Nat} : KeepsT (NoCx e) (field v i) := by
  unfold field
  refine kt_fieldsOf.bind fun vs => ?_
  split
  · exact .pure _
  · exact .unsupported _
theorem kt_flight {v : Value} {f : Option Addr} : KeepsT (NoCx e) (setFlight v f) := by
  unfold setFlight
  refine kt_field.bind fun tb => ?_
  split
  · exact kt_setField (by decide)
  · exact .pure _
theorem kt_stack : KeepsT (NoCx e) stack := .stack fun t => .pure t
theorem kt_newFields {ty : String} {vs : List Value} : KeepsT (NoCx e) (newFields ty vs) := by
  unfold newFields newObj newObjAsIs
  show KeepsT (NoCx e) (if vs.toArray.size > sizeLine + 2 then (unsupported "record:memory" >>= _) else _)
  split
  · exact .unsupported _
  · exact KeepsT.bind (.alloc (fun s j => noCx_push s j) fun a => .pure a) fun a => .pure _
theorem kt_place {f : Addr} {b : Bool} : KeepsT (NoCx e) (entryPlaceOf f b) := by
  unfold entryPlaceOf
  refine kt_stack.bind fun acts => ?_
  split
  · exact .pure _
  · exact .pure _
theorem kt_ready : ∀ l : List Env, KeepsT (NoCx e) (readyFrames l)
  | [] => .pure _
  | env :: outer => by
    unfold readyFrames
    split
    · refine kt_load.bind fun o => ?_
      split
      · exact .pure _
      · refine KeepsT.bind ?_ fun im => KeepsT.bind ?_ fun bk => KeepsT.bind (.update (fun s j => noCx_slots (by intro o; exact ⟨rfl, rfl⟩) s j) (.pure ())) fun _ => kt_ready outer
        · unfold behindIsImport
          split
          · exact .pure _
          · split
            · exact .pure _
            · exact kt_field.bind fun _ => .pure _
        · unfold keptBack
          split
          · split
            · exact .pure _
            · unfold underTheClaimsCaller
              exact KeepsT.bind (kt_stack.bind fun _ => .pure _) fun _ => .pure _
          · exact .pure _
    · exact .unsupported _
theorem kt_frameOf {env : Env} : KeepsT (NoCx e) (PySem.frameOf env) := by
  unfold PySem.frameOf frameEnvs
  refine KeepsT.bind (kt_stack.bind fun _ => .pure _) fun l => ?_
  refine KeepsT.bind ?_ fun r => ?_
  · unfold frameObject
    split
    · exact .pure _
    · exact (kt_ready _).bind fun _ => .pure _
  · split
    · exact .pure _
    · exact .unsupported _
theorem kt_note {v : Value} {env : Env} : KeepsT (NoCx e) (noteFrame v env) := by
  unfold noteFrame
  split
  · rename_i x d hq
    refine kt_field.bind fun hd => ?_
    have tail : KeepsT (NoCx e) (do let a ← PySem.frameOf env; let pl ← entryPlaceOf d (hd != .none); let b ← EntryCells.newEntry hd a .none (rawInt d) .none pl; setField v 1 b) :=
      kt_frameOf.bind fun a => kt_place.bind fun pl => KeepsT.bind kt_newFields fun b => kt_setField (by decide)
    dsimp only
    split
    · refine kt_field.bind fun x => ?_
      split
      · exact .pure _
      · exact (kt_setField (by decide)).bind fun _ => tail
    · exact tail
  · exact .unsupported _
theorem kt_leaving {v : Value} {env : Env} : KeepsT (NoCx e) (leaving env v) := by
  unfold leaving
  exact kt_note.bind fun _ => kt_flight
end
end L2
set_option maxRecDepth 100000
set_option maxHeartbeats 4000000
namespace L2
open PySem PySem.Spec PyProof.Rows
/-! ### an exception on its way -/
theorem ObjOk.have' {P : Program} {w : World} {H : Hp} {h : Heap} {a : Addr} {o : HO} (x : ObjOk P w H h a o) : ∃ ob, h.get? a = some ob := by
  cases o with
  | lst xs => obtain ⟨_, _, _, _, e⟩ := x; exact ⟨_, e⟩
  | tup xs => obtain ⟨_, _, _, ob, e, _⟩ := x; exact ⟨_, e⟩
  | dK kvs => obtain ⟨_, _, _, _, o, _, _, e, _⟩ := x; exact ⟨_, e⟩
  | dT kvs => obtain ⟨_, _, _, _, o, _, _, e, _⟩ := x; exact ⟨_, e⟩
  | set S n => obtain ⟨o, _, _, _, e, _⟩ := x; exact ⟨_, e⟩
  | ins C dx fs => obtain ⟨_, _, _, e, _⟩ := x; exact ⟨_, e⟩
  | own y => obtain ⟨_, e⟩ := x; exact ⟨_, e⟩
  | xd fs => obtain ⟨_, ⟨_, _, _, e, _⟩, _⟩ := x; exact ⟨_, e⟩
  | rng lo hi => obtain ⟨_, _, _, e⟩ := x; exact ⟨_, e⟩
  | frz ob u => obtain ⟨e, _⟩ := x; exact ⟨_, e⟩
  | tbl ps => exact ⟨_, (show h.get? a = some _ from x)⟩
  | met f y => exact ⟨_, (show h.get? a = some _ from x)⟩
  | ext φ => obtain ⟨_, ⟨_, e⟩, _⟩ := x; exact ⟨_, e⟩
/-- the tracked things stay where all their objects do -/
theorem HOk.stay' {P : Program} {w : World} {H : Hp} {h h' : Heap} (ok : HOk P w H h) (k : ∀ b u, H b ≠ none → h.get? b = some u → h'.get? b = some u) : HOk P w H h' := fun a o e =>
  (ok a o e).stay (fun b u hb hu => k b u (by
    rcases hb with rfl | hb
    · rw [e]; exact Option.some_ne_none _
    · rw [hb]; exact Option.some_ne_none _) hu) (fun _ z => z) (fun _ _ z => z)
/-- where an exception is: raised in a call made at (H, s), behind which the frames of outer stand -/
def CXe (P : Program) (w : World) : CXT := fun outer H s E e s' => ∃ (ea : Addr) (cls : Value) (t : Addr) (B : Heap) (H' : Hp),
  e = .ref ea ∧ s'.os = s.os ∧ AllBare s'.gens ∧ Un (frs outer) [] H H' s.heap s'.heap ∧ HOk P w H' s'.heap ∧ Heap.FlyingW B outer ea cls (.ref t) s'.heap ∧ NoCx ea s' ∧ H' ea = none ∧
  (∀ b, H' b ≠ none → ∀ o, s'.heap.get? b = some o → B.get? b = some o) ∧ (∀ b o, s.heap.get? b = some o → b ∉ frs outer → ∀ o', s'.heap.get? b = some o' → B.get? b = some o') ∧ E cls none H'
theorem cxe_none {P : Program} {w : World} {outer : List Env} {H : Hp} {s : Shared} {e : Value} {s' : Shared} (h : CXe P w outer H s E0 e s') : False := by
  obtain ⟨_, _, _, _, _, _, _, _, _, _, _, _, _, _, _, h⟩ := h
  exact h
section
variable {P : Program} {w : World} {K : PySem.W.Frag} {mg : Str → Option Value} {base : Heap} {N : List Str} {qual : Str} {scope : Scope} {f : Addr} {cd : Value} {A : Around} {outer : List Env} {s₀ : Shared} {H₀ : Hp} {E : XK}
/-- an exception that came out of a call leaves the frame -/
theorem passE : Passes (CXe P w) (cxOf (CXe P w) P w K mg base N qual scope f cd A outer s₀ H₀ E) E := by
  intro pins σ H s e s' I hx
  obtain ⟨ea, cls, t, B, H', rfl, os, bare, u, hok, fl, ncx, hea, c1, c2, hE⟩ := hx
  have hfr := I.ok.frames
  have hL : s₀.heap.objs.size ≤ (envOfC qual scope s₀.heap.objs.size f cd).locals := I.ok.above
  have nL : ∀ b o, s₀.heap.get? b = some o → b ∉ frs outer → b ∉ frs (envOfC qual scope s₀.heap.objs.size f cd :: outer) := fun b o hb hn hm => by
    have hm' : b ∈ (envOfC qual scope s₀.heap.objs.size f cd).locals :: frs outer := hm
    rcases List.mem_cons.mp hm' with rfl | z
    · exact absurd (Heap.lt_size hb) (Nat.not_lt.mpr hL)
    · exact hn z
  have stk : ∀ b ∈ frs (envOfC qual scope s₀.heap.objs.size f cd :: outer), H' b = none := fun b hb => by
    obtain ⟨o, ho, _⟩ := (I.stack.mem hb).2
    exact u.free b o ho (I.stkFree b hb) List.not_mem_nil
  refine wpAny_mono (wpAny_keepsT kt_leaving ncx (wpAny_leaves_onW (Q := fun _ s'' => ∃ h', s'' = { s' with heap := h' } ∧ Heap.FlyingW B outer ea cls (.ref t) h' ∧ s'.heap.UpToSlots h') (E := fun _ _ => False) hfr rfl fl fun h' fl' up => ⟨h', rfl, fl', up⟩))
    (fun _ s'' hq => ?_) (fun _ _ z => z.1.elim)
  obtain ⟨⟨h', rfl, fl', up⟩, nc'⟩ := hq
  have into : ∀ b o, s.heap.get? b = some o → b ∉ frs (envOfC qual scope s₀.heap.objs.size f cd :: outer) → ∀ o', s'.heap.get? b = some o' → h'.get? b = some o' := fun b o hb hn o' ho' => fl'.1 b o' (c2 b o hb hn o' ho')
  have trk : ∀ b o, H' b ≠ none → s'.heap.get? b = some o → h'.get? b = some o := fun b o hb ho => fl'.1 b o (c1 b hb o ho)
  have frm : ∀ b ∈ frs (envOfC qual scope s₀.heap.objs.size f cd :: outer), ∀ o, s'.heap.get? b = some o → ∃ sl, h'.get? b = some { o with slots := sl } := fun b hb o ho => by
    obtain ⟨o1, ho1, hd⟩ := (fl.2.2.1.mem hb).2
    rw [ho] at ho1
    cases ho1
    exact up b o ho hd
  refine ⟨ea, cls, t, B, H', rfl, os.trans I.os, bare, ⟨fun b o q n hn _ => ?_, fun b o q n hn _ => ?_, fun b o q n _ => ?_, fun b o q _ => ?_, fun b xs q => u.tups b xs (I.base.tups b xs q), fun b o v q => u.frzs b o v (I.base.frzs b o v q), fun b ps q => ?_⟩,
    hok.stay' (fun b o hb ho => trk b o hb ho), fl', nc', hea, fun b hb o ho => ?_, fun b o q hn o' ho' => ?_, hE⟩
  · have q1 := I.base.keep b o q n hn List.not_mem_nil
    have n1 := I.base.free b o q n List.not_mem_nil
    have hn1 := nL b o q hn
    exact into b o q1 hn1 o (u.keep b o q1 n1 hn1 List.not_mem_nil)
  · obtain ⟨sl, q1⟩ := I.base.slot b o q n hn List.not_mem_nil
    have n1 := I.base.free b o q n List.not_mem_nil
    have hn1 : b ∈ frs (envOfC qual scope s₀.heap.objs.size f cd :: outer) := List.mem_cons_of_mem _ hn
    obtain ⟨sl2, q2⟩ := u.slot b _ q1 n1 hn1 List.not_mem_nil
    obtain ⟨sl3, q3⟩ := frm b hn1 _ q2
    exact ⟨sl3, q3⟩
  · obtain ⟨o1, q1⟩ := I.base.there b o q List.not_mem_nil
    exact u.free b o1 q1 (I.base.free b o q n List.not_mem_nil) List.not_mem_nil
  · obtain ⟨o1, q1⟩ := I.base.there b o q List.not_mem_nil
    obtain ⟨o2, q2⟩ := u.there b o1 q1 List.not_mem_nil
    by_cases hm : b ∈ frs (envOfC qual scope s₀.heap.objs.size f cd :: outer)
    · obtain ⟨sl, q3⟩ := frm b hm o2 q2
      exact ⟨_, q3⟩
    · exact ⟨o2, into b o1 q1 hm o2 q2⟩
  · obtain ⟨m1, e1⟩ := I.base.tbls b ps q
    obtain ⟨m2, e2⟩ := u.tbls b _ e1
    exact ⟨m1 ++ m2, by rw [e2, Array.append_assoc]⟩
  · obtain ⟨ho2, hH⟩ := Option.ne_none_iff_exists'.mp hb
    obtain ⟨o2, q2⟩ := (hok b ho2 hH).have'
    have q3 := trk b o2 hb q2
    have q3' : h'.get? b = some o := ho
    rw [q3] at q3'
    cases q3'
    exact c1 b hb _ q2
  · obtain ⟨o1, q1⟩ := I.base.there b o q List.not_mem_nil
    obtain ⟨o2, q2⟩ := u.there b o1 q1 List.not_mem_nil
    have hn1 := nL b o q hn
    have q3 := into b o1 q1 hn1 o2 q2
    have q3' : h'.get? b = some o' := ho'
    rw [q3] at q3'
    cases q3'
    exact c2 b o1 q1 hn1 _ q2
/-- a new exception that leaves the frame -/
def Raises (X : Cx) (E : XK) : Prop := ∀ (pins : List (Addr × Obj)) (σ : St) (H : Hp) (s : Shared) (h' : Heap) (e : Addr) (cls : Value) (vs : List Value), Inv X pins σ H s → Heap.MadeExcOf s.heap h' e cls vs → E cls none H → X.xe (.ref e) { s with heap := h' }
theorem raiseE : Raises (cxOf (CXe P w) P w K mg base N qual scope f cd A outer s₀ H₀ E) E := by
  intro pins σ H s h1 e cls vs I hx hE
  have hfr := I.ok.frames
  have hL : s₀.heap.objs.size ≤ (envOfC qual scope s₀.heap.objs.size f cd).locals := I.ok.above
  have nL : ∀ b o, s₀.heap.get? b = some o → b ∉ frs outer → b ∉ frs (envOfC qual scope s₀.heap.objs.size f cd :: outer) := fun b o hb hn hm => by
    have hm' : b ∈ (envOfC qual scope s₀.heap.objs.size f cd).locals :: frs outer := hm
    rcases List.mem_cons.mp hm' with rfl | z
    · exact absurd (Heap.lt_size hb) (Nat.not_lt.mpr hL)
    · exact hn z
  have hin : ∀ env ∈ (envOfC qual scope s₀.heap.objs.size f cd :: outer), ∀ b, env.frame = some b → b ∈ frs (envOfC qual scope s₀.heap.objs.size f cd :: outer) := fun env he b hb => List.mem_filterMap.mpr ⟨env, he, hb⟩
  have ncx : NoCx e { s with heap := h1 } := by
    obtain ⟨t, ht, _, _⟩ := hx.there
    exact ⟨_, _, ht, rfl, rfl, rfl⟩
  refine wpAny_mono (wpAny_keepsT kt_leaving ncx (wpAny_leaves_madeW (Q := fun _ s'' => ∃ h' t, s'' = { s with heap := h' } ∧ Heap.FlyingW (PySem.W.hideAll s.heap (frs (envOfC qual scope s₀.heap.objs.size f cd :: outer))) outer e cls (.ref t) h' ∧ h1.UpToSlots h') (E := fun _ _ => False)
    hfr rfl (fun b o q => PySem.W.of_hideAll _ q) (PySem.W.funFrames_hide I.stack hin) hx fun h' t fl' _ _ up => ⟨h', t, rfl, fl', up⟩)) (fun _ s'' hq => ?_) (fun _ _ z => z.1.elim)
  obtain ⟨⟨h', t, rfl, fl', up⟩, nc'⟩ := hq
  have into : ∀ b o, s.heap.get? b = some o → b ∉ frs (envOfC qual scope s₀.heap.objs.size f cd :: outer) → h'.get? b = some o := fun b o hb hn => fl'.1 b o (PySem.W.hideAll_get _ hb hn)
  have ntr : ∀ b, H b ≠ none → b ∉ frs (envOfC qual scope s₀.heap.objs.size f cd :: outer) := fun b hb hm => hb (I.stkFree b hm)
  have frm : ∀ b ∈ frs (envOfC qual scope s₀.heap.objs.size f cd :: outer), ∀ o, s.heap.get? b = some o → ∃ sl, h'.get? b = some { o with slots := sl } := fun b hb o ho => by
    obtain ⟨o1, ho1, hd⟩ := (I.stack.mem hb).2
    rw [ho] at ho1
    cases ho1
    exact up b o (hx.keeps b o ho) hd
  refine ⟨e, cls, t, _, H, rfl, I.os, I.bare, ⟨fun b o q n hn _ => ?_, fun b o q n hn _ => ?_, fun b o q n _ => I.base.free b o q n List.not_mem_nil, fun b o q _ => ?_, I.base.tups, I.base.frzs, I.base.tbls⟩,
    I.hok.stay' (fun b o hb ho => into b o ho (ntr b hb)), fl', nc', ?_, fun b hb o ho => ?_, fun b o q hn o' ho' => ?_, hE⟩
  · exact into b o (I.base.keep b o q n hn List.not_mem_nil) (nL b o q hn)
  · obtain ⟨sl, q1⟩ := I.base.slot b o q n hn List.not_mem_nil
    obtain ⟨sl3, q3⟩ := frm b (List.mem_cons_of_mem _ hn) _ q1
    exact ⟨sl3, q3⟩
  · obtain ⟨o1, q1⟩ := I.base.there b o q List.not_mem_nil
    by_cases hm : b ∈ frs (envOfC qual scope s₀.heap.objs.size f cd :: outer)
    · obtain ⟨sl, q3⟩ := frm b hm o1 q1
      exact ⟨_, q3⟩
    · exact ⟨o1, into b o1 q1 hm⟩
  · cases q : H e with
    | none => rfl
    | some ho =>
      obtain ⟨o2, q2⟩ := (I.hok e ho q).have'
      rw [hx.new] at q2
      cases q2
  · obtain ⟨ho2, hH⟩ := Option.ne_none_iff_exists'.mp hb
    obtain ⟨o2, q2⟩ := (I.hok b ho2 hH).have'
    have q3 := into b o2 q2 (ntr b hb)
    have q3' : h'.get? b = some o := ho
    rw [q3] at q3'
    cases q3'
    exact PySem.W.hideAll_get _ q2 (ntr b hb)
  · obtain ⟨o1, q1⟩ := I.base.there b o q List.not_mem_nil
    have hn1 := nL b o q hn
    have q3 := into b o1 q1 hn1
    have q3' : h'.get? b = some o' := ho'
    rw [q3] at q3'
    cases q3'
    exact PySem.W.hideAll_get _ q1 hn1
end
section
variable {X : Cx}
/-- raise C(..) of an own class -/
theorem ps_raise {x : Str} {C : Addr} {bm : List Value} {B newId initId : String} {e : Expr} {es : List Expr} {t : TA} {np cpos pos : Pos} {E : XK} (hc : X.calm = true) (O : OwnCls x C bm newId X.mg X.base) (FB : ExcBaseFacts B newId initId bm) (hgl : Gl X x)
    (hd : (x == ("__debug__" : Str)) = false) (ha : PA X (e :: es) t) (hs : starEach (e :: es) X.env = (false, eval e X.env) :: starEach es X.env) (h1 : (backTo cpos (starEach es X.env)).any (·.1) = false) (hR : Raises X E) :
    PS X (.Raise (some (.Call (.Name x np) (e :: es) [] cpos)) none pos) (sRaise C E t) := by
  intro pins s σ H D I h
  obtain ⟨tl, N, nm, q, bs, hdct, sn, sub, ab, col, dd, k0, k1, k2, k3, k5, mN, hC, hN, hni, T⟩ := O.obj
  have hg : PE X (.Name x np) (tC (.ref C)) := pe_glob hgl O.bound rfl hd
  refine wpAny_Raise_call_subT (C := C) (nm := nm) (q := q) (N := N) (bs := bs) (bm := tl) (hdct := hdct) (sn := sn) (sub := sub) (ab := ab) (col := col) (dd := dd) (k0 := k0) (k1 := k1) (k2 := k2) (k3 := k3) (k5 := k5)
    FB (mN := mN) (T.hasType FB.hasBase) (I.ok.hd hc) (by rw [hs]; show (false || (backTo cpos (starEach es X.env)).any (·.1)) = false; rw [h1]; rfl) hni
    (thn (hg pins s σ H (fun v H1 => v = .ref C ∧ sRaise C E t D σ H1) I ⟨rfl, h⟩) fun f s1 ⟨v, H1, I1, r1, ev, q1⟩ => ?_)
  subst ev
  obtain rfl : f = Value.ref C := r1
  refine ⟨rfl, ?_⟩
  have hA := ha cpos pins s1 σ H1 _ I1 q1
  rw [hs] at hA ⊢
  refine Calls.evalArgs_plain (thn hA fun us s2 ⟨vs, H2, I2, r2, hl, q2⟩ => ⟨rfl, ?_, I2.bk _ _ hC, hN.keeps I2.bk, T.keeps I2.bk, fun h' e' hm => hR pins σ H2 s2 h' e' _ _ I2 hm q2⟩)
  have := r2.length
  show us.length ≤ sizeLine
  omega
end
end L2
set_option maxRecDepth 100000
set_option maxHeartbeats 4000000
namespace L2
open PySem PySem.Spec PyProof.Rows
theorem cxe_move {P : Program} {w : World} {l : List Env} {H H' : Hp} {h h1 h' B : Heap} (u : Un (frs l) [] H H' h h1) (hok : HOk P w H' h1) (fr : h1.FunFrames B l)
    (c1 : ∀ b, H' b ≠ none → ∀ o, h1.get? b = some o → B.get? b = some o) (c2 : ∀ b o, h.get? b = some o → b ∉ frs l → ∀ o', h1.get? b = some o' → B.get? b = some o') (st : B.StaysIn h') (up : h1.UpToSlots h') :
    Un (frs l) [] H H' h h' ∧ HOk P w H' h' ∧ (∀ b, H' b ≠ none → ∀ o, h'.get? b = some o → B.get? b = some o) ∧ (∀ b o, h.get? b = some o → b ∉ frs l → ∀ o', h'.get? b = some o' → B.get? b = some o') := by
  have trk : ∀ b o, H' b ≠ none → h1.get? b = some o → h'.get? b = some o := fun b o hb ho => st b o (c1 b hb o ho)
  have into : ∀ b o, h.get? b = some o → b ∉ frs l → ∀ o', h1.get? b = some o' → h'.get? b = some o' := fun b o hb hn o' ho' => st b o' (c2 b o hb hn o' ho')
  have frm : ∀ b ∈ frs l, ∀ o, h1.get? b = some o → ∃ sl, h'.get? b = some { o with slots := sl } := fun b hb o ho => by
    obtain ⟨o1, ho1, hd⟩ := (fr.mem hb).2
    rw [ho] at ho1
    cases ho1
    exact up b o ho hd
  refine ⟨⟨fun b o q n hn _ => into b o q hn o (u.keep b o q n hn List.not_mem_nil), fun b o q n hn _ => ?_, u.free, fun b o q _ => ?_, u.tups, u.frzs, u.tbls⟩, hok.stay' (fun b o hb ho => trk b o hb ho), fun b hb o ho => ?_, fun b o q hn o' ho' => ?_⟩
  · obtain ⟨sl, q1⟩ := u.slot b o q n hn List.not_mem_nil
    obtain ⟨sl2, q2⟩ := frm b hn _ q1
    exact ⟨sl2, q2⟩
  · obtain ⟨o1, q1⟩ := u.there b o q List.not_mem_nil
    by_cases hm : b ∈ frs l
    · obtain ⟨sl, q3⟩ := frm b hm o1 q1
      exact ⟨_, q3⟩
    · exact ⟨o1, into b o q hm o1 q1⟩
  · obtain ⟨ho2, hH⟩ := Option.ne_none_iff_exists'.mp hb
    obtain ⟨o2, q2⟩ := (hok b ho2 hH).have'
    have q3 := trk b o2 hb q2
    rw [q3] at ho
    cases ho
    exact c1 b hb _ q2
  · obtain ⟨o2, q2⟩ := u.there b o q List.not_mem_nil
    have q3 := into b o q hn o2 q2
    rw [q3] at ho'
    cases ho'
    exact c2 b o q hn _ q2
/-- another way of going on from the same state -/
def Cx.alt (X : Cx) (A : Around) (calm : Bool) (pn : List (Addr × Obj)) (xe : Value → Shared → Prop) : Cx := { X with A := A, calm := calm, pn := pn, xe := xe }
theorem Inv.alt {X : Cx} {pins pins' pn' : List (Addr × Obj)} {σ : St} {H : Hp} {s : Shared} {A' : Around} {calm' : Bool} {xe' : Value → Shared → Prop} (I : Inv X pins σ H s) (hf : A'.frames = X.A.frames) (hc : calm' = true → A'.handled = none) (hp : ∀ p ∈ pn' ++ pins', p ∈ X.pn ++ pins) :
    Inv (X.alt A' calm' pn' xe') pins' σ H s where
  ok := ⟨I.ok.mod, I.ok.kind, I.ok.glob, I.ok.blt, I.ok.above, I.ok.inj, I.ok.has, I.ok.cab, hc, hf.trans I.ok.frames, I.ok.stk, I.ok.exf, I.ok.bs, I.ok.bsz, I.ok.noex, I.ok.exfs, I.ok.funs, I.ok.frf⟩
  os := I.os
  bare := I.bare
  base := I.base
  loc := I.loc
  cell := I.cell
  free := I.free
  freeC := I.freeC
  pin := fun p h => I.pin p (hp p h)
  hok := I.hok
  len := I.len
/-- back again -/
theorem Inv.unalt {X : Cx} {pins pins' pn' : List (Addr × Obj)} {σ : St} {H : Hp} {s : Shared} {A' : Around} {calm' : Bool} {xe' : Value → Shared → Prop} (ok : X.Ok) (I : Inv (X.alt A' calm' pn' xe') pins' σ H s) (hp : ∀ p ∈ X.pn ++ pins, p ∈ pn' ++ pins') :
    Inv X pins σ H s where
  ok := ok
  os := I.os
  bare := I.bare
  base := I.base
  loc := I.loc
  cell := I.cell
  free := I.free
  freeC := I.freeC
  pin := fun p h => I.pin p (hp p h)
  hok := I.hok
  len := I.len
theorem excO_ok {P : Program} {w : World} {H : Hp} {h : Heap} {ea : Addr} {ob : Obj} (h1 : h.get? ea = some ob) : ObjOk P w H h ea (.frz ob excU) :=
  ⟨h1, trivial, ⟨ob, h1⟩, fun _ _ _ _ => trivial⟩
/-- a new thing is tracked -/
theorem HOk.more {P : Program} {w : World} {H : Hp} {h : Heap} {a : Addr} {o : HO} (ok : HOk P w H h) (ha : H a = none) (x : ObjOk P w (upd H a o) h a o) : HOk P w (upd H a o) h := fun b u e => by
  by_cases z : b = a
  · subst z
    rw [upd_same] at e
    cases e
    exact x
  · rw [upd_ne z] at e
    exact (ok b u e).stay (fun _ _ _ q => q) (fun c q => by rw [upd_ne (ne_of_none q ha)]; exact q) (fun c xs q => by rw [upd_ne (ne_of_none q ha)]; exact q)
section
variable {X : Cx}
theorem Inv.unname {pins : List (Addr × Obj)} {σ : St} {H : Hp} {s : Shared} {h' : Heap} {m' : Str → Option Value} {tk : Nat} (I : Inv X pins σ H s) (hn : h'.Ns X.env.locals m') (sb : Heap.SameBut X.env.locals s.heap h') :
    Inv X pins (List.replicate X.N.length none) H { s with heap := h', toks := tk } where
  ok := I.ok
  os := I.os
  bare := I.bare
  base := by
    have ne : ∀ b o, X.s₀.heap.get? b = some o → b ≠ X.env.locals := fun b o q z => by
      rw [z] at q
      exact absurd (Heap.lt_size q) (Nat.not_lt.mpr I.ok.above)
    refine ⟨fun b o q n hn hx => (sb.2 b (ne b o q)).trans (I.base.keep b o q n hn hx), fun b o q n hn hx => ?_, I.base.free, fun b o q hx => ?_, I.base.tups, I.base.frzs, I.base.tbls⟩
    · obtain ⟨sl, e⟩ := I.base.slot b o q n hn hx
      exact ⟨sl, (sb.2 b (ne b o q)).trans e⟩
    · obtain ⟨o', e⟩ := I.base.there b o q hx
      exact ⟨o', (sb.2 b (ne b o q)).trans e⟩
  loc := ⟨m', hn, fun i x v h1 h2 => by
    rw [List.getElem?_replicate] at h2
    split at h2 <;> cases h2⟩
  cell := fun x c h => by
    obtain ⟨v, o, e, d⟩ := I.cell x c h
    refine ⟨v, o, (sb.2 c (fun z => ?_)).trans e, d⟩
    obtain ⟨m, ⟨o2, es, ep, e2, d2, _⟩, _⟩ := I.loc
    rw [z, e2] at e
    cases e
    rw [d] at d2
    cases d2
  free := I.free
  freeC := I.freeC
  pin := fun p hp => by
    obtain ⟨a, b, c, d, e⟩ := I.pin p hp
    exact ⟨(sb.2 _ c).trans a, b, c, d, e⟩
  hok := I.hok.stay' fun b u hb hu => (sb.2 b (fun z => hb (by rw [z]; exact I.free))).trans hu
  len := List.length_replicate
theorem ps_try {x n : Str} {C : Addr} {i : Nat} {body : List Stmt} {b₀ : Stmt} {suite : List Stmt} {tb : XK → TS} {th : Addr → TS} {np hpos pos : Pos} (hst : X.stack = X.env :: X.outer) (hfr : X.env.frame = some X.env.locals) (hex : X.ex = [])
    (hgl : Gl X x) (hd : (x == ("__debug__" : Str)) = false) (hmg : X.mg x = some (.ref C)) (nd : X.N.Nodup) (hN : X.N[i]? = some n) (hlo : X.env.scope.names.lookup n = some .local)
    (hb : ∀ (pn : List (Addr × Obj)) (xe : Value → Shared → Prop) (E : XK), PassesOwn (model X.prog X.w) X.A X.env xe → Passes (CXe X.prog X.w) (X.alt X.A X.calm pn xe) E → PSs (X.alt X.A X.calm pn xe) body (tb E))
    (hh : ∀ (ea : Addr) (pn : List (Addr × Obj)), PSs (X.alt (X.A.mark (some (.ref ea))) false pn fun _ _ => False) (b₀ :: suite) (th ea)) :
    PS X (.Try body [.ExceptHandler (some (.Name x np)) (some n) (b₀ :: suite) hpos] [] [] pos) (sTry X.K C i X.N.length tb th) := by
  intro pins s σ H D I h
  refine wpAny_Try_except ?_
  have P1 : Passes (CXe X.prog X.w) (X.alt X.A X.calm (X.pn ++ pins) fun e s₁ => wpAny (model X.prog X.w) X.A (noteFrame e X.env) (fun _ s₂ => wpAny (model X.prog X.w) X.A (setFlight e none) (fun _ s₃ => wpAny (model X.prog X.w) X.A (handleBy e X.env [.ExceptHandler (some (.Name x np)) (some n) (b₀ :: suite) hpos]) (SP X pins D) X.xe s₃) X.xe s₂) X.xe s₁) (eTry X.K C i X.N.length th D) := by
    intro pins' σ' H1 s1 e' s' I1 hx
    obtain ⟨ea, cls, t, B, H', rfl, os, bare, u, hok, fl, ncx, hea, c1, c2, hm, hth⟩ := hx
    have hfrm : X.A.frames = some (X.env :: X.outer) := by rw [I.ok.frames, hst]
    have fl' : Heap.FlyingW B (X.env :: X.outer) ea cls (.ref t) s'.heap := by rw [← hst]; exact fl
    refine wpAny_mono (wpAny_keepsT kt_note ncx (wpAny_looks_onW (Q := fun _ s'' => ∃ h', s'' = { s' with heap := h' } ∧ Heap.HeldW B (X.env :: X.outer) ea cls (.ref t) X.env.locals h' ∧ s'.heap.UpToSlots h') (E := fun _ _ => False) hfrm hfr fl' fun h4 hd4 up4 => ⟨h4, rfl, hd4, up4⟩))
      (fun _ s4 hq => ?_) (fun _ _ z => z.1.elim)
    obtain ⟨⟨h4, rfl, hd4, up4⟩, nc4⟩ := hq
    refine wpAny_mono (wpAny_keepsT kt_flight nc4 (wpAny_landsW (s := { s' with heap := h4 }) (Q := fun _ s'' => ∃ h', s'' = { s' with heap := h' } ∧ Heap.FlyingW B (X.env :: X.outer) ea cls (.ref t) h' ∧ h4.UpToSlots h') (E := fun _ _ => False) hd4 fun h5 fl5 up5 => ⟨h5, rfl, fl5, up5⟩))
      (fun _ s5 hq => ?_) (fun _ _ z => z.1.elim)
    obtain ⟨⟨h5, rfl, fl5', up5⟩, nc5⟩ := hq
    have fl5 : Heap.FlyingW B X.stack ea cls (.ref t) h5 := by rw [hst]; exact fl5'
    obtain ⟨u5, ok5, c15, c25⟩ := cxe_move (l := X.stack) u hok fl.2.2.1 c1 c2 fl5.1 (up4.trans up5)
    obtain ⟨oe, ws, hoe, hoec, hoed, hoe0⟩ := fl5.first
    have I5 := I1.call' (s' := { s' with heap := h5 }) (ch := []) os u5 ok5 bare (fun b z => absurd z List.not_mem_nil)
    refine wpAny_handleBy_cons (codeAny_handlers_test ?_) (by intro q; cases q)
    have I5' : Inv (X.alt (X.A.mark (some (.ref ea))) false (X.pn ++ pins) fun _ _ => False) [] σ' H' { s' with heap := h5 } := I5.alt (A' := X.A.mark (some (.ref ea))) (calm' := false) (pn' := X.pn ++ pins) (pins' := []) rfl (fun z => nomatch z) (fun p hp => List.mem_append.mpr (.inl (by rw [List.append_nil] at hp; exact hp)))
    refine ld_glob I5' hgl hmg ?_ hd
    have LT : PySem.W.Looks (model X.prog X.w) h5 (typeOf (.ref ea)) cls := by
      subst hoec
      exact (PySem.W.Looks.ld hoe).andThen .now
    refine (PySem.W.exm_one I5.kIn LT hm).here ?_
    refine codeAny_handlers_suite_as ?_
    refine wpAny_mono (wpAny_keepsT kt_flight nc5 (lands_againW (s := { s' with heap := h5 }) (Q := fun _ s'' => ∃ h', s'' = { s' with heap := h' } ∧ Heap.FlyingW B X.stack ea cls (.ref t) h' ∧ h5.UpToSlots h') (E := fun _ _ => False) fl5 fun h6 fl6 up6 => ⟨h6, rfl, fl6, up6⟩))
      (fun _ s6 hq => ?_) (fun _ _ z => z.1.elim)
    obtain ⟨⟨h6, rfl, fl6, up6⟩, nc6⟩ := hq
    obtain ⟨u6, ok6, c16, c26⟩ := cxe_move (l := X.stack) u5 ok5 fl5.2.2.1 c15 c25 fl6.1 up6
    obtain ⟨oe6, ws6, hoe6, hoec6, hoed6, _⟩ := fl6.first
    have hn6 : ExcObj oe6 cls ws6 := by
      obtain ⟨o', vs', q1, q2, q3, q4⟩ := nc6
      have q1' : h6.get? ea = some o' := q1
      rw [hoe6] at q1'
      cases q1'
      rw [hoed6] at q2
      cases q2
      exact ⟨hoec6, hoed6, q3, q4⟩
    have ne1 : s1.heap.get? ea = none := by
      cases q : s1.heap.get? ea with
      | none => rfl
      | some o1 =>
        by_cases hmm : ea ∈ frs X.stack
        · obtain ⟨o2, ho2, hd2⟩ := (fl6.2.2.1.mem hmm).2
          rw [hoe6] at ho2
          cases ho2
          exact (hd2 _ hoed6).elim
        · have := c26 ea o1 q hmm oe6 hoe6
          rw [fl6.2.1] at this
          cases this
    have u7 : Un (frs X.stack) [] H1 (upd H' ea (.frz oe6 excU)) s1.heap h6 := ⟨u6.keep, u6.slot, fun b o q n hx => by
        rw [upd_ne (fun z => by rw [z, ne1] at q; cases q)]; exact u6.free b o q n hx, u6.there, fun b xs q => by
        have q' := u6.tups b xs q
        rw [upd_ne (ne_of_none q' hea)]; exact q', fun b o v q => by
        have q' := u6.frzs b o v q
        rw [upd_ne (ne_of_none q' hea)]; exact q', fun b ps q => by
        obtain ⟨more, q'⟩ := u6.tbls b ps q
        exact ⟨more, by rw [upd_ne (ne_of_none q' hea)]; exact q'⟩⟩
    have ok7 : HOk X.prog X.w (upd H' ea (.frz oe6 excU)) h6 := ok6.more hea (excO_ok hoe6)
    have I7 := I1.call' (s' := { s' with heap := h6 }) (ch := []) os u7 ok7 bare (fun b z => absurd z List.not_mem_nil)
    have I8 : Inv (X.alt (X.A.mark (some (.ref ea))) false (X.pn ++ pins) fun _ _ => False) [] σ' (upd H' ea (.frz oe6 excU)) { s' with heap := h6 } := I7.alt (A' := X.A.mark (some (.ref ea))) (calm' := false) (pn' := X.pn ++ pins) (pins' := []) rfl (fun z => nomatch z) (fun p hp => List.mem_append.mpr (.inl (by rw [List.append_nil] at hp; exact hp)))
    refine store_ok (X := X.alt (X.A.mark (some (.ref ea))) false (X.pn ++ pins) fun _ _ => False) (v := .ref ea) I8 nd hN (.inl hlo) rfl (fun s9 I9 => ?_) (.inr hlo)
    refine wpAny_mono (hh ea (X.pn ++ pins) [] s9 _ _ { nx := fun _ _ => False, rt := D.rt } I9 (hth ea oe6 ws6 σ' hea I1.len hn6)) (fun f s10 hs => ?_) fun _ _ z => z.elim
    cases f with
    | next => obtain ⟨_, _, _, z⟩ := hs; exact z.elim
    | brk => obtain ⟨_, _, _, z⟩ := hs; exact z.elim
    | cont => obtain ⟨_, _, _, z⟩ := hs; exact z.elim
    | ret v =>
      obtain ⟨v', σ'', H10, I10, r, q⟩ := hs
      have I11 : Inv X pins σ'' H10 s10 := I10.unalt I.ok (fun p hp => by simpa using hp)
      obtain ⟨m, hn, _⟩ := I11.loc
      refine wpAny_nameGoes hlo hn (by rw [I.ok.kind]; rfl) fun h' m' hn' sb => ?_
      exact ⟨v', _, H10, I11.unname hn' sb, r, q⟩
  refine wpAny_mono (hb _ _ _ PassesOwn.looking P1 [] s σ H { nx := D.nx, rt := D.rt } (I.alt rfl I.ok.hd (fun p hp => by simpa using hp)) h) (fun f s1 hs => ?_) fun e' s' hx => hx
  cases f with
  | next =>
    obtain ⟨σ', H', I', q⟩ := hs
    exact pss_nil pins s1 σ' H' D (I'.unalt I.ok (fun p hp => by simpa using hp)) q
  | brk => obtain ⟨_, _, _, z⟩ := hs; exact z.elim
  | cont => obtain ⟨_, _, _, z⟩ := hs; exact z.elim
  | ret v =>
    obtain ⟨v', σ', H', I', r, q⟩ := hs
    exact ⟨v', σ', H', I'.unalt I.ok (fun p hp => by simpa using hp), r, q⟩
end
end L2
set_option maxRecDepth 100000
set_option maxHeartbeats 4000000
namespace L2
open PySem PySem.Spec PyProof.Rows
/-! ### defs that an except suite calls -/
def HdAt (A : Around) (H : Hp) : Prop := ∃ e D, A.handled = some (.ref e) ∧ ExcAt H e D
def Hd (X : Cx) : Prop := HdAt X.A X.H₀
theorem ExcAt.keeps {H H' : Hp} {e D : Addr} (h : ExcAt H e D) (k : ∀ b o u, H b = some (.frz o u) → H' b = some (.frz o u)) : ExcAt H' e D := by
  obtain ⟨ob, vs, h1, h2⟩ := h
  exact ⟨ob, vs, k _ _ _ h1, h2⟩
section
variable {X : Cx} {pins : List (Addr × Obj)} {σ : St} {H : Hp} {s : Shared}
end
section
variable {X : Cx} {tg : Expr}
/-- isinstance(e, C) of a caught exception -/
theorem call_isx : CallR X (.builtin "isinstance") (rIsx X.K) := by
  intro pins s σ H xs us Q I r h
  match xs, h with
  | [.ref ea, c], h =>
    obtain ⟨D, b, ⟨ob, vs, h1, h2⟩, hC, hc, hk, hq⟩ := h
    cases r with
    | cons r1 r =>
      cases r with
      | cons r2 r =>
        cases r
        rename_i u1 u2
        cases (show u1 = Value.ref ea from r1)
        have e2 : u2 = cV c := by
          rcases hc with ⟨C, rfl⟩ | ⟨n, rfl⟩
          · exact r2
          · exact r2
        subst e2
        have at_ := (I.hok ea _ h1).1
        have inst : PySem.W.InstAt s.heap ea ob D none := ⟨at_, h2.cls, by unfold PySem.W.notCls; rw [h2.data], by rw [h2.dict]; trivial⟩
        exact PySem.W.kia_one (kitx_exc hC.hga hC.hgn hC.hk hC.ha hC.hn hC.htk hC.hm hC.hb) I.kIn inst hk (fun z => nomatch z) fun tk => ⟨.bl b, H, I.tok tk, rfl, hq⟩
end
structure RoomH (k : Nat) (A : Around) : Prop where
  dp : A.depth + 3 * k + 5 < recursionLimit
  un : A.units + 16 * k + 200 < cLine
theorem Room.h {k : Nat} {A : Around} (r : Room k A) : RoomH k A := ⟨r.dp, r.un⟩
theorem RoomH.mark {k : Nat} {A : Around} (r : RoomH k A) (v : Option Value) : RoomH k (A.mark v) := ⟨r.dp, r.un⟩
theorem RoomH.deeper {k : Nat} {A : Around} (r : RoomH (k + 1) A) (env : Env) : RoomH k (A.deeper env) :=
  ⟨by have := r.dp; show A.depth + 1 + 3 * k + 5 < _; omega, by have := r.un; show A.units + 3 + 16 * k + 200 < _; omega⟩
theorem RoomH.depth {k : Nat} {A : Around} (r : RoomH k A) : A.depth < recursionLimit := by have := r.dp; omega
theorem RoomH.units {k : Nat} {A : Around} (r : RoomH k A) : A.units + 64 < cLine := by have := r.un; omega
def CRH (outer : List Env) (P : Program) (w : World) (H : Hp) (s : Shared) (Q : VK) (r : Result) (s' : Shared) : Prop :=
  match r with
  | .ok (.ret u) => CE outer P w H s Q u s'
  | _ => False
structure FnOkH (P : Program) (w : World) (K : PySem.W.Frag) (mg : Str → Option Value) (base : Heap) (k : Nat) (f : Addr) (fd : FuncData) (ps : List Str) (sp : Sp) : Prop where
  len : ∀ vs H Q E, sp vs H Q E → vs.length = ps.length
  run : ∀ (A : Around) (outer : List Env) (s : Shared) (H : Hp) (args : Args) (us : List Value) (vs : List V) (Q : VK), RoomH k A → HdAt A H → Env0 P w K mg base A outer s H → BindsTo s fd args (ps.zip us) → Vals vs us → sp vs H Q E0 →
    codeAny (model P w) A (.call (.ref f) args) (CRH outer P w H s Q) s
theorem FnOkH.mono {P : Program} {w : World} {K : PySem.W.Frag} {mg : Str → Option Value} {base : Heap} {j k : Nat} {f : Addr} {fd : FuncData} {ps : List Str} {sp : Sp} (F : FnOkH P w K mg base j f fd ps sp) (h : j ≤ k) : FnOkH P w K mg base k f fd ps sp :=
  ⟨F.len, fun A outer s H args us vs Q hr => F.run A outer s H args us vs Q ⟨by have := hr.dp; omega, by have := hr.un; omega⟩⟩
/-- the context of such a def's body -/
def cxOfH (CX : CXT) (P : Program) (w : World) (K : PySem.W.Frag) (mg : Str → Option Value) (base : Heap) (N : List Str) (qual : Str) (scope : Scope) (f : Addr) (cd : Value) (A : Around) (outer : List Env) (s : Shared) (H : Hp) : Cx :=
  (cxOf CX P w K mg base N qual scope f cd { A with handled := none } outer s H E0).alt (A.deeper (envOfC qual scope s.heap.objs.size f cd)) false [] fun _ _ => False
theorem fn_ofH {CX : CXT} {P : Program} {w : World} {K : PySem.W.Frag} {mg : Str → Option Value} {base : Heap} {k : Nat} {f : Addr} {name qual : Str} {params : Arguments} {body : List Stmt} {scope : Scope} {dV kV doc pm cdv ct oc : Value} {an od : Option Addr}
    {osl : Array (Option Value)} {N ps : List Str} {sp : Sp} (lk : K.lookup f = some ⟨oc, od, .func (PySem.W.fnOf name qual params body scope dV kV doc pm an cdv ct), osl⟩) (hcd : PySem.W.codeIn K cdv qual = true) (S : FnScope N ps scope)
    (len : ∀ vs H Q E, sp vs H Q E → vs.length = ps.length)
    (hbody : ∀ (A : Around) (outer : List Env) (s : Shared) (H : Hp) (vs : List V) (Q : VK), RoomH k (A.deeper (envOfC qual scope s.heap.objs.size f cdv)) → HdAt A H → sp vs H Q E0 →
      ∃ t, PSs (cxOfH CX P w K mg base N qual scope f cdv A outer s H) body t ∧ t { nx := fun _ H' => Q .non H', rt := Q } (start N vs) H) :
    FnOkH P w K mg base (k + 1) f (PySem.W.fnOf name qual params body scope dV kV doc pm an cdv ct) ps sp := by
  refine ⟨len, fun A outer s H args us vs Q hr hh e0 hb r hsp => ?_⟩
  have hl := len _ _ _ _ hsp
  have KX : K.In s.heap := e0.mod.kin.keeps fun b o e => (e0.bs b o e).1
  have lim : s.heap.NoLimit := e0.mod.nolimit.keeps fun b o e => (e0.bs b o e).1
  have hkind : ∀ y ∈ ps.zip us, scope.names.lookup y.1 = some .local ∨ (scope.names.lookup y.1 = some .cell ∧ ((cellsFrom (s.heap.objs.size + 1) scope.names []).lookup y.1).isSome = true) := fun ⟨n, v⟩ hy => by
    rcases S.par n (List.of_mem_zip hy).1 with q | q
    · exact .inl q
    · exact .inr ⟨q, PySem.W.cellsFrom_some _ _ _ (.inl q)⟩
  refine codeAny_call_function hr.depth (KX _ _ lk) rfl S.co S.gen rfl (PySem.W.codeRec_of KX hcd) (hb _ _ _ _ ?_)
  refine wpAny_newFunctionEnv_cells S.kind hkind fun env he s1 x => ?_
  subst he
  refine ⟨lim.keeps x.toInCall.keep, codeAny_func ?_⟩
  obtain ⟨t, ht, hq⟩ := hbody A outer s H vs Q (hr.deeper _) hh hsp
  have e00 : Env0 P w K mg base { A with handled := none } outer s H := ⟨e0.frames, e0.mod, e0.bs, e0.bsz, e0.funs, e0.frf, e0.hok, e0.bare⟩
  have I0 : Inv (cxOf CX P w K mg base N qual scope f cdv { A with handled := none } outer s H E0) [] (start N vs) H s1 := inv_start S rfl e00 hl r x
  have I : Inv (cxOfH CX P w K mg base N qual scope f cdv A outer s H) [] (start N vs) H s1 := I0.alt rfl (fun z => nomatch z) (fun p hp => hp)
  refine wpAny_mono (ht [] s1 (start N vs) H _ I hq) (fun fl s' hs => ?_) fun e s' hs => hs.elim
  have fin : ∀ {σ' : St} {H' : Hp} {v : V} {u : Value}, Inv (cxOfH CX P w K mg base N qual scope f cdv A outer s H) [] σ' H' s' → RelV v u → Q v H' → CE outer P w H s Q u s' :=
    fun {σ' H' v u} J rv q => ⟨v, H', J.os, J.bare, J.base, J.hok, rv, q⟩
  cases fl with
  | ret u =>
    obtain ⟨v, σ', H', J, rv, q⟩ := hs
    exact fin J rv q
  | next =>
    obtain ⟨σ', H', J, q⟩ := hs
    exact fin (v := V.non) (u := Value.none) J rfl q
  | brk =>
    obtain ⟨_, _, _, q⟩ := hs
    exact False.elim q
  | cont =>
    obtain ⟨_, _, _, q⟩ := hs
    exact False.elim q
theorem hd_cxOfH {CX : CXT} {P : Program} {w : World} {K : PySem.W.Frag} {mg : Str → Option Value} {base : Heap} {N : List Str} {qual : Str} {scope : Scope} {f : Addr} {cd : Value} {A : Around} {outer : List Env} {s : Shared} {H : Hp} (h : HdAt A H) : Hd (cxOfH CX P w K mg base N qual scope f cd A outer s H) := h
section
variable {X : Cx} {k : Nat} {f : Addr} {fd : FuncData} {ps : List Str} {sp : Sp} {x : Str} {p pos : Pos} {e : Expr} {ta : TE} {hv : Option Addr}
theorem pe_callH (F : FnOkH X.prog X.w X.K X.mg X.base k f fd ps sp) (hr : RoomH k X.A) (hg : Gl X x) (hm : X.mg x = some (.ref f)) (hk : PySem.W.keepIn X.K (.ref f) = true) (hb : Binds X.K fd ps []) (hh : ∀ e, hv = some e → X.A.handled = some (.ref e))
    (ha : PE X e ta) (hs : noStar e = true) (hdb : (x == ("__debug__" : Str)) = false) : PE X (.Call (.Name x p) [e] [] pos) (tWrd sp hv (tCons ta tNil)) := by
  intro pins s σ H Q I h
  have he : starEach [e] X.env = (false, eval e X.env) :: starEach [] X.env := by cases e <;> first | rfl | cases hs
  refine wpAny_Call_Name_kw (ld_glob I hg hm ?_ hdb)
  have hA : PA X [e] (tCons ta tNil) := pa_cons ha pa_nil he
  refine PySem.W.callWith_K (h₀ := X.base) I.ok.mod.kin hk (thn (hA pos pins s σ H _ I h) fun us s1 ⟨vs, H1, I1, r, ⟨ea, D, h1, h2⟩, q⟩ => ⟨I1.kIn, ?_⟩) he rfl
  have r2 : Vals vs us := r
  have hl : us.length = ps.length := by rw [← r2.length]; exact F.len _ _ _ _ q
  have hb' := hb s1 us I1.kIn (by rw [List.append_nil]; exact hl)
  rw [List.append_nil] at hb'
  refine wpAny_call (codeAny_mono (F.run X.A X.stack s1 H1 ⟨us, []⟩ us vs Q hr ⟨ea, D, hh ea h1, h2⟩ I1.env0 hb' r2 q) fun r s' hq => ?_)
  cases r with
  | error e => exact False.elim hq
  | ok fl =>
    cases fl with
    | ret u => exact I1.after hq
    | next => exact False.elim hq
    | brk => exact False.elim hq
    | cont => exact False.elim hq
end
end L2
set_option maxRecDepth 100000
set_option maxHeartbeats 4000000
namespace L2
open PySem PySem.Spec PyProof.Rows
def FnFor (CX : CXT) (X : Cx) (x : Str) (sp : Sp) : Prop :=
  ∃ k f fd ps, FnOk X.prog X.w X.K X.mg X.base CX k f fd ps sp ∧ Room k X.A ∧ X.mg x = some (.ref f) ∧ PySem.W.keepIn X.K (.ref f) = true ∧ Binds X.K fd ps []
def MtFor (CX : CXT) (X : Cx) (C : Addr) (m : Str) (sp : Sp) : Prop :=
  Cls X.K C ∧ ∃ k f fd ps, Meth X.K C m f ∧ FnOk X.prog X.w X.K X.mg X.base CX k f fd ps sp ∧ Room k X.A ∧ Binds X.K fd ps []
def MkFor (CX : CXT) (X : Cx) (x : Str) (C : Addr) (sp : Sp) : Prop :=
  ∃ k f fd ps, Mk X.K C f ∧ FnOk X.prog X.w X.K X.mg X.base CX k f fd ps sp ∧ Room (k + 1) X.A ∧ X.mg x = some (.ref C) ∧ Binds X.K fd ps []
def FnForH (X : Cx) (x : Str) (sp : Sp) : Prop :=
  ∃ k f fd ps, FnOkH X.prog X.w X.K X.mg X.base k f fd ps sp ∧ RoomH k X.A ∧ X.mg x = some (.ref f) ∧ PySem.W.keepIn X.K (.ref f) = true ∧ Binds X.K fd ps []
def ExFor (X : Cx) (x : Str) (C : Addr) : Prop := ∃ bm B newId initId, OwnCls x C bm newId X.mg X.base ∧ ExcBaseFacts B newId initId bm
structure Good (CX : CXT) (S : SCx) (Γ : RCx) (X : Cx) : Prop where
  N : X.N = S.N
  sc : X.env.scope = S.sc
  K : X.K = Γ.K
  calm : S.md = 0 → X.calm = true
  units : X.A.units + 64 < cLine
  fns : S.md = 0 → ∀ j x, S.fn[j]? = some x → FnFor CX X x (Γ.fs j)
  gvs : ∀ j x, S.gn[j]? = some x → ∃ u, X.mg x = some u ∧ RelV (Γ.gv j) u
  bls : ∀ x, S.bl.contains x = true → X.mg x = none
  pass : Passes CX X Γ.E
  noE : ∀ outer H s e s', CX outer H s E0 e s' → False
  sds : ∀ p kvs, Γ.sd p kvs → ∀ h : Heap, X.K.In h → ∃ vs, KV kvs vs ∧ h.DictOf (mixKind X.prog X.w) p vs
  mts : S.md = 0 → ∀ j m, S.mn[j]? = some m → MtFor CX X (Γ.ms j).1 m (Γ.ms j).2
  mks : S.md = 0 → ∀ j x, S.kn[j]? = some x → MkFor CX X x (Γ.kt j).1 (Γ.kt j).2
  exs : ∀ j x, S.en[j]? = some x → ExFor X x (Γ.ex j)
  hsf : ∀ j x, S.hn[j]? = some x → FnForH X x (Γ.hs j)
  hvo : ∀ e, Γ.hv = some e → X.A.handled = some (.ref e)
  hdo : S.md = 1 → Hd X
section
variable {CX : CXT} {S : SCx} {Γ : RCx} {X : Cx}
theorem Good.gl (G : Good CX S Γ X) {x : Str} (h : glo S.sc x = true) : Gl X x := by
  show X.env.scope.names.lookup x = _
  rw [G.sc]; exact glo_of h
theorem star_cons {e : Expr} {es : List Expr} {env : Env} (h : noStar e = true) : starEach (e :: es) env = (false, eval e env) :: starEach es env := by
  cases e <;> first | rfl | cases h
theorem base_of {o : Expr} {x : Str} {env : Env} (h : noSuper o = true) : attributeBase o x env (eval o env) = eval o env := by
  unfold attributeBase
  split
  · cases h
  · rfl
theorem set_of {e : Expr} {env : Env} (h : noSet e = true) : ∀ x, foldedSetIterable e env x = pure x := by
  intro x
  cases e <;> first | rfl | cases h
def nst (es : List Expr) : Bool := es.all noStar
theorem stars_of (env : Env) (pos : Pos) : ∀ (es : List Expr), nst es = true → (backTo pos (starEach es env)).any (·.1) = false
  | [], h => rfl
  | e :: es, h => by
    simp only [nst, List.all_cons, Bool.and_eq_true] at h
    rw [star_cons h.1]
    have ih := stars_of env pos es h.2
    show (false || (backTo pos (starEach es env)).any (·.1)) = false
    rw [ih]; rfl
theorem few_of (env : Env) (pos : Pos) : ∀ (es : List Expr), nst es = true → (backTo pos (starEach es env)).all (fun x => !x.1) = true
  | [], h => rfl
  | e :: es, h => by
    simp only [nst, List.all_cons, Bool.and_eq_true] at h
    rw [star_cons h.1]
    have ih := few_of env pos es h.2
    show (!false && (backTo pos (starEach es env)).all (fun x => !x.1)) = true
    rw [ih]; rfl
theorem nst_cons {e : Expr} {es : List Expr} (h : nst (e :: es) = true) : noStar e = true ∧ nst es = true := by
  simp only [nst, List.all_cons, Bool.and_eq_true] at h
  exact h
theorem rBlt_int {xs : List V} {H : Hp} {Q : VK} {K : PySem.W.Frag} (h : rBlt K .int xs H Q) : (∃ i, xs = [.int i] ∧ Q (.int i) H) ∨ ∃ k, xs = [.bl k] ∧ Q (.int (if k then 1 else 0)) H := by
  match xs, h with
  | [.int i], h => exact .inl ⟨i, rfl, h⟩
  | [.bl k], h => exact .inr ⟨k, rfl, h⟩
theorem lenV_of {K : PySem.W.Frag} {x : V} {H : Hp} {Q : Nat → Prop} (h : lenV K x H Q) : ∃ n, LenV K x H n ∧ Q n := by
  match x, h with
  | .str y, h => exact ⟨_, ⟨h.1, rfl⟩, h.2⟩
  | .ref p, .inl ⟨xs, a, b⟩ => exact ⟨_, .inl ⟨xs, a, rfl⟩, b⟩
  | .ref p, .inr ⟨xs, a, b⟩ => exact ⟨_, .inr ⟨xs, a, rfl⟩, b⟩
/-! ### what stands for each built-in name -/
inductive BltIs (X : Cx) (b : Blt) : Prop where
  | fn (id : String) (hv : bootBuiltins b.nm = some (.builtin id)) (hc : CallR X (.builtin id) (rBlt X.K b))
  | ty (T : String) (hv : bootBuiltins b.nm = some (.type T)) (hc : CallR X (.type T) (rBlt X.K b))
theorem boot_min : bootBuiltins "min" = some (.builtin "min") := by decide +kernel
theorem boot_max : bootBuiltins "max" = some (.builtin "max") := by decide +kernel
theorem boot_abs : bootBuiltins "abs" = some (.builtin "abs") := by decide +kernel
theorem boot_sum : bootBuiltins "sum" = some (.builtin "sum") := by decide +kernel
theorem boot_isi : bootBuiltins "isinstance" = some (.builtin "isinstance") := by decide +kernel
theorem boot_intT : bootBuiltins "int" = some (.type "int") := by decide +kernel
theorem boot_listT : bootBuiltins "list" = some (.type "list") := by decide +kernel
theorem boot_tupleT : bootBuiltins "tuple" = some (.type "tuple") := by decide +kernel
theorem best_le (f : Nat → Int) (lt : Nat → Nat → Bool) (h : ∀ i j, lt i j = decide (f i < f j)) : ∀ n, argBest lt n ≤ n ∧ ∀ i, i ≤ n → f (argBest lt n) ≤ f i
  | 0 => ⟨Nat.le_refl _, fun i hi => by
      obtain rfl : i = 0 := by omega
      exact Int.le_refl _⟩
  | n + 1 => by
    obtain ⟨a, b⟩ := best_le f lt h n
    have e : argBest lt (n + 1) = if lt (n + 1) (argBest lt n) = true then n + 1 else argBest lt n := rfl
    rw [e, h]
    split
    · rename_i q
      have q := of_decide_eq_true q
      refine ⟨Nat.le_refl _, fun i hi => ?_⟩
      by_cases z : i = n + 1
      · rw [z]; exact Int.le_refl _
      · have := b i (by omega); omega
    · rename_i q
      have q : ¬ f (n + 1) < f (argBest lt n) := fun z => q (decide_eq_true z)
      refine ⟨by omega, fun i hi => ?_⟩
      by_cases z : i = n + 1
      · rw [z]; omega
      · exact b i (by omega)
theorem num_at {xs : Array (Int × Tok)} {i : Nat} (h : i < xs.size) : numAt xs i = xs[i].1 := by
  unfold numAt
  rw [Array.getElem?_eq_getElem h]; rfl
theorem num_mem {xs : Array (Int × Tok)} {i : Nat} (h : i < xs.size) : numAt xs i ∈ xs.toList.map (·.1) := by
  rw [num_at h]
  exact List.mem_map.mpr ⟨xs[i], by simp, rfl⟩
theorem mem_num {xs : Array (Int × Tok)} {n : Int} (h : n ∈ xs.toList.map (·.1)) : ∃ i, i < xs.size ∧ n = numAt xs i := by
  obtain ⟨y, hy, rfl⟩ := List.mem_map.mp h
  obtain ⟨i, hi, rfl⟩ := List.getElem_of_mem hy
  have hi' : i < xs.size := by simpa using hi
  exact ⟨i, hi', by rw [num_at hi']; simp⟩
theorem items_of {pins : List (Addr × Obj)} {σ : St} {H : Hp} {s : Shared} {p : Addr} {ns : List Int} (I : Inv X pins σ H s) (hq : SqL X.K H p (ns.map V.int)) : ∃ xs : Array (Int × Tok), s.heap.IsList p (intItems xs) ∧ ns = xs.toList.map (·.1) := by
  obtain ⟨its, rv, pl, hz⟩ := I.list hq
  have hi := intsAre_of rv
  obtain ⟨xs, hx⟩ := hi.allInts.items
  refine ⟨xs, hx ▸ pl.isList, ?_⟩
  rw [← nums_intItems, ← hx]
  exact (show numsOf its.toArray.toList = ns from hi.numsOf).symm
theorem call_minL (hc : X.calm = true) : CallR X (.builtin "min") (fun xs H Q => ∃ (p : Addr) (ns : List Int), xs = [.ref p] ∧ SqL X.K H p (ns.map V.int) ∧ ns ≠ [] ∧ ∀ m : Int, m ∈ ns → (∀ n ∈ ns, m ≤ n) → Q (.int m) H) := by
  intro pins s σ H xs us Q I r h
  obtain ⟨p, ns, rfl, hq, hne, q⟩ := h
  obtain ⟨u, rfl, ru⟩ := vals1 r
  cases ru
  obtain ⟨xs, hl, rfl⟩ := items_of I hq
  have sz : 0 < xs.size := Nat.pos_of_ne_zero fun z => hne (by rw [Array.eq_empty_of_size_eq_zero z]; rfl)
  refine min_intList (I.ok.hd hc) hl sz fun v h' tk hv hk => ?_
  obtain ⟨t, rfl⟩ := intItems_at hv
  obtain ⟨b1, b2⟩ := best_le (numAt xs) (fun i j => decide (numAt xs i < numAt xs j)) (fun _ _ => rfl) (xs.size - 1)
  refine ⟨.int _, H, I.kept (t' := tk) hk, ⟨t, rfl⟩, q _ (num_mem (by omega)) fun n hn => ?_⟩
  obtain ⟨i, hi, rfl⟩ := mem_num hn
  exact b2 i (by omega)
theorem call_maxL (hc : X.calm = true) : CallR X (.builtin "max") (fun xs H Q => ∃ (p : Addr) (ns : List Int), xs = [.ref p] ∧ SqL X.K H p (ns.map V.int) ∧ ns ≠ [] ∧ ∀ m : Int, m ∈ ns → (∀ n ∈ ns, n ≤ m) → Q (.int m) H) := by
  intro pins s σ H xs us Q I r h
  obtain ⟨p, ns, rfl, hq, hne, q⟩ := h
  obtain ⟨u, rfl, ru⟩ := vals1 r
  cases ru
  obtain ⟨xs, hl, rfl⟩ := items_of I hq
  have sz : 0 < xs.size := Nat.pos_of_ne_zero fun z => hne (by rw [Array.eq_empty_of_size_eq_zero z]; rfl)
  refine max_intList (I.ok.hd hc) hl sz fun v h' tk hv hk => ?_
  obtain ⟨t, rfl⟩ := intItems_at hv
  obtain ⟨b1, b2⟩ := best_le (fun i => - numAt xs i) (fun i j => decide (numAt xs i > numAt xs j)) (fun i j => decide_eq_decide.mpr (by omega)) (xs.size - 1)
  refine ⟨.int _, H, I.kept (t' := tk) hk, ⟨t, rfl⟩, q _ (num_mem (by omega)) fun n hn => ?_⟩
  obtain ⟨i, hi, rfl⟩ := mem_num hn
  have := b2 i (by omega)
  omega
theorem signs_vals {x : Str} {acc : Array Value} (h : ItemsOf (SignAt x) acc x.cps.size) : Vals (signs x) acc.toList := by
  have go : ∀ (l : List Nat) (us : List Value), us.length = l.length → (∀ (j : Nat) (v : Value), us[j]? = some v → ∃ (c : Nat) (t : Tok), l[j]? = some c ∧ v = Value.str ⟨#[c]⟩ t) → Vals (l.map fun c => V.str ⟨#[c]⟩) us := by
    intro l
    induction l with
    | nil =>
      intro us hl _
      rw [List.length_eq_zero_iff.mp hl]
      exact .nil
    | cons c l ih =>
      intro us hl hv
      cases us with
      | nil => cases hl
      | cons u us =>
        obtain ⟨c', t, e1, e2⟩ := hv 0 u rfl
        have e1' : c = c' := by simpa using e1
        subst e1'
        exact .cons ⟨t, e2⟩ (ih us (by simpa using hl) fun j v hj => by
          obtain ⟨c2, t2, g1, g2⟩ := hv (j + 1) v (by simpa using hj)
          exact ⟨c2, t2, by simpa using g1, g2⟩)
  refine go x.cps.toList acc.toList ?_ fun j v hj => ?_
  · have := h.1; simpa using this
  · obtain ⟨c, t, e1, e2⟩ := h.2 j v (by simpa using hj)
    exact ⟨c, t, by simpa using e1, e2⟩
theorem signs_len (x : Str) : (signs x).length = x.length := by simp [signs, Str.length]
theorem call_list_strV (hc : X.calm = true) : CallR X (.type "list") (fun xs H Q => ∃ x, xs = [.str x] ∧ x.length ≤ sizeLine ∧ ∀ l, H l = none → Q (.ref l) (upd H l (.lst (signs x)))) := by
  intro pins s σ H xs us Q I r h
  obtain ⟨x, rfl, hx, q⟩ := h
  obtain ⟨u, rfl, t, rfl⟩ := vals1 r
  refine call_list_str (I.ok.hd hc) x t (fun h' tk acc' c' hk e hacc => ?_) hx
  have rv := signs_vals hacc
  exact ⟨.ref s.heap.objs.size, _, I.laid (t' := tk) hk (Nat.le_refl _) (show ObjOk X.prog X.w _ h' _ (.lst (signs x)) from ⟨by rw [signs_len]; exact hx, acc'.toList, c', rv, by simpa using e⟩), rfl, q _ (I.hok.fresh (Nat.le_refl _))⟩
theorem call_tuple_strV (hc : X.calm = true) : CallR X (.type "tuple") (fun xs H Q => ∃ x, xs = [.str x] ∧ x.length ≤ sizeLine ∧ ∀ l, H l = none → Q (.ref l) (upd H l (.tup (signs x)))) := by
  intro pins s σ H xs us Q I r h
  obtain ⟨x, rfl, hx, q⟩ := h
  obtain ⟨u, rfl, t, rfl⟩ := vals1 r
  refine call_tuple_str (I.ok.hd hc) x t (fun h' tk acc hk hacc => ?_) hx
  have rv := signs_vals hacc
  have I1 : Inv X pins σ H { s with heap := h', toks := tk } := I.kept (t' := tk) hk
  have I2 : Inv X pins σ (upd H h'.objs.size (.tup (signs x))) { s with heap := h'.push { cls := .type "tuple", data := .seq acc }, toks := tk } :=
    I1.laid (t' := tk) (fun b o e => Heap.get?_push_of_some _ e) (Nat.le_refl _) (show ObjOk X.prog X.w _ _ _ (.tup (signs x)) from ⟨by rw [signs_len]; exact hx, acc.toList, rv, by simpa using IsTup.new _ _⟩)
  exact ⟨.ref h'.objs.size, _, I2, rfl, q _ (I1.hok.fresh (Nat.le_refl _))⟩
theorem blt_is (hc : X.calm = true) (b : Blt) : BltIs X b := by
  cases b with
  | len => exact .fn "len" boot_len (CallR.imp call_len fun xs H Q h => by
      match xs, h with
      | [x], h => obtain ⟨n, h1, h2⟩ := lenV_of (Q := fun n => Q (.int n) H) h; exact ⟨x, n, rfl, h1, h2⟩)
  | min => exact .fn "min" boot_min (CallR.imp ((call_min2 hc).or (call_minL hc)) fun xs H Q h => by
      match xs, h with
      | [.int i, .int j], h => exact .inl ⟨i, j, rfl, h⟩
      | [.ref p], ⟨ns, h1, h2, h3⟩ => exact .inr ⟨p, ns, rfl, h1, h2, h3⟩)
  | max => exact .fn "max" boot_max (CallR.imp ((call_max2 hc).or (call_maxL hc)) fun xs H Q h => by
      match xs, h with
      | [.int i, .int j], h => exact .inl ⟨i, j, rfl, h⟩
      | [.ref p], ⟨ns, h1, h2, h3⟩ => exact .inr ⟨p, ns, rfl, h1, h2, h3⟩)
  | sum => exact .fn "sum" boot_sum (CallR.imp (call_sumI hc) fun xs H Q h => by
      match xs, h with
      | [.ref p], ⟨ns, h1, h2⟩ => exact ⟨p, ns, rfl, h1, h2⟩)
  | abs => exact .fn "abs" boot_abs (CallR.imp call_abs fun xs H Q h => by
      match xs, h with
      | [.int i], h => exact ⟨i, rfl, h⟩)
  | int => exact .ty "int" boot_intT (CallR.imp call_int1 fun xs H Q h => rBlt_int h)
  | list => exact .ty "list" boot_listT (CallR.imp (call_list_of.or (call_list_strV hc)) fun xs H Q h => by
      match xs, h with
      | [.ref p], ⟨ys, h1, h2⟩ => exact .inl ⟨p, ys, rfl, h1, h2⟩
      | [.str x], ⟨h1, h2⟩ => exact .inr ⟨x, rfl, h1, h2⟩)
  | tuple => exact .ty "tuple" boot_tupleT (CallR.imp (call_tuple_of.or (call_tuple_strV hc)) fun xs H Q h => by
      match xs, h with
      | [.ref p], ⟨ys, h1⟩ => exact .inl ⟨p, ys, rfl, h1⟩
      | [.str x], ⟨h1, h2⟩ => exact .inr ⟨x, rfl, h1, h2⟩)
/-! ### what stands for each method -/
structure MthIs (X : Cx) (m : Mth) (id : String) : Prop where
  pa : PlainAttrs (mthTy m)
  slot : Slot (mthTy m) m.nm id
  ty : typeOf (.builtin id) = pure (.type "method_descriptor")
  mt : MtR X id (rMth X.K m)
theorem kV_is {P : Program} {w : World} {k : Key} {u : Value} (r : RelV (kV k) u) : (mixKind P w).is k u = true := by
  cases k with
  | inl i => obtain ⟨t, e⟩ := (show ∃ t, u = Value.int i t from r); subst e; exact mixKind_int P w i t
  | inr x => obtain ⟨t, e⟩ := (show ∃ t, u = Value.str x t from r); subst e; exact mixKind_str P w x t
theorem kvval {kvs : List (Key × V)} {vs : List (Key × Value)} (r : KV kvs vs) (k : Key) {v : V} (h : valK kvs k = some v) : ∃ u, valueAt vs k = some u ∧ RelV v u := by
  unfold KV at r
  induction r with
  | nil => cases h
  | @cons p q ps qs hh t ih =>
    obtain ⟨h1, h2⟩ := hh
    by_cases e : p.1 = k
    · have e' : q.1 = k := h1.symm.trans e
      have b : valueAt (q :: qs) k = some q.2 := by simp [valueAt, List.find?_cons, e']
      have a : valK (p :: ps) k = some p.2 := by simp [valK, List.find?_cons, e]
      rw [a] at h
      cases h
      exact ⟨_, b, h2⟩
    · have e' : ¬ q.1 = k := fun z => e (h1.trans z)
      have b : valueAt (q :: qs) k = valueAt qs k := by simp [valueAt, List.find?_cons, e']
      have a : valK (p :: ps) k = valK ps k := by simp [valK, List.find?_cons, e]
      rw [a] at h
      rw [b]
      exact ih h
theorem ix_sd {sd : Addr → List (Key × V) → Prop} (hsd : ∀ p kvs, sd p kvs → ∀ h : Heap, X.K.In h → ∃ vs, KV kvs vs ∧ h.DictOf (mixKind X.prog X.w) p vs) : IxR X (rIxD sd) := by
  intro value slice pins s σ H x y v u Q I rx ry h hs
  obtain ⟨p, kvs, k, z, rfl, rfl, hq, he, q⟩ := h
  cases rx
  obtain ⟨vs, r, dd⟩ := hsd p kvs hq s.heap I.kIn
  obtain ⟨w, ew, rw'⟩ := kvval r k he
  exact subscriptTail_builtinR (x := w) dd.mapOf.typeIs PySem.F.slot_dict_getitem.lookup
    (wpAny_getItem_of (Q := fun r s' => r = w ∧ EP X pins σ Q r s') (kV_is ry) dd.mapOf ew ⟨rfl, z, H, I.tok _, rw', q⟩) hs
theorem ix_any {sd : Addr → List (Key × V) → Prop} (hsd : ∀ p kvs, sd p kvs → ∀ h : Heap, X.K.In h → ∃ vs, KV kvs vs ∧ h.DictOf (mixKind X.prog X.w) p vs) : IxR X (rIx2 X.K sd) := ix_list.or (ix_tup.or (ix_str.or (ix_sd hsd)))
theorem isStr_at (y : Str) : ∀ {ts : List Str} {us : List Value}, Vals (ts.map V.str) us → ∀ (j : Nat) (h1 : j < us.length) (h2 : j < ts.length), (Value.isStrOf y us[j] = (ts[j] == y))
  | [], _, .nil, j, h1, _ => absurd h1 (Nat.not_lt_zero _)
  | t :: ts, _, .cons r rs, 0, _, _ => by
    obtain ⟨k, rfl⟩ := (show ∃ k, _ = Value.str t k from r)
    rfl
  | t :: ts, _, .cons r rs, j + 1, h1, h2 => isStr_at y rs j (Nat.lt_of_succ_lt_succ h1) (Nat.lt_of_succ_lt_succ h2)
theorem lt_idxOf_ne {y : Str} : ∀ {ts : List Str} {j : Nat}, j < ts.idxOf y → ∀ (h2 : j < ts.length), (ts[j] == y) = false
  | n :: r, 0, h, _ => by
    by_cases e : n = y
    · subst e; simp at h
    · simpa using e
  | n :: r, j + 1, h, h2 => by
    by_cases e : n = y
    · subst e; simp at h
    · have hb : (n == y) = false := by simpa using e
      have h' : j < r.idxOf y := by
        rw [List.idxOf_cons, hb] at h
        exact Nat.lt_of_succ_lt_succ h
      exact lt_idxOf_ne h' (Nat.lt_of_succ_lt_succ h2)
theorem mt_index : MtR X "list.index" (fun x vs H Q => ∃ (l : Addr) (y : Str) (ts : List Str), x = .ref l ∧ vs = [.str y] ∧ SqL X.K H l (ts.map V.str) ∧ y ∈ ts ∧ Q (.int (ts.idxOf y : Nat)) H) := by
  intro pins s σ H x vs v us Q I rx rv h
  obtain ⟨l, y, ts, rfl, rfl, hq, hy, q⟩ := h
  cases rx
  obtain ⟨u, rfl, ⟨t, rfl⟩⟩ := vals1 rv
  obtain ⟨its, r, ⟨⟨cls, dd, data, sl⟩, n, ho, hc, hd0, hd⟩, hz⟩ := I.list hq
  simp only at hc hd
  subst hc hd
  have hlen := r.length
  rw [List.length_map] at hlen hz
  have hj : ts.idxOf y < ts.length := List.idxOf_lt_length_iff.mpr hy
  have hn := line63
  refine call_meets PySem.F.slot_list_index ⟨_, ho, rfl⟩ PySem.F.entry_list_index (PySem.F.args_list_index_2 _ _)
    (PySem.SeqAt.list_indexAt l its.toArray n dd sl (.str y t) (Value.isStrOf y) (ts.idxOf y) (by simp; omega) (by omega) ?_ ?_) ⟨ho, fun z hz' => ?_, ⟨.int _, H, I.tok _, ⟨_, rfl⟩, q⟩⟩
  · show Value.isStrOf y its[ts.idxOf y] = true
    rw [isStr_at y r _ (by omega) hj]
    simpa using List.getElem_idxOf hj
  · intro j hjs hlt
    show Value.isStrOf y its[j] = false
    rw [isStr_at y r j (by simpa using hjs) (by omega)]
    exact lt_idxOf_ne hlt _
  · have hm : z ∈ its := by simpa using hz'
    obtain ⟨j, hj1, rfl⟩ := List.getElem_of_mem hm
    have hjt : j < ts.length := by omega
    have e := isStr_at y r j hj1 hjt
    obtain ⟨k, ek⟩ := (r.get (i := j) (x := .str ts[j]) (by simp [hjt]))
    obtain ⟨ek1, k2, ek2⟩ := ek
    have ek3 : its[j] = .str ts[j] k2 := by
      have := List.getElem?_eq_getElem hj1
      rw [ek1] at this
      exact (Option.some.inj this).symm.trans ek2
    rw [e, ek3]
    exact PySem.SeqAt.EqAt.str_str _ _ _ _
theorem countP_eqU {x : V} : ∀ {xs : List V} {us : List Value}, Vals xs us → xs.all flatV = true → us.countP (eqU x) = xs.countP fun y => eqV y x
  | _, _, .nil, _ => rfl
  | y :: xs, u :: us, .cons r t, f => by
    rw [List.all_cons, Bool.and_eq_true] at f
    rw [List.countP_cons, List.countP_cons, eqU_of r f.1, countP_eqU t f.2]
theorem mt_cntL : MtR X "list.count" (fun x vs H Q => ∃ (l : Addr) (y : V) (xs : List V), x = .ref l ∧ vs = [y] ∧ SqL X.K H l xs ∧ flatV y = true ∧ xs.all flatV = true ∧ Q (.int (xs.countP (fun z => eqV z y) : Nat)) H) := by
  intro pins s σ H x vs v us Q I rx rv h
  obtain ⟨l, y, xs, rfl, rfl, hq, fy, fs, q⟩ := h
  cases rx
  obtain ⟨u, rfl, ru⟩ := vals1 rv
  obtain ⟨its, r, ⟨⟨cls, dd, data, sl⟩, n, ho, hc, hd0, hd⟩, hz⟩ := I.list hq
  simp only at hc hd
  subst hc hd
  rw [← countP_eqU r fs] at q
  exact call_meets PySem.F.slot_list_count ⟨_, ho, rfl⟩ PySem.F.entry_list_count (PySem.F.args_list_count_2 _ _)
    (PySem.SeqAt.list_countAt l its.toArray n dd sl u (eqU y)) ⟨ho, fun z hz' => mem_eqAt ru fy r fs z (by simpa using hz'), ⟨.int _, H, I.tok _, ⟨_, rfl⟩, q⟩⟩
theorem mt_idxL : MtR X "list.index" (fun x vs H Q => ∃ (l : Addr) (y : V) (xs : List V), x = .ref l ∧ vs = [y] ∧ SqL X.K H l xs ∧ flatV y = true ∧ xs.all flatV = true ∧ inV y xs = true ∧ Q (.int (xs.findIdx (fun z => eqV z y) : Nat)) H) := by
  intro pins s σ H x vs v us Q I rx rv h
  obtain ⟨l, y, xs, rfl, rfl, hq, fy, fs, hin, q⟩ := h
  cases rx
  obtain ⟨u, rfl, ru⟩ := vals1 rv
  obtain ⟨its, r, ⟨⟨cls, dd, data, sl⟩, n, ho, hc, hd0, hd⟩, hz⟩ := I.list hq
  simp only at hc hd
  subst hc hd
  have hlen := r.length
  have e : ∀ j (h1 : j < its.length) (h2 : j < xs.length), eqU y its[j] = eqV xs[j] y := fun j h1 h2 => by
    obtain ⟨w, e1, r1⟩ := r.get (i := j) (x := xs[j]) (by simp [h2])
    have e2 := List.getElem?_eq_getElem h1
    rw [e1] at e2
    rw [← Option.some.inj e2]
    exact eqU_of r1 (List.all_eq_true.mp fs _ (List.getElem_mem h2))
  have hj : xs.findIdx (fun z => eqV z y) < xs.length := List.findIdx_lt_length.mpr (List.any_eq_true.mp hin)
  have hn := line63
  refine call_meets PySem.F.slot_list_index ⟨_, ho, rfl⟩ PySem.F.entry_list_index (PySem.F.args_list_index_2 _ _)
    (PySem.SeqAt.list_indexAt l its.toArray n dd sl u (eqU y) (xs.findIdx fun z => eqV z y) (by simp; omega) (by omega) ?_ ?_) ⟨ho, fun z hz' => mem_eqAt ru fy r fs z (by simpa using hz'), ⟨.int _, H, I.tok _, ⟨_, rfl⟩, q⟩⟩
  · show eqU y its[xs.findIdx fun z => eqV z y] = true
    rw [e _ (by omega) hj]
    exact List.findIdx_getElem (w := hj)
  · intro j hjs hlt
    show eqU y its[j] = false
    rw [e j (by simpa using hjs) (by omega)]
    simpa using List.not_of_lt_findIdx hlt
theorem mth_is (m : Mth) : ∃ id, MthIs X m id := by
  cases m with
  | append => exact ⟨_, F.plainAttrs_list, F.slot_list_append, F.type_list_append, fun pins s σ H x xs v us Q I rx rv h => by
      match x, xs, h with
      | .ref l, [y], ⟨zs, h1, h2, h3⟩ => exact mt_append pins s σ H _ _ v us Q I rx rv ⟨l, zs, y, rfl, rfl, h1, h2, h3⟩⟩
  | pop => exact ⟨_, F.plainAttrs_list, F.slot_list_pop, F.type_list_pop, fun pins s σ H x xs v us Q I rx rv h => by
      match x, xs, h with
      | .ref l, [], ⟨zs, y, h1, h2, h3⟩ => exact mt_pop pins s σ H _ _ v us Q I rx rv ⟨l, zs, y, rfl, rfl, h1, h2, h3⟩⟩
  | extend => exact ⟨_, F.plainAttrs_list, F.slot_list_extend, F.type_list_extend, fun pins s σ H x xs v us Q I rx rv h => by
      match x, xs, h with
      | .ref l, [.ref b], ⟨ys, zs, h1, h2, h3, h4⟩ => exact mt_extend pins s σ H _ _ v us Q I rx rv ⟨l, b, ys, zs, rfl, rfl, h1, h2, h3, h4⟩⟩
  | join => exact ⟨_, F.plainAttrs_str, F.slot_str_join, F.type_str_join, fun pins s σ H x xs v us Q I rx rv h => by
      match x, xs, h with
      | .str z, [.ref p], ⟨ts, h1, h2, h3⟩ => exact mt_join pins s σ H _ _ v us Q I rx rv ⟨z, p, ts, rfl, rfl, h1, h2, h3⟩⟩
  | lstrip => exact ⟨_, F.plainAttrs_str, F.slot_str_lstrip, F.type_str_lstrip, fun pins s σ H x xs v us Q I rx rv h => by
      match x, xs, h with
      | .str z, [.str y], ⟨h1, h2⟩ => exact mt_lstrip pins s σ H _ _ v us Q I rx rv ⟨z, y, rfl, rfl, h1, h2⟩⟩
  | starts => exact ⟨_, F.plainAttrs_str, F.slot_str_startswith, F.type_str_startswith, fun pins s σ H x xs v us Q I rx rv h => by
      match x, xs, h with
      | .str z, [.str y, .int i], h1 => exact mt_starts pins s σ H _ _ v us Q I rx rv ⟨z, y, i, rfl, rfl, h1⟩⟩
  | find => exact ⟨_, F.plainAttrs_str, F.slot_str_find, F.type_str_find, fun pins s σ H x xs v us Q I rx rv h => by
      match x, xs, h with
      | .str z, [.str y], h1 =>
        obtain ⟨t, rfl⟩ := rx
        obtain ⟨u, rfl, ⟨t2, rfl⟩⟩ := vals1 rv
        exact call_gives F.slot_str_find (typeIs_str _ _ _) F.entry_str_find (F.args_str_find_2 _ _) (gives_str_find z y t t2) ⟨.int _, H, I.tok _, ⟨_, rfl⟩, h1⟩
      | .str z, [.str y, .int i], h1 =>
        obtain ⟨t, rfl⟩ := rx
        obtain ⟨u, w', rfl, ⟨t2, rfl⟩, ⟨t3, rfl⟩⟩ := vals2 rv
        exact call_gives F.slot_str_find (typeIs_str _ _ _) F.entry_str_find (F.args_str_find_3 _ _ _) (gives_str_find_from z y i t t2 t3) ⟨.int _, H, I.tok _, ⟨_, rfl⟩, h1⟩⟩
  | count => exact ⟨_, F.plainAttrs_str, F.slot_str_count, F.type_str_count, fun pins s σ H x xs v us Q I rx rv h => by
      match x, xs, h with
      | .str z, [.str y], h1 =>
        obtain ⟨t, rfl⟩ := rx
        obtain ⟨u, rfl, ⟨t2, rfl⟩⟩ := vals1 rv
        exact call_gives F.slot_str_count (typeIs_str _ _ _) F.entry_str_count (F.args_str_count_2 _ _) (gives_str_count z y t t2) ⟨.int _, H, I.tok _, ⟨_, rfl⟩, h1⟩⟩
  | reverse => exact ⟨_, F.plainAttrs_list, F.slot_list_reverse, F.type_list_reverse, fun pins s σ H x xs v us Q I rx rv h => by
      match x, xs, h with
      | .ref l, [], ⟨zs, h1, h2⟩ => exact mt_reverse pins s σ H _ _ v us Q I rx rv ⟨l, zs, rfl, rfl, h1, h2⟩⟩
  | index => exact ⟨_, F.plainAttrs_list, F.slot_list_index, F.type_list_index, fun pins s σ H x xs v us Q I rx rv h => by
      match x, xs, h with
      | .ref l, [.str y], ⟨ts, h1, h2, h3⟩ => exact mt_index pins s σ H _ _ v us Q I rx rv ⟨l, y, ts, rfl, rfl, h1, h2, h3⟩⟩
  | cntL => exact ⟨_, F.plainAttrs_list, F.slot_list_count, F.type_list_count, fun pins s σ H x xs v us Q I rx rv h => by
      match x, xs, h with
      | .ref l, [y], ⟨zs, h1, h2, h3, h4⟩ => exact mt_cntL pins s σ H _ _ v us Q I rx rv ⟨l, y, zs, rfl, rfl, h1, h2, h3, h4⟩⟩
  | idxL => exact ⟨_, F.plainAttrs_list, F.slot_list_index, F.type_list_index, fun pins s σ H x xs v us Q I rx rv h => by
      match x, xs, h with
      | .ref l, [y], ⟨zs, h1, h2, h3, h4, h5⟩ => exact mt_idxL pins s σ H _ _ v us Q I rx rv ⟨l, y, zs, rfl, rfl, h1, h2, h3, h4, h5⟩⟩
  | clear => exact ⟨_, F.plainAttrs_list, F.slot_list_clear, F.type_list_clear, fun pins s σ H x xs v us Q I rx rv h => by
      match x, xs, h with
      | .ref l, [], ⟨zs, h1, h2⟩ => exact mt_clear pins s σ H _ _ v us Q I rx rv ⟨l, zs, rfl, rfl, h1, h2⟩⟩
/-! ### isinstance -/
theorem isi_ok {pins : List (Addr × Obj)} {σ : St} {H : Hp} {s : Shared} {T : Ty} {x : V} {u : Value} {Qb : Bool → Prop} {Q : Value → Shared → Prop} {E : Value → Shared → Prop} (I : Inv X pins σ H s) (rx : RelV x u) (h : isiV T x H Qb)
    (hq : ∀ b tk, Qb b → Q (.bool b) { s with toks := tk }) : wpAny (model X.prog X.w) X.A (call (.builtin "isinstance") [u, .type T.nm]) Q E s := by
  match x, rx, h with
  | .non, rx, h => exact isinst_ok I rx (.non) (kit_none _ T) fun tk => hq _ _ h
  | .bl b, rx, h => exact isinst_ok I rx (.bl b) (kit_tys X.K .bool T) fun tk => hq _ _ (by cases T <;> exact h)
  | .int i, rx, h => exact isinst_ok I rx (.int i) (kit_tys X.K .int T) fun tk => hq _ _ (by cases T <;> exact h)
  | .str i, rx, h => exact isinst_ok I rx (.str i) (kit_tys X.K .str T) fun tk => hq _ _ (by cases T <;> exact h)
  | .ref a, rx, h =>
    cases e : H a with
    | none => simp only [isiV, e] at h
    | some o =>
      match o, e with
      | .lst xs, e => simp only [isiV, e] at h; exact isinst_ok I rx (.lst e) (kit_tys X.K .list T) fun tk => hq _ _ (by cases T <;> exact h)
      | .frz ob (.lst xs), e => simp only [isiV, e] at h; exact isinst_ok I rx (.frz e) (kit_tys X.K .list T) fun tk => hq _ _ (by cases T <;> exact h)
      | .tup xs, e => simp only [isiV, e] at h; exact isinst_ok I rx (.tup e) (kit_tys X.K .tuple T) fun tk => hq _ _ (by cases T <;> exact h)
      | .dK xs, e => simp only [isiV, e] at h; exact isinst_ok I rx (.dK e) (kit_tys X.K .dict T) fun tk => hq _ _ (by cases T <;> exact h)
      | .dT xs, e => simp only [isiV, e] at h; exact isinst_ok I rx (.dT e) (kit_tys X.K .dict T) fun tk => hq _ _ (by cases T <;> exact h)
      | .set _ _, e => simp only [isiV, e] at h
      | .ins _ _ _, e => simp only [isiV, e] at h
      | .own _, e => simp only [isiV, e] at h
      | .xd _, e => simp only [isiV, e] at h
      | .met _ _, e => simp only [isiV, e] at h
      | .rng _ _, e => simp only [isiV, e] at h
      | .tbl _, e => simp only [isiV, e] at h
      | .ext _, e => simp only [isiV, e] at h
      | .frz ob (.tup xs), e => simp only [isiV, e] at h
      | .frz ob (.dK xs), e => simp only [isiV, e] at h
      | .frz ob (.dT xs), e => simp only [isiV, e] at h
      | .frz ob (.set _ _), e => simp only [isiV, e] at h
      | .frz ob (.ins _ _ _), e => simp only [isiV, e] at h
      | .frz ob (.own _), e => simp only [isiV, e] at h
      | .frz ob (.xd _), e => simp only [isiV, e] at h
      | .frz ob (.met _ _), e => simp only [isiV, e] at h
      | .frz ob (.rng _ _), e => simp only [isiV, e] at h
      | .frz ob (.tbl _), e => simp only [isiV, e] at h
      | .frz ob (.ext _), e => simp only [isiV, e] at h
      | .frz ob (.frz _ _), e => simp only [isiV, e] at h
theorem boot_ty (T : Ty) : bootBuiltins (Str.ofString T.nm) = some (.type T.nm) := by cases T <;> decide +kernel
theorem call_isi (T : Ty) : CallR X (.builtin "isinstance") (rIsi T) := by
  intro pins s σ H xs us Q I r h
  match xs, r, h with
  | [x, .ty n], r, ⟨e, h⟩ =>
    subst e
    obtain ⟨u, w', rfl, ru, rw'⟩ := vals2 r
    cases rw'
    exact isi_ok I ru h fun b tk hb => ⟨.bl b, H, I.tok tk, rfl, hb⟩
/-- isinstance(e, T): the call -/
theorem pe_isi {T : Ty} {a : Expr} {ta : TE} {p q pos : Pos} (ha : PE X a ta) (hs : noStar a = true) (hg : Gl X "isinstance") (hm : X.mg "isinstance" = none) (hgT : Gl X (Str.ofString T.nm)) (hmT : X.mg (Str.ofString T.nm) = none) :
    PE X (.Call (.Name "isinstance" p) [a, .Name (Str.ofString T.nm) q] [] pos) (tCB (rIsi T) (tCons ta (tCons (tC (.ty T.nm)) tNil))) := by
  have hT : PE X (.Name (Str.ofString T.nm) q) (tC (.ty T.nm)) := pe_bltn hgT hmT (boot_ty T) rfl (by cases T <;> decide) (by cases T <;> decide)
  exact pe_callB (call_isi T) hg hm boot_isi (pa_cons ha (pa_cons hT pa_nil rfl) (star_cons hs)) (by decide) (by decide) (star_cons hs) rfl
end
/-! ### slices -/
section
variable {X : Cx}
theorem sl_all : SlR X (rSl X.K) := by
  intro pins s σ H x v vl vu lo hi sl Q I rx hs pl pu h
  match x, rx, h with
  | .ref a, rx, .inl ⟨xs, h1, h2⟩ => exact sl_list pins s σ H _ v vl vu lo hi sl Q I rx hs pl pu ⟨a, xs, rfl, h1, h2⟩
  | .ref a, rx, .inr ⟨xs, h1, h2, h3⟩ => exact sl_tup pins s σ H _ v vl vu lo hi sl Q I rx hs pl pu ⟨a, xs, rfl, h1, h2, h3⟩
  | .str z, rx, ⟨h1, h2⟩ =>
    obtain ⟨t, rfl⟩ := rx
    obtain ⟨l, el, ml⟩ : ∃ l : Option (Int × Tok), vl = partValue l ∧ l.map (·.1) = lo := by
      cases pl with
      | none => exact ⟨none, rfl, rfl⟩
      | int i t => exact ⟨some (i, t), rfl, rfl⟩
    obtain ⟨u, eu, mu⟩ : ∃ u : Option (Int × Tok), vu = partValue u ∧ u.map (·.1) = hi := by
      cases pu with
      | none => exact ⟨none, rfl, rfl⟩
      | int i t => exact ⟨some (i, t), rfl, rfl⟩
    subst el eu
    refine ⟨"str", _, F.slot_str_getitem.lookup, typeIs_str _ _ _, ?_⟩
    refine wpAny_getItem_str_slice (l := l) (u := u) (st := none) hs rfl ?_
    obtain ⟨b1, b2, b3⟩ := slice_bounds lo hi z.length
    have hp : slicePicked z l u none = (List.range (HT.sIx z.length z.length hi - HT.sIx z.length 0 lo)).map (HT.sIx z.length 0 lo + ·) := by
      show Builtin.Str.strSliceIndices (l.map (·.1)) (u.map (·.1)) 1 z.length = _
      rw [ml, mu]
      have e0 : Builtin.Str.strSliceIndices lo hi 1 z.length = sliceRange (sliceBounds lo hi none z.length).1 (sliceBounds lo hi none z.length).2.1 (sliceBounds lo hi none z.length).2.2 := rfl
      rw [e0, b1, b2, b3, sliceRange_one]
    have hc : ((slicePicked z l u none).filterMap (z.cps[·]?)) = cutL z.cps.toList lo hi := by
      show (Builtin.Str.strSliceIndices (l.map (·.1)) (u.map (·.1)) 1 z.length).filterMap (z.cps[·]?) = _
      rw [ml, mu, picked_cut]
    have hz : z.cps.toList.length = z.length := by simp [Str.length]
    have hA := HT.sIx_le z.length 0 (Nat.zero_le _) lo
    have hB := HT.sIx_le z.length z.length (Nat.le_refl _) hi
    unfold sliceMade
    refine post_val_or_made (fun _ => ?_) fun t' k => ?_
    · show (List.toArray ((slicePicked z l u none).filterMap (z.cps[·]?))).size ≤ sizeLine
      rw [hc, List.size_toArray]
      have : (cutL z.cps.toList lo hi).length ≤ z.cps.toList.length := by unfold cutL; simp only [List.length_take, List.length_drop]; omega
      omega
    · have e : (if (((none : Option (Int × Tok)).map (·.1)).getD 1 == 1 && (slicePicked z l u none).length == z.length) = true then z else ⟨((slicePicked z l u none).filterMap (z.cps[·]?)).toArray⟩) = cutS z lo hi := by
        split
        · rename_i hq
          simp only [Bool.and_eq_true, beq_iff_eq] at hq
          have hq2 := hq.2
          rw [hp, List.length_map, List.length_range] at hq2
          have a0 : HT.sIx z.length 0 lo = 0 := by omega
          have b0 : HT.sIx z.length z.length hi = z.length := by omega
          unfold cutS cutL
          rw [hz, a0, b0, ← hz, Nat.sub_zero, List.drop_zero, List.take_length]
        · rw [hc]; rfl
      rw [e]
      exact ⟨.str _, H, I.tok k, ⟨t', rfl⟩, h2⟩
theorem pe_notE {a : Expr} {ta : TE} {pos : Pos} (ha : PE X a ta) : PE X (.UnaryOp .Not a pos) (tNotE X.K ta) := by
  intro pins s σ H Q I h
  refine UnaryOp_ (thn (ha pins s σ H _ I h) fun v s1 ⟨x, H1, I1, r1, q1⟩ => not_of ?_)
  exact thn (tru_ok pins s1 σ H1 x v (fun b H2 => Q (.bl (!b)) H2) I1 r1 (tru_of q1)) fun b s2 ⟨H2, I2, q2⟩ => ⟨.bl (!b), H2, I2, rfl, q2⟩
theorem pt_tru {a : Expr} {ta : TE} (ha : PE X a ta) (he : ∀ whole, isTrue a X.env whole = (do let v ← whole; standAt a.pos; holding [v] (truthy v))) : PT X a (tTru X.K ta) := by
  intro pins s σ H Q I h
  exact isTrue_plain (thn (ha pins s σ H _ I h) fun v s1 ⟨x, H1, I1, r1, q1⟩ => tru_ok pins s1 σ H1 x v Q I1 r1 (tru_of q1)) (he _)
theorem pe_mth {m : Mth} {o e : Expr} {es : List Expr} {to : TE} {t : TA} {apos cpos : Pos} (ho : PE X o to) (ha : PA X (e :: es) t) (hb : noSuper o = true) (hl : (apos.endLine == cpos.line) = true) (hn : (e :: es).length < 29)
    (hs : starEach (e :: es) X.env = (false, eval e X.env) :: starEach es X.env) (h1 : (backTo cpos (starEach es X.env)).any (·.1) = false) (h2 : (backTo cpos (starEach (e :: es) X.env)).all (fun x => !x.1) = true) :
    PE X (.Call (.Attribute o m.nm apos) (e :: es) [] cpos) (tMth X.K m to t) := by
  obtain ⟨id, M⟩ := mth_is (X := X) m
  exact pe_bm M.pa M.slot M.ty M.mt ho ha (base_of hb) (by
    rw [h2]
    show (true && true && decide ((e :: es).length + 0 + 0 < 30)) = true
    rw [decide_eq_true (by omega)]; rfl) hl hs h1
end
/-! ### methods and makers of own classes -/
section
variable {X : Cx} {CX : CXT}
theorem own_call {o : Expr} {m : Str} {apos pos : Pos} {args : List Expr} {Q : Value → Shared → Prop} {E : Value → Shared → Prop} {A : Around} {s : Shared} {env : Env} {prog : Program} {w : World}
    (hb : noSuper o = true) (hl : (apos.endLine == pos.line) = true) (hn : args.length < 29) (hf : (backTo pos (starEach args env)).all (fun x => !x.1) = true)
    (h : wpAny (model prog w) A (eval o env) (fun ov s1 => ∀ pl, wpAny (model prog w) A (getMethod ov m pl) (fun fx s2 => wpAny (model prog w) A (callWith pos fx.1 fx.2 (backTo pos (starEach args env)) (backToKw pos (keywordEach [] env))) Q E s2) E s1) E s) :
    wpAny (model prog w) A (eval (.Call (.Attribute o m apos) args [] pos) env) Q E s := by
  have form : methodCallForm (args.length + 0) (backTo pos (starEach args env)) (backToKw pos (keywordEach [] env)) = true := by
    show ((backTo pos (starEach args env)).all (fun x => !x.1) && true && decide (args.length + 0 + 0 < 30)) = true
    rw [hf, decide_eq_true (by omega)]; rfl
  have line : methodCallPos true o env apos pos = pure pos := by unfold methodCallPos; simp [hl]
  rw [arm_eval_Call, base_of hb]
  refine wpAny_bind (wpAny_mono h (fun ov s1 h1 => wpAny_bind (wpAny_standAt ?_)) fun _ _ e => e)
  unfold methodCall
  rw [show ([] : List Keyword).length = 0 from rfl, form]
  refine wpAny_bind (wpAny_holding (wpAny_mono (h1 _) (fun fx s2 h2 => ?_) fun _ _ e => e))
  exact wpAny_bind (wpAny_of_eq line h2)
theorem pe_own {o e : Expr} {es : List Expr} {to : TE} {t : TA} {apos pos : Pos} {C : Addr} {m : Str} {sp : Sp} {E : XK} (M : MtFor CX X C m sp) (hx : Passes CX X E) (ho : PE X o to) (ha : PA X (e :: es) t) (hb : noSuper o = true) (hl : (apos.endLine == pos.line) = true) (hn : (e :: es).length < 29)
    (hs : starEach (e :: es) X.env = (false, eval e X.env) :: starEach es X.env) (h1 : (backTo pos (starEach es X.env)).any (·.1) = false) (h2 : (backTo pos (starEach (e :: es) X.env)).all (fun x => !x.1) = true) :
    PE X (.Call (.Attribute o m apos) (e :: es) [] pos) (tMeth C m sp [] E to t) := by
  obtain ⟨c, k, f, fd, ps, hm, F, hr, hbd⟩ := M
  intro pins s σ H Q I h
  refine own_call hb hl hn h2 (thn (ho pins s σ H _ I h) fun u s1 ⟨x, H1, I1, rx, a, dx, fs, ex, ea, l, q⟩ => fun pl => ?_)
  subst ex
  obtain rfl : u = Value.ref a := rx
  refine getmeth_ok I1 ea c hm l ?_
  refine PySem.W.callWith_K (first := [.ref a]) (h₀ := X.base) I.ok.mod.kin hm.kp (thn (ha pos pins s1 σ H1 _ I1 q) fun us s2 ⟨vs, H2, I2, r, q2⟩ => ⟨I2.kIn, ?_⟩) hs h1
  exact run_fn (us := .ref a :: us) (vs := .ref a :: vs) F hr hbd .nil hx I2 (.cons rfl r) q2
theorem pe_own0 {o : Expr} {to : TE} {apos pos : Pos} {C : Addr} {m : Str} {sp : Sp} {E : XK} (M : MtFor CX X C m sp) (hx : Passes CX X E) (ho : PE X o to) (hb : noSuper o = true) (hl : (apos.endLine == pos.line) = true) :
    PE X (.Call (.Attribute o m apos) [] [] pos) (tMeth C m sp [] E to tNil) := by
  obtain ⟨c, k, f, fd, ps, hm, F, hr, hbd⟩ := M
  intro pins s σ H Q I h
  refine own_call hb hl (by decide) rfl (thn (ho pins s σ H _ I h) fun u s1 ⟨x, H1, I1, rx, a, dx, fs, ex, ea, l, q⟩ => fun pl => ?_)
  subst ex
  obtain rfl : u = Value.ref a := rx
  refine getmeth_ok I1 ea c hm l ?_
  exact PySem.W.callWith_K0 (first := [.ref a]) I1.kIn hm.kp (run_fn (us := [.ref a]) (vs := [.ref a]) F hr hbd .nil hx I1 (.cons rfl .nil) q)
end
end L2
set_option maxRecDepth 100000
set_option maxHeartbeats 4000000
namespace L2
open PySem PySem.Spec PyProof.Rows
section
variable {prog : Program} {w : World} {A : Around} {E : Value → Shared → Prop} {s : Shared}
theorem draw_list {it l : Addr} {items : Array Value} (hne : l ≠ it) : ∀ (n i : Nat) (s : Shared) (Q : List Value → Shared → Prop), s.heap.IsListIter it l i → s.heap.IsList l items → i + n ≤ items.size →
    (∀ h', h'.IsListIter it l (i + n) → Heap.SameBut it s.heap h' → Q ((items.toList.drop i).take n) { s with heap := h' }) → wpAny (model prog w) A (draw (.ref it) n) Q E s
  | 0, i, s, Q, hit, _, _, hQ => by
    show wpAny _ _ (pure []) Q E s
    exact wpAny_pure (by simpa using hQ s.heap hit (Heap.SameBut.refl ..))
  | n + 1, i, s, Q, hit, ht, hle, hQ => by
    have hlt : i < items.size := by omega
    show wpAny _ _ (pyNext (.ref it) >>= _) Q E s
    refine wpAny_bind (wpAny_pyNext_list_item hit ht (x := items[i]) (by simp [hlt]) fun h₁ hit₁ hs₁ => ?_)
    refine wpAny_bind (wpAny_holding (draw_list hne n (i + 1) _ _ hit₁ (ht.extBut hs₁.extBut hne) (by omega) fun h₂ hit₂ hs₂ => wpAny_pure ?_))
    have hd : items.toList.drop i = items[i] :: items.toList.drop (i + 1) := by simp [List.drop_eq_getElem_cons, hlt]
    have := hQ h₂ (by rw [show i + (n + 1) = i + 1 + n by omega]; exact hit₂) (hs₁.trans hs₂)
    rw [hd, List.take_succ_cons] at this
    exact this
theorem unpackItems_list {t : Addr} {items : Array Value} {Q : List Value → Shared → Prop} (hh : A.handled = none) (ht : s.heap.IsList t items)
    (hQ : ∀ h', Heap.ExtBut s.heap.objs.size s.heap h' → Q items.toList { s with heap := h' }) : wpAny (model prog w) A (unpackItems (.ref t) items.size none) Q E s := by
  have hlt : t ≠ s.heap.objs.size := by obtain ⟨o, ho, _⟩ := ht; exact Nat.ne_of_lt (Heap.lt_size ho)
  unfold unpackItems
  refine wpAny_bind ?_
  · unfold notIterableAtAll
    refine wpAny_bind (wpAny_specialOf ht.typeIs slot_list_iter.lookup ?_)
    refine wpAny_pure ?_
    simp only [Bool.false_eq_true, if_false]
    refine wpAny_bind (wpAny_holding (wpAny_pyIter_list ht ?_))
    refine wpAny_bind (wpAny_holding (draw_list hlt items.size 0 _ _ ⟨_, Heap.get?_push_size _ rfl, rfl, rfl⟩ (ht.push _) (by omega) fun h₁ hit₁ hs₁ => ?_))
    have hall : List.take items.size (List.drop 0 items.toList) = items.toList := by
      rw [List.drop_zero]; exact List.take_of_length_le (by simp)
    rw [hall]
    rw [if_neg (by simp)]
    have ht₁ : h₁.IsList t items := (ht.push _).extBut hs₁.extBut hlt
    refine wpAny_bind (wpAny_holding (wpAny_pyNext_list_end hh hit₁ ht₁ (by simp) fun h₂ he₂ => ?_))
    simp only [Option.isSome_none, Bool.false_eq_true, if_false]
    refine wpAny_pure (hQ h₂ fun b o hb e => he₂ b o hb (hs₁.extBut b o hb (Heap.get?_push_of_some _ e)))
theorem assign_Tuple_listv {env : Env} {elts : List Expr} {x1} {pos : Pos} {t : Addr} {items : Array Value} {Q : Unit → Shared → Prop} (hh : A.handled = none) (ht : s.heap.IsList t items)
    (hn : (assignEach elts env).length = items.size) (hstar : (assignEach elts env).findIdx? (·.1) = none)
    (h : ∀ h', Heap.ExtBut s.heap.objs.size s.heap h' → wpAny (model prog w) A (assignInOrder ((assignEach elts env).map (·.2)) items.toList) Q E { s with heap := h' }) :
    wpAny (model prog w) A (assign (.Tuple elts x1 pos) env (.ref t)) Q E s := by
  rw [assign_Tuple]
  refine wpAny_bind (wpAny_standAt ?_)
  unfold unpack
  rw [hn, hstar]
  exact wpAny_bind (wpAny_holding (unpackItems_list hh ht h))
end
/-- (a, b, ..) = a tuple or a list of that length -/
def gSeq (K : PySem.W.Frag) (n : Nat) (t : TGs) : TG := fun v σ H Q => ∃ a xs, v = .ref a ∧ (SqT K H a xs ∨ SqL K H a xs) ∧ xs.length = n ∧ t xs σ H Q
theorem pg_seq {X : Cx} {es : List Expr} {k : Nat} {t : TGs} {n : Nat} {pos : Pos} (hc : X.calm = true) (h : PGs X es t)
    (hn : (assignEach es X.env).length = n) (hst : (assignEach es X.env).findIdx? (·.1) = none) : PG X (.Tuple es k pos) (gSeq X.K n t) := by
  intro pins s σ H v u Q I r hw
  obtain ⟨a, xs, e1, hq, hl, hw⟩ := hw
  rcases hq with hq | hq
  · exact pg_tup hc h hn hst pins s σ H v u Q I r ⟨a, xs, e1, hq, hl, hw⟩
  · subst e1
    cases r
    obtain ⟨its, rv, ht, hz⟩ := I.list hq
    refine assign_Tuple_listv (I.ok.hd hc) ht.isList (by simp [hn, ← hl, rv.length]) hst fun h' hx => ?_
    have I1 : Inv X pins σ H { s with heap := h' } := I.kept (t' := s.toks) fun b o e => hx b o (Nat.ne_of_lt (Heap.lt_size e)) e
    exact h pins _ σ H xs _ Q I1 (by simpa using rv) hw
end L2
set_option maxRecDepth 100000
set_option maxHeartbeats 4000000
namespace L2
open PySem PySem.Spec PyProof.Rows
/-! ### a row's own derivation, part by part -/
def gNames : List Nat → TGs
  | [] => gNil
  | i :: r => gCons (gName i) (gNames r)
/-- o[lo:hi] = .. -/
def gSl (to : TE) (tl th : TO) : TG := fun v σ H Q => to σ H fun o H1 => tl σ H1 fun i H2 => th σ H2 fun j H3 => ∃ l b xs ys a c, o = .ref l ∧ v = .ref b ∧ i = some a ∧ j = some c ∧ H3 l = some (.lst xs) ∧ H3 b = some (.lst ys) ∧ l ≠ b ∧
  0 ≤ a ∧ a ≤ c ∧ c ≤ xs.length ∧ xs.length + ys.length ≤ sizeLine ∧ Q σ (upd H3 l (.lst (xs.take a.toNat ++ ys ++ xs.drop c.toNat)))
mutual
def rdS (Γ : RCx) : RS → TS
  | .asg i e => tAsg (rdE Γ e) (gName i)
  | .asgC i e => tAsg (rdE Γ e) (gName i)
  | .set o ix e => tAsg (rdE Γ e) (gSub (rdE Γ o) (rdE Γ ix) rSetL)
  | .drop e => tDrop (rdE Γ e)
  | .ret e => tRet (rdE Γ e)
  | .retN => tRetN
  | .ite c t e => tIfS (rdT Γ c) (rdSs Γ t) (rdSs Γ e)
  | .for1 i k its body => tFor (rdI Γ k its) (gName i) (rdSs Γ body)
  | .forT is k its body => tFor (rdI Γ k its) (gSeq Γ.K is.length (gNames is)) (rdSs Γ body)
  | .whl c body => tWhile (rdT Γ c) (rdSs Γ body)
  | .pass => tNext
  | .brk => tBreak
  | .cont => tCont
  | .never => tNever
  | .setSl o lo hi e => tAsg (rdE Γ e) (gSl (rdE Γ o) (tPart (rdE Γ lo)) (tPart (rdE Γ hi)))
  | .setf o f e => sFld Γ.K (rdE Γ o) (rdE Γ e) f
  | .asgT is e => tAsg (rdE Γ e) (gSeq Γ.K is.length (gNames is))
  | .rais j as => sRaise (Γ.ex j) Γ.E (rdA Γ as)
  | .tryr n i j body su => fun D σ H => ∃ C, Γ.gv j = .ref C ∧ sTry Γ.K C i n (fun E => rdSs { Γ with E := E } body) (fun ea => rdSs { Γ with E := E0, hv := some ea } su) D σ H
def rdSs (Γ : RCx) : List RS → TS
  | [] => tNext
  | s :: r => tSeq (rdS Γ s) (rdSs Γ r)
end
def noSl : Expr → Bool
  | .Slice .. => false | _ => true
def noComp : Expr → Bool
  | .ListComp .. => false | .SetComp .. => false | .DictComp .. => false | _ => true
def tgIs (N : List Str) (sc : Scope) : List Nat → List Str → Bool
  | [], xs => xs.isEmpty
  | i :: r, xs => match xs with
    | [] => false
    | x :: t => decide (N[i]? = some x) && loc sc x && tgIs N sc r t
structure GoodS (CX : CXT) (S : SCx) (Γ : RCx) (X : Cx) : Prop extends Good CX S Γ X where
  nd : S.N.Nodup
  fnt : ∀ x, X.fn x = true
  own : PassesOwn (model X.prog X.w) X.A X.env X.xe
  fun' : X.env.scope.kind = .function
  rs : ∀ (j : Nat) (x : Str), S.en[j]? = some x → Raises X Γ.E
  stk : X.stack = X.env :: X.outer
  frm : X.env.frame = some X.env.locals
  exn : X.ex = []
  hcx : CX = CXe X.prog X.w
def qV (S : SCx) (i : Nat) (x : Str) : Bool := decide (S.N[i]? = some x) && vis S.sc x && !(x == ("__debug__" : Str)) && !(x == ("__classdict__" : Str))
def kG (S : SCx) (j : Nat) (x : Str) : Bool := decide (S.gn[j]? = some x) && glo S.sc x && !(x == ("__debug__" : Str))
def kF (S : SCx) (j : Nat) (x : Str) : Bool := decide (S.fn[j]? = some x) && glo S.sc x && !(x == ("__debug__" : Str))
def kK (S : SCx) (j : Nat) (x : Str) : Bool := decide (S.kn[j]? = some x) && glo S.sc x && !(x == ("__debug__" : Str))
def kB (S : SCx) (x y : Str) : Bool := decide (x = y) && glo S.sc x && S.bl.contains x
def kM (o : Expr) (m : Str) (x : Str) (n : Nat) (a c : Pos) : Bool := decide (x = m) && noSuper o && (a.endLine == c.line) && decide (n < 29)
def kL (S : SCx) (i : Nat) (x : Str) : Bool := decide (S.N[i]? = some x) && loc S.sc x
section
variable {CX : CXT} {S : SCx} {Γ : RCx} {X : Cx} {e e2 a b c d : Expr} {es : List Expr} {x : Str} {p q pos : Pos} {r ra rb rc : RE} {rs : List RE} {i j : Nat}
theorem d_v (G : Good CX S Γ X) (h : qV S i x = true) : PE X (.Name x p) (rdE Γ (.v i)) := by
  simp only [qV, Bool.and_eq_true, decide_eq_true_eq, Bool.not_eq_true'] at h
  exact pe_var (by rw [G.N]; exact h.1.1.1) (by rw [G.sc]; exact vis_of h.1.1.2) h.1.2 h.2
theorem d_ci {v : Int} {k : Nat} : PE X (.Constant (.int v) k p) (rdE Γ (.c (.int v))) := pe_int
theorem d_cs {v : Str} {k : Nat} : PE X (.Constant (.str v) k p) (rdE Γ (.c (.str v))) := pe_str
theorem d_cb {v : Bool} {k : Nat} : PE X (.Constant (.bool v) k p) (rdE Γ (.c (.bl v))) := pe_bl
theorem d_cn {k : Nat} : PE X (.Constant .none k p) (rdE Γ (.c .non)) := pe_non
theorem d_g (G : Good CX S Γ X) (h : kG S j x = true) : PE X (.Name x p) (rdE Γ (.g j)) := by
  simp only [kG, Bool.and_eq_true, decide_eq_true_eq, Bool.not_eq_true'] at h
  obtain ⟨u, hm, r⟩ := G.gvs j x h.1.1
  exact pe_glob (G.gl h.1.2) hm r h.2
theorem d_bin {op : Operator} (G : Good CX S Γ X) (ha : PE X a (rdE Γ ra)) (hb : PE X b (rdE Γ rb)) : PE X (.BinOp a op b p) (rdE Γ (.bin op ra rb)) := by
  show PE X _ (tOp (rBin Γ.K op) (rdE Γ ra) (rdE Γ rb))
  rw [← G.K]
  exact pe_op (op_bin op) ha hb
theorem d_cmp {op : CmpOp} (G : Good CX S Γ X) (hm : behindInMarks op b = false) (ha : PE X a (rdE Γ ra)) (hb : PE X b (rdE Γ rb)) : PE X (.Compare a [op] [b] p) (rdE Γ (.cmp op ra rb)) := by
  show PE X _ (tOp (rCmp Γ.K op) (rdE Γ ra) (rdE Γ rb))
  rw [← G.K]
  exact pe_cmpR (op_cmp G.units op) ha hb hm
theorem d_cmp2 {op op' : CmpOp} (G : Good CX S Γ X) (hm : lastMarks [op, op'] [b, c] = false) (ha : PE X a (rdE Γ ra)) (hb : PE X b (rdE Γ rb)) (hc : PE X c (rdE Γ rc)) : PE X (.Compare a [op, op'] [b, c] p) (rdE Γ (.cmp2 op op' ra rb rc)) := by
  show PE X _ (tChain (rCmp Γ.K op) (rCmp Γ.K op') (rdE Γ ra) (rdE Γ rb) (rdE Γ rc))
  rw [← G.K]
  exact pe_chain (op_cmp G.units op) (op_cmp G.units op') ha hb hc hm
theorem d_and1 (h : PE X e (rdE Γ r)) : PE X (.BoolOp .And [e] p) (rdE Γ (.and [r])) := pe_one h
theorem d_and {r2 : RE} (h : PE X e (rdE Γ r)) (t : PE X (.BoolOp .And (e2 :: es) p) (rdE Γ (.and (r2 :: rs)))) : PE X (.BoolOp .And (e :: e2 :: es) p) (rdE Γ (.and (r :: r2 :: rs))) := pe_and h t
theorem d_not (G : Good CX S Γ X) (ha : PE X a (rdE Γ ra)) : PE X (.UnaryOp .Not a p) (rdE Γ (.not ra)) := by
  show PE X _ (tNotE Γ.K (rdE Γ ra))
  rw [← G.K]
  exact pe_notE ha
theorem d_nil : PA X [] (rdA Γ []) := pa_nil
theorem d_cons (hs : noStar e = true) (h : PE X e (rdE Γ r)) (t : PA X es (rdA Γ rs)) : PA X (e :: es) (rdA Γ (r :: rs)) := pa_cons h t (star_cons hs)
theorem d_call (G : Good CX S Γ X) (h : kF S j x = true) (hn : nst (e :: es) = true) (hA : PA X (e :: es) (rdA Γ (r :: rs))) (hq : S.md = 0 := by rfl) : PE X (.Call (.Name x p) (e :: es) [] pos) (rdE Γ (.call j (r :: rs))) := by
  simp only [kF, Bool.and_eq_true, decide_eq_true_eq, Bool.not_eq_true'] at h
  obtain ⟨k, f, fd, ps, F, hr, hm, hk, hb⟩ := G.fns hq j x h.1.1
  exact pe_call F hr (G.gl h.1.2) hm hk hb .nil G.pass hA h.2 (star_cons (nst_cons hn).1) (stars_of _ _ es (nst_cons hn).2)
theorem d_make0 (G : Good CX S Γ X) (h : kK S j x = true) (hq : S.md = 0 := by rfl) : PE X (.Call (.Name x p) [] [] pos) (rdE Γ (.make j [])) := by
  simp only [kK, Bool.and_eq_true, decide_eq_true_eq, Bool.not_eq_true'] at h
  obtain ⟨k, f, fd, ps, M, F, hr, hm, hb⟩ := G.mks hq j x h.1.1
  exact pe_make0 M F hr (G.gl h.1.2) hm hb .nil G.pass h.2
theorem d_blt {t : Blt} (G : Good CX S Γ X) (h : kB S x t.nm = true) (hn : nst (e :: es) = true) (hA : PA X (e :: es) (rdA Γ (r :: rs))) (hq : S.md = 0 := by rfl) : PE X (.Call (.Name x p) (e :: es) [] pos) (rdE Γ (.blt t (r :: rs))) := by
  simp only [kB, Bool.and_eq_true, decide_eq_true_eq] at h
  obtain ⟨⟨rfl, h2⟩, h3⟩ := h
  have n1 : t.nm ≠ "__name__" := by cases t <;> decide
  have n2 : (t.nm == ("__debug__" : Str)) = false := by cases t <;> decide
  show PE X _ (tCB (rBlt Γ.K t) (rdA Γ (r :: rs)))
  rw [← G.K]
  cases blt_is (X := X) (G.calm hq) t with
  | fn id hv hc => exact pe_callB hc (G.gl h2) (G.bls _ h3) hv hA n1 n2 (star_cons (nst_cons hn).1) (stars_of _ _ es (nst_cons hn).2)
  | ty T hv hc => exact pe_callTy hc (G.gl h2) (G.bls _ h3) hv hA n1 n2 (star_cons (nst_cons hn).1) (stars_of _ _ es (nst_cons hn).2)
theorem d_isi {T : Ty} {y : Str} (G : Good CX S Γ X) (h : kB S x "isinstance" = true) (h2 : kB S y (Str.ofString T.nm) = true) (hs : noStar a = true) (ha : PE X a (rdE Γ ra)) : PE X (.Call (.Name x p) [a, .Name y q] [] pos) (rdE Γ (.isi T ra)) := by
  simp only [kB, Bool.and_eq_true, decide_eq_true_eq] at h h2
  obtain ⟨⟨rfl, g2⟩, g3⟩ := h
  obtain ⟨⟨rfl, k2⟩, k3⟩ := h2
  exact pe_isi ha hs (G.gl g2) (G.bls _ g3) (G.gl k2) (G.bls _ k3)
/-- isinstance(e, C) of an exception; f(e) within a suite; a built-in class -/
theorem d_isx (G : Good CX S Γ X) (h : kB S x "isinstance" = true) (hn : nst [a, b] = true) (ha : PE X a (rdE Γ ra)) (hb : PE X b (rdE Γ rb)) : PE X (.Call (.Name x p) [a, b] [] pos) (rdE Γ (.isx ra rb)) := by
  simp only [kB, Bool.and_eq_true, decide_eq_true_eq] at h
  obtain ⟨⟨rfl, g2⟩, g3⟩ := h
  show PE X _ (tCB (rIsx Γ.K) (tCons (rdE Γ ra) (tCons (rdE Γ rb) tNil)))
  rw [← G.K]
  exact pe_callB call_isx (G.gl g2) (G.bls _ g3) boot_isi (pa_cons ha (pa_cons hb pa_nil (star_cons (nst_cons (nst_cons hn).2).1)) (star_cons (nst_cons hn).1)) (by decide) (by decide) (star_cons (nst_cons hn).1) (stars_of _ _ _ (nst_cons hn).2)
theorem d_ty {n : String} (G : Good CX S Γ X) (h : kB S x (Str.ofString n) = true) (hv : bootBuiltins (Str.ofString n) = some (.type n)) (h1 : Str.ofString n ≠ "__name__") (h2 : (Str.ofString n == ("__debug__" : Str)) = false) : PE X (.Name x p) (rdE Γ (.c (.ty n))) := by
  simp only [kB, Bool.and_eq_true, decide_eq_true_eq] at h
  obtain ⟨⟨rfl, g2⟩, g3⟩ := h
  exact pe_bltn (G.gl g2) (G.bls _ g3) hv rfl h1 h2
def kH (S : SCx) (j : Nat) (x : Str) : Bool := decide (S.hn[j]? = some x) && glo S.sc x && !(x == ("__debug__" : Str))
theorem d_wrd (G : Good CX S Γ X) (h : kH S j x = true) (hs : noStar a = true) (ha : PE X a (rdE Γ ra)) : PE X (.Call (.Name x p) [a] [] pos) (rdE Γ (.wrd j ra)) := by
  simp only [kH, Bool.and_eq_true, decide_eq_true_eq, Bool.not_eq_true'] at h
  obtain ⟨k, f, fd, ps, F, hr, hm, hk, hb⟩ := G.hsf j x h.1.1
  exact pe_callH F hr (G.gl h.1.2) hm hk hb G.hvo ha hs h.2
theorem d_mth {m : Mth} {o : Expr} {ro : RE} {ap : Pos} (G : Good CX S Γ X) (h : kM o m.nm x (es.length + 1) ap pos = true) (hn : nst (e :: es) = true) (ho : PE X o (rdE Γ ro)) (hA : PA X (e :: es) (rdA Γ (r :: rs))) : PE X (.Call (.Attribute o x ap) (e :: es) [] pos) (rdE Γ (.mth m ro (r :: rs))) := by
  simp only [kM, Bool.and_eq_true, decide_eq_true_eq] at h
  obtain ⟨⟨⟨rfl, h2⟩, h3⟩, h4⟩ := h
  show PE X _ (tMth Γ.K m (rdE Γ ro) (rdA Γ (r :: rs)))
  rw [← G.K]
  exact pe_mth ho hA h2 h3 h4 (star_cons (nst_cons hn).1) (stars_of _ _ es (nst_cons hn).2) (few_of _ _ (e :: es) hn)
theorem d_fld {f : Str} {ro : RE} (G : Good CX S Γ X) (h : noSuper a = true) (ho : PE X a (rdE Γ ro)) : PE X (.Attribute a f p) (rdE Γ (.fld ro f)) := by
  show PE X _ (tFld Γ.K (rdE Γ ro) f)
  rw [← G.K]
  exact pe_fld ho (base_of h)
theorem d_meth0 {m : Str} {o : Expr} {ro : RE} {ap : Pos} (G : Good CX S Γ X) (h : (kM o m m 0 ap pos && decide (S.mn[j]? = some m)) = true) (ho : PE X o (rdE Γ ro)) (hq : S.md = 0 := by rfl) : PE X (.Call (.Attribute o m ap) [] [] pos) (rdE Γ (.meth j m ro [])) := by
  simp only [kM, Bool.and_eq_true, decide_eq_true_eq] at h
  obtain ⟨⟨⟨⟨-, h2⟩, h3⟩, -⟩, h5⟩ := h
  exact pe_own0 (G.mts hq j _ h5) G.pass ho h2 h3
theorem d_meth {m : Str} {o : Expr} {ro : RE} {ap : Pos} (G : Good CX S Γ X) (h : (kM o m m (es.length + 1) ap pos && decide (S.mn[j]? = some m)) = true) (hn : nst (e :: es) = true) (ho : PE X o (rdE Γ ro)) (hA : PA X (e :: es) (rdA Γ (r :: rs))) (hq : S.md = 0 := by rfl) : PE X (.Call (.Attribute o m ap) (e :: es) [] pos) (rdE Γ (.meth j m ro (r :: rs))) := by
  simp only [kM, Bool.and_eq_true, decide_eq_true_eq] at h
  obtain ⟨⟨⟨⟨-, h2⟩, h3⟩, h4⟩, h5⟩ := h
  exact pe_own (G.mts hq j _ h5) G.pass ho hA h2 h3 h4 (star_cons (nst_cons hn).1) (stars_of _ _ es (nst_cons hn).2) (few_of _ _ (e :: es) hn)
theorem plain_of (h : noSl b = true) : PlainIx b := fun o i => by cases b <;> first | rfl | cases h
theorem d_ix (G : Good CX S Γ X) (h : noSl b = true) (ha : PE X a (rdE Γ ra)) (hb : PE X b (rdE Γ rb)) : PE X (.Subscript a b p) (rdE Γ (.ix ra rb)) := by
  show PE X _ (tOp (rIx2 Γ.K Γ.sd) (rdE Γ ra) (rdE Γ rb))
  rw [← G.K]
  exact pe_ix (ix_any G.sds) ha hb (plain_of h)
theorem d_sl {lo hi : Option Expr} {rl rh : Option RE} (G : Good CX S Γ X) (ha : PE X a (rdE Γ ra)) (hl : PO X lo (rdO Γ rl)) (hh : PO X hi (rdO Γ rh)) : PE X (.Subscript a (.Slice lo hi none q) p) (rdE Γ (.sl ra rl rh)) := by
  show PE X _ (tSl (rSl Γ.K) (rdE Γ ra) (rdO Γ rl) (rdO Γ rh))
  rw [← G.K]
  exact pe_slice sl_all ha hl hh
theorem d_no : PO X none (rdO Γ none) := po_none
theorem d_some (ha : PE X a (rdE Γ ra)) : PO X (some a) (rdO Γ (some ra)) := po_some ha
theorem d_tup {k} (hA : PA X es (rdA Γ rs)) : PE X (.Tuple es k p) (rdE Γ (.tup rs)) := pe_tup hA
theorem d_lst (hA : PA X es (rdA Γ rs)) : PE X (.List es p) (rdE Γ (.lst rs)) := pe_lst hA
/-! tests -/
theorem t_not (h : PT X a (rdT Γ ra)) : PT X (.UnaryOp .Not a p) (rdT Γ (.not ra)) := pt_not h
theorem t_and1 (h : PT X e (rdT Γ r)) : PW X (.BoolOp .And [e] p) (rdT Γ (.and [r])) := pw_and1 h
theorem t_and {r2 : RE} (h : PT X e (rdT Γ r)) (t : PW X (.BoolOp .And (e2 :: es) p) (rdT Γ (.and (r2 :: rs)))) : PW X (.BoolOp .And (e :: e2 :: es) p) (rdT Γ (.and (r :: r2 :: rs))) := pw_and h t
theorem t_or1 (h : PT X e (rdT Γ r)) : PW X (.BoolOp .Or [e] p) (rdT Γ (.or [r])) := pw_or1 h
theorem t_or {r2 : RE} (h : PT X e (rdT Γ r)) (t : PW X (.BoolOp .Or (e2 :: es) p) (rdT Γ (.or (r2 :: rs)))) : PW X (.BoolOp .Or (e :: e2 :: es) p) (rdT Γ (.or (r :: r2 :: rs))) := pw_or h t
theorem t_cmp {op : CmpOp} (G : Good CX S Γ X) (hm : behindInMarks op b = false) (ha : PE X a (rdE Γ ra)) (hb : PE X b (rdE Γ rb)) : PT X (.Compare a [op] [b] p) (rdT Γ (.cmp op ra rb)) := by
  show PT X _ (tTest (tOp (rCmp Γ.K op) (rdE Γ ra) (rdE Γ rb)))
  rw [← G.K]
  exact pt_cmpR (op_cmp G.units op) ha hb hm
theorem t_call (G : Good CX S Γ X) (h : PE X (.Call a es [] p) (rdE Γ (.call j rs))) : PT X (.Call a es [] p) (rdT Γ (.call j rs)) := by
  show PT X _ (tTru Γ.K (rdE Γ (.call j rs)))
  rw [← G.K]
  exact pt_tru h fun _ => rfl
theorem t_isx (G : Good CX S Γ X) (h : PE X (.Call a es [] p) (rdE Γ (.isx ra rb))) : PT X (.Call a es [] p) (rdT Γ (.isx ra rb)) := by
  show PT X _ (tTru Γ.K (rdE Γ (.isx ra rb)))
  rw [← G.K]
  exact pt_tru h fun _ => rfl
/-! iterables -/
theorem i_rng {tg : Expr} (G : Good CX S Γ X) (h : kB S x "range" = true) (hs : noStar a = true) (ha : PE X a (rdE Γ ra)) : PI X tg (.Call (.Name x p) [a] [] pos) (rdI Γ .rng [ra]) := by
  simp only [kB, Bool.and_eq_true, decide_eq_true_eq] at h
  obtain ⟨⟨rfl, h2⟩, h3⟩ := h
  exact pi_range1 (G.gl h2) (G.bls _ h3) (pa_cons ha pa_nil (star_cons hs)) (star_cons hs)
theorem i_enm {ts : List Expr} {k} {tp : Pos} (G : Good CX S Γ X) (h : kB S x "enumerate" = true) (hs : noStar a = true) (ha : PE X a (rdE Γ ra)) : PI X (.Tuple ts k tp) (.Call (.Name x p) [a] [] pos) (rdI Γ .enm [ra]) := by
  simp only [kB, Bool.and_eq_true, decide_eq_true_eq] at h
  obtain ⟨⟨rfl, h2⟩, h3⟩ := h
  show PI X _ _ (iEnm Γ.K (tCons (rdE Γ ra) (rdA Γ [])))
  rw [← G.K]
  exact pi_enm (G.gl h2) (G.bls _ h3) (pa_cons ha pa_nil (star_cons hs)) (star_cons hs)
end
/-! rows -/
section
variable {CX : CXT} {S : SCx} {Γ : RCx} {X : Cx} {e a b c v : Expr} {es : List Expr} {x : Str} {p q pos : Pos} {r ra rb rc : RE} {i j : Nat} {st : Stmt} {sts : List Stmt} {s : RS} {ss t u : List RS}
theorem swaps_no {v : Expr} {t : Option Expr} {l : Nat} {env : Env} (h : noComp v = true) : swapsWith v t l env = pure false := by
  cases v <;> first | rfl | cases h
theorem swaps_cell {v : Expr} {x : Str} {p : Pos} {l : Nat} {env : Env} (h : env.kindOf x = some .cell) : swapsWith v (some (.Name x p)) l env = pure false := by
  cases v <;> first
    | rfl
    | (unfold swapsWith; simp only [h]; have q : (some NameKind.cell == some NameKind.local) = false := rfl; simp only [q, Bool.and_false, Bool.false_and])
theorem GoodS.name (G : GoodS CX S Γ X) (h : kL S i x = true) : PG X (.Name x p) (gName i) := by
  simp only [kL, Bool.and_eq_true, decide_eq_true_eq] at h
  exact pg_name (by rw [G.N]; exact G.nd) (by rw [G.N]; exact h.1) (by rw [G.sc]; exact loc_of h.2) (.inl (G.fnt x))
theorem s_nil : PSs X [] (rdSs Γ []) := pss_nil
theorem s_cons (h : PS X st (rdS Γ s)) (t : PSs X sts (rdSs Γ ss)) : PSs X (st :: sts) (rdSs Γ (s :: ss)) := pss_cons h t
theorem s_asg (G : GoodS CX S Γ X) (h : kL S i x = true) (hc : (noComp v || decide (S.sc.names.lookup x = some .cell)) = true) (he : PE X v (rdE Γ r)) : PS X (.Assign [.Name x p] v q) (rdS Γ (.asg i r)) := by
  simp only [kL, Bool.and_eq_true, decide_eq_true_eq, Bool.or_eq_true] at h hc
  refine ps_set (by rw [G.N]; exact G.nd) (by rw [G.N]; exact h.1) (by rw [G.sc]; exact loc_of h.2) he ?_ (.inl (G.fnt x))
  rcases hc with h4 | h4
  · exact swaps_no h4
  · exact swaps_cell (by show X.env.scope.names.lookup x = _; rw [G.sc]; exact h4)
theorem s_setf {f : Str} (G : GoodS CX S Γ X) (h : noComp v = true) (ho : PE X a (rdE Γ ra)) (he : PE X v (rdE Γ r)) : PS X (.Assign [.Attribute a f p] v q) (rdS Γ (.setf ra f r)) := by
  show PS X _ (sFld Γ.K (rdE Γ ra) (rdE Γ r) f)
  rw [← G.K]
  exact ps_fld ho he (swaps_no h)
theorem s_drop (h : noComp v = true) (he : PE X v (rdE Γ r)) : PS X (.Expr v p) (rdS Γ (.drop r)) := ps_expr he (swaps_no h)
theorem s_ret (he : PE X v (rdE Γ r)) : PS X (.Return (some v) p) (rdS Γ (.ret r)) := ps_ret he
theorem s_ite {as bs : List Stmt} (hc : PT X c (rdT Γ rc)) (ha : PSs X as (rdSs Γ t)) (hb : PSs X bs (rdSs Γ u)) : PS X (.If c as bs p) (rdS Γ (.ite rc t u)) := ps_if hc ha hb
theorem s_whl {as : List Stmt} (G : GoodS CX S Γ X) (hc : PT X c (rdT Γ rc)) (ha : PSs X as (rdSs Γ t)) : PS X (.While c as [] p) (rdS Γ (.whl rc t)) := ps_while G.own hc ha
theorem s_for1 {k : IK} {its : List RE} {iter : Expr} {as : List Stmt} (G : GoodS CX S Γ X) (h : kL S i x = true) (hs : noSet iter = true) (hi : PI X (.Name x p) iter (rdI Γ k its)) (ha : PSs X as (rdSs Γ t)) (hq : S.md = 0 := by rfl) : PS X (.For (.Name x p) iter as [] q) (rdS Γ (.for1 i k its t)) :=
  ps_for G.own (G.calm hq) hi (G.name h) ha (set_of hs)
theorem gNames_ok (G : GoodS CX S Γ X) : ∀ (is : List Nat) (xs : List (Str × Pos)), tgIs S.N S.sc is (xs.map (·.1)) = true →
    PGs X (xs.map fun y => .Name y.1 y.2) (gNames is) ∧ (assignEach (xs.map fun y => Expr.Name y.1 y.2) X.env).length = is.length ∧ (assignEach (xs.map fun y => Expr.Name y.1 y.2) X.env).findIdx? (·.1) = none
  | [], xs, h => by
    simp only [tgIs, List.isEmpty_iff, List.map_eq_nil_iff] at h
    subst h; exact ⟨pgs_nil, rfl, rfl⟩
  | i :: r, [], h => by simp only [List.map_nil, tgIs] at h; cases h
  | i :: r, y :: t, h => by
    simp only [List.map_cons, tgIs, Bool.and_eq_true] at h
    obtain ⟨i1, i2, i3⟩ := gNames_ok G r t h.2
    refine ⟨pgs_cons (G.name (by simp only [kL, Bool.and_eq_true]; exact h.1)) i1 rfl, ?_, ?_⟩
    · show (assignEach _ X.env).length + 1 = r.length + 1
      rw [i2]
    · show List.findIdx? (·.1) ((false, assign (.Name y.1 y.2) X.env) :: assignEach _ X.env) = none
      rw [List.findIdx?_cons, i3]; rfl
theorem s_forT {is : List Nat} {k : IK} {its : List RE} {iter : Expr} {as : List Stmt} {kt} {tp : Pos} (xs : List (Str × Pos)) (G : GoodS CX S Γ X) (h : tgIs S.N S.sc is (xs.map (·.1)) = true) (hs : noSet iter = true) (hi : PI X (.Tuple (xs.map fun y => .Name y.1 y.2) kt tp) iter (rdI Γ k its)) (ha : PSs X as (rdSs Γ t)) (hq : S.md = 0 := by rfl) :
    PS X (.For (.Tuple (xs.map fun y => .Name y.1 y.2) kt tp) iter as [] q) (rdS Γ (.forT is k its t)) := by
  obtain ⟨i1, i2, i3⟩ := gNames_ok G is xs h
  show PS X _ (tFor (rdI Γ k its) (gSeq Γ.K is.length (gNames is)) (rdSs Γ t))
  rw [← G.K]
  exact ps_for G.own (G.calm hq) hi (pg_seq (G.calm hq) i1 i2 i3) ha (set_of hs)
/-- raise C(..) -/
def kX (S : SCx) (j : Nat) (x : Str) : Bool := decide (S.en[j]? = some x) && glo S.sc x && !(x == ("__debug__" : Str))
theorem s_raise {rs : List RE} {np cpos : Pos} (G : GoodS CX S Γ X) (h : kX S j x = true) (hn : nst (e :: es) = true) (hA : PA X (e :: es) (rdA Γ (r :: rs))) (hq : S.md = 0 := by rfl) : PS X (.Raise (some (.Call (.Name x np) (e :: es) [] cpos)) none pos) (rdS Γ (.rais j (r :: rs))) := by
  simp only [kX, Bool.and_eq_true, decide_eq_true_eq, Bool.not_eq_true'] at h
  obtain ⟨bm, B, newId, initId, O, FB⟩ := G.exs j x h.1.1
  exact ps_raise (G.calm hq) O FB (G.gl h.1.2) h.2 hA (star_cons (nst_cons hn).1) (stars_of _ _ es (nst_cons hn).2) (G.rs j x h.1.1)
/-- the context of a try's body, of an except suite -/
abbrev tS (S : SCx) : SCx := { S with en := [] }
abbrev hS (S : SCx) : SCx := { S with en := [], md := 2 }
theorem GoodS.tried (G : GoodS CX S Γ X) (pn : List (Addr × Obj)) (xe : Value → Shared → Prop) (E : XK) (ho : PassesOwn (model X.prog X.w) X.A X.env xe) (hp : Passes (CXe X.prog X.w) (X.alt X.A X.calm pn xe) E) :
    GoodS CX (tS S) { Γ with E := E } (X.alt X.A X.calm pn xe) :=
  { N := G.N, sc := G.sc, K := G.K, calm := G.calm, units := G.units, fns := G.fns, gvs := G.gvs, bls := G.bls, pass := by rw [G.hcx]; exact hp, noE := G.noE, sds := G.sds, mts := G.mts, mks := G.mks,
    exs := fun _ _ h => (by simp at h), hsf := G.hsf, hvo := G.hvo, hdo := G.hdo, nd := G.nd, fnt := G.fnt, own := ho, fun' := G.fun', rs := fun _ _ h => (by simp at h), stk := G.stk, frm := G.frm, exn := G.exn, hcx := G.hcx }
theorem GoodS.held (G : GoodS CX S Γ X) (ea : Addr) (pn : List (Addr × Obj)) :
    GoodS CX (hS S) { Γ with E := E0, hv := some ea } (X.alt (X.A.mark (some (.ref ea))) false pn fun _ _ => False) :=
  { N := G.N, sc := G.sc, K := G.K, calm := fun h => (nomatch h), units := G.units, fns := fun h => (nomatch h), gvs := G.gvs, bls := G.bls, pass := fun _ _ _ _ _ _ _ h => (G.noE _ _ _ _ _ h).elim, noE := G.noE, sds := G.sds, mts := fun h => (nomatch h), mks := fun h => (nomatch h),
    exs := fun _ _ h => (by simp at h), hsf := fun j x h => (by
      obtain ⟨k, f, fd, ps, F, r, m⟩ := G.hsf j x h
      exact ⟨k, f, fd, ps, F, r.mark _, m⟩),
    hvo := fun e h => (by cases h; rfl), hdo := fun h => (nomatch h), nd := G.nd, fnt := G.fnt, own := PassesOwn.never, fun' := G.fun', rs := fun _ _ h => (by simp at h), stk := G.stk, frm := G.frm, exn := G.exn, hcx := G.hcx }
/-- try: ..; except C as y: .. -/
theorem s_try {n : Nat} {y : Str} {np hpos : Pos} {body su : List Stmt} {b₀ : Stmt} {rb rsu : List RS} (G : GoodS CX S Γ X) (h : kG S j x = true) (hn : (decide (S.N.length = n) && decide (S.N[i]? = some y) && decide (S.sc.names.lookup y = some .local)) = true)
    (hb : ∀ {Γ : RCx} {X : Cx}, GoodS CX (tS S) Γ X → PSs X body (rdSs Γ rb)) (hs : ∀ {Γ : RCx} {X : Cx}, GoodS CX (hS S) Γ X → PSs X (b₀ :: su) (rdSs Γ rsu)) :
    PS X (.Try body [.ExceptHandler (some (.Name x np)) (some y) (b₀ :: su) hpos] [] [] pos) (rdS Γ (.tryr n i j rb rsu)) := by
  simp only [kG, Bool.and_eq_true, decide_eq_true_eq, Bool.not_eq_true'] at h hn
  obtain ⟨u, hm, hu⟩ := G.gvs j x h.1.1
  intro pins s σ H D I q
  obtain ⟨C, e, q⟩ := (show ∃ C, Γ.gv j = .ref C ∧ sTry Γ.K C i n (fun E => rdSs { Γ with E := E } rb) (fun ea => rdSs { Γ with E := E0, hv := some ea } rsu) D σ H from q)
  rw [e] at hu
  have hu' : u = .ref C := hu
  subst hu'
  have hl : X.N.length = n := by rw [G.N]; exact hn.1.1
  have q' : sTry X.K C i X.N.length (fun E => rdSs { Γ with E := E } rb) (fun ea => rdSs { Γ with E := E0, hv := some ea } rsu) D σ H := by rw [G.K, hl]; exact q
  exact ps_try (tb := fun E => rdSs { Γ with E := E } rb) (th := fun ea => rdSs { Γ with E := E0, hv := some ea } rsu) G.stk G.frm G.exn (G.gl h.1.2) h.2 hm (by rw [G.N]; exact G.nd) (by rw [G.N]; exact hn.1.2) (by rw [G.sc]; exact hn.2)
    (fun pn xe E ho hp => hb (G.tried pn xe E ho hp)) (fun ea pn => hs (G.held ea pn)) pins s σ H D I q'
end
end L2
set_option maxRecDepth 100000
set_option maxHeartbeats 4000000
namespace L2
open PySem PySem.Spec PyProof.Rows
/-! ### a def by its reading -/
section
variable {P : Program} {w : World} {K : PySem.W.Frag} {mg : Str → Option Value} {base : Heap}
/-- the def called x keeps the promise sp, k calls deep at the most -/
def FnT (P : Program) (w : World) (K : PySem.W.Frag) (mg : Str → Option Value) (base : Heap) (k : Nat) (x : Str) (sp : Sp) : Prop :=
  ∃ f fd ps, FnOk P w K mg base (CXe P w) k f fd ps sp ∧ mg x = some (.ref f) ∧ PySem.W.keepIn K (.ref f) = true ∧ Binds K fd ps []
theorem FnT.mono {j k : Nat} {x : Str} {sp : Sp} (h : FnT P w K mg base j x sp) (hk : j ≤ k) : FnT P w K mg base k x sp := by
  obtain ⟨f, fd, ps, F, r⟩ := h
  exact ⟨f, fd, ps, F.mono hk, r⟩
def spAt (tab : List (Str × Sp)) (j : Nat) : Sp := match tab[j]? with
  | some p => p.2
  | none => fun _ _ _ _ => False
def gvAt (tab : List (Str × V)) (j : Nat) : V := match tab[j]? with
  | some p => p.2
  | none => .non
structure GvT (mg : Str → Option Value) (p : Str × V) : Prop where
  ex : ∃ u, mg p.1 = some u ∧ RelV p.2 u
def mtAt (tab : List (Str × Addr × Sp)) (j : Nat) : Addr × Sp := match tab[j]? with
  | some p => p.2
  | none => (0, fun _ _ _ _ => False)
def exAt (tab : List (Str × Addr)) (j : Nat) : Addr := match tab[j]? with
  | some p => p.2
  | none => 0
abbrev rcx (K : PySem.W.Frag) (tab : List (Str × Sp)) (gt : List (Str × V)) (dk : List (Addr × List (Key × V)) := []) (mt kt : List (Str × Addr × Sp) := []) (et : List (Str × Addr) := []) (ht : List (Str × Sp) := []) (E : XK := E0) : RCx :=
  { K := K, fs := spAt tab, gv := gvAt gt, E := E, sd := fun p kvs => (p, kvs) ∈ dk, ms := mtAt mt, kt := mtAt kt, ex := exAt et, hs := spAt ht, hv := none }
/-- a method; a class that is made -/
def MtT (P : Program) (w : World) (K : PySem.W.Frag) (mg : Str → Option Value) (base : Heap) (k : Nat) (p : Str × Addr × Sp) : Prop :=
  Cls K p.2.1 ∧ ∃ f fd ps, Meth K p.2.1 p.1 f ∧ FnOk P w K mg base (CXe P w) k f fd ps p.2.2 ∧ Binds K fd ps []
def MkT (P : Program) (w : World) (K : PySem.W.Frag) (mg : Str → Option Value) (base : Heap) (k : Nat) (p : Str × Addr × Sp) : Prop :=
  ∃ j f fd ps, j + 1 ≤ k ∧ Mk K p.2.1 f ∧ FnOk P w K mg base (CXe P w) j f fd ps p.2.2 ∧ mg p.1 = some (.ref p.2.1) ∧ Binds K fd ps []
theorem MtT.mono {j k : Nat} {p : Str × Addr × Sp} (h : MtT P w K mg base j p) (hk : j ≤ k) : MtT P w K mg base k p := by
  obtain ⟨c, f, fd, ps, m, F, b⟩ := h
  exact ⟨c, f, fd, ps, m, F.mono hk, b⟩
theorem MkT.mono {j k : Nat} {p : Str × Addr × Sp} (h : MkT P w K mg base j p) (hk : j ≤ k) : MkT P w K mg base k p := by
  obtain ⟨i, f, fd, ps, m, r⟩ := h
  exact ⟨i, f, fd, ps, Nat.le_trans m hk, r⟩
/-- a dict of the module's -/
def DkT (P : Program) (w : World) (K : PySem.W.Frag) (q : Addr × List (Key × V)) : Prop := ∀ h : Heap, K.In h → ∃ vs, KV q.2 vs ∧ h.DictOf (mixKind P w) q.1 vs
abbrev scx (N : List Str) (sc : Scope) (tab : List Str) (gt : List Str) (bl : List Str) (mn kn : List Str := []) (en hn : List Str := []) (md : Nat := 0) : SCx := { N := N, sc := sc, fn := tab, gn := gt, bl := bl, mn := mn, kn := kn, en := en, hn := hn, md := md }
/-- a class of exceptions that is raised; a def that suites call -/
def ExT (mg : Str → Option Value) (base : Heap) (p : Str × Addr) : Prop := ∃ bm B newId initId, OwnCls p.1 p.2 bm newId mg base ∧ ExcBaseFacts B newId initId bm
def FnTH (P : Program) (w : World) (K : PySem.W.Frag) (mg : Str → Option Value) (base : Heap) (k : Nat) (x : Str) (sp : Sp) : Prop :=
  ∃ f fd ps, FnOkH P w K mg base k f fd ps sp ∧ mg x = some (.ref f) ∧ PySem.W.keepIn K (.ref f) = true ∧ Binds K fd ps []
theorem FnTH.mono {P : Program} {w : World} {K : PySem.W.Frag} {mg : Str → Option Value} {base : Heap} {j k : Nat} {x : Str} {sp : Sp} (h : FnTH P w K mg base j x sp) (hk : j ≤ k) : FnTH P w K mg base k x sp := by
  obtain ⟨f, fd, ps, F, r⟩ := h
  exact ⟨f, fd, ps, F.mono hk, r⟩
theorem def_fnX {x qual : Str} {st : Stmt} {f : Addr} {fd : FuncData} {N ps : List Str} {k : Nat} {sp : Sp} (F : Fun K x qual st f fd) (S : FnScope N ps (defScope st))
    (tab : List (Str × Sp)) (gt : List (Str × V)) (bl : List Str) (mt kt : List (Str × Addr × Sp)) (et : List (Str × Addr)) (ht : List (Str × Sp)) (body : List RS)
    (hm : ∀ {CX : CXT} {Γ : RCx} {X : Cx}, GoodS CX (scx N (defScope st) (tab.map (·.1)) (gt.map (·.1)) bl (mt.map (·.1)) (kt.map (·.1)) (et.map (·.1)) (ht.map (·.1))) Γ X → PSs X (defBody st) (rdSs Γ body))
    (hfs : ∀ p ∈ tab, FnT P w K mg base k p.1 p.2) (hgs : ∀ p ∈ gt, GvT mg p) (hbl : ∀ y ∈ bl, mg y = none) (dk : List (Addr × List (Key × V))) (hdk : ∀ q ∈ dk, DkT P w K q)
    (hmt : ∀ p ∈ mt, MtT P w K mg base k p) (hkt : ∀ p ∈ kt, MkT P w K mg base k p) (het : ∀ p ∈ et, ExT mg base p) (hht : ∀ p ∈ ht, FnTH P w K mg base k p.1 p.2)
    (len : ∀ vs H Q E, sp vs H Q E → vs.length = ps.length)
    (hread : ∀ vs H Q E, sp vs H Q E → rdSs (rcx K tab gt dk mt kt et ht E) body { nx := fun _ H' => Q .non H', rt := Q } (start N vs) H) : FnOk P w K mg base (CXe P w) (k + 1) f fd ps sp := by
  obtain ⟨oc, od, kV, doc, pm, an, cdv, ct, osl, rfl, lk, hcd⟩ := F.ex
  refine fn_of lk hcd S len fun A outer s H vs Q E hr hsp => ⟨_, hm (CX := CXe P w) (Γ := rcx K tab gt dk mt kt et ht E) ?_, hread vs H Q E hsp⟩
  refine { N := rfl, sc := rfl, K := rfl, calm := fun _ => rfl, units := hr.units, fns := fun _ j y hj => ?_, gvs := fun j y hj => ?_, bls := fun y hy => ?_, pass := passE, noE := fun _ _ _ _ _ h => cxe_none h, sds := fun p kvs h => hdk _ h, mts := fun _ j y hj => ?_, mks := fun _ j y hj => ?_, exs := fun j y hj => ?_, hsf := fun j y hj => ?_, hvo := fun _ h => (nomatch h), hdo := fun h => (nomatch h), nd := S.nd, fnt := fun _ => rfl, own := PassesOwn.leaving, fun' := S.kind, rs := fun _ _ _ => raiseE, stk := rfl, frm := rfl, exn := rfl, hcx := rfl }
  · have hj' : (tab.map (·.1))[j]? = some y := hj
    rw [List.getElem?_map] at hj'
    cases q : tab[j]? with
    | none => rw [q] at hj'; cases hj'
    | some p =>
      rw [q] at hj'
      have e : p.1 = y := Option.some.inj hj'
      obtain ⟨f', fd', ps', F', m', k', b'⟩ := hfs p (List.mem_of_getElem? q)
      have es : spAt tab j = p.2 := by unfold spAt; rw [q]
      show FnFor (CXe P w) _ y (spAt tab j)
      rw [es, ← e]
      exact ⟨k, f', fd', ps', F', hr, m', k', b'⟩
  · have hj' : (gt.map (·.1))[j]? = some y := hj
    rw [List.getElem?_map] at hj'
    cases q : gt[j]? with
    | none => rw [q] at hj'; cases hj'
    | some p =>
      rw [q] at hj'
      have e : p.1 = y := Option.some.inj hj'
      obtain ⟨u, h1, h2⟩ := (hgs p (List.mem_of_getElem? q)).ex
      have es : gvAt gt j = p.2 := by unfold gvAt; rw [q]
      show ∃ u, mg y = some u ∧ RelV (gvAt gt j) u
      rw [es, ← e]
      exact ⟨u, h1, h2⟩
  · exact hbl y (by simpa using hy)
  · have hj' : (mt.map (·.1))[j]? = some y := hj
    rw [List.getElem?_map] at hj'
    cases q : mt[j]? with
    | none => rw [q] at hj'; cases hj'
    | some p =>
      rw [q] at hj'
      have e : p.1 = y := Option.some.inj hj'
      obtain ⟨c, f', fd', ps', m', F', b'⟩ := hmt p (List.mem_of_getElem? q)
      have es : mtAt mt j = p.2 := by unfold mtAt; rw [q]
      show MtFor (CXe P w) _ (mtAt mt j).1 y (mtAt mt j).2
      rw [es, ← e]
      exact ⟨c, k, f', fd', ps', m', F', hr, b'⟩
  · have hj' : (kt.map (·.1))[j]? = some y := hj
    rw [List.getElem?_map] at hj'
    cases q : kt[j]? with
    | none => rw [q] at hj'; cases hj'
    | some p =>
      rw [q] at hj'
      have e : p.1 = y := Option.some.inj hj'
      obtain ⟨i, f', fd', ps', hi, m', F', g', b'⟩ := hkt p (List.mem_of_getElem? q)
      have es : mtAt kt j = p.2 := by unfold mtAt; rw [q]
      show MkFor (CXe P w) _ y (mtAt kt j).1 (mtAt kt j).2
      rw [es, ← e]
      exact ⟨i, f', fd', ps', m', F', hr.mono hi, g', b'⟩
  · have hj' : (et.map (·.1))[j]? = some y := hj
    rw [List.getElem?_map] at hj'
    cases q : et[j]? with
    | none => rw [q] at hj'; cases hj'
    | some p =>
      rw [q] at hj'
      have e : p.1 = y := Option.some.inj hj'
      have es : exAt et j = p.2 := by unfold exAt; rw [q]
      show ExFor _ y (exAt et j)
      rw [es, ← e]
      exact het p (List.mem_of_getElem? q)
  · have hj' : (ht.map (·.1))[j]? = some y := hj
    rw [List.getElem?_map] at hj'
    cases q : ht[j]? with
    | none => rw [q] at hj'; cases hj'
    | some p =>
      rw [q] at hj'
      have e : p.1 = y := Option.some.inj hj'
      obtain ⟨f', fd', ps', F', m', k', b'⟩ := hht p (List.mem_of_getElem? q)
      have es : spAt ht j = p.2 := by unfold spAt; rw [q]
      show FnForH _ y (spAt ht j)
      rw [es, ← e]
      exact ⟨k, f', fd', ps', F', hr.h, m', k', b'⟩
section
variable {x qual : Str} {st : Stmt} {f C : Addr} {fd : FuncData} {N ps : List Str} {k : Nat} {sp : Sp}
end
end
section
variable {P : Program} {w : World} {K : PySem.W.Frag} {mg : Str → Option Value} {base : Heap} {x qual : Str} {st : Stmt} {f : Addr} {fd : FuncData} {N ps : List Str} {k : Nat} {sp : Sp}
/-- a def that suites call -/
theorem def_okH (F : Fun K x qual st f fd) (S : FnScope N ps (defScope st)) (hmg : mg x = some (.ref f)) (hb : Binds K fd ps [])
    (gt : List (Str × V)) (bl : List Str) (body : List RS)
    (hm : ∀ {CX : CXT} {Γ : RCx} {X : Cx}, GoodS CX (scx N (defScope st) [] (gt.map (·.1)) bl (md := 1)) Γ X → PSs X (defBody st) (rdSs Γ body))
    (hgs : ∀ p ∈ gt, GvT mg p) (hbl : ∀ y ∈ bl, mg y = none) (len : ∀ vs H Q E, sp vs H Q E → vs.length = ps.length)
    (hread : ∀ vs H Q, sp vs H Q E0 → rdSs (rcx K [] gt) body { nx := fun _ H' => Q .non H', rt := Q } (start N vs) H) : FnTH P w K mg base (k + 1) x sp := by
  obtain ⟨oc, od, kV, doc, pm, an, cdv, ct, osl, rfl, lk, hcd⟩ := F.ex
  refine ⟨f, _, ps, fn_ofH (CX := CXe P w) lk hcd S len fun A outer s H vs Q hr hh hsp => ⟨_, hm (CX := CXe P w) (Γ := rcx K [] gt) ?_, hread vs H Q hsp⟩, hmg, F.kp, hb⟩
  refine { N := rfl, sc := rfl, K := rfl, calm := fun h => (nomatch h), units := hr.units, fns := fun h => (nomatch h), gvs := fun j y hj => ?_, bls := fun y hy => ?_, pass := fun _ _ _ _ _ _ _ h => (cxe_none h).elim, noE := fun _ _ _ _ _ h => cxe_none h, sds := fun p kvs h => (nomatch h), mts := fun h => (nomatch h), mks := fun h => (nomatch h), exs := fun j y hj => (nomatch hj), hsf := fun j y hj => (nomatch hj), hvo := fun _ h => (nomatch h), hdo := fun _ => hd_cxOfH hh, nd := S.nd, fnt := fun _ => rfl, own := PassesOwn.never, fun' := S.kind, rs := fun _ _ hj => (nomatch hj), stk := rfl, frm := rfl, exn := rfl, hcx := rfl }
  · have hj' : (gt.map (·.1))[j]? = some y := hj
    rw [List.getElem?_map] at hj'
    cases q : gt[j]? with
    | none => rw [q] at hj'; cases hj'
    | some p =>
      rw [q] at hj'
      have e : p.1 = y := Option.some.inj hj'
      obtain ⟨u, h1, h2⟩ := (hgs p (List.mem_of_getElem? q)).ex
      have es : gvAt gt j = p.2 := by unfold gvAt; rw [q]
      show ∃ u, mg y = some u ∧ RelV (gvAt gt j) u
      rw [es, ← e]
      exact ⟨u, h1, h2⟩
  · exact hbl y (by simpa using hy)
/-- at the top no exception is wanted -/
theorem FnOk.top {k : Nat} (F : FnOk P w K mg base (CXe P w) k f fd ps sp) : FnOk P w K mg base CX0 k f fd ps (fun vs H Q _ => sp vs H Q E0) :=
  ⟨fun vs H Q E h => F.len vs H Q E0 h, fun A outer s H args us vs Q E hr e0 hb hv hs => codeAny_mono (F.run A outer s H args us vs Q E0 hr e0 hb hv hs) fun r s' h => by
    cases r with
    | error e => exact (cxe_none h).elim
    | ok fl => cases fl <;> exact h⟩
end
/-! ### steps of a reading -/
section
variable {Γ : RCx} {D : Ends} {σ : St} {H : Hp} {r : List RS} {Q : VK}
end
end L2
set_option maxRecDepth 100000
namespace L2.B
open PySem PySem.Spec PyProof.Rows
/-! ### is_whole -/
def N_is_whole : List Str := ["thing"]
def P_is_whole : List Str := ["thing"]
def b_is_whole : List RS :=
  [.ret (.and [(.isi .int (.v 0)), (.not (.isi .bool (.v 0)))])]
def f_is_whole : List Str := []
def g_is_whole : List Str := []
def l_is_whole : List Str := ["isinstance", "int", "bool"]
def mn_is_whole : List Str := []
def kn_is_whole : List Str := []
def en_is_whole : List Str := []
def hn_is_whole : List Str := []
/-! ### is_word -/
/-! ### is_text -/
def N_is_text : List Str := ["thing"]
def P_is_text : List Str := ["thing"]
def b_is_text : List RS :=
  [.ret (.and [(.isi .str (.v 0)), (.cmp .Eq (.mth .lstrip (.v 0) [(.g 0)]) (.c (.str "")))])]
def f_is_text : List Str := []
def g_is_text : List Str := ["SIGNS"]
def l_is_text : List Str := ["isinstance", "str"]
def mn_is_text : List Str := []
def kn_is_text : List Str := []
def en_is_text : List Str := []
def hn_is_text : List Str := []
/-! ### need_text -/
def N_need_text : List Str := ["thing"]
def P_need_text : List Str := ["thing"]
def b_need_text : List RS :=
  [.ite (.not (.call 0 [(.v 0)])) [.rais 0 [(.c (.str "a text is a str of signs from the blank to the tilde, and line feeds"))]] []]
def f_need_text : List Str := ["is_text"]
def g_need_text : List Str := []
def l_need_text : List Str := []
def mn_need_text : List Str := []
def kn_need_text : List Str := []
def en_need_text : List Str := ["BadText"]
def hn_need_text : List Str := []
/-! ### is_part -/
/-! ### may_follow -/
/-! ### need_change -/
/-! ### part_size -/
/-! ### sizes -/
/-! ### add_keep -/
/-! ### add_texts -/
/-! ### neat -/
/-! ### done -/
/-! ### back -/
/-! ### cell_atL -/
/-! ### mixedL -/
/-! ### textL -/
/-! ### sizeL -/
/-! ### partsL -/
/-! ### neatL -/
/-! ### changeL -/
/-! ### sameL -/
/-! ### doneL -/
/-! ### wordL -/
/-! ### is_between -/
def N_is_between : List Str := ["thing", "least", "most"]
def P_is_between : List Str := ["thing", "least", "most"]
def b_is_between : List RS :=
  [.ret (.and [(.call 0 [(.v 0)]), (.cmp2 .LtE .LtE (.v 1) (.v 0) (.v 2))])]
def f_is_between : List Str := ["is_whole"]
def g_is_between : List Str := []
def l_is_between : List Str := []
def mn_is_between : List Str := []
def kn_is_between : List Str := []
def en_is_between : List Str := []
def hn_is_between : List Str := []
/-! ### need_swap -/
/-! ### swapped -/
/-! ### wholeL -/
def b_wholeL : List RS :=
  [.ret (.and [(.isi .int (.v 0)), (.not (.isi .bool (.v 0)))])]
def f_wholeL : List Str := []
def g_wholeL : List Str := []
def l_wholeL : List Str := ["isinstance", "int", "bool"]
def mn_wholeL : List Str := []
def kn_wholeL : List Str := []
def en_wholeL : List Str := []
def hn_wholeL : List Str := []
end L2.B
set_option maxRecDepth 100000
namespace L2.B
open PySem PySem.Spec PyProof.Rows
/-! ### many_upto -/
def N_many_upto : List Str := ["row", "most", "least", "beyond", "middle"]
def P_many_upto : List Str := ["row", "most"]
def b_many_upto : List RS :=
  [.asg 2 (.c (.int 0)),
  .asg 3 (.blt .len [(.v 0)]),
  .whl (.cmp .Lt (.v 2) (.v 3)) [.asg 4 (.bin .FloorDiv (.bin .Add (.v 2) (.v 3)) (.c (.int 2))),
    .ite (.cmp .LtE (.ix (.v 0) (.v 4)) (.v 1)) [.asg 2 (.bin .Add (.v 4) (.c (.int 1)))] [.asg 3 (.v 4)]],
  .ret (.v 2)]
def f_many_upto : List Str := []
def g_many_upto : List Str := []
def l_many_upto : List Str := ["len"]
def mn_many_upto : List Str := []
def kn_many_upto : List Str := []
def en_many_upto : List Str := []
def hn_many_upto : List Str := []
/-! ### need_side -/
/-! ### Track_init -/
/-! ### Track_to_left -/
/-! ### Track_to_right -/
/-! ### Track_lead -/
/-! ### moved -/
end L2.B
set_option maxRecDepth 100000
namespace L2.B
open PySem PySem.Spec PyProof.Rows
/-! ### Stock_init -/
def N_Stock_init : List Str := ["self"]
def P_Stock_init : List Str := ["self"]
def b_Stock_init : List RS :=
  [.setf (.v 0) "texts" (.lst []),
  .setf (.v 0) "begins" (.lst []),
  .setf (.v 0) "feeds" (.lst []),
  .setf (.v 0) "signs" (.c (.int 0))]
def f_Stock_init : List Str := []
def g_Stock_init : List Str := []
def l_Stock_init : List Str := []
def mn_Stock_init : List Str := []
def kn_Stock_init : List Str := []
def en_Stock_init : List Str := []
def hn_Stock_init : List Str := []
/-! ### Stock_put -/
def N_Stock_put : List Str := ["self", "text", "begin", "feed"]
def P_Stock_put : List Str := ["self", "text"]
def b_Stock_put : List RS :=
  [.drop (.call 0 [(.v 1)]),
  .asg 2 (.fld (.v 0) "signs"),
  .drop (.mth .append (.fld (.v 0) "texts") [(.v 1)]),
  .drop (.mth .append (.fld (.v 0) "begins") [(.v 2)]),
  .setf (.v 0) "signs" (.bin .Add (.v 2) (.blt .len [(.v 1)])),
  .asg 3 (.mth .find (.v 1) [(.c (.str "\n"))]),
  .whl (.cmp .GtE (.v 3) (.c (.int 0))) [.drop (.mth .append (.fld (.v 0) "feeds") [(.bin .Add (.v 2) (.v 3))]),
    .asg 3 (.mth .find (.v 1) [(.c (.str "\n")), (.bin .Add (.v 3) (.c (.int 1)))])],
  .ret (.v 2)]
def f_Stock_put : List Str := ["need_text"]
def g_Stock_put : List Str := []
def l_Stock_put : List Str := ["len"]
def mn_Stock_put : List Str := []
def kn_Stock_put : List Str := []
def en_Stock_put : List Str := []
def hn_Stock_put : List Str := []
/-! ### Stock_read -/
def N_Stock_read : List Str := ["self", "begin", "size", "pieces", "number", "end", "offset", "piece"]
def P_Stock_read : List Str := ["self", "begin", "size"]
def b_Stock_read : List RS :=
  [.ite (.or [(.not (.call 0 [(.v 1), (.c (.int 0)), (.fld (.v 0) "signs")])), (.not (.call 0 [(.v 2), (.c (.int 0)), (.bin .Sub (.fld (.v 0) "signs") (.v 1))]))]) [.rais 0 [(.c (.str "what is read lies within the stock"))]] [],
  .asg 3 (.lst []),
  .asg 4 (.bin .Sub (.call 1 [(.fld (.v 0) "begins"), (.v 1)]) (.c (.int 1))),
  .asg 5 (.bin .Add (.v 1) (.v 2)),
  .whl (.cmp .Lt (.v 1) (.v 5)) [.asg 6 (.bin .Sub (.v 1) (.ix (.fld (.v 0) "begins") (.v 4))),
    .asg 7 (.sl (.ix (.fld (.v 0) "texts") (.v 4)) (some (.v 6)) (some (.bin .Sub (.bin .Add (.v 6) (.v 5)) (.v 1)))),
    .drop (.mth .append (.v 3) [(.v 7)]),
    .asg 1 (.bin .Add (.v 1) (.blt .len [(.v 7)])),
    .asg 4 (.bin .Add (.v 4) (.c (.int 1)))],
  .ret (.mth .join (.c (.str "")) [(.v 3)])]
def f_Stock_read : List Str := ["is_between", "many_upto"]
def g_Stock_read : List Str := []
def l_Stock_read : List Str := ["len"]
def mn_Stock_read : List Str := []
def kn_Stock_read : List Str := []
def en_Stock_read : List Str := ["NoPlace"]
def hn_Stock_read : List Str := []
/-! ### Stock_many -/
def N_Stock_many : List Str := ["self"]
def P_Stock_many : List Str := ["self"]
def b_Stock_many : List RS :=
  [.ret (.fld (.v 0) "signs")]
def f_Stock_many : List Str := []
def g_Stock_many : List Str := []
def l_Stock_many : List Str := []
def mn_Stock_many : List Str := []
def kn_Stock_many : List Str := []
def en_Stock_many : List Str := []
def hn_Stock_many : List Str := []
structure Tx_Stock (K : PySem.W.Frag) (C : Addr) : Prop where
  cl : Cls K C
  n_texts : NoAttr K C "texts"
  n_begins : NoAttr K C "begins"
  n_feeds : NoAttr K C "feeds"
  n_signs : NoAttr K C "signs"
end L2.B
set_option maxRecDepth 100000
set_option maxHeartbeats 4000000
namespace L2.K12
open PySem PySem.Spec PyProof.Rows L2.B
def stAt (i : Nat) : Stmt := (PySem.Challenge.pw_inkloom_k12_the_stock.main.body).getD i (.Pass ⟨0, 0, 0, 0⟩)
/-! ### many_upto -/
def s_many_upto : Stmt := stAt 17
theorem sc_many_upto : FnScope N_many_upto P_many_upto (defScope s_many_upto) := ⟨by kernel_rfl, by kernel_rfl, by kernel_rfl, by decide +kernel, by kernel_rfl, by decide +kernel, by decide +kernel⟩
theorem m_many_upto {CX : CXT} {Γ : RCx} {X : Cx} (G : GoodS CX (scx N_many_upto (defScope s_many_upto) f_many_upto g_many_upto l_many_upto mn_many_upto kn_many_upto en_many_upto hn_many_upto 0) Γ X) : PSs X (defBody s_many_upto) (rdSs Γ b_many_upto) := by
  have g := G.toGood
  exact (s_cons (s_asg G (by kernel_rfl) (by kernel_rfl) d_ci) (s_cons (s_asg G (by kernel_rfl) (by kernel_rfl) (d_blt g (by kernel_rfl) (by kernel_rfl) (d_cons (by kernel_rfl) (d_v g (by kernel_rfl)) d_nil))) (s_cons (s_whl G (t_cmp g (by kernel_rfl) (d_v g (by kernel_rfl)) (d_v g (by kernel_rfl))) (s_cons (s_asg G (by kernel_rfl) (by kernel_rfl) (d_bin g (d_bin g (d_v g (by kernel_rfl)) (d_v g (by kernel_rfl))) d_ci)) (s_cons (s_ite (t_cmp g (by kernel_rfl) (d_ix g (by kernel_rfl) (d_v g (by kernel_rfl)) (d_v g (by kernel_rfl))) (d_v g (by kernel_rfl))) (s_cons (s_asg G (by kernel_rfl) (by kernel_rfl) (d_bin g (d_v g (by kernel_rfl)) d_ci)) s_nil) (s_cons (s_asg G (by kernel_rfl) (by kernel_rfl) (d_v g (by kernel_rfl))) s_nil)) s_nil))) (s_cons (s_ret (d_v g (by kernel_rfl))) s_nil))))
/-! ### is_whole -/
def s_is_whole : Stmt := stAt 20
theorem sc_is_whole : FnScope N_is_whole P_is_whole (defScope s_is_whole) := ⟨by kernel_rfl, by kernel_rfl, by kernel_rfl, by decide +kernel, by kernel_rfl, by decide +kernel, by decide +kernel⟩
theorem m_is_whole {CX : CXT} {Γ : RCx} {X : Cx} (G : GoodS CX (scx N_is_whole (defScope s_is_whole) f_is_whole g_is_whole l_is_whole mn_is_whole kn_is_whole en_is_whole hn_is_whole 0) Γ X) : PSs X (defBody s_is_whole) (rdSs Γ b_is_whole) := by
  have g := G.toGood
  exact (s_cons (s_ret (d_and (d_isi g (by kernel_rfl) (by kernel_rfl) (by kernel_rfl) (d_v g (by kernel_rfl))) (d_and1 (d_not g (d_isi g (by kernel_rfl) (by kernel_rfl) (by kernel_rfl) (d_v g (by kernel_rfl))))))) s_nil)
/-! ### is_between -/
def s_is_between : Stmt := stAt 21
theorem sc_is_between : FnScope N_is_between P_is_between (defScope s_is_between) := ⟨by kernel_rfl, by kernel_rfl, by kernel_rfl, by decide +kernel, by kernel_rfl, by decide +kernel, by decide +kernel⟩
theorem m_is_between {CX : CXT} {Γ : RCx} {X : Cx} (G : GoodS CX (scx N_is_between (defScope s_is_between) f_is_between g_is_between l_is_between mn_is_between kn_is_between en_is_between hn_is_between 0) Γ X) : PSs X (defBody s_is_between) (rdSs Γ b_is_between) := by
  have g := G.toGood
  exact (s_cons (s_ret (d_and (d_call g (by kernel_rfl) (by kernel_rfl) (d_cons (by kernel_rfl) (d_v g (by kernel_rfl)) d_nil)) (d_and1 (d_cmp2 g (by kernel_rfl) (d_v g (by kernel_rfl)) (d_v g (by kernel_rfl)) (d_v g (by kernel_rfl)))))) s_nil)
/-! ### is_text -/
def s_is_text : Stmt := stAt 22
theorem sc_is_text : FnScope N_is_text P_is_text (defScope s_is_text) := ⟨by kernel_rfl, by kernel_rfl, by kernel_rfl, by decide +kernel, by kernel_rfl, by decide +kernel, by decide +kernel⟩
theorem m_is_text {CX : CXT} {Γ : RCx} {X : Cx} (G : GoodS CX (scx N_is_text (defScope s_is_text) f_is_text g_is_text l_is_text mn_is_text kn_is_text en_is_text hn_is_text 0) Γ X) : PSs X (defBody s_is_text) (rdSs Γ b_is_text) := by
  have g := G.toGood
  exact (s_cons (s_ret (d_and (d_isi g (by kernel_rfl) (by kernel_rfl) (by kernel_rfl) (d_v g (by kernel_rfl))) (d_and1 (d_cmp g (by kernel_rfl) (d_mth g (by kernel_rfl) (by kernel_rfl) (d_v g (by kernel_rfl)) (d_cons (by kernel_rfl) (d_g g (by kernel_rfl)) d_nil)) d_cs)))) s_nil)
/-! ### need_text -/
def s_need_text : Stmt := stAt 23
theorem sc_need_text : FnScope N_need_text P_need_text (defScope s_need_text) := ⟨by kernel_rfl, by kernel_rfl, by kernel_rfl, by decide +kernel, by kernel_rfl, by decide +kernel, by decide +kernel⟩
theorem m_need_text {CX : CXT} {Γ : RCx} {X : Cx} (G : GoodS CX (scx N_need_text (defScope s_need_text) f_need_text g_need_text l_need_text mn_need_text kn_need_text en_need_text hn_need_text 0) Γ X) : PSs X (defBody s_need_text) (rdSs Γ b_need_text) := by
  have g := G.toGood
  exact (s_cons (s_ite (t_not (t_call g (d_call g (by kernel_rfl) (by kernel_rfl) (d_cons (by kernel_rfl) (d_v g (by kernel_rfl)) d_nil)))) (s_cons (s_raise G (by kernel_rfl) (by kernel_rfl) (d_cons (by kernel_rfl) d_cs d_nil)) s_nil) s_nil) s_nil)
/-! ### Stock_init -/
def s_Stock_init : Stmt := inClass (stAt 25) 0
theorem sc_Stock_init : FnScope N_Stock_init P_Stock_init (defScope s_Stock_init) := ⟨by kernel_rfl, by kernel_rfl, by kernel_rfl, by decide +kernel, by kernel_rfl, by decide +kernel, by decide +kernel⟩
theorem m_Stock_init {CX : CXT} {Γ : RCx} {X : Cx} (G : GoodS CX (scx N_Stock_init (defScope s_Stock_init) f_Stock_init g_Stock_init l_Stock_init mn_Stock_init kn_Stock_init en_Stock_init hn_Stock_init 0) Γ X) : PSs X (defBody s_Stock_init) (rdSs Γ b_Stock_init) := by
  have g := G.toGood
  exact (s_cons (s_setf G (by kernel_rfl) (d_v g (by kernel_rfl)) (d_lst d_nil)) (s_cons (s_setf G (by kernel_rfl) (d_v g (by kernel_rfl)) (d_lst d_nil)) (s_cons (s_setf G (by kernel_rfl) (d_v g (by kernel_rfl)) (d_lst d_nil)) (s_cons (s_setf G (by kernel_rfl) (d_v g (by kernel_rfl)) d_ci) s_nil))))
/-! ### Stock_put -/
def s_Stock_put : Stmt := inClass (stAt 25) 1
theorem sc_Stock_put : FnScope N_Stock_put P_Stock_put (defScope s_Stock_put) := ⟨by kernel_rfl, by kernel_rfl, by kernel_rfl, by decide +kernel, by kernel_rfl, by decide +kernel, by decide +kernel⟩
theorem m_Stock_put {CX : CXT} {Γ : RCx} {X : Cx} (G : GoodS CX (scx N_Stock_put (defScope s_Stock_put) f_Stock_put g_Stock_put l_Stock_put mn_Stock_put kn_Stock_put en_Stock_put hn_Stock_put 0) Γ X) : PSs X (defBody s_Stock_put) (rdSs Γ b_Stock_put) := by
  have g := G.toGood
  exact (s_cons (s_drop (by kernel_rfl) (d_call g (by kernel_rfl) (by kernel_rfl) (d_cons (by kernel_rfl) (d_v g (by kernel_rfl)) d_nil))) (s_cons (s_asg G (by kernel_rfl) (by kernel_rfl) (d_fld g (by kernel_rfl) (d_v g (by kernel_rfl)))) (s_cons (s_drop (by kernel_rfl) (d_mth g (by kernel_rfl) (by kernel_rfl) (d_fld g (by kernel_rfl) (d_v g (by kernel_rfl))) (d_cons (by kernel_rfl) (d_v g (by kernel_rfl)) d_nil))) (s_cons (s_drop (by kernel_rfl) (d_mth g (by kernel_rfl) (by kernel_rfl) (d_fld g (by kernel_rfl) (d_v g (by kernel_rfl))) (d_cons (by kernel_rfl) (d_v g (by kernel_rfl)) d_nil))) (s_cons (s_setf G (by kernel_rfl) (d_v g (by kernel_rfl)) (d_bin g (d_v g (by kernel_rfl)) (d_blt g (by kernel_rfl) (by kernel_rfl) (d_cons (by kernel_rfl) (d_v g (by kernel_rfl)) d_nil)))) (s_cons (s_asg G (by kernel_rfl) (by kernel_rfl) (d_mth g (by kernel_rfl) (by kernel_rfl) (d_v g (by kernel_rfl)) (d_cons (by kernel_rfl) d_cs d_nil))) (s_cons (s_whl G (t_cmp g (by kernel_rfl) (d_v g (by kernel_rfl)) d_ci) (s_cons (s_drop (by kernel_rfl) (d_mth g (by kernel_rfl) (by kernel_rfl) (d_fld g (by kernel_rfl) (d_v g (by kernel_rfl))) (d_cons (by kernel_rfl) (d_bin g (d_v g (by kernel_rfl)) (d_v g (by kernel_rfl))) d_nil))) (s_cons (s_asg G (by kernel_rfl) (by kernel_rfl) (d_mth g (by kernel_rfl) (by kernel_rfl) (d_v g (by kernel_rfl)) (d_cons (by kernel_rfl) d_cs (d_cons (by kernel_rfl) (d_bin g (d_v g (by kernel_rfl)) d_ci) d_nil)))) s_nil))) (s_cons (s_ret (d_v g (by kernel_rfl))) s_nil))))))))
/-! ### Stock_read -/
def s_Stock_read : Stmt := inClass (stAt 25) 2
theorem sc_Stock_read : FnScope N_Stock_read P_Stock_read (defScope s_Stock_read) := ⟨by kernel_rfl, by kernel_rfl, by kernel_rfl, by decide +kernel, by kernel_rfl, by decide +kernel, by decide +kernel⟩
theorem m_Stock_read {CX : CXT} {Γ : RCx} {X : Cx} (G : GoodS CX (scx N_Stock_read (defScope s_Stock_read) f_Stock_read g_Stock_read l_Stock_read mn_Stock_read kn_Stock_read en_Stock_read hn_Stock_read 0) Γ X) : PSs X (defBody s_Stock_read) (rdSs Γ b_Stock_read) := by
  have g := G.toGood
  exact (s_cons (s_ite (PW.pt (t_or (t_not (t_call g (d_call g (by kernel_rfl) (by kernel_rfl) (d_cons (by kernel_rfl) (d_v g (by kernel_rfl)) (d_cons (by kernel_rfl) d_ci (d_cons (by kernel_rfl) (d_fld g (by kernel_rfl) (d_v g (by kernel_rfl))) d_nil)))))) (t_or1 (t_not (t_call g (d_call g (by kernel_rfl) (by kernel_rfl) (d_cons (by kernel_rfl) (d_v g (by kernel_rfl)) (d_cons (by kernel_rfl) d_ci (d_cons (by kernel_rfl) (d_bin g (d_fld g (by kernel_rfl) (d_v g (by kernel_rfl))) (d_v g (by kernel_rfl))) d_nil))))))))) (s_cons (s_raise G (by kernel_rfl) (by kernel_rfl) (d_cons (by kernel_rfl) d_cs d_nil)) s_nil) s_nil) (s_cons (s_asg G (by kernel_rfl) (by kernel_rfl) (d_lst d_nil)) (s_cons (s_asg G (by kernel_rfl) (by kernel_rfl) (d_bin g (d_call g (by kernel_rfl) (by kernel_rfl) (d_cons (by kernel_rfl) (d_fld g (by kernel_rfl) (d_v g (by kernel_rfl))) (d_cons (by kernel_rfl) (d_v g (by kernel_rfl)) d_nil))) d_ci)) (s_cons (s_asg G (by kernel_rfl) (by kernel_rfl) (d_bin g (d_v g (by kernel_rfl)) (d_v g (by kernel_rfl)))) (s_cons (s_whl G (t_cmp g (by kernel_rfl) (d_v g (by kernel_rfl)) (d_v g (by kernel_rfl))) (s_cons (s_asg G (by kernel_rfl) (by kernel_rfl) (d_bin g (d_v g (by kernel_rfl)) (d_ix g (by kernel_rfl) (d_fld g (by kernel_rfl) (d_v g (by kernel_rfl))) (d_v g (by kernel_rfl))))) (s_cons (s_asg G (by kernel_rfl) (by kernel_rfl) (d_sl g (d_ix g (by kernel_rfl) (d_fld g (by kernel_rfl) (d_v g (by kernel_rfl))) (d_v g (by kernel_rfl))) (d_some (d_v g (by kernel_rfl))) (d_some (d_bin g (d_bin g (d_v g (by kernel_rfl)) (d_v g (by kernel_rfl))) (d_v g (by kernel_rfl)))))) (s_cons (s_drop (by kernel_rfl) (d_mth g (by kernel_rfl) (by kernel_rfl) (d_v g (by kernel_rfl)) (d_cons (by kernel_rfl) (d_v g (by kernel_rfl)) d_nil))) (s_cons (s_asg G (by kernel_rfl) (by kernel_rfl) (d_bin g (d_v g (by kernel_rfl)) (d_blt g (by kernel_rfl) (by kernel_rfl) (d_cons (by kernel_rfl) (d_v g (by kernel_rfl)) d_nil)))) (s_cons (s_asg G (by kernel_rfl) (by kernel_rfl) (d_bin g (d_v g (by kernel_rfl)) d_ci)) s_nil)))))) (s_cons (s_ret (d_mth g (by kernel_rfl) (by kernel_rfl) d_cs (d_cons (by kernel_rfl) (d_v g (by kernel_rfl)) d_nil))) s_nil))))))
/-! ### Stock_many -/
def s_Stock_many : Stmt := inClass (stAt 25) 3
theorem sc_Stock_many : FnScope N_Stock_many P_Stock_many (defScope s_Stock_many) := ⟨by kernel_rfl, by kernel_rfl, by kernel_rfl, by decide +kernel, by kernel_rfl, by decide +kernel, by decide +kernel⟩
theorem m_Stock_many {CX : CXT} {Γ : RCx} {X : Cx} (G : GoodS CX (scx N_Stock_many (defScope s_Stock_many) f_Stock_many g_Stock_many l_Stock_many mn_Stock_many kn_Stock_many en_Stock_many hn_Stock_many 0) Γ X) : PSs X (defBody s_Stock_many) (rdSs Γ b_Stock_many) := by
  have g := G.toGood
  exact (s_cons (s_ret (d_fld g (by kernel_rfl) (d_v g (by kernel_rfl)))) s_nil)
/-! ### wholeL -/
def N_wholeL : List Str := ["_law_found"]
def P_wholeL : List Str := ["_law_found"]
def s_wholeL : Stmt := stAt 27
theorem sc_wholeL : FnScope N_wholeL P_wholeL (defScope s_wholeL) := ⟨by kernel_rfl, by kernel_rfl, by kernel_rfl, by decide +kernel, by kernel_rfl, by decide +kernel, by decide +kernel⟩
theorem m_wholeL {CX : CXT} {Γ : RCx} {X : Cx} (G : GoodS CX (scx N_wholeL (defScope s_wholeL) f_wholeL g_wholeL l_wholeL mn_wholeL kn_wholeL en_wholeL hn_wholeL 0) Γ X) : PSs X (defBody s_wholeL) (rdSs Γ b_wholeL) := by
  have g := G.toGood
  exact (s_cons (s_ret (d_and (d_isi g (by kernel_rfl) (by kernel_rfl) (by kernel_rfl) (d_v g (by kernel_rfl))) (d_and1 (d_not g (d_isi g (by kernel_rfl) (by kernel_rfl) (by kernel_rfl) (d_v g (by kernel_rfl))))))) s_nil)
/-! ### mixedL -/
def N_mixedL : List Str := ["_law_cell", "_law_k", "_law_number"]
def P_mixedL : List Str := ["_law_cell", "_law_k"]
def b_mixedL : List RS :=
  [.asg 2 (.bin .Mod (.bin .Add (.bin .Add (.bin .Mult (.v 0) (.c (.int 48271))) (.bin .Mult (.c (.int 7919)) (.v 1))) (.c (.int 12345))) (.c (.int 2147483647))),
  .ret (.bin .Mod (.bin .Mult (.bin .Mod (.bin .Mult (.v 2) (.v 2)) (.c (.int 2147483647))) (.v 2)) (.c (.int 2147483647)))]
def f_mixedL : List Str := []
def g_mixedL : List Str := []
def l_mixedL : List Str := []
def mn_mixedL : List Str := []
def kn_mixedL : List Str := []
def en_mixedL : List Str := []
def hn_mixedL : List Str := []
def s_mixedL : Stmt := stAt 28
theorem sc_mixedL : FnScope N_mixedL P_mixedL (defScope s_mixedL) := ⟨by kernel_rfl, by kernel_rfl, by kernel_rfl, by decide +kernel, by kernel_rfl, by decide +kernel, by decide +kernel⟩
theorem m_mixedL {CX : CXT} {Γ : RCx} {X : Cx} (G : GoodS CX (scx N_mixedL (defScope s_mixedL) f_mixedL g_mixedL l_mixedL mn_mixedL kn_mixedL en_mixedL hn_mixedL 0) Γ X) : PSs X (defBody s_mixedL) (rdSs Γ b_mixedL) := by
  have g := G.toGood
  exact (s_cons (s_asg G (by kernel_rfl) (by kernel_rfl) (d_bin g (d_bin g (d_bin g (d_bin g (d_v g (by kernel_rfl)) d_ci) (d_bin g d_ci (d_v g (by kernel_rfl)))) d_ci) d_ci)) (s_cons (s_ret (d_bin g (d_bin g (d_bin g (d_bin g (d_v g (by kernel_rfl)) (d_v g (by kernel_rfl))) d_ci) (d_v g (by kernel_rfl))) d_ci)) s_nil))
/-! ### text_byL -/
def N_text_byL : List Str := ["_law_cell", "_law_many", "_law_some", "_law_text", "_law_k", "_law_number"]
def P_text_byL : List Str := ["_law_cell", "_law_many"]
def b_text_byL : List RS :=
  [.asg 2 (.c (.str " !\"#$&'()*+,-./0123456789:;<=>?@ABCDEFGHIJKLMNOPQRSTUVWXYZ[\\]^_`")),
  .asg 2 (.bin .Add (.v 2) (.c (.str "abcdefghijklmnopqrstuvwxyz{|}~"))),
  .asg 3 (.c (.str "")),
  .for1 4 .rng [(.v 1)] [.asg 5 (.call 0 [(.v 0), (.v 4)]),
    .asg 3 (.bin .Add (.v 3) (.ix (.lst [(.c (.str "\n")), (.ix (.c (.str "ab")) (.bin .Mod (.bin .FloorDiv (.v 5) (.c (.int 8))) (.c (.int 2)))), (.ix (.v 2) (.bin .Mod (.bin .FloorDiv (.v 5) (.c (.int 8))) (.c (.int 94)))), (.ix (.v 2) (.bin .Mod (.bin .FloorDiv (.v 5) (.c (.int 8))) (.c (.int 94))))]) (.bin .Mod (.v 5) (.c (.int 4)))))],
  .ret (.v 3)]
def f_text_byL : List Str := ["_law_mixed"]
def g_text_byL : List Str := []
def l_text_byL : List Str := ["range"]
def mn_text_byL : List Str := []
def kn_text_byL : List Str := []
def en_text_byL : List Str := []
def hn_text_byL : List Str := []
def s_text_byL : Stmt := stAt 29
theorem sc_text_byL : FnScope N_text_byL P_text_byL (defScope s_text_byL) := ⟨by kernel_rfl, by kernel_rfl, by kernel_rfl, by decide +kernel, by kernel_rfl, by decide +kernel, by decide +kernel⟩
theorem m_text_byL_0 {CX : CXT} {Γ : RCx} {X : Cx} (G : GoodS CX (scx N_text_byL (defScope s_text_byL) f_text_byL g_text_byL l_text_byL mn_text_byL kn_text_byL en_text_byL hn_text_byL 0) Γ X) : PS X ((defBody s_text_byL).getD 0 (.Pass ⟨0, 0, 0, 0⟩)) (rdS Γ (b_text_byL.getD 0 (.ret (.c .non)))) := by
  have g := G.toGood
  show PS X (.Assign [.Name "_law_some" _] _ _) (rdS Γ (.asg 2 _))
  with_reducible exact (s_asg G (by kernel_rfl) (by kernel_rfl) d_cs)
theorem m_text_byL_1 {CX : CXT} {Γ : RCx} {X : Cx} (G : GoodS CX (scx N_text_byL (defScope s_text_byL) f_text_byL g_text_byL l_text_byL mn_text_byL kn_text_byL en_text_byL hn_text_byL 0) Γ X) : PS X ((defBody s_text_byL).getD 1 (.Pass ⟨0, 0, 0, 0⟩)) (rdS Γ (b_text_byL.getD 1 (.ret (.c .non)))) := by
  have g := G.toGood
  show PS X (.Assign [.Name "_law_some" _] _ _) (rdS Γ (.asg 2 _))
  with_reducible exact (s_asg G (by kernel_rfl) (by kernel_rfl) (d_bin g (d_v g (by kernel_rfl)) d_cs))
theorem m_text_byL_2 {CX : CXT} {Γ : RCx} {X : Cx} (G : GoodS CX (scx N_text_byL (defScope s_text_byL) f_text_byL g_text_byL l_text_byL mn_text_byL kn_text_byL en_text_byL hn_text_byL 0) Γ X) : PS X ((defBody s_text_byL).getD 2 (.Pass ⟨0, 0, 0, 0⟩)) (rdS Γ (b_text_byL.getD 2 (.ret (.c .non)))) := by
  have g := G.toGood
  show PS X (.Assign [.Name "_law_text" _] _ _) (rdS Γ (.asg 3 _))
  with_reducible exact (s_asg G (by kernel_rfl) (by kernel_rfl) d_cs)
theorem m_text_byL_3 {CX : CXT} {Γ : RCx} {X : Cx} (G : GoodS CX (scx N_text_byL (defScope s_text_byL) f_text_byL g_text_byL l_text_byL mn_text_byL kn_text_byL en_text_byL hn_text_byL 0) Γ X) : PS X ((defBody s_text_byL).getD 3 (.Pass ⟨0, 0, 0, 0⟩)) (rdS Γ (b_text_byL.getD 3 (.ret (.c .non)))) := by
  have g := G.toGood
  exact (s_for1 G (by kernel_rfl) (by kernel_rfl) (i_rng g (by kernel_rfl) (by kernel_rfl) (d_v g (by kernel_rfl))) (s_cons (s_asg G (by kernel_rfl) (by kernel_rfl) (d_call g (by kernel_rfl) (by kernel_rfl) (d_cons (by kernel_rfl) (d_v g (by kernel_rfl)) (d_cons (by kernel_rfl) (d_v g (by kernel_rfl)) d_nil)))) (s_cons (s_asg G (by kernel_rfl) (by kernel_rfl) (d_bin g (d_v g (by kernel_rfl)) (d_ix g (by kernel_rfl) (d_lst (d_cons (by kernel_rfl) d_cs (d_cons (by kernel_rfl) (d_ix g (by kernel_rfl) d_cs (d_bin g (d_bin g (d_v g (by kernel_rfl)) d_ci) d_ci)) (d_cons (by kernel_rfl) (d_ix g (by kernel_rfl) (d_v g (by kernel_rfl)) (d_bin g (d_bin g (d_v g (by kernel_rfl)) d_ci) d_ci)) (d_cons (by kernel_rfl) (d_ix g (by kernel_rfl) (d_v g (by kernel_rfl)) (d_bin g (d_bin g (d_v g (by kernel_rfl)) d_ci) d_ci)) d_nil))))) (d_bin g (d_v g (by kernel_rfl)) d_ci)))) s_nil)))
theorem m_text_byL_4 {CX : CXT} {Γ : RCx} {X : Cx} (G : GoodS CX (scx N_text_byL (defScope s_text_byL) f_text_byL g_text_byL l_text_byL mn_text_byL kn_text_byL en_text_byL hn_text_byL 0) Γ X) : PS X ((defBody s_text_byL).getD 4 (.Pass ⟨0, 0, 0, 0⟩)) (rdS Γ (b_text_byL.getD 4 (.ret (.c .non)))) := by
  have g := G.toGood
  show PS X (.Return (some _) _) (rdS Γ (.ret _))
  with_reducible exact (s_ret (d_v g (by kernel_rfl)))
theorem m_text_byL {CX : CXT} {Γ : RCx} {X : Cx} (G : GoodS CX (scx N_text_byL (defScope s_text_byL) f_text_byL g_text_byL l_text_byL mn_text_byL kn_text_byL en_text_byL hn_text_byL 0) Γ X) : PSs X (defBody s_text_byL) (rdSs Γ b_text_byL) := by
  have e : defBody s_text_byL = [((defBody s_text_byL).getD 0 (.Pass ⟨0, 0, 0, 0⟩)), ((defBody s_text_byL).getD 1 (.Pass ⟨0, 0, 0, 0⟩)), ((defBody s_text_byL).getD 2 (.Pass ⟨0, 0, 0, 0⟩)), ((defBody s_text_byL).getD 3 (.Pass ⟨0, 0, 0, 0⟩)), ((defBody s_text_byL).getD 4 (.Pass ⟨0, 0, 0, 0⟩))] := by kernel_rfl
  have e2 : b_text_byL = [(b_text_byL.getD 0 (.ret (.c .non))), (b_text_byL.getD 1 (.ret (.c .non))), (b_text_byL.getD 2 (.ret (.c .non))), (b_text_byL.getD 3 (.ret (.c .non))), (b_text_byL.getD 4 (.ret (.c .non)))] := by kernel_rfl
  rw [e, e2]
  with_reducible exact s_cons (m_text_byL_0 G) (s_cons (m_text_byL_1 G) (s_cons (m_text_byL_2 G) (s_cons (m_text_byL_3 G) (s_cons (m_text_byL_4 G) (s_nil)))))
/-! ### wordL -/
def N_wordL : List Str := ["_law_e", "_law_some"]
def P_wordL : List Str := ["_law_e"]
def b_wordL : List RS :=
  [.asg 1 (.lst [(.isx (.v 0) (.g 0)), (.isx (.v 0) (.g 1)), (.isx (.v 0) (.g 2)), (.isx (.v 0) (.g 3))]),
  .asg 1 (.bin .Add (.v 1) (.lst [(.isx (.v 0) (.g 4)), (.isx (.v 0) (.g 5)), (.isx (.v 0) (.g 6)), (.isx (.v 0) (.g 7))])),
  .asg 1 (.bin .Add (.v 1) (.lst [(.isx (.v 0) (.g 8)), (.isx (.v 0) (.g 9)), (.isx (.v 0) (.g 10)), (.isx (.v 0) (.g 11))])),
  .ite (.or [(.not (.isx (.v 0) (.c (.ty "ValueError")))), (.cmp .NotEq (.mth .cntL (.v 1) [(.c (.bl true))]) (.c (.int 1))), (.isx (.v 0) (.g 12))]) [.ret (.c (.str "other"))] [],
  .ret (.ix (.lst [(.c (.str "text")), (.c (.str "change")), (.c (.str "fit")), (.c (.str "place")), (.c (.str "s")), (.c (.str "m")), (.c (.str "n")), (.c (.str "c")), (.c (.str "d")), (.c (.str "l")), (.c (.str "x")), (.c (.str "h"))]) (.mth .idxL (.v 1) [(.c (.bl true))]))]
def f_wordL : List Str := []
def g_wordL : List Str := ["BadText", "BadChange", "BadFit", "NoPlace", "BadSide", "NoMark", "NoNode", "NoCursor", "BadDeed", "BadLetter", "NoLetter", "NoHand", "NoNote"]
def l_wordL : List Str := ["isinstance", "ValueError"]
def mn_wordL : List Str := []
def kn_wordL : List Str := []
def en_wordL : List Str := []
def hn_wordL : List Str := []
def s_wordL : Stmt := stAt 30
theorem sc_wordL : FnScope N_wordL P_wordL (defScope s_wordL) := ⟨by kernel_rfl, by kernel_rfl, by kernel_rfl, by decide +kernel, by kernel_rfl, by decide +kernel, by decide +kernel⟩
theorem m_wordL_0 {CX : CXT} {Γ : RCx} {X : Cx} (G : GoodS CX (scx N_wordL (defScope s_wordL) f_wordL g_wordL l_wordL mn_wordL kn_wordL en_wordL hn_wordL 1) Γ X) : PS X ((defBody s_wordL).getD 0 (.Pass ⟨0, 0, 0, 0⟩)) (rdS Γ (b_wordL.getD 0 (.ret (.c .non)))) := by
  have g := G.toGood
  show PS X (.Assign [.Name "_law_some" _] _ _) (rdS Γ (.asg 1 _))
  with_reducible exact (s_asg G (by kernel_rfl) (by kernel_rfl) (d_lst (d_cons (by kernel_rfl) (d_isx g (by kernel_rfl) (by kernel_rfl) (d_v g (by kernel_rfl)) (d_g g (by kernel_rfl))) (d_cons (by kernel_rfl) (d_isx g (by kernel_rfl) (by kernel_rfl) (d_v g (by kernel_rfl)) (d_g g (by kernel_rfl))) (d_cons (by kernel_rfl) (d_isx g (by kernel_rfl) (by kernel_rfl) (d_v g (by kernel_rfl)) (d_g g (by kernel_rfl))) (d_cons (by kernel_rfl) (d_isx g (by kernel_rfl) (by kernel_rfl) (d_v g (by kernel_rfl)) (d_g g (by kernel_rfl))) d_nil))))))
theorem m_wordL_1 {CX : CXT} {Γ : RCx} {X : Cx} (G : GoodS CX (scx N_wordL (defScope s_wordL) f_wordL g_wordL l_wordL mn_wordL kn_wordL en_wordL hn_wordL 1) Γ X) : PS X ((defBody s_wordL).getD 1 (.Pass ⟨0, 0, 0, 0⟩)) (rdS Γ (b_wordL.getD 1 (.ret (.c .non)))) := by
  have g := G.toGood
  show PS X (.Assign [.Name "_law_some" _] _ _) (rdS Γ (.asg 1 _))
  with_reducible exact (s_asg G (by kernel_rfl) (by kernel_rfl) (d_bin g (d_v g (by kernel_rfl)) (d_lst (d_cons (by kernel_rfl) (d_isx g (by kernel_rfl) (by kernel_rfl) (d_v g (by kernel_rfl)) (d_g g (by kernel_rfl))) (d_cons (by kernel_rfl) (d_isx g (by kernel_rfl) (by kernel_rfl) (d_v g (by kernel_rfl)) (d_g g (by kernel_rfl))) (d_cons (by kernel_rfl) (d_isx g (by kernel_rfl) (by kernel_rfl) (d_v g (by kernel_rfl)) (d_g g (by kernel_rfl))) (d_cons (by kernel_rfl) (d_isx g (by kernel_rfl) (by kernel_rfl) (d_v g (by kernel_rfl)) (d_g g (by kernel_rfl))) d_nil)))))))
theorem m_wordL_2 {CX : CXT} {Γ : RCx} {X : Cx} (G : GoodS CX (scx N_wordL (defScope s_wordL) f_wordL g_wordL l_wordL mn_wordL kn_wordL en_wordL hn_wordL 1) Γ X) : PS X ((defBody s_wordL).getD 2 (.Pass ⟨0, 0, 0, 0⟩)) (rdS Γ (b_wordL.getD 2 (.ret (.c .non)))) := by
  have g := G.toGood
  show PS X (.Assign [.Name "_law_some" _] _ _) (rdS Γ (.asg 1 _))
  with_reducible exact (s_asg G (by kernel_rfl) (by kernel_rfl) (d_bin g (d_v g (by kernel_rfl)) (d_lst (d_cons (by kernel_rfl) (d_isx g (by kernel_rfl) (by kernel_rfl) (d_v g (by kernel_rfl)) (d_g g (by kernel_rfl))) (d_cons (by kernel_rfl) (d_isx g (by kernel_rfl) (by kernel_rfl) (d_v g (by kernel_rfl)) (d_g g (by kernel_rfl))) (d_cons (by kernel_rfl) (d_isx g (by kernel_rfl) (by kernel_rfl) (d_v g (by kernel_rfl)) (d_g g (by kernel_rfl))) (d_cons (by kernel_rfl) (d_isx g (by kernel_rfl) (by kernel_rfl) (d_v g (by kernel_rfl)) (d_g g (by kernel_rfl))) d_nil)))))))
theorem m_wordL_3 {CX : CXT} {Γ : RCx} {X : Cx} (G : GoodS CX (scx N_wordL (defScope s_wordL) f_wordL g_wordL l_wordL mn_wordL kn_wordL en_wordL hn_wordL 1) Γ X) : PS X ((defBody s_wordL).getD 3 (.Pass ⟨0, 0, 0, 0⟩)) (rdS Γ (b_wordL.getD 3 (.ret (.c .non)))) := by
  have g := G.toGood
  exact (s_ite (PW.pt (t_or (t_not (t_isx g (d_isx g (by kernel_rfl) (by kernel_rfl) (d_v g (by kernel_rfl)) (d_ty g (by kernel_rfl) (by decide +kernel) (by decide) (by decide))))) (t_or (t_cmp g (by kernel_rfl) (d_mth g (by kernel_rfl) (by kernel_rfl) (d_v g (by kernel_rfl)) (d_cons (by kernel_rfl) d_cb d_nil)) d_ci) (t_or1 (t_isx g (d_isx g (by kernel_rfl) (by kernel_rfl) (d_v g (by kernel_rfl)) (d_g g (by kernel_rfl)))))))) (s_cons (s_ret d_cs) s_nil) s_nil)
theorem m_wordL_4 {CX : CXT} {Γ : RCx} {X : Cx} (G : GoodS CX (scx N_wordL (defScope s_wordL) f_wordL g_wordL l_wordL mn_wordL kn_wordL en_wordL hn_wordL 1) Γ X) : PS X ((defBody s_wordL).getD 4 (.Pass ⟨0, 0, 0, 0⟩)) (rdS Γ (b_wordL.getD 4 (.ret (.c .non)))) := by
  have g := G.toGood
  show PS X (.Return (some _) _) (rdS Γ (.ret _))
  with_reducible exact (s_ret (d_ix g (by kernel_rfl) (d_lst (d_cons (by kernel_rfl) d_cs (d_cons (by kernel_rfl) d_cs (d_cons (by kernel_rfl) d_cs (d_cons (by kernel_rfl) d_cs (d_cons (by kernel_rfl) d_cs (d_cons (by kernel_rfl) d_cs (d_cons (by kernel_rfl) d_cs (d_cons (by kernel_rfl) d_cs (d_cons (by kernel_rfl) d_cs (d_cons (by kernel_rfl) d_cs (d_cons (by kernel_rfl) d_cs (d_cons (by kernel_rfl) d_cs d_nil))))))))))))) (d_mth g (by kernel_rfl) (by kernel_rfl) (d_v g (by kernel_rfl)) (d_cons (by kernel_rfl) d_cb d_nil))))
theorem m_wordL {CX : CXT} {Γ : RCx} {X : Cx} (G : GoodS CX (scx N_wordL (defScope s_wordL) f_wordL g_wordL l_wordL mn_wordL kn_wordL en_wordL hn_wordL 1) Γ X) : PSs X (defBody s_wordL) (rdSs Γ b_wordL) := by
  have e : defBody s_wordL = [((defBody s_wordL).getD 0 (.Pass ⟨0, 0, 0, 0⟩)), ((defBody s_wordL).getD 1 (.Pass ⟨0, 0, 0, 0⟩)), ((defBody s_wordL).getD 2 (.Pass ⟨0, 0, 0, 0⟩)), ((defBody s_wordL).getD 3 (.Pass ⟨0, 0, 0, 0⟩)), ((defBody s_wordL).getD 4 (.Pass ⟨0, 0, 0, 0⟩))] := by kernel_rfl
  have e2 : b_wordL = [(b_wordL.getD 0 (.ret (.c .non))), (b_wordL.getD 1 (.ret (.c .non))), (b_wordL.getD 2 (.ret (.c .non))), (b_wordL.getD 3 (.ret (.c .non))), (b_wordL.getD 4 (.ret (.c .non)))] := by kernel_rfl
  rw [e, e2]
  with_reducible exact s_cons (m_wordL_0 G) (s_cons (m_wordL_1 G) (s_cons (m_wordL_2 G) (s_cons (m_wordL_3 G) (s_cons (m_wordL_4 G) (s_nil)))))
/-! ### putL -/
def N_putL : List Str := ["_law_stock", "_law_thing", "_law_e"]
def P_putL : List Str := ["_law_stock", "_law_thing"]
def b_putL : List RS :=
  [.tryr 3 2 0 [.ret (.meth 0 "put" (.v 0) [(.v 1)])] [.ret (.wrd 0 (.v 2))]]
def f_putL : List Str := []
def g_putL : List Str := ["InkError"]
def l_putL : List Str := []
def mn_putL : List Str := ["put"]
def kn_putL : List Str := []
def en_putL : List Str := []
def hn_putL : List Str := ["_law_word"]
def s_putL : Stmt := stAt 31
theorem sc_putL : FnScope N_putL P_putL (defScope s_putL) := ⟨by kernel_rfl, by kernel_rfl, by kernel_rfl, by decide +kernel, by kernel_rfl, by decide +kernel, by decide +kernel⟩
theorem m_putL {CX : CXT} {Γ : RCx} {X : Cx} (G : GoodS CX (scx N_putL (defScope s_putL) f_putL g_putL l_putL mn_putL kn_putL en_putL hn_putL 0) Γ X) : PSs X (defBody s_putL) (rdSs Γ b_putL) := by
  have g := G.toGood
  exact (s_cons (s_try G (by kernel_rfl) (by kernel_rfl) (fun G => (fun g => (s_cons (s_ret (d_meth g (by kernel_rfl) (by kernel_rfl) (d_v g (by kernel_rfl)) (d_cons (by kernel_rfl) (d_v g (by kernel_rfl)) d_nil))) s_nil)) G.toGood) (fun G => (fun g => (s_cons (s_ret (d_wrd g (by kernel_rfl) (by kernel_rfl) (d_v g (by kernel_rfl)))) s_nil)) G.toGood)) s_nil)
/-! ### readL -/
def N_readL : List Str := ["_law_stock", "_law_begin", "_law_size", "_law_e"]
def P_readL : List Str := ["_law_stock", "_law_begin", "_law_size"]
def b_readL : List RS :=
  [.tryr 4 3 0 [.ret (.meth 0 "read" (.v 0) [(.v 1), (.v 2)])] [.ret (.tup [(.wrd 0 (.v 3))])]]
def f_readL : List Str := []
def g_readL : List Str := ["InkError"]
def l_readL : List Str := []
def mn_readL : List Str := ["read"]
def kn_readL : List Str := []
def en_readL : List Str := []
def hn_readL : List Str := ["_law_word"]
def s_readL : Stmt := stAt 32
theorem sc_readL : FnScope N_readL P_readL (defScope s_readL) := ⟨by kernel_rfl, by kernel_rfl, by kernel_rfl, by decide +kernel, by kernel_rfl, by decide +kernel, by decide +kernel⟩
theorem m_readL {CX : CXT} {Γ : RCx} {X : Cx} (G : GoodS CX (scx N_readL (defScope s_readL) f_readL g_readL l_readL mn_readL kn_readL en_readL hn_readL 0) Γ X) : PSs X (defBody s_readL) (rdSs Γ b_readL) := by
  have g := G.toGood
  exact (s_cons (s_try G (by kernel_rfl) (by kernel_rfl) (fun G => (fun g => (s_cons (s_ret (d_meth g (by kernel_rfl) (by kernel_rfl) (d_v g (by kernel_rfl)) (d_cons (by kernel_rfl) (d_v g (by kernel_rfl)) (d_cons (by kernel_rfl) (d_v g (by kernel_rfl)) d_nil)))) s_nil)) G.toGood) (fun G => (fun g => (s_cons (s_ret (d_tup (d_cons (by kernel_rfl) (d_wrd g (by kernel_rfl) (by kernel_rfl) (d_v g (by kernel_rfl))) d_nil))) s_nil)) G.toGood)) s_nil)
/-! ### placeL -/
def N_placeL : List Str := ["_law_cell", "_law_many", "_law_odd"]
def P_placeL : List Str := ["_law_cell", "_law_many"]
def b_placeL : List RS :=
  [.asg 2 (.lst [(.c (.bl true)), (.c .non), (.c (.str "1")), (.lst [(.c (.int 0))]), (.c (.bl false)), (.tup [])]),
  .ite (.cmp .Eq (.bin .Mod (.v 0) (.c (.int 9))) (.c (.int 4))) [.ret (.ix (.v 2) (.bin .Mod (.bin .FloorDiv (.v 0) (.c (.int 9))) (.c (.int 6))))] [],
  .ret (.bin .Sub (.bin .Mod (.bin .FloorDiv (.v 0) (.c (.int 9))) (.bin .Add (.v 1) (.c (.int 3)))) (.c (.int 1)))]
def f_placeL : List Str := []
def g_placeL : List Str := []
def l_placeL : List Str := []
def mn_placeL : List Str := []
def kn_placeL : List Str := []
def en_placeL : List Str := []
def hn_placeL : List Str := []
def s_placeL : Stmt := stAt 33
theorem sc_placeL : FnScope N_placeL P_placeL (defScope s_placeL) := ⟨by kernel_rfl, by kernel_rfl, by kernel_rfl, by decide +kernel, by kernel_rfl, by decide +kernel, by decide +kernel⟩
theorem m_placeL {CX : CXT} {Γ : RCx} {X : Cx} (G : GoodS CX (scx N_placeL (defScope s_placeL) f_placeL g_placeL l_placeL mn_placeL kn_placeL en_placeL hn_placeL 0) Γ X) : PSs X (defBody s_placeL) (rdSs Γ b_placeL) := by
  have g := G.toGood
  exact (s_cons (s_asg G (by kernel_rfl) (by kernel_rfl) (d_lst (d_cons (by kernel_rfl) d_cb (d_cons (by kernel_rfl) d_cn (d_cons (by kernel_rfl) d_cs (d_cons (by kernel_rfl) (d_lst (d_cons (by kernel_rfl) d_ci d_nil)) (d_cons (by kernel_rfl) d_cb (d_cons (by kernel_rfl) (d_tup d_nil) d_nil)))))))) (s_cons (s_ite (t_cmp g (by kernel_rfl) (d_bin g (d_v g (by kernel_rfl)) d_ci) d_ci) (s_cons (s_ret (d_ix g (by kernel_rfl) (d_v g (by kernel_rfl)) (d_bin g (d_bin g (d_v g (by kernel_rfl)) d_ci) d_ci))) s_nil) s_nil) (s_cons (s_ret (d_bin g (d_bin g (d_bin g (d_v g (by kernel_rfl)) d_ci) (d_bin g (d_v g (by kernel_rfl)) d_ci)) d_ci)) s_nil)))
/-! ### dueL -/
def N_dueL : List Str := ["_law_signs", "_law_begin", "_law_size"]
def P_dueL : List Str := ["_law_signs", "_law_begin", "_law_size"]
def b_dueL : List RS :=
  [.ite (.or [(.not (.call 0 [(.v 1)])), (.not (.call 0 [(.v 2)])), (.cmp .Lt (.v 1) (.c (.int 0))), (.cmp .Lt (.v 2) (.c (.int 0))), (.cmp .Gt (.bin .Add (.v 1) (.v 2)) (.blt .len [(.v 0)]))]) [.ret (.tup [(.c (.str "place"))])] [],
  .ret (.sl (.v 0) (some (.v 1)) (some (.bin .Add (.v 1) (.v 2))))]
def f_dueL : List Str := ["_law_whole"]
def g_dueL : List Str := []
def l_dueL : List Str := ["len"]
def mn_dueL : List Str := []
def kn_dueL : List Str := []
def en_dueL : List Str := []
def hn_dueL : List Str := []
def s_dueL : Stmt := stAt 34
theorem sc_dueL : FnScope N_dueL P_dueL (defScope s_dueL) := ⟨by kernel_rfl, by kernel_rfl, by kernel_rfl, by decide +kernel, by kernel_rfl, by decide +kernel, by decide +kernel⟩
theorem m_dueL {CX : CXT} {Γ : RCx} {X : Cx} (G : GoodS CX (scx N_dueL (defScope s_dueL) f_dueL g_dueL l_dueL mn_dueL kn_dueL en_dueL hn_dueL 0) Γ X) : PSs X (defBody s_dueL) (rdSs Γ b_dueL) := by
  have g := G.toGood
  exact (s_cons (s_ite (PW.pt (t_or (t_not (t_call g (d_call g (by kernel_rfl) (by kernel_rfl) (d_cons (by kernel_rfl) (d_v g (by kernel_rfl)) d_nil)))) (t_or (t_not (t_call g (d_call g (by kernel_rfl) (by kernel_rfl) (d_cons (by kernel_rfl) (d_v g (by kernel_rfl)) d_nil)))) (t_or (t_cmp g (by kernel_rfl) (d_v g (by kernel_rfl)) d_ci) (t_or (t_cmp g (by kernel_rfl) (d_v g (by kernel_rfl)) d_ci) (t_or1 (t_cmp g (by kernel_rfl) (d_bin g (d_v g (by kernel_rfl)) (d_v g (by kernel_rfl))) (d_blt g (by kernel_rfl) (by kernel_rfl) (d_cons (by kernel_rfl) (d_v g (by kernel_rfl)) d_nil))))))))) (s_cons (s_ret (d_tup (d_cons (by kernel_rfl) d_cs d_nil))) s_nil) s_nil) (s_cons (s_ret (d_sl g (d_v g (by kernel_rfl)) (d_some (d_v g (by kernel_rfl))) (d_some (d_bin g (d_v g (by kernel_rfl)) (d_v g (by kernel_rfl)))))) s_nil))
/-! ### law -/
def N_law : List Str := ["_law_script", "_law_stock", "_law_signs", "_law_k", "_law_cell", "_law_number", "_law_odd", "_law_size", "_law_text", "_law_begin"]
def P_law : List Str := ["_law_script"]
def b_law : List RS :=
  [.asg 1 (.make 0 []),
  .asg 2 (.c (.str "")),
  .ite (.or [(.not (.call 0 [(.meth 0 "many" (.v 1) [])])), (.cmp .NotEq (.meth 0 "many" (.v 1) []) (.c (.int 0))), (.cmp .NotEq (.meth 1 "read" (.v 1) [(.c (.int 0)), (.c (.int 0))]) (.c (.str "")))]) [.ret (.c (.bl false))] [],
  .forT [3, 4] .enm [(.sl (.v 0) none (some (.c (.int 16))))] [.asg 5 (.call 1 [(.v 4), (.bin .Add (.c (.int 3)) (.v 3))]),
    .ite (.cmp .Eq (.bin .Mod (.v 5) (.c (.int 7))) (.c (.int 2))) [.asg 6 (.ix (.lst [(.c .non), (.c (.int 5)), (.lst [(.c (.str "a"))]), (.c (.bl true)), (.c (.str "\t")), (.c (.str "a\tb")), (.tup [(.c (.str "a"))])]) (.bin .Mod (.bin .FloorDiv (.v 5) (.c (.int 7))) (.c (.int 7)))),
      .ite (.cmp .NotEq (.call 2 [(.v 1), (.v 6)]) (.c (.str "text"))) [.ret (.c (.bl false))] []] [.asg 7 (.bin .Mod (.bin .FloorDiv (.v 5) (.c (.int 7))) (.c (.int 7))),
      .ite (.cmp .Eq (.bin .Mod (.bin .FloorDiv (.v 5) (.c (.int 49))) (.c (.int 5))) (.c (.int 1))) [.asg 7 (.bin .Add (.c (.int 20)) (.bin .Mod (.bin .FloorDiv (.v 5) (.c (.int 245))) (.c (.int 60))))] [],
      .asg 8 (.call 3 [(.v 5), (.v 7)]),
      .asg 9 (.call 2 [(.v 1), (.v 8)]),
      .ite (.or [(.not (.call 0 [(.v 9)])), (.cmp .NotEq (.v 9) (.blt .len [(.v 2)]))]) [.ret (.c (.bl false))] [],
      .asg 2 (.bin .Add (.v 2) (.v 8))],
    .ite (.or [(.not (.call 0 [(.meth 0 "many" (.v 1) [])])), (.cmp .NotEq (.meth 0 "many" (.v 1) []) (.blt .len [(.v 2)]))]) [.ret (.c (.bl false))] [],
    .asg 9 (.call 4 [(.bin .Mod (.call 1 [(.v 4), (.bin .Add (.c (.int 90)) (.v 3))]) (.c (.int 100003))), (.blt .len [(.v 2)])]),
    .asg 7 (.call 4 [(.bin .Mod (.call 1 [(.v 4), (.bin .Add (.c (.int 190)) (.v 3))]) (.c (.int 100003))), (.blt .len [(.v 2)])]),
    .ite (.and [(.call 0 [(.v 7)]), (.call 0 [(.v 9)]), (.cmp .Eq (.bin .Mod (.v 5) (.c (.int 3))) (.c (.int 0)))]) [.asg 7 (.blt .min [(.v 7), (.bin .Add (.bin .Sub (.blt .len [(.v 2)]) (.v 9)) (.bin .Mod (.bin .FloorDiv (.v 5) (.c (.int 3))) (.c (.int 2))))])] [],
    .ite (.cmp .NotEq (.call 5 [(.v 1), (.v 9), (.v 7)]) (.call 6 [(.v 2), (.v 9), (.v 7)])) [.ret (.c (.bl false))] []],
  .ret (.cmp .Eq (.meth 1 "read" (.v 1) [(.c (.int 0)), (.meth 0 "many" (.v 1) [])]) (.v 2))]
def f_law : List Str := ["_law_whole", "_law_mixed", "_law_put", "_law_text_by", "_law_place", "_law_read", "_law_due"]
def g_law : List Str := []
def l_law : List Str := ["enumerate", "len", "min"]
def mn_law : List Str := ["many", "read"]
def kn_law : List Str := ["Stock"]
def en_law : List Str := []
def hn_law : List Str := []
def s_law : Stmt := stAt 35
theorem sc_law : FnScope N_law P_law (defScope s_law) := ⟨by kernel_rfl, by kernel_rfl, by kernel_rfl, by decide +kernel, by kernel_rfl, by decide +kernel, by decide +kernel⟩
theorem m_law_0 {CX : CXT} {Γ : RCx} {X : Cx} (G : GoodS CX (scx N_law (defScope s_law) f_law g_law l_law mn_law kn_law en_law hn_law 0) Γ X) : PS X ((defBody s_law).getD 0 (.Pass ⟨0, 0, 0, 0⟩)) (rdS Γ (b_law.getD 0 (.ret (.c .non)))) := by
  have g := G.toGood
  show PS X (.Assign [.Name "_law_stock" _] _ _) (rdS Γ (.asg 1 _))
  with_reducible exact (s_asg G (by kernel_rfl) (by kernel_rfl) (d_make0 g (by kernel_rfl)))
theorem m_law_1 {CX : CXT} {Γ : RCx} {X : Cx} (G : GoodS CX (scx N_law (defScope s_law) f_law g_law l_law mn_law kn_law en_law hn_law 0) Γ X) : PS X ((defBody s_law).getD 1 (.Pass ⟨0, 0, 0, 0⟩)) (rdS Γ (b_law.getD 1 (.ret (.c .non)))) := by
  have g := G.toGood
  show PS X (.Assign [.Name "_law_signs" _] _ _) (rdS Γ (.asg 2 _))
  with_reducible exact (s_asg G (by kernel_rfl) (by kernel_rfl) d_cs)
theorem m_law_2 {CX : CXT} {Γ : RCx} {X : Cx} (G : GoodS CX (scx N_law (defScope s_law) f_law g_law l_law mn_law kn_law en_law hn_law 0) Γ X) : PS X ((defBody s_law).getD 2 (.Pass ⟨0, 0, 0, 0⟩)) (rdS Γ (b_law.getD 2 (.ret (.c .non)))) := by
  have g := G.toGood
  exact (s_ite (PW.pt (t_or (t_not (t_call g (d_call g (by kernel_rfl) (by kernel_rfl) (d_cons (by kernel_rfl) (d_meth0 g (by kernel_rfl) (d_v g (by kernel_rfl))) d_nil)))) (t_or (t_cmp g (by kernel_rfl) (d_meth0 g (by kernel_rfl) (d_v g (by kernel_rfl))) d_ci) (t_or1 (t_cmp g (by kernel_rfl) (d_meth g (by kernel_rfl) (by kernel_rfl) (d_v g (by kernel_rfl)) (d_cons (by kernel_rfl) d_ci (d_cons (by kernel_rfl) d_ci d_nil))) d_cs))))) (s_cons (s_ret d_cb) s_nil) s_nil)
theorem m_law_3 {CX : CXT} {Γ : RCx} {X : Cx} (G : GoodS CX (scx N_law (defScope s_law) f_law g_law l_law mn_law kn_law en_law hn_law 0) Γ X) : PS X ((defBody s_law).getD 3 (.Pass ⟨0, 0, 0, 0⟩)) (rdS Γ (b_law.getD 3 (.ret (.c .non)))) := by
  have g := G.toGood
  exact (s_forT [(_, _), (_, _)] G (by kernel_rfl) (by kernel_rfl) (i_enm g (by kernel_rfl) (by kernel_rfl) (d_sl g (d_v g (by kernel_rfl)) d_no (d_some d_ci))) (s_cons (s_asg G (by kernel_rfl) (by kernel_rfl) (d_call g (by kernel_rfl) (by kernel_rfl) (d_cons (by kernel_rfl) (d_v g (by kernel_rfl)) (d_cons (by kernel_rfl) (d_bin g d_ci (d_v g (by kernel_rfl))) d_nil)))) (s_cons (s_ite (t_cmp g (by kernel_rfl) (d_bin g (d_v g (by kernel_rfl)) d_ci) d_ci) (s_cons (s_asg G (by kernel_rfl) (by kernel_rfl) (d_ix g (by kernel_rfl) (d_lst (d_cons (by kernel_rfl) d_cn (d_cons (by kernel_rfl) d_ci (d_cons (by kernel_rfl) (d_lst (d_cons (by kernel_rfl) d_cs d_nil)) (d_cons (by kernel_rfl) d_cb (d_cons (by kernel_rfl) d_cs (d_cons (by kernel_rfl) d_cs (d_cons (by kernel_rfl) (d_tup (d_cons (by kernel_rfl) d_cs d_nil)) d_nil)))))))) (d_bin g (d_bin g (d_v g (by kernel_rfl)) d_ci) d_ci))) (s_cons (s_ite (t_cmp g (by kernel_rfl) (d_call g (by kernel_rfl) (by kernel_rfl) (d_cons (by kernel_rfl) (d_v g (by kernel_rfl)) (d_cons (by kernel_rfl) (d_v g (by kernel_rfl)) d_nil))) d_cs) (s_cons (s_ret d_cb) s_nil) s_nil) s_nil)) (s_cons (s_asg G (by kernel_rfl) (by kernel_rfl) (d_bin g (d_bin g (d_v g (by kernel_rfl)) d_ci) d_ci)) (s_cons (s_ite (t_cmp g (by kernel_rfl) (d_bin g (d_bin g (d_v g (by kernel_rfl)) d_ci) d_ci) d_ci) (s_cons (s_asg G (by kernel_rfl) (by kernel_rfl) (d_bin g d_ci (d_bin g (d_bin g (d_v g (by kernel_rfl)) d_ci) d_ci))) s_nil) s_nil) (s_cons (s_asg G (by kernel_rfl) (by kernel_rfl) (d_call g (by kernel_rfl) (by kernel_rfl) (d_cons (by kernel_rfl) (d_v g (by kernel_rfl)) (d_cons (by kernel_rfl) (d_v g (by kernel_rfl)) d_nil)))) (s_cons (s_asg G (by kernel_rfl) (by kernel_rfl) (d_call g (by kernel_rfl) (by kernel_rfl) (d_cons (by kernel_rfl) (d_v g (by kernel_rfl)) (d_cons (by kernel_rfl) (d_v g (by kernel_rfl)) d_nil)))) (s_cons (s_ite (PW.pt (t_or (t_not (t_call g (d_call g (by kernel_rfl) (by kernel_rfl) (d_cons (by kernel_rfl) (d_v g (by kernel_rfl)) d_nil)))) (t_or1 (t_cmp g (by kernel_rfl) (d_v g (by kernel_rfl)) (d_blt g (by kernel_rfl) (by kernel_rfl) (d_cons (by kernel_rfl) (d_v g (by kernel_rfl)) d_nil)))))) (s_cons (s_ret d_cb) s_nil) s_nil) (s_cons (s_asg G (by kernel_rfl) (by kernel_rfl) (d_bin g (d_v g (by kernel_rfl)) (d_v g (by kernel_rfl)))) s_nil))))))) (s_cons (s_ite (PW.pt (t_or (t_not (t_call g (d_call g (by kernel_rfl) (by kernel_rfl) (d_cons (by kernel_rfl) (d_meth0 g (by kernel_rfl) (d_v g (by kernel_rfl))) d_nil)))) (t_or1 (t_cmp g (by kernel_rfl) (d_meth0 g (by kernel_rfl) (d_v g (by kernel_rfl))) (d_blt g (by kernel_rfl) (by kernel_rfl) (d_cons (by kernel_rfl) (d_v g (by kernel_rfl)) d_nil)))))) (s_cons (s_ret d_cb) s_nil) s_nil) (s_cons (s_asg G (by kernel_rfl) (by kernel_rfl) (d_call g (by kernel_rfl) (by kernel_rfl) (d_cons (by kernel_rfl) (d_bin g (d_call g (by kernel_rfl) (by kernel_rfl) (d_cons (by kernel_rfl) (d_v g (by kernel_rfl)) (d_cons (by kernel_rfl) (d_bin g d_ci (d_v g (by kernel_rfl))) d_nil))) d_ci) (d_cons (by kernel_rfl) (d_blt g (by kernel_rfl) (by kernel_rfl) (d_cons (by kernel_rfl) (d_v g (by kernel_rfl)) d_nil)) d_nil)))) (s_cons (s_asg G (by kernel_rfl) (by kernel_rfl) (d_call g (by kernel_rfl) (by kernel_rfl) (d_cons (by kernel_rfl) (d_bin g (d_call g (by kernel_rfl) (by kernel_rfl) (d_cons (by kernel_rfl) (d_v g (by kernel_rfl)) (d_cons (by kernel_rfl) (d_bin g d_ci (d_v g (by kernel_rfl))) d_nil))) d_ci) (d_cons (by kernel_rfl) (d_blt g (by kernel_rfl) (by kernel_rfl) (d_cons (by kernel_rfl) (d_v g (by kernel_rfl)) d_nil)) d_nil)))) (s_cons (s_ite (PW.pt (t_and (t_call g (d_call g (by kernel_rfl) (by kernel_rfl) (d_cons (by kernel_rfl) (d_v g (by kernel_rfl)) d_nil))) (t_and (t_call g (d_call g (by kernel_rfl) (by kernel_rfl) (d_cons (by kernel_rfl) (d_v g (by kernel_rfl)) d_nil))) (t_and1 (t_cmp g (by kernel_rfl) (d_bin g (d_v g (by kernel_rfl)) d_ci) d_ci))))) (s_cons (s_asg G (by kernel_rfl) (by kernel_rfl) (d_blt g (by kernel_rfl) (by kernel_rfl) (d_cons (by kernel_rfl) (d_v g (by kernel_rfl)) (d_cons (by kernel_rfl) (d_bin g (d_bin g (d_blt g (by kernel_rfl) (by kernel_rfl) (d_cons (by kernel_rfl) (d_v g (by kernel_rfl)) d_nil)) (d_v g (by kernel_rfl))) (d_bin g (d_bin g (d_v g (by kernel_rfl)) d_ci) d_ci)) d_nil)))) s_nil) s_nil) (s_cons (s_ite (t_cmp g (by kernel_rfl) (d_call g (by kernel_rfl) (by kernel_rfl) (d_cons (by kernel_rfl) (d_v g (by kernel_rfl)) (d_cons (by kernel_rfl) (d_v g (by kernel_rfl)) (d_cons (by kernel_rfl) (d_v g (by kernel_rfl)) d_nil)))) (d_call g (by kernel_rfl) (by kernel_rfl) (d_cons (by kernel_rfl) (d_v g (by kernel_rfl)) (d_cons (by kernel_rfl) (d_v g (by kernel_rfl)) (d_cons (by kernel_rfl) (d_v g (by kernel_rfl)) d_nil))))) (s_cons (s_ret d_cb) s_nil) s_nil) s_nil))))))))
theorem m_law_4 {CX : CXT} {Γ : RCx} {X : Cx} (G : GoodS CX (scx N_law (defScope s_law) f_law g_law l_law mn_law kn_law en_law hn_law 0) Γ X) : PS X ((defBody s_law).getD 4 (.Pass ⟨0, 0, 0, 0⟩)) (rdS Γ (b_law.getD 4 (.ret (.c .non)))) := by
  have g := G.toGood
  show PS X (.Return (some _) _) (rdS Γ (.ret _))
  with_reducible exact (s_ret (d_cmp g (by kernel_rfl) (d_meth g (by kernel_rfl) (by kernel_rfl) (d_v g (by kernel_rfl)) (d_cons (by kernel_rfl) d_ci (d_cons (by kernel_rfl) (d_meth0 g (by kernel_rfl) (d_v g (by kernel_rfl))) d_nil))) (d_v g (by kernel_rfl))))
theorem m_law {CX : CXT} {Γ : RCx} {X : Cx} (G : GoodS CX (scx N_law (defScope s_law) f_law g_law l_law mn_law kn_law en_law hn_law 0) Γ X) : PSs X (defBody s_law) (rdSs Γ b_law) := by
  have e : defBody s_law = [((defBody s_law).getD 0 (.Pass ⟨0, 0, 0, 0⟩)), ((defBody s_law).getD 1 (.Pass ⟨0, 0, 0, 0⟩)), ((defBody s_law).getD 2 (.Pass ⟨0, 0, 0, 0⟩)), ((defBody s_law).getD 3 (.Pass ⟨0, 0, 0, 0⟩)), ((defBody s_law).getD 4 (.Pass ⟨0, 0, 0, 0⟩))] := by kernel_rfl
  have e2 : b_law = [(b_law.getD 0 (.ret (.c .non))), (b_law.getD 1 (.ret (.c .non))), (b_law.getD 2 (.ret (.c .non))), (b_law.getD 3 (.ret (.c .non))), (b_law.getD 4 (.ret (.c .non)))] := by kernel_rfl
  rw [e, e2]
  with_reducible exact s_cons (m_law_0 G) (s_cons (m_law_1 G) (s_cons (m_law_2 G) (s_cons (m_law_3 G) (s_cons (m_law_4 G) (s_nil)))))
end L2.K12
namespace L2.B
/-! ### rising rows -/
def cntT (xs : List Int) (most : Int) : Nat := (xs.filter fun x => decide (x ≤ most)).length
def Rise (xs : List Int) : Prop := xs.Pairwise (· ≤ ·)
theorem cntT_le (xs : List Int) (most : Int) : cntT xs most ≤ xs.length := List.length_filter_le _ _
theorem cntT_app (a b : List Int) (most : Int) : cntT (a ++ b) most = cntT a most + cntT b most := by simp [cntT]
theorem cntT_all {xs : List Int} {most : Int} (h : ∀ x ∈ xs, x ≤ most) : cntT xs most = xs.length := by
  unfold cntT
  rw [List.filter_eq_self.mpr fun x hx => by simpa using h x hx]
theorem cntT_no {xs : List Int} {most : Int} (h : ∀ x ∈ xs, most < x) : cntT xs most = 0 := by
  unfold cntT
  rw [List.length_eq_zero_iff, List.filter_eq_nil_iff]
  intro x hx
  have := h x hx
  simp; omega
theorem cntT_lo {xs : List Int} {most x : Int} {m : Nat} (h : Rise xs) (g : xs[m]? = some x) (hx : x ≤ most) : m + 1 ≤ cntT xs most := by
  have hm := (List.getElem?_eq_some_iff.mp g).1
  have e : xs = xs.take (m + 1) ++ xs.drop (m + 1) := (List.take_append_drop _ _).symm
  have a : ∀ y ∈ xs.take (m + 1), y ≤ most := by
    intro y hy
    obtain ⟨j, hj, rfl⟩ := List.getElem_of_mem hy
    rw [List.length_take] at hj
    rw [List.getElem_take]
    have e2 : xs[m] = x := (List.getElem?_eq_some_iff.mp g).2
    by_cases q : j = m
    · subst q; omega
    · have := List.pairwise_iff_getElem.mp h j m (by omega) hm (by omega)
      omega
  have : cntT xs most = cntT (xs.take (m + 1)) most + cntT (xs.drop (m + 1)) most := by rw [← cntT_app, ← e]
  rw [this, cntT_all a, List.length_take]
  omega
theorem cntT_hi {xs : List Int} {most x : Int} {m : Nat} (h : Rise xs) (g : xs[m]? = some x) (hx : ¬ x ≤ most) : cntT xs most ≤ m := by
  have hm := (List.getElem?_eq_some_iff.mp g).1
  have e : xs = xs.take m ++ xs.drop m := (List.take_append_drop _ _).symm
  have a : ∀ y ∈ xs.drop m, most < y := by
    intro y hy
    obtain ⟨j, hj, rfl⟩ := List.getElem_of_mem hy
    rw [List.length_drop] at hj
    rw [List.getElem_drop]
    have e2 : xs[m] = x := (List.getElem?_eq_some_iff.mp g).2
    by_cases q : j = 0
    · subst q; simp; omega
    · have := List.pairwise_iff_getElem.mp h m (m + j) hm (by omega) (by omega)
      omega
  have : cntT xs most = cntT (xs.take m) most + cntT (xs.drop m) most := by rw [← cntT_app, ← e]
  have l := cntT_le (xs.take m) most
  rw [this, cntT_no a]
  rw [List.length_take] at l
  omega
end L2.B
namespace L2.B
open PySem PySem.StrLaws
/-! ### one sign, where it stands -/
def pos (c : Nat) : List Nat → Nat → List Nat
  | [], _ => []
  | d :: r, k => if d = c then k :: pos c r (k + 1) else pos c r (k + 1)
theorem pos_app (c : Nat) : ∀ (a b : List Nat) (k : Nat), pos c (a ++ b) k = pos c a k ++ pos c b (k + a.length)
  | [], b, k => by simp [pos]
  | d :: r, b, k => by
    have ih := pos_app c r b (k + 1)
    rw [show k + 1 + r.length = k + (d :: r).length by simp; omega] at ih
    simp only [List.cons_append, pos]
    split
    · rw [ih]; rfl
    · rw [ih]
theorem pos_len (c : Nat) : ∀ (a : List Nat) (k : Nat), (pos c a k).length = a.count c
  | [], k => rfl
  | d :: r, k => by
    simp only [pos]
    rw [List.count_cons]
    split
    · rename_i h; subst h; simp [pos_len d r (k + 1)]
    · rename_i h
      have : (d == c) = false := by simpa using h
      rw [pos_len c r (k + 1), this]; simp
theorem pos_ge (c : Nat) : ∀ (a : List Nat) (k i : Nat), i ∈ pos c a k → k ≤ i ∧ i < k + a.length
  | [], k, i, h => by simp [pos] at h
  | d :: r, k, i, h => by
    simp only [pos] at h
    have go : i ∈ pos c r (k + 1) → k ≤ i ∧ i < k + (d :: r).length := fun z => by
      have := pos_ge c r (k + 1) i z
      simp; omega
    split at h
    · rcases List.mem_cons.mp h with rfl | z
      · simp
      · exact go z
    · exact go h
def posI (c : Nat) (a : List Nat) : List Int := (pos c a 0).map fun (i : Nat) => (i : Int)
theorem pos_next (c : Nat) : ∀ (l : List Nat) (k i : Nat) (done rest : List Nat), pos c l k = done ++ i :: rest → pos c (l.drop (i + 1 - k)) (i + 1) = rest
  | [], k, i, done, rest, h => by
    simp [pos] at h
  | d :: r, k, i, done, rest, h => by
    have hi := pos_ge c (d :: r) k i (by rw [h]; simp)
    simp only [pos] at h
    have go : ∀ dn, pos c r (k + 1) = dn ++ i :: rest → pos c ((d :: r).drop (i + 1 - k)) (i + 1) = rest := fun dn hd => by
      have h2 := pos_ge c r (k + 1) i (by rw [hd]; simp)
      have ih := pos_next c r (k + 1) i dn rest hd
      rw [show i + 1 - k = (i + 1 - (k + 1)) + 1 by omega, List.drop_succ_cons]
      exact ih
    split at h
    · cases done with
      | nil =>
        simp only [List.nil_append, List.cons.injEq] at h
        obtain ⟨rfl, h⟩ := h
        rw [show k + 1 - k = 1 by omega, List.drop_succ_cons, List.drop_zero]
        exact h
      | cons e dn =>
        simp only [List.cons_append, List.cons.injEq] at h
        exact go dn h.2
    · exact go done h
theorem pos_shift (c : Nat) : ∀ (l : List Nat) (k j : Nat), pos c l (k + j) = (pos c l j).map (k + ·)
  | [], k, j => rfl
  | d :: r, k, j => by
    have ih := pos_shift c r k (j + 1)
    rw [← Nat.add_assoc] at ih
    simp only [pos]
    split
    · rw [ih]; rfl
    · exact ih
theorem posI_app (c : Nat) (a b : List Nat) : posI c (a ++ b) = posI c a ++ ((pos c b 0).map fun (i : Nat) => ((a.length : Nat) : Int) + (i : Int)) := by
  unfold posI
  rw [pos_app, List.map_append, Nat.zero_add]
  congr 1
  have := pos_shift c b a.length 0
  rw [Nat.add_zero] at this
  rw [this, List.map_map]
  apply List.map_congr_left
  intro i _
  show ((a.length + i : Nat) : Int) = _
  omega
theorem occ1 (x y : Str) (hy : y.length = 1) (hi lim : Nat) : ∀ (n lo : Nat) (acc : Array Nat) (free : Nat), free ≤ lo →
    ((forIn (List.range' lo n) (acc, free) (occBody x y hi lim)).run.fst.toList = acc.toList ++ ((List.range' lo n).filter fun i => decide (i + 1 ≤ hi) && Builtin.Str.subAt x y i).take (lim - acc.size))
  | 0, lo, acc, free, hf => by simp
  | n + 1, lo, acc, free, hf => by
    rw [List.range'_succ, List.forIn_cons]
    unfold occBody
    rw [hy]
    by_cases hp : lo + 1 ≤ hi ∧ Builtin.Str.subAt x y lo = true
    · have e : (decide (lo + 1 ≤ hi) && Builtin.Str.subAt x y lo) = true := by simp [hp.1, hp.2]
      by_cases hs : acc.size < lim
      · rw [if_pos ⟨⟨⟨hs, hf⟩, hp.1⟩, hp.2⟩]
        have ih := occ1 x y hy hi lim n (lo + 1) (acc.push lo) (lo + 1) (Nat.le_refl _)
        unfold occBody at ih
        rw [hy] at ih
        refine Eq.trans ih ?_
        rw [List.filter_cons_of_pos (by exact e)]
        have e2 : lim - acc.size = (lim - (acc.push lo).size) + 1 := by rw [Array.size_push]; omega
        rw [e2, List.take_succ_cons]
        simp
      · rw [if_neg (fun z => hs z.1.1.1)]
        have ih := occ1 x y hy hi lim n (lo + 1) acc free (by omega)
        unfold occBody at ih
        rw [hy] at ih
        refine Eq.trans ih ?_
        have e2 : lim - acc.size = 0 := by omega
        rw [e2]; simp
    · rw [if_neg (fun z => hp ⟨z.1.2, z.2⟩)]
      have e : ¬ (decide (lo + 1 ≤ hi) && Builtin.Str.subAt x y lo) = true := by
        intro z
        simp only [Bool.and_eq_true, decide_eq_true_eq] at z
        exact hp z
      have ih := occ1 x y hy hi lim n (lo + 1) acc free (by omega)
      unfold occBody at ih
      rw [hy] at ih
      refine Eq.trans ih ?_
      rw [List.filter_cons_of_neg (by exact e)]
theorem sub1 (x : Str) (c i : Nat) : Builtin.Str.subAt x ⟨#[c]⟩ i = decide (x.cps[i]? = some c) := by
  unfold Builtin.Str.subAt
  have e : (⟨#[c]⟩ : Str).length = 1 := rfl
  rw [e, show (⟨#[c]⟩ : Str).cps = #[c] from rfl]
  by_cases h : i < x.cps.size
  · have e2 : x.cps.extract i (i + 1) = #[x.cps[i]] := by
      apply Array.ext
      · simp; omega
      · intro j h1 h2
        simp at h1 h2 ⊢
        have : j = 0 := by omega
        subst this; rfl
    rw [e2, Array.getElem?_eq_getElem h]
    by_cases q : x.cps[i] = c
    · subst q; simp
    · have : ¬ (#[x.cps[i]] = #[c]) := fun z => q (by injection z with z; injection z)
      simp [q]
  · have e2 : x.cps.extract i (i + 1) = #[] := by
      apply Array.eq_empty_of_size_eq_zero
      simp; omega
    rw [e2, Array.getElem?_eq_none (by omega)]
    simp
theorem filter_pos (c : Nat) : ∀ (l : List Nat) (k : Nat) (p : Nat → Bool), (∀ i, i < l.length → p (k + i) = decide (l[i]? = some c)) → (List.range' k l.length).filter p = pos c l k
  | [], k, p, h => rfl
  | d :: r, k, p, h => by
    rw [List.length_cons, List.range'_succ]
    have h0 : p k = decide (d = c) := by
      have := h 0 (Nat.zero_lt_succ _)
      simpa using this
    have ih := filter_pos c r (k + 1) p fun i hi => by
      have := h (i + 1) (Nat.succ_lt_succ hi)
      rw [show k + 1 + i = k + (i + 1) by omega, this]; simp
    by_cases e : d = c
    · rw [List.filter_cons_of_pos (by rw [h0]; simpa using e), ih, pos, if_pos e]
    · rw [List.filter_cons_of_neg (by rw [h0]; simpa using e), ih, pos, if_neg e]
theorem occ_pos (x : Str) (c lo lim : Nat) (hl : lo ≤ x.length) : Builtin.Str.occurrences x ⟨#[c]⟩ lo x.length lim = (pos c (x.cps.toList.drop lo) lo).take lim := by
  have hx : x.cps.toList.length = x.length := by simp [Str.length]
  rw [occ_eq, occ1 x _ rfl x.length lim _ lo #[] lo (Nat.le_refl _)]
  simp only [List.nil_append, Array.size_empty, Nat.sub_zero]
  congr 1
  have e : x.length + 1 - lo = (x.cps.toList.drop lo).length + 1 := by rw [List.length_drop, hx]; omega
  rw [e, List.range'_concat, List.filter_append]
  rw [filter_pos c (x.cps.toList.drop lo) lo]
  · have : ¬ (lo + 1 * (x.cps.toList.drop lo).length + 1 ≤ x.length) := by rw [List.length_drop, hx]; omega
    rw [List.filter_cons_of_neg (by rw [decide_eq_false this]; simp)]
    simp
  · intro i hi
    rw [sub1]
    rw [List.length_drop, hx] at hi
    rw [decide_eq_true (show lo + i + 1 ≤ x.length by omega), Bool.true_and, List.getElem?_drop, Array.getElem?_toList]
end L2.B
set_option maxRecDepth 100000
set_option maxHeartbeats 4000000
namespace L2.B
open PySem PySem.Spec PyProof.Rows
/-! ### heaps -/
theorem sameNew {H : Hp} {p : Addr} {o : HO} (h : H p = none) : Same H (upd H p o) := fun b u e => by rw [upd_ne (ne_of_none e h)]; exact e
/-- all but the object at c is as it was -/
def But (c : Addr) (H H' : Hp) : Prop := ∀ b o, H b = some o → b ≠ c → H' b = some o
theorem But.upd {H : Hp} {c : Addr} {o : HO} : But c H (upd H c o) := fun b u e n => by rw [upd_ne n]; exact e
theorem But.trans {c : Addr} {H H1 H2 : Hp} (a : But c H H1) (b : But c H1 H2) : But c H H2 := fun d o e n => b d o (a d o e n) n
theorem iF {c : Bool} {A B : Prop} (q : B) (h : c = false := by first | rfl | decide) : if c = true then A else B := by
  rw [h]; exact iteF q
theorem iT {c : Bool} {A B : Prop} (q : A) (h : c = true := by first | rfl | decide) : if c = true then A else B := by
  rw [h]; exact iteT q
/-! ### parts -/
/-! ### is_whole, may_follow, part_size -/
theorem le_line {n : Nat} (h : n ≤ 1000000) : n ≤ sizeLine := Nat.le_trans h (by decide)
theorem lt_line {n : Nat} (h : n ≤ 1000000) : n < sizeLine := Nat.lt_of_le_of_lt h (by decide)
/-! ### _law_cell_at, _law_mixed -/
end L2.B
set_option maxRecDepth 100000
set_option maxHeartbeats 4000000
namespace L2.B
open PySem PySem.Spec PyProof.Rows
def SG : Str := " !\"#$&'()*+,-./0123456789:;<=>?@ABCDEFGHIJKLMNOPQRSTUVWXYZ[\\]^_`abcdefghijklmnopqrstuvwxyz{|}~\n"
def good (x : Str) : Prop := x.length ≤ 1000000 ∧ ∀ c ∈ x.cps.toList, SG.cps.contains c = true
theorem takeWhile_all {α : Type} (p : α → Bool) : ∀ l : List α, (∀ c ∈ l, p c = true) → l.takeWhile p = l
  | [], _ => rfl
  | c :: l, h => by rw [List.takeWhile_cons, h c List.mem_cons_self, takeWhile_all p l fun d hd => h d (List.mem_cons_of_mem _ hd)]; rfl
theorem lstrip_all (x y : Str) (h : ∀ c ∈ x.cps.toList, y.cps.contains c = true) : Txt.lstripChars x y = "" := by
  have e0 : stripLo y.cps.contains true x = x.length := by
    unfold stripLo
    rw [if_pos rfl, takeWhile_all _ _ h]
    simp [Str.length]
  have e1 : stripHi y.cps.contains false x x.length = x.length := rfl
  unfold Txt.lstripChars Txt.stripBy stripSame stripped
  rw [e0, e1]
  split
  · rename_i hq
    simp only [Bool.and_eq_true, beq_iff_eq] at hq
    have : x.cps = #[] := Array.eq_empty_of_size_eq_zero hq.1
    obtain ⟨c⟩ := x
    have e : c = #[] := this
    subst e
    rfl
  · show (⟨x.cps.extract x.length x.length⟩ : Str) = _
    have : x.cps.extract x.length x.length = #[] := by simp [Str.length]
    rw [this]; rfl
theorem isi_tup {H : Hp} {a : Addr} {xs : List V} {T : Ty} {k : Bool → Prop} (h : H a = some (.tup xs)) (q : k (T == .tuple)) : isiV T (.ref a) H k := by
  show (match H a with | some (.lst _) => k (T == .list) | some (.frz _ (.lst _)) => k (T == .list) | some (.tup _) => k (T == .tuple) | some (.dK _) => k (T == .dict) | some (.dT _) => k (T == .dict) | _ => False)
  rw [h]; exact q
theorem isi_lst {H : Hp} {a : Addr} {xs : List V} {T : Ty} {k : Bool → Prop} (h : H a = some (.lst xs)) (q : k (T == .list)) : isiV T (.ref a) H k := by
  show (match H a with | some (.lst _) => k (T == .list) | some (.frz _ (.lst _)) => k (T == .list) | some (.tup _) => k (T == .tuple) | some (.dK _) => k (T == .dict) | some (.dT _) => k (T == .dict) | _ => False)
  rw [h]; exact q
/-! ### is_text, is_part -/
abbrev gS : List (Str × V) := [("SIGNS", .str SG)]
def spText : Sp := fun vs H Q E => ∃ x, vs = [.str x] ∧ good x ∧ Q (.bl true) H
theorem rd_text {K : PySem.W.Frag} (vs : List V) (H : Hp) (Q : VK) (E : XK) (h : spText vs H Q E) : rdSs (rcx K [] gS (E := E)) b_is_text { nx := fun _ H' => Q .non H', rt := Q } (start N_is_text vs) H := by
  obtain ⟨x, rfl, hx, q⟩ := h
  refine ⟨_, rfl, rfl, _, rfl, iteT ⟨_, rfl, rfl, le_line hx.1, ?_⟩⟩
  show Q (.bl (false ^^ decide (V.str (Txt.lstripChars x SG) = V.str ""))) H
  rw [lstrip_all x SG hx.2, decide_eq_true rfl]
  exact q
end L2.B
set_option maxRecDepth 100000
set_option maxHeartbeats 4000000
namespace L2.B
open PySem PySem.Spec PyProof.Rows
/-! ### need_change -/
/-! ### sizes -/
end L2.B
set_option maxRecDepth 100000
set_option maxHeartbeats 4000000
namespace L2.B
open PySem PySem.Spec PyProof.Rows
/-! ### texts joined -/
def cat (ts : List Str) : Str := Txt.join "" ts
def sz (ts : List Str) : Nat := (ts.map Str.length).sum
theorem cat_list (ts : List Str) : (cat ts).cps.toList = (ts.map fun t => t.cps.toList).flatten := by
  have e : (Str.ofString "").cps = #[] := rfl
  cases ts with
  | nil => rfl
  | cons t r =>
    show (r.foldl (fun acc p => acc ++ (Str.ofString "").cps ++ p.cps) t.cps).toList = _
    rw [e]
    have go : ∀ (r : List Str) (acc : Array Nat), (r.foldl (fun acc p => acc ++ #[] ++ p.cps) acc).toList = acc.toList ++ (r.map fun t => t.cps.toList).flatten := by
      intro r
      induction r with
      | nil => intro acc; simp
      | cons q r ih =>
        intro acc
        show (r.foldl (fun acc p => acc ++ #[] ++ p.cps) (acc ++ #[] ++ q.cps)).toList = _
        rw [ih]; simp
    rw [go]; simp
theorem str_ext {x y : Str} (h : x.cps.toList = y.cps.toList) : x = y := by
  obtain ⟨x⟩ := x
  obtain ⟨y⟩ := y
  exact congrArg Str.mk (Array.toList_inj.mp h)
theorem app_list (x y : Str) : (x ++ y).cps.toList = x.cps.toList ++ y.cps.toList := by
  show (x.cps ++ y.cps).toList = _
  simp
theorem cat_append (a b : List Str) : cat (a ++ b) = cat a ++ cat b := str_ext (by rw [app_list, cat_list, cat_list, cat_list]; simp)
theorem cat_one (x : Str) : cat [x] = x := str_ext (by rw [cat_list]; simp)
theorem cat_nil : cat [] = "" := rfl
theorem len_list (x : Str) : x.length = x.cps.toList.length := by simp [Str.length]
theorem cat_length (ts : List Str) : (cat ts).length = sz ts := by
  rw [len_list, cat_list, List.length_flatten]
  unfold sz
  rw [List.map_map]
  congr 1
theorem joinOk_of {ts : List Str} (h : sz ts ≤ 1000000) : JoinOk "" ts = true := by
  have go : ∀ (l : List Str) (n : Nat), l.foldl (· + ·.length + (Str.ofString "").length) n = n + sz l := by
    intro l
    induction l with
    | nil => intro n; rfl
    | cons t r ih =>
      intro n
      show r.foldl _ (n + t.length + 0) = _
      rw [ih]
      show n + t.length + 0 + sz r = n + (t.length + sz r)
      omega
  unfold JoinOk
  have e : ts.toArray.foldl (· + ·.length + (Str.ofString "").length) 0 = sz ts := by
    rw [List.foldl_toArray, go, Nat.zero_add]
  rw [e]
  show (!decide (sz ts > sizeLine)) = true
  rw [decide_eq_false (by have := le_line h; omega)]
  rfl
/-! ### add_texts, add_keep -/
end L2.B
set_option maxRecDepth 100000
set_option maxHeartbeats 4000000
namespace L2.B
open PySem PySem.Spec PyProof.Rows
end L2.B
set_option maxRecDepth 100000
set_option maxHeartbeats 4000000
namespace L2.B
open PySem PySem.Spec PyProof.Rows
/-! ### _law_text -/
def A1 : Str := " !\"#$&'()*+,-./0123456789:;<=>?@ABCDEFGHIJKLMNOPQRSTUVWXYZ[\\]^_`"
def alOk (al : Str) : Prop := 0 < al.length ∧ al.length ≤ 1000 ∧ ∀ c ∈ al.cps.toList, SG.cps.contains c = true
theorem al_of {al : Str} (h : (decide (0 < al.length) && decide (al.length ≤ 1000) && al.cps.toList.all fun c => SG.cps.contains c) = true) : alOk al := by
  simp only [Bool.and_eq_true, decide_eq_true_eq, List.all_eq_true] at h
  exact ⟨h.1.1, h.1.2, h.2⟩
def oneOk (t : Str) : Prop := t.length = 1 ∧ ∀ c ∈ t.cps.toList, SG.cps.contains c = true
/-! ### _law_raw -/
end L2.B
set_option maxRecDepth 100000
set_option maxHeartbeats 4000000
namespace L2.B
open PySem PySem.Spec PyProof.Rows
/-! ### _law_neat -/
abbrev Dn (Q : VK) : Ends := { nx := fun _ H' => Q .non H', rt := Q }
end L2.B
set_option maxRecDepth 100000
set_option maxHeartbeats 4000000
namespace L2.B
open PySem PySem.Spec PyProof.Rows
theorem app_len (x y : Str) : (x ++ y).length = x.length + y.length := by rw [len_list, app_list, List.length_append, ← len_list, ← len_list]
end L2.B
set_option maxRecDepth 100000
set_option maxHeartbeats 4000000
namespace L2.B
open PySem PySem.Spec PyProof.Rows
end L2.B
set_option maxRecDepth 100000
set_option maxHeartbeats 4000000
namespace L2.B
open PySem PySem.Spec PyProof.Rows
end L2.B
set_option maxRecDepth 100000
set_option maxHeartbeats 4000000
namespace L2.B
open PySem PySem.Spec PyProof.Rows
/-! ### sums -/
/-! ### what neat gives is a change -/
end L2.B
set_option maxRecDepth 100000
set_option maxHeartbeats 4000000
namespace L2.B
open PySem PySem.Spec PyProof.Rows
/-! ### lists of parts compared -/
end L2.B
set_option maxRecDepth 100000
set_option maxHeartbeats 4000000
namespace L2.B
open PySem PySem.Spec PyProof.Rows
/-! ### the other words -/
/-! ### the rows of what rows give -/
/-! ### a change done: what is kept, put, cut -/
end L2.B
set_option maxRecDepth 100000
set_option maxHeartbeats 4000000
namespace L2.B
open PySem PySem.Spec PyProof.Rows
end L2.B
set_option maxRecDepth 100000
set_option maxHeartbeats 4000000
namespace L2.B
open PySem PySem.Spec PyProof.Rows
/-! ### rows of signs -/
end L2.B
set_option maxRecDepth 100000
set_option maxHeartbeats 4000000
namespace L2.B
open PySem PySem.Spec PyProof.Rows
end L2.B
namespace L2.B
open PySem PySem.Spec PyProof.Rows
theorem lk_eq {k : Str} {v : V} {r : List (Str × V)} : ((k, v) :: r).lookup k = some v := by simp [List.lookup]
theorem lk_ne {k j : Str} {v : V} {r : List (Str × V)} (h : ¬ k = j) : ((j, v) :: r).lookup k = r.lookup k := by
  have : (k == j) = false := by simpa using h
  simp [List.lookup, this]
theorem pf_eq {k : Str} {v w : V} {r : List (Str × V)} : putF k v ((k, w) :: r) = (k, v) :: r := by simp [putF]
theorem pf_ne {k j : Str} {v w : V} {r : List (Str × V)} (h : ¬ j = k) : putF k v ((j, w) :: r) = (j, w) :: putF k v r := by simp [putF, h]
end L2.B
namespace L2.B
/-! ### kept signs: pairs of an old and a new place, both rising -/
/-! ### kept runs -/
end L2.B
namespace L2.B
/-! ### how the program finds them: how many runs begin ahead of a place -/
end L2.B
set_option maxRecDepth 100000
set_option maxHeartbeats 4000000
namespace L2.B
open PySem PySem.Spec PyProof.Rows
/-! ### runs of a change -/
/-! ### a Track -/
end L2.B
set_option maxRecDepth 100000
set_option maxHeartbeats 4000000
namespace L2.B
open PySem PySem.Spec PyProof.Rows
/-! ### many_upto -/
theorem ixl {K : PySem.W.Frag} {sd : Addr → List (Key × V) → Prop} {H : Hp} {a : Addr} {xs : List V} {i : Int} {v : V} {Q : VK} (h : H a = some (.lst xs)) (e : atI xs i = some v) (q : Q v H) : rIx2 K sd (.ref a) (.int i) H Q :=
  .inl ⟨_, _, _, _, rfl, rfl, SqL.of h, e, q⟩
def spUpto : Sp := fun vs H Q E => ∃ (a : Addr) (xs : List Int) (most : Int), vs = [.ref a, .int most] ∧ H a = some (.lst (xs.map V.int)) ∧ Rise xs ∧ Q (.int (cntT xs most)) H
theorem rd_upto {K : PySem.W.Frag} (vs : List V) (H : Hp) (Q : VK) (E : XK) (h : spUpto vs H Q E) : rdSs (rcx K [] [] (E := E)) b_many_upto { nx := fun _ H' => Q .non H', rt := Q } (start N_many_upto vs) H := by
  obtain ⟨a, xs, most, rfl, ha, hr, q⟩ := h
  have hc := cntT_le xs most
  refine ⟨_, rfl, .inl ⟨_, SqL.of ha, ?_⟩⟩
  rw [List.length_map]
  refine ⟨fun m σ H' => ∃ (lo hi : Nat) (w : Option V), m = hi - lo ∧ σ = [some (.ref a), some (.int most), some (.int lo), some (.int hi), w] ∧ lo ≤ cntT xs most ∧ cntT xs most ≤ hi ∧ hi ≤ xs.length ∧ H' = H,
    ⟨_, 0, xs.length, none, rfl, rfl, Nat.zero_le _, hc, Nat.le_refl _, rfl⟩, ?_⟩
  rintro m σ H' ⟨lo, hi, w, rfl, rfl, h1, h2, h3, rfl⟩
  refine ⟨_, rfl, _, rfl, trivial, _, rfl, ?_⟩
  refine ite2 (fun h => ?_) (fun h => ?_)
  · have hlt : (lo : Int) < (hi : Int) := of_decide_eq_true h
    refine ⟨_, fun σ' H'' q => q, ?_⟩
    refine ⟨_, rfl, _, rfl, ⟨by decide, by decide⟩, ?_⟩
    have hk : (lo + hi) / 2 < xs.length := by omega
    generalize hkk : (lo + hi) / 2 = k at hk
    have hm : ((lo : Int) + (hi : Int)) / 2 = (k : Int) := by omega
    show rdSs _ _ _ [some (V.ref a), some (V.int most), some (V.int lo), some (V.int hi), some (V.int (((lo : Int) + (hi : Int)) / 2))] _
    rw [hm]
    have gk : xs[k]? = some xs[k] := List.getElem?_eq_getElem hk
    have ik : atI (xs.map V.int) (k : Int) = some (.int xs[k]) := atI_nat (by rw [List.getElem?_map, gk]; rfl)
    refine ⟨_, rfl, _, rfl, ixl ha ik ⟨_, rfl, trivial, _, rfl, ?_⟩⟩
    refine ite2 (fun g => ?_) (fun g => ?_)
    · have hle : xs[k] ≤ most := of_decide_eq_true g
      exact ⟨_, rfl, hi - (k + 1), by omega, k + 1, hi, some (V.int k), rfl, rfl, cntT_lo hr gk hle, h2, h3, rfl⟩
    · have hle : ¬ xs[k] ≤ most := fun z => g (decide_eq_true z)
      exact ⟨_, rfl, k - lo, by omega, lo, k, some (V.int k), rfl, rfl, h1, cntT_hi hr gk hle, by omega, rfl⟩
  · have hle : ¬ (lo : Int) < (hi : Int) := fun z => h (decide_eq_true z)
    have e : cntT xs most = lo := by omega
    rw [e] at q
    exact ⟨_, rfl, q⟩
/-! ### to_left, to_right -/
/-! ### lead, need_side, moved -/
end L2.B
set_option maxRecDepth 100000
set_option maxHeartbeats 4000000
namespace L2.B
open PySem PySem.Spec PyProof.Rows
/-! ### things of any kind -/
theorem isi_mono {T : Ty} {v : V} {H : Hp} {P Q : Bool → Prop} (h : isiV T v H P) (i : ∀ b, P b → Q b) : isiV T v H Q := by
  cases v with
  | ref a =>
    unfold isiV at h ⊢
    simp only at h ⊢
    split at h
    all_goals first | exact i _ h | exact h.elim
  | non => exact i _ h
  | bl b => exact i _ h
  | int _ => exact i _ h
  | str _ => exact i _ h
  | _ => exact False.elim h
theorem isi_same {T : Ty} {v : V} {H H' : Hp} {P : Bool → Prop} (h : isiV T v H P) (s : Same H H') : isiV T v H' P := by
  cases v with
  | ref a =>
    unfold isiV at h ⊢
    simp only at h ⊢
    cases e : H a with
    | none => rw [e] at h; exact h.elim
    | some o => rw [e] at h; rw [s _ _ e]; exact h
  | non => exact h
  | bl b => exact h
  | int _ => exact h
  | str _ => exact h
  | _ => exact False.elim h
def NotTy (T : Ty) (v : V) (H : Hp) : Prop := isiV T v H fun b => b = false
theorem NotTy.same {T : Ty} {v : V} {H H' : Hp} (h : NotTy T v H) (s : Same H H') : NotTy T v H' := isi_same h s
theorem NotTy.go {T : Ty} {v : V} {H : Hp} {Q : Bool → Prop} (h : NotTy T v H) (q : Q false) : isiV T v H Q := isi_mono h fun b e => by rw [e]; exact q
def isText (x : Str) : Bool := x.cps.toList.all fun c => SG.cps.contains c
theorem takeWhile_lt {α : Type} (p : α → Bool) : ∀ l : List α, l.all p = false → (l.takeWhile p).length < l.length
  | [], h => by cases h
  | c :: l, h => by
    rw [List.takeWhile_cons]
    cases hc : p c with
    | false => simp
    | true =>
      rw [List.all_cons, hc, Bool.true_and] at h
      have := takeWhile_lt p l h
      simp; omega
theorem lstrip_not (x y : Str) (h : (x.cps.toList.all fun c => y.cps.contains c) = false) : Txt.lstripChars x y ≠ "" := by
  have lt := takeWhile_lt _ _ h
  have e0 : stripLo y.cps.contains true x = (x.cps.toList.takeWhile y.cps.contains).length := by
    unfold stripLo
    rw [if_pos rfl]
  have e1 : ∀ n, stripHi y.cps.contains false x n = x.length := fun n => rfl
  intro z
  have z2 := congrArg Str.length z
  have l0 : (Str.ofString "").length = 0 := rfl
  rw [l0] at z2
  unfold Txt.lstripChars Txt.stripBy stripSame stripped at z2
  rw [e0, e1] at z2
  have hx : x.cps.size = x.cps.toList.length := by simp
  split at z2
  · have : x.cps.size = 0 := z2
    omega
  · have z3 : (x.cps.extract (x.cps.toList.takeWhile y.cps.contains).length x.cps.size).size = 0 := z2
    rw [Array.size_extract, Nat.min_self] at z3
    have z4 : x.cps.size - (List.takeWhile (fun c => y.cps.contains c) x.cps.toList).length = 0 := z3
    omega
/-- what is no text -/
def BadT (v : V) (H : Hp) : Prop := (∃ x, v = .str x ∧ x.length ≤ 1000000 ∧ isText x = false) ∨ NotTy .str v H
/-- what is no whole number -/
def NotWh (v : V) (H : Hp) : Prop := (∃ b, v = .bl b) ∨ NotTy .int v H
def spWholeX : Sp := fun vs H Q E => ∃ v, vs = [v] ∧ ((∃ i, v = .int i ∧ Q (.bl true) H) ∨ (NotWh v H ∧ Q (.bl false) H))
theorem rd_wholeX {K : PySem.W.Frag} (vs : List V) (H : Hp) (Q : VK) (E : XK) (h : spWholeX vs H Q E) : rdSs (rcx K [] [] (E := E)) b_is_whole (Dn Q) (start N_is_whole vs) H := by
  obtain ⟨v, rfl, ⟨i, rfl, q⟩ | ⟨⟨b, rfl⟩ | hn, q⟩⟩ := h
  · exact ⟨_, rfl, rfl, _, rfl, iteT ⟨_, rfl, rfl, q⟩⟩
  · exact ⟨_, rfl, rfl, _, rfl, iteT ⟨_, rfl, rfl, q⟩⟩
  · exact ⟨_, rfl, rfl, hn.go ⟨_, rfl, iteF q⟩⟩
def spTextX : Sp := fun vs H Q E => ∃ v, vs = [v] ∧ ((∃ x, v = .str x ∧ good x ∧ Q (.bl true) H) ∨ (BadT v H ∧ Q (.bl false) H))
theorem rd_textX {K : PySem.W.Frag} (vs : List V) (H : Hp) (Q : VK) (E : XK) (h : spTextX vs H Q E) : rdSs (rcx K [] gS (E := E)) b_is_text (Dn Q) (start N_is_text vs) H := by
  obtain ⟨v, rfl, ⟨x, rfl, hx, q⟩ | ⟨⟨x, rfl, hl, hx⟩ | hn, q⟩⟩ := h
  · exact rd_text _ _ _ _ ⟨x, rfl, hx, q⟩
  · refine ⟨_, rfl, rfl, _, rfl, iteT ⟨_, rfl, rfl, le_line hl, ?_⟩⟩
    show Q (.bl (false ^^ decide (V.str (Txt.lstripChars x SG) = V.str ""))) H
    rw [decide_eq_false (fun z => lstrip_not x SG hx (by injection z))]
    exact q
  · exact ⟨_, rfl, rfl, hn.go ⟨_, rfl, iteF q⟩⟩
abbrev tNeedTX : List (Str × Sp) := [("is_text", spTextX)]
def spNeedTX (C : Addr) : Sp := fun vs H Q E => ∃ v, vs = [v] ∧ ((∃ x, v = .str x ∧ good x ∧ Q .non H) ∨ (BadT v H ∧ E (.ref C) none H))
theorem rd_needTX {K : PySem.W.Frag} {C : Addr} (vs : List V) (H : Hp) (Q : VK) (E : XK) (h : spNeedTX C vs H Q E) : rdSs (rcx K tNeedTX [] (et := [("BadText", C)]) (E := E)) b_need_text (Dn Q) (start N_need_text vs) H := by
  obtain ⟨v, rfl, ⟨x, rfl, hx, q⟩ | ⟨hn, q⟩⟩ := h
  · exact ⟨_, rfl, _, rfl, .inl ⟨x, rfl, hx, q⟩⟩
  · exact ⟨_, rfl, _, rfl, .inr ⟨hn, (by show 1 ≤ sizeLine; decide), q⟩⟩
end L2.B
set_option maxRecDepth 100000
set_option maxHeartbeats 4000000
namespace L2.B
open PySem PySem.Spec PyProof.Rows
/-! ### done, refused -/
end L2.B
namespace L2
open PySem PySem.Spec PyProof.Rows
/-! ### a reading, step by step -/
section
variable {Γ : RCx} {D : Ends} {σ : St} {H : Hp} {r : List RS} {Q : VK} {QA : List V → Hp → Prop} {QT : Bool → Hp → Prop}
theorem r_v {i : Nat} {v : V} (h : σ[i]? = some (some v)) (q : Q v H) : rdE Γ (.v i) σ H Q := ⟨_, h, q⟩
theorem r_c {v : V} (q : Q v H) : rdE Γ (.c v) σ H Q := q
theorem r_g {j : Nat} (q : Q (Γ.gv j) H) : rdE Γ (.g j) σ H Q := q
theorem r_bin {op : Operator} {a b : RE} (h : rdE Γ a σ H fun x H1 => rdE Γ b σ H1 fun y H2 => rBin Γ.K op x y H2 Q) : rdE Γ (.bin op a b) σ H Q := h
theorem r_cmp {op : CmpOp} {a b : RE} (h : rdE Γ a σ H fun x H1 => rdE Γ b σ H1 fun y H2 => rCmp Γ.K op x y H2 Q) : rdE Γ (.cmp op a b) σ H Q := h
theorem r_ix {a b : RE} (h : rdE Γ a σ H fun x H1 => rdE Γ b σ H1 fun y H2 => rIx2 Γ.K Γ.sd x y H2 Q) : rdE Γ (.ix a b) σ H Q := h
theorem r_call {j : Nat} {as : List RE} (h : rdA Γ as σ H fun vs H1 => Γ.fs j (vs ++ []) H1 Q Γ.E) : rdE Γ (.call j as) σ H Q := h
theorem r_callS {j : Nat} {as : List RE} (sp : Sp) (hs : Γ.fs j = sp) (h : rdA Γ as σ H fun vs H1 => sp vs H1 Q Γ.E) : rdE Γ (.call j as) σ H Q := by
  subst hs
  refine r_call ?_
  have e : (fun (vs : List V) (H1 : Hp) => Γ.fs j (vs ++ []) H1 Q Γ.E) = fun vs H1 => Γ.fs j vs H1 Q Γ.E := by
    funext vs H1; rw [List.append_nil]
  rw [e]; exact h
theorem r_blt {b : Blt} {as : List RE} (h : rdA Γ as σ H fun vs H1 => rBlt Γ.K b vs H1 Q) : rdE Γ (.blt b as) σ H Q := h
theorem r_tup {as : List RE} (h : rdA Γ as σ H fun xs H1 => xs.length ≤ sizeLine ∧ ∀ p, H1 p = none → Q (.ref p) (upd H1 p (.tup xs))) : rdE Γ (.tup as) σ H Q := h
theorem r_lst {as : List RE} (h : rdA Γ as σ H fun xs H1 => xs.length ≤ sizeLine ∧ ∀ p, H1 p = none → Q (.ref p) (upd H1 p (.lst xs))) : rdE Γ (.lst as) σ H Q := h
theorem r_isx {a c : RE} (h : rdE Γ a σ H fun x H1 => rdE Γ c σ H1 fun y H2 => rIsx Γ.K [x, y] H2 Q) : rdE Γ (.isx a c) σ H Q := h
theorem r_isxT {a c : RE} (h : rdE Γ a σ H fun x H1 => rdE Γ c σ H1 fun y H2 => rIsx Γ.K [x, y] H2 fun z H3 => tru Γ.K z H3 fun b => QT b H3) : rdT Γ (.isx a c) σ H QT := h
theorem r_nil (q : QA [] H) : rdA Γ [] σ H QA := q
theorem r_cons {a : RE} {as : List RE} (h : rdE Γ a σ H fun x H1 => rdA Γ as σ H1 fun xs H2 => QA (x :: xs) H2) : rdA Γ (a :: as) σ H QA := h
theorem r_asg {i : Nat} {e : RE} (h : rdE Γ e σ H fun x H1 => rdSs Γ r D (σ.set i (some x)) H1) : rdSs Γ (.asg i e :: r) D σ H := h
theorem r_drop {e : RE} (h : rdE Γ e σ H fun _ H1 => rdSs Γ r D σ H1) : rdSs Γ (.drop e :: r) D σ H := h
theorem r_ret {e : RE} (h : rdE Γ e σ H D.rt) : rdSs Γ (.ret e :: r) D σ H := h
end
end L2
set_option maxRecDepth 100000
set_option maxHeartbeats 4000000
namespace L2.B
open PySem PySem.Spec PyProof.Rows
/-! ### the word of a refusal -/
structure Kits (K : PySem.W.Frag) (cs : List Addr) (ink : Addr) (D : Addr) (j : Nat) : Prop where
  cls : ExcCls K D
  kit : ∀ i c, cs[i]? = some c → PySem.W.kitOne K (.ref D) (.ref c) = some (decide (i = j))
  ink : PySem.W.kitOne K (.ref D) (.ref ink) = some true
  val : PySem.W.kitOne K (.ref D) (.type "ValueError") = some true
theorem _root_.L2.ExcAt.same {H H' : Hp} {ea D : Addr} (h : ExcAt H ea D) (s : Same H H') : ExcAt H' ea D := ExcAt.keeps h fun b o u e => s b _ e
section
variable {Γ : RCx} {cs : List Addr} {ink ea D : Addr} {j : Nat}
end
theorem rd_isx {Γ : RCx} {i g : Nat} {ea D C : Addr} {b : Bool} {σ : St} {H : Hp} {Q : Bool → Hp → Prop} (h0 : σ[i]? = some (some (.ref ea))) (he : ExcAt H ea D) (hc : ExcCls Γ.K D) (hg : Γ.gv g = .ref C) (hk : PySem.W.kitOne Γ.K (.ref D) (.ref C) = some b) (q : Q b H) : rdT Γ (.isx (.v i) (.g g)) σ H Q := by
  have key : ∀ k : VK, rIsx Γ.K [.ref ea, .ref C] H k → rIsx Γ.K [.ref ea, Γ.gv g] H k := by
    intro k; rw [hg]; exact id
  exact r_isxT (r_v h0 (r_g (key _ ⟨D, b, he, hc, .inl ⟨_, rfl⟩, hk, q⟩)))
theorem rd_isxT {Γ : RCx} {i : Nat} {ea D : Addr} {n : String} {b : Bool} {σ : St} {H : Hp} {Q : Bool → Hp → Prop} (h0 : σ[i]? = some (some (.ref ea))) (he : ExcAt H ea D) (hc : ExcCls Γ.K D) (hk : PySem.W.kitOne Γ.K (.ref D) (.type n) = some b) (q : Q b H) : rdT Γ (.isx (.v i) (.c (.ty n))) σ H Q :=
  r_isxT (r_v h0 (r_c ⟨D, b, he, hc, .inr ⟨_, rfl⟩, hk, q⟩))
end L2.B
set_option maxRecDepth 100000
set_option maxHeartbeats 4000000
namespace L2.B
open PySem PySem.Spec PyProof.Rows
/-! ### slices -/
theorem cut_take {x : Str} (k : Nat) (n : Int) (m : Nat) (hn : n = m) : cutS x (some (k : Int)) (some ((k : Int) + n)) = ⟨((x.cps.toList.drop k).take m).toArray⟩ := by
  have e1 : (k : Int) + n = ((k + m : Nat) : Int) := by rw [hn]; simp
  unfold cutS cutL
  rw [e1, HT.sIx_nat, HT.sIx_nat]
  congr 1
  by_cases h : k ≤ x.cps.toList.length
  · rw [show min k x.cps.toList.length = k by omega]
    by_cases h2 : k + m ≤ x.cps.toList.length
    · rw [show min (k + m) x.cps.toList.length = k + m by omega, Nat.add_sub_cancel_left]
    · rw [show min (k + m) x.cps.toList.length = x.cps.toList.length by omega, List.take_of_length_le (by rw [List.length_drop]; omega), List.take_of_length_le (by rw [List.length_drop]; omega)]
  · rw [show min k x.cps.toList.length = x.cps.toList.length by omega, List.drop_length, List.drop_of_length_le (by omega), List.take_nil, List.take_nil]
/-! ### the law's own going along -/
end L2.B
set_option maxRecDepth 100000
set_option maxHeartbeats 4000000
namespace L2
open PySem PySem.Spec PyProof.Rows
theorem am_nil {α : Type _} {p : α → Prop} : ∀ x ∈ ([] : List α), p x := fun _ h => nomatch h
theorem am_cons {α : Type _} {p : α → Prop} {a : α} {l : List α} (h : p a) (t : ∀ x ∈ l, p x) : ∀ x ∈ a :: l, p x := List.forall_mem_cons.2 ⟨h, t⟩
section
variable {P : Program} {w : World} {K : PySem.W.Frag}
end
end L2
set_option maxRecDepth 100000
set_option maxHeartbeats 4000000
namespace L2
open PySem PySem.Spec PyProof.Rows
section
variable {P : Program} {w : World} {K : PySem.W.Frag} {mg : Str → Option Value} {base : Heap} {k : Nat}
open PySem.W in
theorem ext_of {x : Str} {C : Addr} (X : K.In base) (G : base.Ns mainGlobals mg) (e : nsIn K mainGlobals x = some (some (.ref C))) (q : excIn K C [.type "ValueError", .type "Exception", .type "BaseException", .type "object"] "ValueError.__new__" = true) : ExT mg base (x, C) := by
  refine ⟨_, _, _, _, ⟨mg_of X G e, ?_⟩, PySem.F.excBase_ValueError⟩
  unfold excIn at q
  split at q
  · rename_i dd cd sl ho
    split at q
    · rename_i C' bm k0 k1 k2 k3 n k5 hm hs
      simp only [Bool.and_eq_true, beq_iff_eq, Bool.not_eq_true'] at q
      obtain ⟨⟨⟨⟨⟨rfl, rfl⟩, hdel⟩, ht⟩, hok⟩, hni⟩ := q
      obtain ⟨nm, bs, mro, ns, qn, hd, sn, sub, ab, col, del⟩ := cd
      dsimp only at hm hdel hok hni
      subst hm hdel
      obtain ⟨sl⟩ := sl
      have hs' : sl = _ := hs
      subst hs'
      exact ⟨bm, ns, nm, qn, bs, hd, sn, sub, ab, col, dd, k0, k1, k2, k3, k5, _, X _ _ ho, .of_isNs (isNs_of_in X hok), nsMap_none_of_in X hok hni, tail_of_in X ht⟩
    · cases q
  · cases q
end
namespace B
theorem kits_of {K : PySem.W.Frag} {D ink c0 c1 c2 c3 c4 c5 c6 c7 c8 c9 c10 c11 c12 : Addr} {b0 b1 b2 b3 b4 b5 b6 b7 b8 b9 b10 b11 b12 : Bool} {j : Nat} (h : ExcCls K D) (hi : PySem.W.kitOne K (.ref D) (.ref ink) = some true) (hv : PySem.W.kitOne K (.ref D) (.type "ValueError") = some true)
    (k0 : PySem.W.kitOne K (.ref D) (.ref c0) = some b0) (k1 : PySem.W.kitOne K (.ref D) (.ref c1) = some b1) (k2 : PySem.W.kitOne K (.ref D) (.ref c2) = some b2) (k3 : PySem.W.kitOne K (.ref D) (.ref c3) = some b3) (k4 : PySem.W.kitOne K (.ref D) (.ref c4) = some b4)
    (k5 : PySem.W.kitOne K (.ref D) (.ref c5) = some b5) (k6 : PySem.W.kitOne K (.ref D) (.ref c6) = some b6) (k7 : PySem.W.kitOne K (.ref D) (.ref c7) = some b7) (k8 : PySem.W.kitOne K (.ref D) (.ref c8) = some b8) (k9 : PySem.W.kitOne K (.ref D) (.ref c9) = some b9)
    (k10 : PySem.W.kitOne K (.ref D) (.ref c10) = some b10) (k11 : PySem.W.kitOne K (.ref D) (.ref c11) = some b11) (k12 : PySem.W.kitOne K (.ref D) (.ref c12) = some b12)
    (e : [b0, b1, b2, b3, b4, b5, b6, b7, b8, b9, b10, b11, b12] = (List.range 13).map fun i => decide (i = j) := by decide) : Kits K [c0, c1, c2, c3, c4, c5, c6, c7, c8, c9, c10, c11, c12] ink D j := by
  refine ⟨h, fun i c hc => ?_, hi, hv⟩
  have hi' : i < 13 := (List.getElem?_eq_some_iff.mp hc).1
  have eb := congrArg (fun l => l[i]?) e
  match i, hi' with
  | 0, _ => cases hc; have eb : some b0 = some (decide (0 = j)) := eb; rw [k0, eb]
  | 1, _ => cases hc; have eb : some b1 = some (decide (1 = j)) := eb; rw [k1, eb]
  | 2, _ => cases hc; have eb : some b2 = some (decide (2 = j)) := eb; rw [k2, eb]
  | 3, _ => cases hc; have eb : some b3 = some (decide (3 = j)) := eb; rw [k3, eb]
  | 4, _ => cases hc; have eb : some b4 = some (decide (4 = j)) := eb; rw [k4, eb]
  | 5, _ => cases hc; have eb : some b5 = some (decide (5 = j)) := eb; rw [k5, eb]
  | 6, _ => cases hc; have eb : some b6 = some (decide (6 = j)) := eb; rw [k6, eb]
  | 7, _ => cases hc; have eb : some b7 = some (decide (7 = j)) := eb; rw [k7, eb]
  | 8, _ => cases hc; have eb : some b8 = some (decide (8 = j)) := eb; rw [k8, eb]
  | 9, _ => cases hc; have eb : some b9 = some (decide (9 = j)) := eb; rw [k9, eb]
  | 10, _ => cases hc; have eb : some b10 = some (decide (10 = j)) := eb; rw [k10, eb]
  | 11, _ => cases hc; have eb : some b11 = some (decide (11 = j)) := eb; rw [k11, eb]
  | 12, _ => cases hc; have eb : some b12 = some (decide (12 = j)) := eb; rw [k12, eb]
end B
end L2
namespace L2.B
/-! ### changes sign by sign -/
/-! ### one and then the other -/
/-! ### what the form says -/
/-! ### texts and changes -/
/-! ### past one another -/
end L2.B
set_option maxRecDepth 100000
set_option maxHeartbeats 4000000
namespace L2.B
open PySem PySem.Spec PyProof.Rows
/-! ### parts, sign by sign -/
/-! ### made neat -/
/-! ### a neat change is known by its form -/
end L2.B
set_option maxRecDepth 100000
namespace L2.B
open PySem PySem.Spec PyProof.Rows
/-! ### Walk_init -/
/-! ### Walk_word -/
/-! ### Walk_left -/
/-! ### Walk_take -/
/-! ### put_first -/
/-! ### share -/
/-! ### passed -/
/-! ### cut_behind -/
/-! ### parts_behind -/
/-! ### then -/
end L2.B
set_option maxRecDepth 100000
set_option maxHeartbeats 4000000
namespace L2.B
open PySem PySem.Spec PyProof.Rows
/-! ### parts cut in two -/
/-! ### a walk -/
end L2.B
namespace L2.B
end L2.B
set_option maxRecDepth 100000
set_option maxHeartbeats 4000000
namespace L2
open PySem PySem.Spec PyProof.Rows
section
variable {Γ : RCx} {D : Ends} {σ : St} {H : Hp} {r : List RS} {Q : VK} {QA : List V → Hp → Prop} {QT : Bool → Hp → Prop}
theorem r_meth0 {j : Nat} {m : Str} {o : RE} (C : Addr) (sp : Sp) (hm : Γ.ms j = (C, sp)) (h : rdE Γ o σ H fun x H1 => ∃ a dx fs, x = .ref a ∧ H1 a = some (.ins C dx fs) ∧ fs.lookup m = none ∧ sp [x] H1 Q Γ.E) : rdE Γ (.meth j m o []) σ H Q := by
  show tMeth (Γ.ms j).1 m (Γ.ms j).2 [] Γ.E (rdE Γ o) (rdA Γ []) σ H Q
  rw [hm]; exact h
theorem r_whl {c : RE} {body : List RS} (W : Nat → St → Hp → Prop) (h0 : ∃ m, W m σ H)
    (h : ∀ m σ H, W m σ H → rdT Γ c σ H fun b H1 => if b = true then ∃ N : St → Hp → Prop, (∀ σ' H', N σ' H' → ∃ m', m' < m ∧ W m' σ' H') ∧ rdSs Γ body { { D with nx := rdSs Γ r D } with nx := N, ct := N, bk := rdSs Γ r D } σ H1 else rdSs Γ r D σ H1) : rdSs Γ (.whl c body :: r) D σ H := ⟨W, h0, h⟩
theorem r_ite {c : RE} {t e : List RS} (h : rdT Γ c σ H fun b H1 => if b = true then rdSs Γ t { D with nx := rdSs Γ r D } σ H1 else rdSs Γ e { D with nx := rdSs Γ r D } σ H1) : rdSs Γ (.ite c t e :: r) D σ H := h
theorem r_cmpT {op : CmpOp} {a b : RE} (h : rdE Γ a σ H fun x H1 => rdE Γ b σ H1 fun y H2 => rCmp Γ.K op x y H2 fun z H3 => ∃ k, z = .bl k ∧ QT k H3) : rdT Γ (.cmp op a b) σ H QT := h
theorem r_mth1 {m : Mth} {o a : RE} (h : rdE Γ o σ H fun x H1 => tyV Γ.K (mthTy m) x H1 ∧ rdE Γ a σ H1 fun y H2 => rMth Γ.K m x [y] H2 Q) : rdE Γ (.mth m o [a]) σ H Q := h
theorem ce_str {K : PySem.W.Frag} {x y : Str} {Q : VK} (q : Q (.bl (x == y)) H) : rCmp K .Eq (.str x) (.str y) H Q := by
  show Q (.bl (false ^^ decide (V.str x = V.str y))) H
  rw [Bool.false_xor, dec_str]; exact q
theorem cn_str {K : PySem.W.Frag} {x y : Str} {Q : VK} (q : Q (.bl (x != y)) H) : rCmp K .NotEq (.str x) (.str y) H Q := by
  show Q (.bl (true ^^ decide (V.str x = V.str y))) H
  rw [Bool.true_xor, dec_str]; exact q
end
end L2
namespace L2.B
open PySem PySem.Spec PyProof.Rows
/-! ### cut_behind -/
end L2.B
set_option maxRecDepth 100000
set_option maxHeartbeats 4000000
namespace L2.B
open PySem PySem.Spec PyProof.Rows
/-! ### places and sides that are none -/
def NotPl (v : V) (lo hi : Int) (H : Hp) : Prop := NotWh v H ∨ ∃ i, v = .int i ∧ (i < lo ∨ hi < i)
def spBetweenX : Sp := fun vs H Q E => ∃ (v : V) (lo hi : Int), vs = [v, .int lo, .int hi] ∧ ((∃ i, v = .int i ∧ lo ≤ i ∧ i ≤ hi ∧ Q (.bl true) H) ∨ (NotPl v lo hi H ∧ Q (.bl false) H))
theorem rd_betweenX {K : PySem.W.Frag} (vs : List V) (H : Hp) (Q : VK) (E : XK) (h : spBetweenX vs H Q E) : rdSs (rcx K [("is_whole", spWholeX)] [] (E := E)) b_is_between (Dn Q) (start N_is_between vs) H := by
  have chain : ∀ (i lo hi : Int) (b : Bool) (H : Hp), decide (lo ≤ i ∧ i ≤ hi) = b → Q (.bl b) H → rdE (rcx K [("is_whole", spWholeX)] [] (E := E)) (.cmp2 .LtE .LtE (.v 1) (.v 0) (.v 2)) [some (.int i), some (.int lo), some (.int hi)] H Q := by
    intro i lo hi b H hb q
    refine ⟨_, rfl, _, rfl, trivial, _, rfl, ?_⟩
    refine ite2 (fun h1 => ?_) (fun h1 => ?_)
    · refine ⟨_, rfl, trivial, ?_⟩
      have h1' : lo ≤ i := of_decide_eq_true h1
      have e : decide (i ≤ hi) = b := by rw [← hb]; simp [h1']
      show Q (.bl (decide (i ≤ hi))) H
      rw [e]; exact q
    · have h1' : ¬ lo ≤ i := fun z => h1 (decide_eq_true z)
      have e : b = false := by rw [← hb]; simp [h1']
      have e2 : decide (lo ≤ i) = false := decide_eq_false h1'
      rw [e] at q
      first
        | exact q
        | (show Q (.bl (decide (lo ≤ i))) H; rw [e2]; exact q)
  obtain ⟨v, lo, hi, rfl, ⟨i, rfl, h1, h2, q⟩ | ⟨hn | ⟨i, rfl, hb⟩, q⟩⟩ := h
  · exact ⟨_, rfl, _, rfl, .inl ⟨i, rfl, _, rfl, iteT (chain i lo hi true H (by simp [h1, h2]) q)⟩⟩
  · exact ⟨_, rfl, _, rfl, .inr ⟨hn, _, rfl, iteF q⟩⟩
  · exact ⟨_, rfl, _, rfl, .inl ⟨i, rfl, _, rfl, iteT (chain i lo hi false H (by rw [decide_eq_false]; rintro ⟨a, b⟩; omega) q)⟩⟩
/-! ### tracks and moves refused -/
end L2.B
set_option maxRecDepth 100000
set_option maxHeartbeats 4000000
namespace L2.B
open PySem PySem.Spec PyProof.Rows
/-! ### a stock -/
def sflds (lt lb lf : Addr) (n : Int) : List (Str × V) := [("texts", .ref lt), ("begins", .ref lb), ("feeds", .ref lf), ("signs", .int n)]
theorem sf_texts {lt lb lf : Addr} {n : Int} : (sflds lt lb lf n).lookup ("texts" : Str) = some (V.ref lt) := lk_eq
theorem sf_begins {lt lb lf : Addr} {n : Int} : (sflds lt lb lf n).lookup ("begins" : Str) = some (V.ref lb) := (lk_ne (by decide +kernel)).trans lk_eq
theorem sf_feeds {lt lb lf : Addr} {n : Int} : (sflds lt lb lf n).lookup ("feeds" : Str) = some (V.ref lf) := (lk_ne (by decide +kernel)).trans ((lk_ne (by decide +kernel)).trans lk_eq)
theorem sf_signs {lt lb lf : Addr} {n : Int} : (sflds lt lb lf n).lookup ("signs" : Str) = some (V.int n) := (lk_ne (by decide +kernel)).trans ((lk_ne (by decide +kernel)).trans ((lk_ne (by decide +kernel)).trans lk_eq))
theorem sf_no {lt lb lf : Addr} {n : Int} {m : Str} (h1 : ¬ m = "texts") (h2 : ¬ m = "begins") (h3 : ¬ m = "feeds") (h4 : ¬ m = "signs") : (sflds lt lb lf n).lookup m = none :=
  (lk_ne h1).trans ((lk_ne h2).trans ((lk_ne h3).trans ((lk_ne h4).trans rfl)))
theorem sf_put {lt lb lf : Addr} {n k : Int} : putF "signs" (.int k) (sflds lt lb lf n) = sflds lt lb lf k := by
  unfold sflds
  rw [pf_ne (by decide +kernel), pf_ne (by decide +kernel), pf_ne (by decide +kernel), pf_eq]
theorem sf_init {lt lb lf : Addr} {n : Int} : putF "signs" (.int n) (putF "feeds" (.ref lf) (putF "begins" (.ref lb) (putF "texts" (.ref lt) []))) = sflds lt lb lf n := by
  have e1 : putF "texts" (V.ref lt) [] = [(("texts" : Str), V.ref lt)] := rfl
  have e2 : putF "begins" (V.ref lb) [] = [(("begins" : Str), V.ref lb)] := rfl
  have e3 : putF "feeds" (V.ref lf) [] = [(("feeds" : Str), V.ref lf)] := rfl
  unfold sflds
  rw [e1, pf_ne (by decide +kernel), e2, pf_ne (by decide +kernel), pf_ne (by decide +kernel), pf_ne (by decide +kernel), e3, pf_ne (by decide +kernel), pf_ne (by decide +kernel)]
  rfl
/-- all signs of a stock -/
def sgs (ts : List Str) : List Nat := (ts.map fun t => t.cps.toList).flatten
theorem sgs_app (a b : List Str) : sgs (a ++ b) = sgs a ++ sgs b := by simp [sgs]
theorem sgs_one (t : Str) : sgs [t] = t.cps.toList := by simp [sgs]
/-- where each text begins -/
def begs : List Str → Nat → List Int
  | [], _ => []
  | t :: r, k => (k : Int) :: begs r (k + t.length)
theorem begs_app : ∀ (a b : List Str) (k : Nat), begs (a ++ b) k = begs a k ++ begs b (k + (sgs a).length)
  | [], b, k => by simp [begs, sgs]
  | t :: a, b, k => by
    have ih := begs_app a b (k + t.length)
    have e : k + t.length + (sgs a).length = k + (sgs (t :: a)).length := by
      simp [sgs, Str.length]; omega
    rw [e] at ih
    simp only [List.cons_append, begs, ih]
structure StAt (C : Addr) (H : Hp) (p dx lt lb lf : Addr) (ts : List Str) : Prop where
  ob : H p = some (.ins C dx (sflds lt lb lf (sgs ts).length))
  tx : H lt = some (.lst (ts.map V.str))
  bg : H lb = some (.lst ((begs ts 0).map V.int))
  fd : H lf = some (.lst ((posI 10 (sgs ts)).map V.int))
  n1 : lt ≠ lb
  n2 : lt ≠ lf
  n3 : lb ≠ lf
/-- all but a stock -/
def ButS (p lt lb lf : Addr) (H H' : Hp) : Prop := ∀ b o, H b = some o → b ≠ p → b ≠ lt → b ≠ lb → b ≠ lf → H' b = some o
theorem StAt.same {C : Addr} {H H' : Hp} {p dx lt lb lf : Addr} {ts : List Str} (S : StAt C H p dx lt lb lf ts) (s : Same H H') : StAt C H' p dx lt lb lf ts :=
  ⟨s _ _ S.ob, s _ _ S.tx, s _ _ S.bg, s _ _ S.fd, S.n1, S.n2, S.n3⟩
def spStInit (C : Addr) : Sp := fun vs H Q E => ∃ (p dx : Addr), vs = [.ref p] ∧ H p = some (.ins C dx []) ∧ ∀ (lt lb lf : Addr) (H' : Hp), StAt C H' p dx lt lb lf [] → H lt = none → H lb = none → H lf = none → (∀ b o, H b = some o → b ≠ p → H' b = some o) → Q .non H'
theorem rd_StInit {K : PySem.W.Frag} {C : Addr} (T : Tx_Stock K C) (vs : List V) (H : Hp) (Q : VK) (E : XK) (h : spStInit C vs H Q E) : rdSs (rcx K [] [] (E := E)) b_Stock_init { nx := fun _ H' => Q .non H', rt := Q } (start N_Stock_init vs) H := by
  obtain ⟨p, dx, rfl, hp, k⟩ := h
  refine ⟨Nat.zero_le _, fun lt f1 => ?_⟩
  have np1 : p ≠ lt := ne_of_none hp f1
  refine ⟨_, rfl, p, C, dx, [], rfl, (by rw [upd_ne np1]; exact hp), T.cl, T.n_texts, (by show 0 < 1000; decide), ?_⟩
  refine ⟨Nat.zero_le _, fun lb f2 => ?_⟩
  have np2 : p ≠ lb := fun z => by rw [← z, upd_same] at f2; cases f2
  have n12 : lt ≠ lb := fun z => by rw [← z, upd_ne np1.symm, upd_same] at f2; cases f2
  refine ⟨_, rfl, p, C, dx, _, rfl, (by rw [upd_ne np2, upd_same]), T.cl, T.n_begins, (by show 1 < 1000; decide), ?_⟩
  refine ⟨Nat.zero_le _, fun lf f3 => ?_⟩
  have np3 : p ≠ lf := fun z => by rw [← z, upd_same] at f3; cases f3
  have n23 : lb ≠ lf := fun z => by rw [← z, upd_ne np2.symm, upd_same] at f3; cases f3
  have n13 : lt ≠ lf := fun z => by rw [← z, upd_ne np1.symm, upd_ne n12, upd_ne np1.symm, upd_same] at f3; cases f3
  refine ⟨_, rfl, p, C, dx, _, rfl, (by rw [upd_ne np3, upd_same]), T.cl, T.n_feeds, (by show 2 < 1000; decide), ?_⟩
  refine ⟨_, rfl, p, C, dx, _, rfl, upd_same, T.cl, T.n_signs, (by show 3 < 1000; decide), ?_⟩
  have fb : H lb = none := by
    rw [upd_ne np2.symm, upd_ne n12.symm] at f2; exact f2
  have ff : H lf = none := by
    rw [upd_ne np3.symm, upd_ne n23.symm, upd_ne np3.symm, upd_ne n13.symm] at f3; exact f3
  refine k lt lb lf _ ⟨?_, ?_, ?_, ?_, n12, n13, n23⟩ f1 fb ff fun b o e nb => ?_
  · rw [upd_same]
    exact congrArg (fun l => some (HO.ins C dx l)) sf_init
  · rw [upd_ne np1.symm, upd_ne np1.symm, upd_ne n13, upd_ne np1.symm, upd_ne n12, upd_ne np1.symm, upd_same]; rfl
  · rw [upd_ne np2.symm, upd_ne np2.symm, upd_ne n23, upd_ne np2.symm, upd_same]; rfl
  · rw [upd_ne np3.symm, upd_ne np3.symm, upd_same]; rfl
  · rw [upd_ne nb, upd_ne nb, upd_ne (ne_of_none e ff), upd_ne nb, upd_ne (ne_of_none e fb), upd_ne nb, upd_ne (ne_of_none e f1)]; exact e
def spStMany (C : Addr) : Sp := fun vs H Q E => ∃ (p dx lt lb lf : Addr) (ts : List Str), vs = [.ref p] ∧ StAt C H p dx lt lb lf ts ∧ Q (.int (sgs ts).length) H
theorem rd_StMany {K : PySem.W.Frag} {C : Addr} (T : Tx_Stock K C) (vs : List V) (H : Hp) (Q : VK) (E : XK) (h : spStMany C vs H Q E) : rdSs (rcx K [] [] (E := E)) b_Stock_many { nx := fun _ H' => Q .non H', rt := Q } (start N_Stock_many vs) H := by
  obtain ⟨p, dx, lt, lb, lf, ts, rfl, S, q⟩ := h
  exact ⟨_, rfl, p, C, dx, _, _, rfl, S.ob, T.cl, T.n_signs, sf_signs, q⟩
theorem nl_eq : (Str.ofString "\n") = ⟨#[10]⟩ := by rfl
/-! ### put -/
def hd1 (l : List Nat) : Int := match l with | i :: _ => (i : Int) | [] => -1
theorem occ_hd (x : Str) (lo : Nat) (hl : lo ≤ x.length) : (match Builtin.Str.occurrences x (Str.ofString "\n") lo x.length 1 with | i :: _ => (i : Int) | [] => -1) = hd1 (pos 10 (x.cps.toList.drop lo) lo) := by
  rw [nl_eq, occ_pos x 10 lo 1 hl]
  cases pos 10 (x.cps.toList.drop lo) lo <;> rfl
def spPut (CT C : Addr) : Sp := fun vs H Q E => ∃ (p dx lt lb lf : Addr) (ts : List Str) (v : V), vs = [.ref p, v] ∧ StAt C H p dx lt lb lf ts ∧ ((BadT v H ∧ E (.ref CT) none H) ∨ ∃ x, v = .str x ∧ good x ∧ ts.length ≤ 100000 ∧ (sgs ts).length ≤ 1000000 ∧
  ∀ H', ButS p lt lb lf H H' → StAt C H' p dx lt lb lf (ts ++ [x]) → Q (.int (sgs ts).length) H')
theorem begs_len : ∀ (ts : List Str) (k : Nat), (begs ts k).length = ts.length
  | [], _ => rfl
  | t :: r, k => by simp [begs, begs_len r]
theorem pos_le (c : Nat) (a : List Nat) (k : Nat) : (pos c a k).length ≤ a.length := by
  rw [pos_len]; exact List.count_le_length
theorem rd_StPut {K : PySem.W.Frag} {CT C : Addr} (T : Tx_Stock K C) (vs : List V) (H : Hp) (Q : VK) (E : XK) (h : spPut CT C vs H Q E) : rdSs (rcx K [("need_text", spNeedTX CT)] [] (E := E)) b_Stock_put { nx := fun _ H' => Q .non H', rt := Q } (start N_Stock_put vs) H := by
  obtain ⟨p, dx, lt, lb, lf, ts, v, rfl, S, ⟨hb, q⟩ | ⟨x, rfl, hx, ht, hs, k⟩⟩ := h
  · exact ⟨_, rfl, _, rfl, .inr ⟨hb, q⟩⟩
  have npt : p ≠ lt := ne_of S.ob S.tx (by intro z; cases z)
  have npb : p ≠ lb := ne_of S.ob S.bg (by intro z; cases z)
  have npf : p ≠ lf := ne_of S.ob S.fd (by intro z; cases z)
  refine ⟨_, rfl, _, rfl, .inl ⟨x, rfl, hx, ?_⟩⟩
  refine ⟨_, rfl, p, C, dx, _, _, rfl, S.ob, T.cl, T.n_signs, sf_signs, ?_⟩
  refine ⟨_, rfl, p, C, dx, _, _, rfl, S.ob, T.cl, T.n_texts, sf_texts, .inl ⟨rfl, _, SqL.of S.tx⟩, _, rfl, _, S.tx, lt_line (by simp; omega), ?_⟩
  have o1 : upd H lt (.lst (ts.map V.str ++ [V.str x])) p = some (.ins C dx (sflds lt lb lf (sgs ts).length)) := by rw [upd_ne npt]; exact S.ob
  have o2 : upd H lt (.lst (ts.map V.str ++ [V.str x])) lb = some (.lst ((begs ts 0).map V.int)) := by rw [upd_ne S.n1.symm]; exact S.bg
  refine ⟨_, rfl, p, C, dx, _, _, rfl, o1, T.cl, T.n_begins, sf_begins, .inl ⟨rfl, _, SqL.of o2⟩, _, rfl, _, o2, lt_line (by rw [List.length_map, begs_len]; omega), ?_⟩
  refine ⟨_, rfl, _, rfl, le_line hx.1, _, rfl, p, C, dx, _, rfl, (by rw [upd_ne npb]; exact o1), T.cl, T.n_signs, (by show 4 < 1000; decide), ?_⟩
  generalize hH3 : upd (upd (upd H lt (.lst (ts.map V.str ++ [V.str x]))) lb (.lst ((begs ts 0).map V.int ++ [V.int ((sgs ts).length : Int)]))) p (.ins C dx (putF "signs" (.int (((sgs ts).length : Int) + (x.length : Int))) (sflds lt lb lf ((sgs ts).length : Int)))) = H3
  have b3 : ButS p lt lb lf H H3 := fun b o e n1 n2 n3 n4 => by
    rw [← hH3, upd_ne n1, upd_ne n3, upd_ne n2]; exact e
  have ob3 : H3 p = some (.ins C dx (sflds lt lb lf (((sgs ts).length : Int) + (x.length : Int)))) := by
    rw [← hH3, upd_same]
    exact congrArg (fun l => some (HO.ins C dx l)) sf_put
  have tx3 : H3 lt = some (.lst (ts.map V.str ++ [V.str x])) := by rw [← hH3, upd_ne npt.symm, upd_ne S.n1, upd_same]
  have bg3 : H3 lb = some (.lst ((begs ts 0).map V.int ++ [V.int ((sgs ts).length : Int)])) := by rw [← hH3, upd_ne npb.symm, upd_same]
  have fd3 : H3 lf = some (.lst ((posI 10 (sgs ts)).map V.int)) := by rw [← hH3, upd_ne npf.symm, upd_ne S.n3.symm, upd_ne S.n2.symm]; exact S.fd
  have hxl := len_list x
  have l0 := pos_le 10 (sgs ts) 0
  have l1 := pos_le 10 x.cps.toList 0
  refine ⟨_, rfl, rfl, ?_⟩
  show rdSs _ _ _ ((start N_Stock_put [V.ref p, V.str x]).set 2 _ |>.set 3 (some (V.int (match Builtin.Str.occurrences x (Str.ofString "\n") 0 x.length 1 with | i :: _ => (i : Int) | [] => -1)))) H3
  rw [occ_hd x 0 (Nat.zero_le _), List.drop_zero]
  refine ⟨fun m σ H' => ∃ (done rest : List Nat), m = rest.length ∧ pos 10 x.cps.toList 0 = done ++ rest ∧ σ = [some (.ref p), some (.str x), some (.int ((sgs ts).length : Int)), some (.int (hd1 rest))] ∧ But lf H3 H' ∧ H' lf = some (.lst ((posI 10 (sgs ts) ++ done.map fun (i : Nat) => ((sgs ts).length : Int) + (i : Int)).map V.int)),
    ⟨_, [], pos 10 x.cps.toList 0, rfl, rfl, rfl, fun b o e _ => e, by rw [List.map_nil, List.append_nil]; exact fd3⟩, ?_⟩
  rintro m σ H' ⟨done, rest, rfl, hd, rfl, b4, f4⟩
  have ob4 := b4 _ _ ob3 npf
  refine ⟨_, rfl, trivial, _, rfl, ?_⟩
  cases rest with
  | nil =>
    refine iF ⟨_, rfl, ?_⟩
    rw [List.append_nil] at hd
    refine k H' (fun b o e n1 n2 n3 n4 => b4 b o (b3 b o e n1 n2 n3 n4) n4) ⟨?_, ?_, ?_, ?_, S.n1, S.n2, S.n3⟩
    · rw [sgs_app, sgs_one, List.length_append, ← hxl, Int.natCast_add]; exact ob4
    · rw [List.map_append]; exact b4 _ _ tx3 S.n2
    · rw [begs_app, List.map_append, Nat.zero_add]; exact b4 _ _ bg3 S.n3
    · rw [sgs_app, sgs_one, posI_app, hd]; exact f4
  | cons i rest =>
    have hi := pos_ge 10 x.cps.toList 0 i (by rw [hd]; simp)
    have hl : done.length + (rest.length + 1) ≤ x.cps.toList.length := by
      have := congrArg List.length hd
      simp at this
      omega
    have hge : decide ((0 : Int) ≤ hd1 (i :: rest)) = true := decide_eq_true (by show (0 : Int) ≤ (i : Int); omega)
    refine iT ?_ hge
    refine ⟨_, fun σ' H'' q => q, ?_⟩
    refine ⟨_, rfl, p, C, dx, _, _, rfl, ob4, T.cl, T.n_feeds, sf_feeds, .inl ⟨rfl, _, SqL.of f4⟩, _, rfl, _, rfl, _, f4, (by have e : sizeLine = 16777216 := rfl; have := hx.1; simp [posI]; omega), ?_⟩
    refine ⟨_, rfl, rfl, _, rfl, ?_⟩
    have e1 : fromIndex x.length (hd1 (i :: rest) + 1) = i + 1 := by
      show fromIndex x.length ((i : Int) + 1) = i + 1
      unfold fromIndex
      rw [if_neg (by omega)]; omega
    have nx := pos_next 10 x.cps.toList 0 i done rest hd
    rw [Nat.sub_zero] at nx
    have e2 := occ_hd x (i + 1) (by omega)
    rw [nx] at e2
    rw [← e1] at e2
    refine ⟨rest.length, Nat.lt_succ_self _, done ++ [i], rest, rfl, by rw [hd]; simp, ?_, b4.trans But.upd, ?_⟩
    · show [_, _, _, some (V.int (match Builtin.Str.occurrences x (Str.ofString "\n") (fromIndex x.length (hd1 (i :: rest) + 1)) x.length 1 with | k :: _ => (k : Int) | [] => -1))] = _
      rw [e2]
    · rw [upd_same]
      simp [hd1]
end L2.B
namespace L2
open PySem PySem.Spec PyProof.Rows
section
variable {Γ : RCx} {D : Ends} {σ : St} {H : Hp} {r : List RS} {Q : VK} {QA : List V → Hp → Prop} {QT : Bool → Hp → Prop}
theorem tru_bl {K : PySem.W.Frag} {b : Bool} {QB : Bool → Prop} (h : QB b) : tru K (.bl b) H QB := h
theorem r_notT {a : RE} (h : rdT Γ a σ H fun b H1 => QT (!b) H1) : rdT Γ (.not a) σ H QT := h
theorem r_callTS {j : Nat} {as : List RE} (sp : Sp) (hs : Γ.fs j = sp) (h : rdA Γ as σ H fun vs H1 => sp vs H1 (fun x H2 => tru Γ.K x H2 fun b => QT b H2) Γ.E) : rdT Γ (.call j as) σ H QT := by
  subst hs
  show rdA Γ as σ H fun vs H1 => Γ.fs j (vs ++ []) H1 (fun x H2 => tru Γ.K x H2 fun b => QT b H2) Γ.E
  have e : (fun (vs : List V) (H1 : Hp) => Γ.fs j (vs ++ []) H1 (fun x H2 => tru Γ.K x H2 fun b => QT b H2) Γ.E) = fun vs H1 => Γ.fs j vs H1 (fun x H2 => tru Γ.K x H2 fun b => QT b H2) Γ.E := by
    funext vs H1; rw [List.append_nil]
  rw [e]; exact h
theorem r_orT {a b : RE} (h : rdT Γ a σ H fun c H1 => if c = true then QT true H1 else rdT Γ b σ H1 QT) : rdT Γ (.or [a, b]) σ H QT := h
end
end L2
set_option maxRecDepth 100000
set_option maxHeartbeats 4000000
namespace L2.B
open PySem PySem.Spec PyProof.Rows
theorem addI' {K : PySem.W.Frag} {H : Hp} {Q : VK} {i j : Int} (h : Q (.int (i + j)) H) : rBin K .Add (.int i) (.int j) H Q := h
theorem c_lt' {K : PySem.W.Frag} {H : Hp} {x y : Int} {Q : VK} (q : Q (.bl (decide (x < y))) H) : rCmp K .Lt (.int x) (.int y) H Q := ⟨trivial, q⟩
theorem cat_snoc' (ps : List Str) (z : Str) : (cat (ps ++ [z])).cps.toList = (cat ps).cps.toList ++ z.cps.toList := by rw [cat_append, cat_one, app_list]
/-! ### read -/
/-- how many signs stand ahead of a text -/
def pre (ts : List Str) (k : Nat) : Nat := (sgs (ts.take k)).length
theorem sgs_cons (t : Str) (r : List Str) : sgs (t :: r) = t.cps.toList ++ sgs r := by simp [sgs]
theorem pre_all {ts : List Str} {k : Nat} (h : ts.length ≤ k) : pre ts k = (sgs ts).length := by unfold pre; rw [List.take_of_length_le h]
theorem sgs_split {ts : List Str} {k : Nat} {t : Str} (h : ts[k]? = some t) : sgs ts = sgs (ts.take k) ++ (t.cps.toList ++ sgs (ts.drop (k + 1))) := by
  obtain ⟨h1, h2⟩ := List.getElem?_eq_some_iff.mp h
  conv => lhs; rw [← List.take_append_drop k ts, List.drop_eq_getElem_cons h1, h2]
  rw [sgs_app, sgs_cons]
theorem pre_succ {ts : List Str} {k : Nat} {t : Str} (h : ts[k]? = some t) : pre ts (k + 1) = pre ts k + t.length := by
  unfold pre
  rw [List.take_add_one, h, sgs_app, List.length_append]
  show _ + (sgs [t]).length = _
  rw [sgs_one, len_list]
theorem pre_le (ts : List Str) (k : Nat) : pre ts k ≤ (sgs ts).length := by
  have e : sgs ts = sgs (ts.take k) ++ sgs (ts.drop k) := by rw [← sgs_app, List.take_append_drop]
  rw [e, List.length_append]; unfold pre; omega
theorem pre_zero (ts : List Str) : pre ts 0 = 0 := rfl
theorem begs_at : ∀ (ts : List Str) (k j : Nat), j < ts.length → (begs ts k)[j]? = some (((k + pre ts j : Nat) : Int))
  | [], k, j, h => by cases h
  | t :: r, k, 0, h => by simp [begs, pre, sgs]
  | t :: r, k, j + 1, h => by
    have ih := begs_at r (k + t.length) j (Nat.lt_of_succ_lt_succ h)
    show (begs r (k + t.length))[j]? = _
    rw [ih]
    have : pre (t :: r) (j + 1) = t.length + pre r j := by
      unfold pre
      rw [List.take_succ_cons, sgs_cons, List.length_append, len_list]
    rw [this]; congr 1; omega
theorem begs_ge : ∀ (ts : List Str) (k : Nat), ∀ x ∈ begs ts k, (k : Int) ≤ x
  | [], k, x, h => by cases h
  | t :: r, k, x, h => by
    rcases List.mem_cons.mp h with rfl | h
    · exact Int.le_refl _
    · have := begs_ge r (k + t.length) x h
      omega
theorem begs_rise : ∀ (ts : List Str) (k : Nat), Rise (begs ts k)
  | [], k => List.Pairwise.nil
  | t :: r, k => List.Pairwise.cons (fun x hx => by have := begs_ge r (k + t.length) x hx; omega) (begs_rise r (k + t.length))
/-- the text in which a place lies -/
theorem upto_in {ts : List Str} {b : Nat} (h : b < (sgs ts).length) : ∃ k, cntT (begs ts 0) (b : Int) = k + 1 ∧ k < ts.length ∧ pre ts k ≤ b ∧ b ≤ pre ts (k + 1) := by
  have hl := begs_len ts 0
  have hc := cntT_le (begs ts 0) (b : Int)
  have hr := begs_rise ts 0
  have hpos : 0 < ts.length := by
    cases ts with
    | nil => simp [sgs] at h
    | cons t r => exact Nat.zero_lt_succ _
  have h0 := cntT_lo (most := (b : Int)) hr (begs_at ts 0 0 hpos) (by rw [pre_zero]; omega)
  obtain ⟨k, hk⟩ : ∃ k, cntT (begs ts 0) (b : Int) = k + 1 := ⟨cntT (begs ts 0) (b : Int) - 1, by omega⟩
  have hkl : k < ts.length := by omega
  refine ⟨k, hk, hkl, ?_, ?_⟩
  · by_cases q : pre ts k ≤ b
    · exact q
    · have := cntT_hi (most := (b : Int)) hr (begs_at ts 0 k hkl) (by omega)
      omega
  · by_cases q : k + 1 < ts.length
    · by_cases z : b ≤ pre ts (k + 1)
      · exact z
      · have := cntT_lo (most := (b : Int)) hr (begs_at ts 0 (k + 1) q) (by omega)
        omega
    · rw [pre_all (by omega)]; omega
/-- a piece of a text is a piece of all -/
theorem piece {ts : List Str} {k c m : Nat} {t : Str} (h : ts[k]? = some t) (h1 : pre ts k ≤ c) (h2 : c ≤ pre ts (k + 1)) : (t.cps.toList.drop (c - pre ts k)).take m = ((sgs ts).drop c).take (min m (pre ts (k + 1) - c)) := by
  rw [sgs_split h]
  have hp := pre_succ h
  have lt := len_list t
  have e : (sgs (ts.take k) ++ (t.cps.toList ++ sgs (ts.drop (k + 1)))).drop c = t.cps.toList.drop (c - pre ts k) ++ sgs (ts.drop (k + 1)) := by
    rw [List.drop_append, List.drop_of_length_le (show (sgs (ts.take k)).length ≤ c from h1), List.nil_append]
    show (t.cps.toList ++ _).drop (c - pre ts k) = _
    rw [List.drop_append_of_le_length (by omega)]
  rw [e]
  have hl : (t.cps.toList.drop (c - pre ts k)).length = pre ts (k + 1) - c := by rw [List.length_drop]; omega
  rw [List.take_append_of_le_length (by rw [hl]; omega), ← hl, ← List.take_take, List.take_length]
theorem take_grow {l : List Nat} (b c m : Nat) (h : b ≤ c) : (l.drop b).take (c - b) ++ (l.drop c).take m = (l.drop b).take (c + m - b) := by
  rw [show c + m - b = (c - b) + m by omega, List.take_add, List.drop_drop, show b + (c - b) = c by omega]
def BadRd (vb vn : V) (n : Nat) (H : Hp) : Prop := NotPl vb 0 (n : Int) H ∨ ∃ b : Int, vb = .int b ∧ 0 ≤ b ∧ b ≤ (n : Int) ∧ NotPl vn 0 ((n : Int) - b) H
def spRead (CP C : Addr) : Sp := fun vs H Q E => ∃ (p dx lt lb lf : Addr) (ts : List Str) (vb vn : V), vs = [.ref p, vb, vn] ∧ StAt C H p dx lt lb lf ts ∧ ((BadRd vb vn (sgs ts).length H ∧ E (.ref CP) none H) ∨
  ∃ b n : Nat, vb = .int (b : Nat) ∧ vn = .int (n : Nat) ∧ b + n ≤ (sgs ts).length ∧ ts.length ≤ 100000 ∧ (sgs ts).length ≤ 1000000 ∧ (∀ t ∈ ts, t.length ≤ 1000000) ∧ ∀ H', Same H H' → Q (.str ⟨(((sgs ts).drop b).take n).toArray⟩) H')
abbrev tRead : List (Str × Sp) := [("is_between", spBetweenX), ("many_upto", spUpto)]
theorem rd_StRead {K : PySem.W.Frag} {CP C : Addr} (T : Tx_Stock K C) (vs : List V) (H : Hp) (Q : VK) (E : XK) (h : spRead CP C vs H Q E) : rdSs (rcx K tRead [] (et := [("NoPlace", CP)]) (E := E)) b_Stock_read (Dn Q) (start N_Stock_read vs) H := by
  obtain ⟨p, dx, lt, lb, lf, ts, vb, vn, rfl, S, h⟩ := h
  have fs : ∀ {H1 : Hp} {σ : St} {Q' : VK}, Same H H1 → σ[0]? = some (some (.ref p)) → Q' (.int (sgs ts).length) H1 → rdE (rcx K tRead [] (et := [("NoPlace", CP)]) (E := E)) (.fld (.v 0) "signs") σ H1 Q' := fun s e q => ⟨_, e, p, C, dx, _, _, rfl, s _ _ S.ob, T.cl, T.n_signs, sf_signs, q⟩
  have fb : ∀ {H1 : Hp} {σ : St} {Q' : VK}, Same H H1 → σ[0]? = some (some (.ref p)) → Q' (.ref lb) H1 → rdE (rcx K tRead [] (et := [("NoPlace", CP)]) (E := E)) (.fld (.v 0) "begins") σ H1 Q' := fun s e q => ⟨_, e, p, C, dx, _, _, rfl, s _ _ S.ob, T.cl, T.n_begins, sf_begins, q⟩
  have ft : ∀ {H1 : Hp} {σ : St} {Q' : VK}, Same H H1 → σ[0]? = some (some (.ref p)) → Q' (.ref lt) H1 → rdE (rcx K tRead [] (et := [("NoPlace", CP)]) (E := E)) (.fld (.v 0) "texts") σ H1 Q' := fun s e q => ⟨_, e, p, C, dx, _, _, rfl, s _ _ S.ob, T.cl, T.n_texts, sf_texts, q⟩
  have rz := Same.refl H
  rcases h with ⟨hb | ⟨b, rfl, h1, h2, hb⟩, q⟩ | ⟨b, n, rfl, rfl, hbn, htl, hsl, hts, q⟩
  · refine r_ite (r_orT (r_notT (r_callTS spBetweenX rfl (r_cons (r_v rfl (r_cons (r_c (r_cons (fs rz rfl (r_nil ⟨_, _, _, rfl, .inr ⟨hb, tru_bl (iT (iT ?_ rfl) rfl)⟩⟩))))))))))
    exact ⟨(by show 1 ≤ sizeLine; decide), q⟩
  · refine r_ite (r_orT (r_notT (r_callTS spBetweenX rfl (r_cons (r_v rfl (r_cons (r_c (r_cons (fs rz rfl (r_nil ⟨_, _, _, rfl, .inl ⟨b, rfl, h1, h2, tru_bl (iF ?_ rfl)⟩⟩))))))))))
    refine r_notT (r_callTS spBetweenX rfl (r_cons (r_v rfl (r_cons (r_c (r_cons (r_bin (fs rz rfl (r_v rfl ⟨trivial, r_nil ⟨_, _, _, rfl, .inr ⟨hb, tru_bl (iT ?_ rfl)⟩⟩⟩)))))))))
    exact ⟨(by show 1 ≤ sizeLine; decide), q⟩
  · refine r_ite (r_orT (r_notT (r_callTS spBetweenX rfl (r_cons (r_v rfl (r_cons (r_c (r_cons (fs rz rfl (r_nil ⟨_, _, _, rfl, .inl ⟨_, rfl, by omega, by omega, tru_bl (iF ?_ rfl)⟩⟩))))))))))
    refine r_notT (r_callTS spBetweenX rfl (r_cons (r_v rfl (r_cons (r_c (r_cons (r_bin (fs rz rfl (r_v rfl ⟨trivial, r_nil ⟨_, _, _, rfl, .inl ⟨_, rfl, by omega, by omega, tru_bl (iF ?_ rfl)⟩⟩⟩)))))))))
    refine r_asg (r_lst (r_nil ⟨Nat.zero_le _, fun d hd => ?_⟩))
    have s1 := sameNew (o := .lst []) hd
    refine r_asg (r_bin (r_callS spUpto rfl (r_cons (fb s1 rfl (r_cons (r_v rfl (r_nil ⟨lb, begs ts 0, _, rfl, s1 _ _ S.bg, begs_rise ts 0, r_c ⟨trivial, ?_⟩⟩)))))))
    refine r_asg (r_bin (r_v rfl (r_v rfl (addI' ?_))))
    have hd1 : upd H d (.lst []) d = some (.lst (([] : List Str).map V.str)) := upd_same
    refine r_whl (fun m σ H2 => ∃ (c : Nat) (k : Int) (ps : List Str) (u6 u7 : Option V), m = ts.length + 1 - k.toNat ∧ σ = [some (.ref p), some (.int (c : Nat)), some (.int (n : Nat)), some (.ref d), some (.int k), some (.int ((b : Int) + (n : Int))), u6, u7] ∧ But d H H2 ∧ H2 d = some (.lst (ps.map V.str)) ∧ b ≤ c ∧ c ≤ b + n ∧ (cat ps).cps.toList = ((sgs ts).drop b).take (c - b) ∧ ps.length ≤ k.toNat + 1 ∧
        (c < b + n → ∃ j : Nat, k = (j : Int) ∧ j < ts.length ∧ pre ts j ≤ c ∧ c ≤ pre ts (j + 1)))
      ⟨_, b, ((cntT (begs ts 0) (b : Int) : Nat) : Int) - 1, [], none, none, rfl, rfl, fun x o e nx => by rw [upd_ne nx]; exact e, hd1, Nat.le_refl _, by omega, by rw [cat_nil, Nat.sub_self, List.take_zero]; rfl, Nat.zero_le _, fun hlt => ?_⟩ ?_
    · obtain ⟨j, e, h1, h2, h3⟩ := upto_in (ts := ts) (b := b) (by omega)
      exact ⟨j, by omega, h1, h2, h3⟩
    rintro m σ H2 ⟨c, k, ps, u6, u7, rfl, rfl, b2, hd2, hbc, hcn, hps, hpl, hin⟩
    refine r_cmpT (r_v rfl (r_v rfl (c_lt' ⟨_, rfl, ?_⟩)))
    refine ite2 (fun hlt => ?_) (fun hlt => ?_)
    · have hlt' : c < b + n := by have := of_decide_eq_true hlt; omega
      obtain ⟨j, rfl, hjl, hj1, hj2⟩ := hin hlt'
      clear hin
      have nd : ∀ {a : Addr} {o : HO}, H a = some o → H2 a = some o := fun {a o} e => b2 a o e (fun z => by rw [z, hd] at e; cases e)
      have tj : ts[j]? = some ts[j] := List.getElem?_eq_getElem hjl
      have fb2 : ∀ {σ : St} {Q' : VK}, σ[0]? = some (some (.ref p)) → Q' (.ref lb) H2 → rdE (rcx K tRead [] (et := [("NoPlace", CP)]) (E := E)) (.fld (.v 0) "begins") σ H2 Q' := fun e q => ⟨_, e, p, C, dx, _, _, rfl, nd S.ob, T.cl, T.n_begins, sf_begins, q⟩
      have ft2 : ∀ {σ : St} {Q' : VK}, σ[0]? = some (some (.ref p)) → Q' (.ref lt) H2 → rdE (rcx K tRead [] (et := [("NoPlace", CP)]) (E := E)) (.fld (.v 0) "texts") σ H2 Q' := fun e q => ⟨_, e, p, C, dx, _, _, rfl, nd S.ob, T.cl, T.n_texts, sf_texts, q⟩
      have ab : atI ((begs ts 0).map V.int) (j : Int) = some (.int (pre ts j : Nat)) := atI_nat (by rw [List.getElem?_map, begs_at ts 0 j hjl, Nat.zero_add]; rfl)
      have at' : atI (ts.map V.str) (j : Int) = some (.str ts[j]) := atI_nat (by rw [List.getElem?_map, tj]; rfl)
      have tle := hts _ (List.getElem_mem hjl)
      refine ⟨_, fun σ' H'' q => q, ?_⟩
      refine r_asg (r_bin (r_v rfl (r_ix (fb2 rfl (r_v rfl (ixl (nd S.bg) ab ⟨trivial, ?_⟩))))))
      refine r_asg ?_
      refine ⟨_, rfl, p, C, dx, _, _, rfl, nd S.ob, T.cl, T.n_texts, sf_texts, _, rfl, ixl (nd S.tx) at' ?_⟩
      refine ⟨_, rfl, _, rfl, _, rfl, _, rfl, _, rfl, trivial, _, rfl, le_line tle, ?_⟩
      have ec : cutS ts[j] (some ((c : Int) - (pre ts j : Nat))) (some ((c : Int) - (pre ts j : Nat) + ((b : Int) + (n : Int)) - (c : Int))) = ⟨((sgs ts).drop c).take (min (b + n - c) (pre ts (j + 1) - c)) |>.toArray⟩ := by
        rw [show (c : Int) - (pre ts j : Nat) = ((c - pre ts j : Nat) : Int) by omega, show ((c - pre ts j : Nat) : Int) + ((b : Int) + (n : Int)) - (c : Int) = ((c - pre ts j : Nat) : Int) + ((b + n - c : Nat) : Int) by omega, cut_take (c - pre ts j) ((b + n - c : Nat) : Int) (b + n - c) rfl, piece tj hj1 hj2]
      rw [ec]
      have hpz := pre_le ts (j + 1)
      have lz : (⟨(((sgs ts).drop c).take (min (b + n - c) (pre ts (j + 1) - c))).toArray⟩ : Str).length = min (b + n - c) (pre ts (j + 1) - c) := by
        rw [len_list]
        show (((sgs ts).drop c).take _).length = _
        rw [List.length_take, List.length_drop]; omega
      generalize hz : (⟨(((sgs ts).drop c).take (min (b + n - c) (pre ts (j + 1) - c))).toArray⟩ : Str) = z at lz ⊢
      refine r_drop (r_mth1 (r_v rfl ⟨.inl ⟨rfl, _, SqL.of hd2⟩, r_v rfl ⟨_, hd2, lt_line (by rw [List.length_map]; omega), ?_⟩⟩))
      refine r_asg (r_bin (r_v rfl (r_blt (r_cons (r_v rfl (r_nil ⟨le_line (by omega), addI' ?_⟩))))))
      refine r_asg (r_bin (r_v rfl (r_c (addI' ?_))))
      refine ⟨_, ?_, c + z.length, ((j : Int) + 1), ps ++ [z], some (.int ((c : Int) - (pre ts j : Nat))), some (.str z), rfl, ?_, b2.trans But.upd, ?_, by omega, by omega, ?_, ?_, ?_⟩
      · omega
      · show [_, some (V.int ((c : Int) + (z.length : Int))), _, _, _, _, _, _] = _
        rw [Int.natCast_add]
      · rw [upd_same, List.map_append]; rfl
      · rw [cat_snoc', hps, ← hz]
        show _ ++ ((sgs ts).drop c).take _ = _
        rw [take_grow b c _ hbc, hz, lz]
      · rw [List.length_append]; show ps.length + 1 ≤ _; omega
      · intro hl2
        have e3 : c + z.length = pre ts (j + 1) := by omega
        have hj3 : j + 1 < ts.length := by
          by_cases q : j + 1 < ts.length
          · exact q
          · have := pre_all (ts := ts) (k := j + 1) (by omega)
            omega
        have hp2 := pre_succ (List.getElem?_eq_getElem hj3)
        exact ⟨j + 1, by omega, hj3, by omega, by omega⟩
    · have hlt' : c = b + n := by
        have : ¬ ((c : Int) < (b : Int) + (n : Int)) := fun z => hlt (decide_eq_true z)
        omega
      subst hlt'
      rw [show b + n - b = n by omega] at hps
      have lc : (cat ps).length ≤ 1000000 := by rw [len_list, hps, List.length_take, List.length_drop]; omega
      refine r_ret (r_mth1 (r_c ⟨rfl, r_v rfl ⟨ps, SqL.of hd2, joinOk_of (by rw [← cat_length]; exact lc), ?_⟩⟩))
      have es : Txt.join "" ps = ⟨(((sgs ts).drop b).take n).toArray⟩ := str_ext hps
      rw [es]
      exact q H2 fun a o e => b2 a o e (fun z => by rw [z, hd] at e; cases e)
end L2.B
set_option maxRecDepth 100000
set_option maxHeartbeats 4000000
namespace L2.B
open PySem PySem.Spec PyProof.Rows
/-! ### walks, sign by sign -/
/-! ### parts_behind -/
end L2.B
set_option maxRecDepth 100000
set_option maxHeartbeats 4000000
namespace L2.B
open PySem PySem.Spec PyProof.Rows
end L2.B
set_option maxRecDepth 100000
set_option maxHeartbeats 4000000
namespace L2.B
open PySem PySem.Spec PyProof.Rows
/-! ### put_first -/
/-! ### share -/
end L2.B
set_option maxRecDepth 100000
set_option maxHeartbeats 4000000
namespace L2
open PySem PySem.Spec PyProof.Rows
end L2
namespace L2.B
open PySem PySem.Spec PyProof.Rows
end L2.B
namespace L2.B
end L2.B
set_option maxRecDepth 100000
set_option maxHeartbeats 4000000
namespace L2.B
open PySem PySem.Spec PyProof.Rows
/-! ### _law_count -/
end L2.B
set_option maxRecDepth 100000
set_option maxHeartbeats 4000000
namespace L2.B
open PySem PySem.Spec PyProof.Rows
end L2.B
set_option maxRecDepth 100000
set_option maxHeartbeats 4000000
namespace L2.B
open PySem PySem.Spec PyProof.Rows
section
variable {H : Hp} {Q : VK} {E : XK}
end
end L2.B
set_option maxRecDepth 100000
set_option maxHeartbeats 4000000
namespace L2
open PySem PySem.Spec PyProof.Rows
end L2
namespace L2.B
open PySem PySem.Spec PyProof.Rows
section
variable {H : Hp} {Q : VK} {E : XK}
end
end L2.B
set_option maxRecDepth 100000
set_option maxHeartbeats 4000000
namespace L2.K12
open PySem PySem.Spec L2.B
section
variable {Γ : RCx} {σ : St} {H : Hp} {Q : VK} {QT : Bool → Hp → Prop}
theorem r_orC {a b : RE} {r : List RE} (h : rdT Γ a σ H fun c H1 => if c = true then QT true H1 else rdT Γ (.or (b :: r)) σ H1 QT) : rdT Γ (.or (a :: b :: r)) σ H QT := h
theorem r_or1 {a : RE} (h : rdT Γ a σ H QT) : rdT Γ (.or [a]) σ H QT := h
theorem r_andC {a b : RE} {r : List RE} (h : rdT Γ a σ H fun c H1 => if c = true then rdT Γ (.and (b :: r)) σ H1 QT else QT false H1) : rdT Γ (.and (a :: b :: r)) σ H QT := h
theorem r_and1 {a : RE} (h : rdT Γ a σ H QT) : rdT Γ (.and [a]) σ H QT := h
theorem r_meth2 {j : Nat} {m : Str} {o a b : RE} (C : Addr) (sp : Sp) (hm : Γ.ms j = (C, sp)) (h : rdE Γ o σ H fun x H1 => ∃ p dx fs, x = .ref p ∧ H1 p = some (.ins C dx fs) ∧ fs.lookup m = none ∧ rdE Γ a σ H1 fun y H2 => rdE Γ b σ H2 fun z H3 => sp [x, y, z] H3 Q Γ.E) : rdE Γ (.meth j m o [a, b]) σ H Q := by
  show tMeth (Γ.ms j).1 m (Γ.ms j).2 [] Γ.E (rdE Γ o) (rdA Γ [a, b]) σ H Q
  rw [hm]; exact h
theorem r_make0 {j : Nat} (C : Addr) (sp : Sp) (hm : Γ.kt j = (C, sp)) (h : ∀ x dx, H x = none → H dx = none → dx ≠ x → sp [.ref x] (upd (upd H dx (.own x)) x (.ins C dx [])) (fun v H2 => v = .non ∧ Q (.ref x) H2) Γ.E) : rdE Γ (.make j []) σ H Q := by
  show tMake (Γ.kt j).1 (Γ.kt j).2 [] Γ.E (rdA Γ []) σ H Q
  rw [hm]; exact h
theorem ceI {K : PySem.W.Frag} {x y : Int} (q : ∀ b, Q (.bl b) H) : rCmp K .Eq (.int x) (.int y) H Q := q _
theorem cnI {K : PySem.W.Frag} {x : Int} (q : Q (.bl false) H) : rCmp K .NotEq (.int x) (.int x) H Q := by
  show Q (.bl (true ^^ decide (V.int x = V.int x))) H
  rw [decide_eq_true rfl]; exact q
theorem cnS {K : PySem.W.Frag} {x : Str} (q : Q (.bl false) H) : rCmp K .NotEq (.str x) (.str x) H Q := by
  refine cn_str ?_
  rw [show (x != x) = false by simp]; exact q
theorem ltI {K : PySem.W.Frag} {x y : Int} (q : Q (.bl (decide (x < y))) H) : rCmp K .Lt (.int x) (.int y) H Q := ⟨trivial, q⟩
theorem gtI {K : PySem.W.Frag} {x y : Int} (q : Q (.bl (decide (y < x))) H) : rCmp K .Gt (.int x) (.int y) H Q := ⟨trivial, q⟩
end
theorem pick {its : List V} {j : Int} (h0 : 0 ≤ j) (h1 : j < its.length) : ∃ v ∈ its, atI its j = some v := by
  have hjl : j.toNat < its.length := by omega
  refine ⟨its[j.toNat], List.getElem_mem hjl, ?_⟩
  have e := atI_nat (xs := its) (j := j.toNat) (v := its[j.toNat]) (by simp [hjl])
  rw [show ((j.toNat : Nat) : Int) = j by omega] at e
  exact e
/-! ### _law_whole -/
theorem rd_wholeXL {K : PySem.W.Frag} (vs : List V) (H : Hp) (Q : VK) (E : XK) (h : spWholeX vs H Q E) : rdSs (rcx K [] [] (E := E)) b_wholeL (Dn Q) (start N_wholeL vs) H := by
  obtain ⟨v, rfl, h⟩ := h
  exact rd_wholeX [v] H Q E ⟨v, rfl, h⟩
/-! ### _law_mixed -/
def spMix : Sp := fun vs H Q E => ∃ c k, vs = [.int c, .int k] ∧ ∀ m, 0 ≤ m → Q (.int m) H
theorem rd_mix {K : PySem.W.Frag} (vs : List V) (H : Hp) (Q : VK) (E : XK) (h : spMix vs H Q E) : rdSs (rcx K [] [] (E := E)) b_mixedL (Dn Q) (start N_mixedL vs) H := by
  obtain ⟨c, k, rfl, q⟩ := h
  have h0 : ∀ z : Int, 0 ≤ z % 2147483647 ∧ z % 2147483647 < 2147483647 := fun z => ⟨Int.emod_nonneg _ (by decide), Int.emod_lt_of_pos _ (by decide)⟩
  have h1 := h0 (c * 48271 + 7919 * k + 12345)
  have h2 := h0 ((c * 48271 + 7919 * k + 12345) % 2147483647 * ((c * 48271 + 7919 * k + 12345) % 2147483647))
  have pm : (0 : Int) < 2147483647 := by decide
  refine ⟨_, rfl, .inr ⟨by decide, by decide⟩, _, rfl, .inl ⟨by decide, by decide⟩, pm, ?_⟩
  refine ⟨_, rfl, _, rfl, .inl ⟨by omega, by omega⟩, pm, _, rfl, .inl ⟨by omega, by omega⟩, pm, ?_⟩
  exact q _ (Int.emod_nonneg _ (by decide))
/-! ### _law_text_by -/
def A4 : Str := "abcdefghijklmnopqrstuvwxyz{|}~"
def A5 : Str := "ab"
theorem al14 : alOk (A1 ++ A4) := al_of (by decide +kernel)
theorem al14_len : (A1 ++ A4).length = 94 := by decide +kernel
theorem al5 : alOk A5 := al_of (by decide +kernel)
theorem a14_len : A1.length + A4.length ≤ sizeLine := by decide +kernel
theorem one_nl : oneOk "\n" := ⟨rfl, fun c hc => by
  have : ((Str.ofString "\n").cps.toList.all fun c => SG.cps.contains c) = true := by decide +kernel
  exact List.all_eq_true.mp this c hc⟩
theorem ix_sign {K : PySem.W.Frag} {sd : Addr → List (Key × V) → Prop} {H : Hp} {Q : VK} {al : Str} {j : Int} (ho : alOk al) (h0 : 0 ≤ j) (h1 : j < al.length) (q : ∀ t, oneOk t → Q (.str t) H) : rIx2 K sd (.str al) (.int j) H Q := by
  have hjl : j.toNat < al.cps.toList.length := by rw [← len_list]; omega
  refine .inr (.inr (.inl ⟨al, j, al.cps.toList[j.toNat], rfl, rfl, le_line (by have := ho.2.1; omega), ?_, q _ ⟨rfl, fun c hc => ?_⟩⟩))
  · have e := atI_nat (xs := al.cps.toList) (j := j.toNat) (v := al.cps.toList[j.toNat]) (by simp [hjl])
    rw [show ((j.toNat : Nat) : Int) = j by omega] at e
    exact e
  · have : c = al.cps.toList[j.toNat] := by simpa using hc
    rw [this]; exact ho.2.2 _ (List.getElem_mem hjl)
theorem good_one {x t : Str} (hx : good x) (ht : oneOk t) (hl : x.length ≤ 1000) : good (x ++ t) := by
  refine ⟨by rw [app_len, ht.1]; omega, fun c hc => ?_⟩
  rw [app_list] at hc
  rcases List.mem_append.mp hc with h | h
  · exact hx.2 c h
  · exact ht.2 c h
theorem good_no : good "" := ⟨by decide, fun c hc => by
  have : ((Str.ofString "").cps.toList.all fun c => SG.cps.contains c) = true := by decide +kernel
  exact List.all_eq_true.mp this c hc⟩
def spTextBy : Sp := fun vs H Q E => ∃ c n, vs = [.int c, .int n] ∧ 0 ≤ n ∧ n ≤ 100 ∧ ∀ x H', good x → x.length = n.toNat → Same H H' → Q (.str x) H'
theorem rd_textBy {K : PySem.W.Frag} (vs : List V) (H : Hp) (Q : VK) (E : XK) (h : spTextBy vs H Q E) : rdSs (rcx K [("_law_mixed", spMix)] [] (E := E)) b_text_byL (Dn Q) (start N_text_byL vs) H := by
  obtain ⟨c, n, rfl, hn0, hn1, k⟩ := h
  refine r_asg (r_c ?_)
  refine r_asg (r_bin (r_v rfl (r_c ⟨a14_len, ?_⟩)))
  refine r_asg (r_c ?_)
  refine ⟨_, rfl, n, rfl, by omega, by omega, for_range (lo := 0) (n := n.toNat) (fun i σ H2 => ∃ (x : Str) (u4 u5 : Option V), σ = [some (.int c), some (.int n), some (.str (A1 ++ A4)), some (.str x), u4, u5] ∧ Same H H2 ∧ good x ∧ x.length = i) ⟨_, none, none, rfl, Same.refl _, good_no, rfl⟩ ?_ ?_⟩
  · rintro i σ H2 hi ⟨x, u4, u5, rfl, s2, hx, hxl⟩
    refine r_asg (r_callS spMix rfl (r_cons (r_v rfl (r_cons (r_v rfl (r_nil ⟨_, _, rfl, fun m hm => ?_⟩))))))
    have m2 : 0 ≤ m / 8 % 2 ∧ m / 8 % 2 < 2 := ⟨Int.emod_nonneg _ (by decide), Int.emod_lt_of_pos _ (by decide)⟩
    have m94 : 0 ≤ m / 8 % 94 ∧ m / 8 % 94 < 94 := ⟨Int.emod_nonneg _ (by decide), Int.emod_lt_of_pos _ (by decide)⟩
    have c8 : CDiv m 8 := ⟨by decide, by decide⟩
    refine r_asg (r_bin (r_v rfl (r_ix (r_lst (r_cons (r_c (r_cons (r_ix (r_c (r_bin (r_bin (r_v rfl (r_c ⟨c8, r_c ⟨(by show (0 : Int) < 2; decide), ?_⟩⟩)))))))))))))
    refine ix_sign al5 m2.1 m2.2 fun t1 o1 => ?_
    refine r_cons (r_ix (r_v rfl (r_bin (r_bin (r_v rfl (r_c ⟨c8, r_c ⟨(by show (0 : Int) < 94; decide), ?_⟩⟩))))))
    refine ix_sign al14 m94.1 (by rw [al14_len]; exact m94.2) fun t2 o2 => ?_
    refine r_cons (r_ix (r_v rfl (r_bin (r_bin (r_v rfl (r_c ⟨c8, r_c ⟨(by show (0 : Int) < 94; decide), ?_⟩⟩))))))
    refine ix_sign al14 m94.1 (by rw [al14_len]; exact m94.2) fun t3 o3 => ?_
    refine r_nil ⟨(by show 4 ≤ sizeLine; decide), fun l hl => ?_⟩
    have s3 := sameNew (o := .lst [V.str "\n", V.str t1, V.str t2, V.str t3]) hl
    obtain ⟨v, hv, hat⟩ := pick (its := [V.str "\n", V.str t1, V.str t2, V.str t3]) (j := m % 4) (Int.emod_nonneg _ (by decide)) (Int.emod_lt_of_pos _ (by decide))
    have hv' : ∃ t, v = .str t ∧ oneOk t := by
      simp only [List.mem_cons, List.not_mem_nil, or_false] at hv
      rcases hv with rfl | rfl | rfl | rfl
      · exact ⟨_, rfl, one_nl⟩
      · exact ⟨_, rfl, o1⟩
      · exact ⟨_, rfl, o2⟩
      · exact ⟨_, rfl, o3⟩
    obtain ⟨t, rfl, ot⟩ := hv'
    refine r_bin (r_v rfl (r_c ⟨(by show (0 : Int) < 4; decide), .inl ⟨l, _, _, _, rfl, rfl, SqL.of upd_same, hat, ?_⟩⟩))
    refine ⟨le_line (by rw [ot.1]; omega), ?_⟩
    exact ⟨_, _, _, rfl, s2.trans s3, good_one hx ot (by omega), by rw [app_len, ot.1, hxl]⟩
  · rintro σ H2 ⟨x, u4, u5, rfl, s2, hx, hxl⟩
    exact r_ret (r_v rfl (k x H2 hx hxl s2))
/-! ### _law_word -/
abbrev gW12 (c0 c1 c2 c3 c4 c5 c6 c7 c8 c9 c10 c11 c12 : Addr) : List (Str × V) :=
  [("BadText", .ref c0), ("BadChange", .ref c1), ("BadFit", .ref c2), ("NoPlace", .ref c3), ("BadSide", .ref c4), ("NoMark", .ref c5), ("NoNode", .ref c6), ("NoCursor", .ref c7), ("BadDeed", .ref c8), ("BadLetter", .ref c9), ("NoLetter", .ref c10), ("NoHand", .ref c11), ("NoNote", .ref c12)]
def spWord (K : PySem.W.Frag) (cs : List Addr) (ink : Addr) : Sp := fun vs H Q E => ∃ ea D j, vs = [.ref ea] ∧ ExcAt H ea D ∧ Kits K cs ink D j ∧ (j = 0 ∨ j = 3) ∧ ∀ H', Same H H' → Q (.str (if j = 0 then "text" else "place")) H'
section
variable {Γ : RCx} {cs : List Addr} {ink ea D : Addr} {j : Nat}
theorem rd_its (hk : Kits Γ.K cs ink D j) (hg : ∀ i c, cs[i]? = some c → Γ.gv i = .ref c) : ∀ (is : List Nat) (σ : St) (H : Hp) (Q : List V → Hp → Prop), (∀ i ∈ is, i < cs.length) → σ[0]? = some (some (.ref ea)) → ExcAt H ea D → Q (is.map fun i => V.bl (decide (i = j))) H → rdA Γ (is.map fun i => .isx (.v 0) (.g i)) σ H Q
  | [], σ, H, Q, _, _, _, q => q
  | i :: is, σ, H, Q, hl, h0, he, q => by
    have hi := hl i (.head _)
    have hc : cs[i]? = some cs[i] := by simp [hi]
    have key : ∀ k : VK, rIsx Γ.K [.ref ea, .ref cs[i]] H k → rIsx Γ.K [.ref ea, Γ.gv i] H k := by
      intro k; rw [hg i _ hc]; exact id
    exact r_cons (r_isx (r_v h0 (r_g (key _ ⟨D, _, he, hk.cls, .inl ⟨_, rfl⟩, hk.kit i _ hc, rd_its hk hg is σ H _ (fun p hp => hl p (.tail _ hp)) h0 he q⟩))))
def bls (n j : Nat) : List V := (List.range n).map fun i => V.bl (decide (i = j))
theorem rd_wordG {H : Hp} {Q : VK} (hl : cs.length = 13) (hg : ∀ i c, cs[i]? = some c → Γ.gv i = .ref c) (he : ExcAt H ea D) (hk : Kits Γ.K cs ink D j) (hj : j = 0 ∨ j = 3) (q : ∀ H', Same H H' → Q (.str (if j = 0 then "text" else "place")) H') :
    rdSs Γ b_wordL (Dn Q) [some (.ref ea), none] H := by
  refine r_asg (r_lst (rd_its hk hg [0, 1, 2, 3] _ H _ (by rw [hl]; decide) rfl he ⟨(by show 4 ≤ sizeLine; decide), fun l1 f1 => ?_⟩))
  have s1 := sameNew (o := .lst ([0, 1, 2, 3].map fun i => V.bl (decide (i = j)))) f1
  refine r_asg (r_bin (r_v rfl (r_lst (rd_its hk hg [4, 5, 6, 7] _ _ _ (by rw [hl]; decide) rfl (he.same s1) ⟨(by show 4 ≤ sizeLine; decide), fun l2 f2 => ?_⟩))))
  have s2 := sameNew (o := .lst ([4, 5, 6, 7].map fun i => V.bl (decide (i = j)))) f2
  refine .inl ⟨l1, l2, _, _, rfl, rfl, s2 _ _ upd_same, upd_same, (by show 8 ≤ sizeLine; decide), fun l3 f3 => ?_⟩
  have s3 := sameNew (o := .lst (([0, 1, 2, 3].map fun i => V.bl (decide (i = j))) ++ [4, 5, 6, 7].map fun i => V.bl (decide (i = j)))) f3
  have s13 := (s1.trans s2).trans s3
  refine r_asg (r_bin (r_v rfl (r_lst (rd_its hk hg [8, 9, 10, 11] _ _ _ (by rw [hl]; decide) rfl (he.same s13) ⟨(by show 4 ≤ sizeLine; decide), fun l4 f4 => ?_⟩))))
  have s4 := sameNew (o := .lst ([8, 9, 10, 11].map fun i => V.bl (decide (i = j)))) f4
  refine .inl ⟨l3, l4, _, _, rfl, rfl, s4 _ _ upd_same, upd_same, (by show 12 ≤ sizeLine; decide), fun l5 f5 => ?_⟩
  have s5 := sameNew (o := .lst ((([0, 1, 2, 3].map fun i => V.bl (decide (i = j))) ++ [4, 5, 6, 7].map fun i => V.bl (decide (i = j))) ++ [8, 9, 10, 11].map fun i => V.bl (decide (i = j)))) f5
  have s15 := (s13.trans s4).trans s5
  have h5 : (upd (upd (upd (upd (upd H l1 (.lst ([0, 1, 2, 3].map fun i => V.bl (decide (i = j))))) l2 (.lst ([4, 5, 6, 7].map fun i => V.bl (decide (i = j))))) l3 (.lst (([0, 1, 2, 3].map fun i => V.bl (decide (i = j))) ++ [4, 5, 6, 7].map fun i => V.bl (decide (i = j))))) l4 (.lst ([8, 9, 10, 11].map fun i => V.bl (decide (i = j))))) l5 (.lst ((([0, 1, 2, 3].map fun i => V.bl (decide (i = j))) ++ [4, 5, 6, 7].map fun i => V.bl (decide (i = j))) ++ [8, 9, 10, 11].map fun i => V.bl (decide (i = j))))) l5 = some (.lst (bls 12 j)) := upd_same
  generalize (upd (upd (upd (upd (upd H l1 (.lst ([0, 1, 2, 3].map fun i => V.bl (decide (i = j))))) l2 (.lst ([4, 5, 6, 7].map fun i => V.bl (decide (i = j))))) l3 (.lst (([0, 1, 2, 3].map fun i => V.bl (decide (i = j))) ++ [4, 5, 6, 7].map fun i => V.bl (decide (i = j))))) l4 (.lst ([8, 9, 10, 11].map fun i => V.bl (decide (i = j))))) l5 (.lst ((([0, 1, 2, 3].map fun i => V.bl (decide (i = j))) ++ [4, 5, 6, 7].map fun i => V.bl (decide (i = j))) ++ [8, 9, 10, 11].map fun i => V.bl (decide (i = j))))) = H5 at s15 h5 ⊢
  have he5 := he.same s15
  have hc12 : cs[12]? = some cs[12] := by simp [hl]
  have k12 := hk.kit 12 _ hc12
  have hflat : (bls 12 j).all flatV = true := by rcases hj with rfl | rfl <;> rfl
  have hcnt : (bls 12 j).countP (fun z => eqV z (.bl true)) = 1 := by rcases hj with rfl | rfl <;> rfl
  have hin : inV (.bl true) (bls 12 j) = true := by rcases hj with rfl | rfl <;> rfl
  have hidx : (bls 12 j).findIdx (fun z => eqV z (.bl true)) = j := by rcases hj with rfl | rfl <;> rfl
  have h12 : decide (12 = j) = false := by rcases hj with rfl | rfl <;> rfl
  rw [h12] at k12
  refine r_ite (r_orC (r_notT (rd_isxT rfl he5 hk.cls hk.val (iF ?_ rfl))))
  refine r_orC (r_cmpT (r_mth1 (r_v rfl ⟨.inl ⟨rfl, _, SqL.of h5⟩, r_c ⟨_, SqL.of h5, rfl, hflat, ?_⟩⟩)))
  rw [hcnt]
  refine r_c (cnI ⟨_, rfl, iF ?_ rfl⟩)
  refine r_or1 (rd_isx rfl he5 hk.cls (hg 12 _ hc12) k12 (iF ?_ rfl))
  refine r_ret (r_ix (r_lst (r_cons (r_c (r_cons (r_c (r_cons (r_c (r_cons (r_c (r_cons (r_c (r_cons (r_c (r_cons (r_c (r_cons (r_c (r_cons (r_c (r_cons (r_c (r_cons (r_c (r_cons (r_c (r_nil ⟨(by show 12 ≤ sizeLine; decide), fun l6 f6 => ?_⟩)))))))))))))))))))))))))))
  have s6 := sameNew (o := .lst [V.str "text", V.str "change", V.str "fit", V.str "place", V.str "s", V.str "m", V.str "n", V.str "c", V.str "d", V.str "l", V.str "x", V.str "h"]) f6
  refine r_mth1 (r_v rfl ⟨.inl ⟨rfl, _, SqL.of (s6 _ _ h5)⟩, r_c ⟨_, SqL.of (s6 _ _ h5), rfl, hflat, hin, ?_⟩⟩)
  rw [hidx]
  refine .inl ⟨l6, _, _, _, rfl, rfl, SqL.of upd_same, ?_, q _ (s15.trans s6)⟩
  rcases hj with rfl | rfl <;> rfl
end
theorem rd_word {K : PySem.W.Frag} {c0 c1 c2 c3 c4 c5 c6 c7 c8 c9 c10 c11 c12 ink : Addr} (vs : List V) (H : Hp) (Q : VK) (h : spWord K [c0, c1, c2, c3, c4, c5, c6, c7, c8, c9, c10, c11, c12] ink vs H Q E0) :
    rdSs (rcx K [] (gW12 c0 c1 c2 c3 c4 c5 c6 c7 c8 c9 c10 c11 c12)) b_wordL (Dn Q) (start N_wordL vs) H := by
  obtain ⟨ea, D, j, rfl, he, hk, hj, q⟩ := h
  refine rd_wordG (Γ := rcx K [] (gW12 c0 c1 c2 c3 c4 c5 c6 c7 c8 c9 c10 c11 c12)) (cs := [c0, c1, c2, c3, c4, c5, c6, c7, c8, c9, c10, c11, c12]) rfl (fun i c hi => ?_) he hk hj q
  have hi' : i < 13 := (List.getElem?_eq_some_iff.mp hi).1
  match i, hi' with
  | 0, _ | 1, _ | 2, _ | 3, _ | 4, _ | 5, _ | 6, _ | 7, _ | 8, _ | 9, _ | 10, _ | 11, _ | 12, _ => exact congrArg V.ref (Option.some.inj hi)
/-! ### _law_put, _law_read -/
theorem sf_m {lt lb lf : Addr} {n : Int} : (sflds lt lb lf n).lookup ("put" : Str) = none ∧ (sflds lt lb lf n).lookup ("read" : Str) = none ∧ (sflds lt lb lf n).lookup ("many" : Str) = none :=
  ⟨sf_no (by decide +kernel) (by decide +kernel) (by decide +kernel) (by decide +kernel), sf_no (by decide +kernel) (by decide +kernel) (by decide +kernel) (by decide +kernel), sf_no (by decide +kernel) (by decide +kernel) (by decide +kernel) (by decide +kernel)⟩
def spPutL (C : Addr) : Sp := fun vs H Q E => ∃ (p dx lt lb lf : Addr) (ts : List Str) (v : V), vs = [.ref p, v] ∧ StAt C H p dx lt lb lf ts ∧ ((BadT v H ∧ ∀ H', Same H H' → Q (.str "text") H') ∨ ∃ x, v = .str x ∧ good x ∧ ts.length ≤ 100000 ∧ (sgs ts).length ≤ 1000000 ∧
  ∀ H', ButS p lt lb lf H H' → StAt C H' p dx lt lb lf (ts ++ [x]) → Q (.int (sgs ts).length) H')
theorem rd_putL {K : PySem.W.Frag} {cs : List Addr} {ink CT C : Addr} (kT : Kits K cs ink CT 0) (xT : PySem.W.exmOne K (.ref CT) (.ref ink) = some true) (vs : List V) (H : Hp) (Q : VK) (E : XK) (h : spPutL C vs H Q E) :
    rdSs (rcx K [] [("InkError", .ref ink)] [] [("put", C, spPut CT C)] [] (ht := [("_law_word", spWord K cs ink)]) (E := E)) b_putL (Dn Q) (start N_putL vs) H := by
  obtain ⟨p, dx, lt, lb, lf, ts, v, rfl, S, h⟩ := h
  refine ⟨ink, rfl, _, rfl, p, dx, _, rfl, S.ob, sf_m.1, _, rfl, p, dx, lt, lb, lf, ts, v, rfl, S, ?_⟩
  rcases h with ⟨hb, q⟩ | h
  · refine .inl ⟨hb, xT, fun ea ob vs σ' hea hl hob => ?_⟩
    have s1 := sameNew (o := .frz ob excU) hea
    have he : ExcAt (upd H ea (.frz ob excU)) ea CT := ⟨ob, vs, upd_same, hob⟩
    exact ⟨_, (by rw [List.getElem?_set_self (by omega)]), ⟨ea, CT, rfl, he⟩, ea, CT, 0, rfl, he, kT, .inl rfl, fun H2 s2 => q _ (s1.trans s2)⟩
  · exact .inr h
def spReadL (C : Addr) : Sp := fun vs H Q E => ∃ (p dx lt lb lf : Addr) (ts : List Str) (vb vn : V), vs = [.ref p, vb, vn] ∧ StAt C H p dx lt lb lf ts ∧ ((BadRd vb vn (sgs ts).length H ∧ ∀ t H', Same H H' → H' t = some (.tup [.str "place"]) → Q (.ref t) H') ∨
  ∃ b n : Nat, vb = .int (b : Nat) ∧ vn = .int (n : Nat) ∧ b + n ≤ (sgs ts).length ∧ ts.length ≤ 100000 ∧ (sgs ts).length ≤ 1000000 ∧ (∀ t ∈ ts, t.length ≤ 1000000) ∧ ∀ H', Same H H' → Q (.str ⟨(((sgs ts).drop b).take n).toArray⟩) H')
theorem rd_readL {K : PySem.W.Frag} {cs : List Addr} {ink CP C : Addr} (kP : Kits K cs ink CP 3) (xP : PySem.W.exmOne K (.ref CP) (.ref ink) = some true) (vs : List V) (H : Hp) (Q : VK) (E : XK) (h : spReadL C vs H Q E) :
    rdSs (rcx K [] [("InkError", .ref ink)] [] [("read", C, spRead CP C)] [] (ht := [("_law_word", spWord K cs ink)]) (E := E)) b_readL (Dn Q) (start N_readL vs) H := by
  obtain ⟨p, dx, lt, lb, lf, ts, vb, vn, rfl, S, h⟩ := h
  refine ⟨ink, rfl, _, rfl, p, dx, _, rfl, S.ob, sf_m.2.1, _, rfl, _, rfl, p, dx, lt, lb, lf, ts, vb, vn, rfl, S, ?_⟩
  rcases h with ⟨hb, q⟩ | h
  · refine .inl ⟨hb, xP, fun ea ob vs σ' hea hl hob => ?_⟩
    have s1 := sameNew (o := .frz ob excU) hea
    have he : ExcAt (upd H ea (.frz ob excU)) ea CP := ⟨ob, vs, upd_same, hob⟩
    refine ⟨_, (by rw [List.getElem?_set_self (by omega)]), ⟨ea, CP, rfl, he⟩, ea, CP, 3, rfl, he, kP, .inr rfl, fun H2 s2 => ?_⟩
    refine ⟨(by show 1 ≤ sizeLine; decide), fun t ht => ?_⟩
    have s3 := sameNew (o := .tup [V.str "place"]) ht
    exact q t _ ((s1.trans s2).trans s3) upd_same
  · exact .inr h
/-! ### _law_place -/
def WhV (v : V) (H : Hp) : Prop := NotWh v H ∨ ∃ i : Int, v = .int i
def spPlace : Sp := fun vs H Q E => ∃ (c n : Int), vs = [.int c, .int n] ∧ 0 ≤ n ∧ ∀ v H', Same H H' → WhV v H' → Q v H'
theorem rd_place {K : PySem.W.Frag} (vs : List V) (H : Hp) (Q : VK) (E : XK) (h : spPlace vs H Q E) : rdSs (rcx K [] [] (E := E)) b_placeL (Dn Q) (start N_placeL vs) H := by
  obtain ⟨c, n, rfl, hn, q⟩ := h
  refine r_asg (r_lst (r_cons (r_c (r_cons (r_c (r_cons (r_c (r_cons (r_lst (r_cons (r_c (r_nil ⟨(by show 1 ≤ sizeLine; decide), fun l1 f1 => ?_⟩))))))))))))
  refine r_cons (r_c (r_cons (r_tup (r_nil ⟨Nat.zero_le _, fun l2 f2 => r_nil ⟨(by show 6 ≤ sizeLine; decide), fun l3 f3 => ?_⟩⟩))))
  have s1 := sameNew (o := .lst [V.int 0]) f1
  have s2 := sameNew (o := .tup []) f2
  generalize hits : [V.bl true, .non, .str "1", .ref l1, .bl false, .ref l2] = its at f3 ⊢
  have s3 := sameNew (o := .lst its) f3
  have hit : its.length = 6 := by rw [← hits]; rfl
  have bads : ∀ v ∈ its, WhV v (upd (upd (upd H l1 (.lst [V.int 0])) l2 (.tup [])) l3 (.lst its)) := by
    intro v hv
    rw [← hits] at hv
    have e1 := s3 _ _ (s2 _ _ (upd_same (H := H) (a := l1) (o := .lst [V.int 0])))
    have e2 := s3 _ _ (upd_same (a := l2) (o := .tup []))
    simp only [List.mem_cons, List.not_mem_nil, or_false] at hv
    rcases hv with rfl | rfl | rfl | rfl | rfl | rfl
    · exact .inl (.inl ⟨_, rfl⟩)
    · exact .inl (.inr rfl)
    · exact .inl (.inr rfl)
    · exact .inl (.inr (isi_lst e1 rfl))
    · exact .inl (.inl ⟨_, rfl⟩)
    · exact .inl (.inr (isi_tup e2 rfl))
  have s13 := (s1.trans s2).trans s3
  have h3 : (upd (upd (upd H l1 (.lst [V.int 0])) l2 (.tup [])) l3 (.lst its)) l3 = some (.lst its) := upd_same
  generalize (upd (upd (upd H l1 (.lst [V.int 0])) l2 (.tup [])) l3 (.lst its)) = H3 at bads s13 h3 ⊢
  refine r_ite (r_cmpT (r_bin (r_v rfl (r_c ⟨(by show (0 : Int) < 9; decide), r_c (ceI fun b => ⟨_, rfl, ?_⟩)⟩))))
  refine ite2 (fun _ => ?_) (fun _ => ?_)
  · obtain ⟨v, hv, hat⟩ := pick (its := its) (j := c / 9 % 6) (Int.emod_nonneg _ (by decide)) (by rw [hit]; exact Int.emod_lt_of_pos _ (by decide))
    refine r_ret (r_ix (r_v rfl (r_bin (r_bin (r_v rfl (r_c ⟨⟨by decide, by decide⟩, r_c ⟨(by show (0 : Int) < 6; decide), .inl ⟨l3, its, _, v, rfl, rfl, SqL.of h3, hat, ?_⟩⟩⟩))))))
    exact q v H3 s13 (bads v hv)
  · refine r_ret (r_bin (r_bin (r_bin (r_v rfl (r_c ⟨⟨by decide, by decide⟩, r_bin (r_v rfl (r_c (addI' ⟨(by show (0 : Int) < n + 3; omega), r_c ⟨trivial, ?_⟩⟩)))⟩)))))
    exact q _ H3 s13 (.inr ⟨_, rfl⟩)
/-! ### _law_due -/
def DueBad (vb vn : V) (n : Nat) (H : Hp) : Prop := NotWh vb H ∨ (∃ b : Int, vb = .int b ∧ NotWh vn H) ∨ ∃ b m : Int, vb = .int b ∧ vn = .int m ∧ (b < 0 ∨ m < 0 ∨ (n : Int) < b + m)
theorem DueBad.same {vb vn : V} {n : Nat} {H H' : Hp} (h : DueBad vb vn n H) (s : Same H H') : DueBad vb vn n H' := by
  have w : ∀ {v : V}, NotWh v H → NotWh v H' := fun h => by
    rcases h with h | h
    · exact .inl h
    · exact .inr (h.same s)
  rcases h with h | ⟨b, e, h⟩ | h
  · exact .inl (w h)
  · exact .inr (.inl ⟨b, e, w h⟩)
  · exact .inr (.inr h)
theorem DueBad.rd {vb vn : V} {n : Nat} {H : Hp} (h : DueBad vb vn n H) : BadRd vb vn n H := by
  rcases h with h | ⟨b, rfl, h⟩ | ⟨b, m, rfl, rfl, h⟩
  · exact .inl (.inl h)
  · by_cases c : 0 ≤ b ∧ b ≤ (n : Int)
    · exact .inr ⟨b, rfl, c.1, c.2, .inl h⟩
    · exact .inl (.inr ⟨b, rfl, by omega⟩)
  · by_cases c : 0 ≤ b ∧ b ≤ (n : Int)
    · exact .inr ⟨b, rfl, c.1, c.2, .inr ⟨m, rfl, by omega⟩⟩
    · exact .inl (.inr ⟨b, rfl, by omega⟩)
theorem due_cases {vb vn : V} {n : Nat} {H : Hp} (hb : WhV vb H) (hn : WhV vn H) : DueBad vb vn n H ∨ ∃ b m : Nat, vb = .int (b : Nat) ∧ vn = .int (m : Nat) ∧ b + m ≤ n := by
  rcases hb with hb | ⟨b, rfl⟩
  · exact .inl (.inl hb)
  rcases hn with hn | ⟨m, rfl⟩
  · exact .inl (.inr (.inl ⟨b, rfl, hn⟩))
  by_cases c : 0 ≤ b ∧ 0 ≤ m ∧ b + m ≤ (n : Int)
  · refine .inr ⟨b.toNat, m.toNat, ?_, ?_, by omega⟩
    · rw [show ((b.toNat : Nat) : Int) = b by omega]
    · rw [show ((m.toNat : Nat) : Int) = m by omega]
  · exact .inl (.inr (.inr ⟨b, m, rfl, rfl, by omega⟩))
def spDueT : Sp := fun vs H Q E => ∃ (x : Str) (vb vn : V), vs = [.str x, vb, vn] ∧ x.length ≤ 1000000 ∧ ((DueBad vb vn x.length H ∧ ∀ t H', Same H H' → H' t = some (.tup [.str "place"]) → Q (.ref t) H') ∨ ∃ b m : Nat, vb = .int (b : Nat) ∧ vn = .int (m : Nat) ∧ b + m ≤ x.length ∧ Q (.str ⟨((x.cps.toList.drop b).take m).toArray⟩) H)
theorem rd_dueT {K : PySem.W.Frag} (vs : List V) (H : Hp) (Q : VK) (E : XK) (h : spDueT vs H Q E) : rdSs (rcx K [("_law_whole", spWholeX)] [] (E := E)) b_dueL (Dn Q) (start N_dueL vs) H := by
  obtain ⟨x, vb, vn, rfl, hx, h⟩ := h
  have le : x.length ≤ sizeLine := le_line hx
  -- the refusal
  have bad : (∀ t H', Same H H' → H' t = some (.tup [.str "place"]) → Q (.ref t) H') → rdSs (rcx K [("_law_whole", spWholeX)] [] (E := E)) [.ret (.tup [(.c (.str "place"))])] { (Dn Q) with nx := rdSs (rcx K [("_law_whole", spWholeX)] [] (E := E)) (b_dueL.drop 1) (Dn Q) } [some (.str x), some vb, some vn] H := by
    intro q
    refine r_ret (r_tup (r_cons (r_c (r_nil ⟨(by show 1 ≤ sizeLine; decide), fun t ht => ?_⟩))))
    exact q t _ (sameNew (o := .tup [V.str "place"]) ht) upd_same
  rcases h with ⟨hb | ⟨b, rfl, hn⟩ | ⟨b, m, rfl, rfl, hc⟩, q⟩ | ⟨b, m, rfl, rfl, hc, q⟩
  · refine r_ite (r_orC (r_notT (r_callTS spWholeX rfl (r_cons (r_v rfl (r_nil ⟨_, rfl, .inr ⟨hb, tru_bl (iT (iT ?_ rfl) rfl)⟩⟩))))))
    exact bad q
  · refine r_ite (r_orC (r_notT (r_callTS spWholeX rfl (r_cons (r_v rfl (r_nil ⟨_, rfl, .inl ⟨b, rfl, tru_bl (iF ?_ rfl)⟩⟩))))))
    refine r_orC (r_notT (r_callTS spWholeX rfl (r_cons (r_v rfl (r_nil ⟨_, rfl, .inr ⟨hn, tru_bl (iT (iT ?_ rfl) rfl)⟩⟩)))))
    exact bad q
  · refine r_ite (r_orC (r_notT (r_callTS spWholeX rfl (r_cons (r_v rfl (r_nil ⟨_, rfl, .inl ⟨b, rfl, tru_bl (iF ?_ rfl)⟩⟩))))))
    refine r_orC (r_notT (r_callTS spWholeX rfl (r_cons (r_v rfl (r_nil ⟨_, rfl, .inl ⟨m, rfl, tru_bl (iF ?_ rfl)⟩⟩)))))
    refine r_orC (r_cmpT (r_v rfl (r_c (ltI ⟨_, rfl, ite2 (fun _ => iT (bad q) rfl) (fun h1 => ?_)⟩))))
    refine r_orC (r_cmpT (r_v rfl (r_c (ltI ⟨_, rfl, ite2 (fun _ => iT (bad q) rfl) (fun h2 => ?_)⟩))))
    refine r_or1 (r_cmpT (r_bin (r_v rfl (r_v rfl (addI' (r_blt (r_cons (r_v rfl (r_nil ⟨le, gtI ⟨_, rfl, ?_⟩⟩))))))))) 
    have g1 : ¬ b < 0 := fun z => h1 (decide_eq_true z)
    have g2 : ¬ m < 0 := fun z => h2 (decide_eq_true z)
    exact iT (bad q) (decide_eq_true (by omega))
  · refine r_ite (r_orC (r_notT (r_callTS spWholeX rfl (r_cons (r_v rfl (r_nil ⟨_, rfl, .inl ⟨_, rfl, tru_bl (iF ?_ rfl)⟩⟩))))))
    refine r_orC (r_notT (r_callTS spWholeX rfl (r_cons (r_v rfl (r_nil ⟨_, rfl, .inl ⟨_, rfl, tru_bl (iF ?_ rfl)⟩⟩)))))
    refine r_orC (r_cmpT (r_v rfl (r_c (ltI ⟨_, rfl, iF ?_ (decide_eq_false (by omega))⟩))))
    refine r_orC (r_cmpT (r_v rfl (r_c (ltI ⟨_, rfl, iF ?_ (decide_eq_false (by omega))⟩))))
    refine r_or1 (r_cmpT (r_bin (r_v rfl (r_v rfl (addI' (r_blt (r_cons (r_v rfl (r_nil ⟨le, gtI ⟨_, rfl, iF ?_ (decide_eq_false (by omega))⟩⟩))))))))) 
    refine r_ret ?_
    refine ⟨_, rfl, _, rfl, _, rfl, _, rfl, _, rfl, _, rfl, le, ?_⟩
    rw [cut_take b (m : Int) m rfl]
    exact q
end L2.K12
set_option maxRecDepth 100000
set_option maxHeartbeats 4000000
namespace L2.K12
open PySem PySem.Spec L2.B
theorem cut_pre (xs : List V) (k : Nat) : cutV xs none (some (k : Int)) = xs.take k := by
  unfold cutV
  rw [HT.sIx_nat]
  show (xs.drop 0).take (min k xs.length - 0) = _
  rw [List.drop_zero, Nat.sub_zero]
  by_cases h : k ≤ xs.length
  · rw [show min k xs.length = k by omega]
  · rw [show min k xs.length = xs.length by omega, List.take_length, List.take_of_length_le (by omega)]
theorem ne_place {K : PySem.W.Frag} {H : Hp} {a b : Addr} {Q : VK} (ha : H a = some (.tup [.str "place"])) (hb : H b = some (.tup [.str "place"])) (q : Q (.bl false) H) : rCmp K .NotEq (.ref a) (.ref b) H Q := by
  refine ⟨.tuple [.str "place"], .tuple [.str "place"], ⟨a, _, rfl, ha, .str "place", [], rfl, rfl, rfl⟩, ⟨b, _, rfl, hb, .str "place", [], rfl, rfl, rfl⟩, (by decide +kernel), (by decide +kernel), ?_⟩
  rw [show PyData.eqv (.tuple [.str (Str.ofString "place")]) (.tuple [.str (Str.ofString "place")]) = true by decide +kernel]
  exact q
theorem gs_two {K : PySem.W.Frag} {i j : Nat} {t : Addr} {v w : V} {σ : St} {H : Hp} {Q : St → Hp → Prop} (ht : H t = some (.tup [v, w])) (q : Q ((σ.set i (some v)).set j (some w)) H) : gSeq K [i, j].length (gNames [i, j]) (.ref t) σ H Q :=
  ⟨t, _, rfl, .inl (SqT.of ht), rfl, _, _, rfl, _, _, rfl, rfl, q⟩
abbrev tLaw (C : Addr) : List (Str × Sp) := [("_law_whole", spWholeX), ("_law_mixed", spMix), ("_law_put", spPutL C), ("_law_text_by", spTextBy), ("_law_place", spPlace), ("_law_read", spReadL C), ("_law_due", spDueT)]
abbrev mLaw (CP C : Addr) : List (Str × Addr × Sp) := [("many", C, spStMany C), ("read", C, spRead CP C)]
abbrev kLaw (C : Addr) : List (Str × Addr × Sp) := [("Stock", C, spStInit C)]
def spLaw (K : PySem.W.Frag) : Sp := fun vs H Q E => ∃ (a : Addr) (ns : List Int), vs = [.ref a] ∧ SqL K H a (ns.map V.int) ∧ ∀ H', Q (.bl true) H'
/-- the stock beside the law's own signs -/
structure Beside (C : Addr) (H : Hp) (p dx lt lb lf : Addr) (w : Str) (n : Nat) (ts : List Str) : Prop where
  st : StAt C H p dx lt lb lf ts
  sg : w.cps.toList = sgs ts
  gd : good w
  wl : w.length ≤ 100 * n
  tl : ts.length ≤ n
  te : ∀ t ∈ ts, t.length ≤ 1000000
theorem Beside.same {C : Addr} {H H' : Hp} {p dx lt lb lf : Addr} {w : Str} {n : Nat} {ts : List Str} (Z : Beside C H p dx lt lb lf w n ts) (s : Same H H') : Beside C H' p dx lt lb lf w n ts := ⟨Z.st.same s, Z.sg, Z.gd, Z.wl, Z.tl, Z.te⟩
theorem Beside.len {C : Addr} {H : Hp} {p dx lt lb lf : Addr} {w : Str} {n : Nat} {ts : List Str} (Z : Beside C H p dx lt lb lf w n ts) : (sgs ts).length = w.length := by rw [len_list, Z.sg]
def bBody : List RS := match b_law.getD 3 .pass with | .forT _ _ _ b => b | _ => []
section
variable {K : PySem.W.Frag} {CP C : Addr} {E : XK} {p dx lt lb lf : Addr}
abbrev ΓL (K : PySem.W.Frag) (CP C : Addr) (E : XK) : RCx := rcx K (tLaw C) [] [] (mLaw CP C) (kLaw C) (E := E)
theorem r_many {H : Hp} {w : Str} {n : Nat} {ts : List Str} {σ : St} {Q : VK} (Z : Beside C H p dx lt lb lf w n ts) (h1 : σ[1]? = some (some (.ref p))) (q : Q (.int (w.length : Nat)) H) : rdE (ΓL K CP C E) (.meth 0 "many" (.v 1) []) σ H Q := by
  refine r_meth0 C (spStMany C) rfl (r_v h1 ⟨p, dx, _, rfl, Z.st.ob, sf_m.2.2, p, dx, lt, lb, lf, ts, rfl, Z.st, ?_⟩)
  rw [Z.len]; exact q
theorem rw_eq {w : Str} {b m : Nat} {ts : List Str} (h : w.cps.toList = sgs ts) : (⟨((w.cps.toList.drop b).take m).toArray⟩ : Str) = ⟨(((sgs ts).drop b).take m).toArray⟩ := by rw [h]
/-- the end of a turn: a reading -/
theorem turn_read {D : Ends} {H : Hp} {w : Str} {n : Nat} {ts : List Str} {u0 u3 u4 u6 u8 : Option V} {m : Int} {vb vn : V} (Z : Beside C H p dx lt lb lf w n ts) (hn : n ≤ 16) (hb : WhV vb H) (hs : WhV vn H)
    (k : ∀ (v7 v9 : Option V) H', Same H H' → D.nx [u0, some (.ref p), some (.str w), u3, u4, some (.int m), u6, v7, u8, v9] H') :
    rdSs (ΓL K CP C E) (bBody.drop 6) D [u0, some (.ref p), some (.str w), u3, u4, some (.int m), u6, some vn, u8, some vb] H := by
  have lw := Z.wl
  have tl := Z.tl
  have sl := Z.len
  refine r_ite (r_cmpT (r_callS (spReadL C) rfl (r_cons (r_v rfl (r_cons (r_v rfl (r_cons (r_v rfl (r_nil ⟨p, dx, lt, lb, lf, ts, vb, vn, rfl, Z.st, ?_⟩)))))))))
  rcases due_cases (n := w.length) hb hs with hbad | ⟨b, c, rfl, rfl, hbc⟩
  · refine .inl ⟨by rw [sl]; exact hbad.rd, fun t H1 s1 ht => ?_⟩
    refine r_callS spDueT rfl (r_cons (r_v rfl (r_cons (r_v rfl (r_cons (r_v rfl (r_nil ⟨w, vb, vn, rfl, by omega, .inl ⟨hbad.same s1, fun t2 H2 s2 ht2 => ?_⟩⟩)))))))
    exact ne_place (s2 _ _ ht) ht2 ⟨_, rfl, iF (k _ _ _ (s1.trans s2)) rfl⟩
  · refine .inr ⟨b, c, rfl, rfl, by omega, by omega, by omega, Z.te, fun H1 s1 => ?_⟩
    refine r_callS spDueT rfl (r_cons (r_v rfl (r_cons (r_v rfl (r_cons (r_v rfl (r_nil ⟨w, _, _, rfl, by omega, .inr ⟨b, c, rfl, rfl, hbc, ?_⟩⟩)))))))
    rw [rw_eq Z.sg]
    exact cnS ⟨_, rfl, iF (k _ _ _ s1) rfl⟩
theorem WhV.same {v : V} {H H' : Hp} (h : WhV v H) (s : Same H H') : WhV v H' := by
  rcases h with (h | h) | h
  · exact .inl (.inl h)
  · exact .inl (.inr (h.same s))
  · exact .inr h
theorem turn_places {D : Ends} {H : Hp} {w : Str} {n : Nat} {ts : List Str} {u0 u6 u7 u8 u9 : Option V} {i c m : Int} (Z : Beside C H p dx lt lb lf w n ts) (hn : n ≤ 16)
    (k : ∀ (v7 v9 : Option V) H', Same H H' → D.nx [u0, some (.ref p), some (.str w), some (.int i), some (.int c), some (.int m), u6, v7, u8, v9] H') :
    rdSs (ΓL K CP C E) (bBody.drop 2) D [u0, some (.ref p), some (.str w), some (.int i), some (.int c), some (.int m), u6, u7, u8, u9] H := by
  have lw := Z.wl
  have le : w.length ≤ sizeLine := le_line (by omega)
  refine r_ite (r_orC (r_notT (r_callTS spWholeX rfl (r_cons (r_many Z rfl (r_nil ⟨_, rfl, .inl ⟨_, rfl, tru_bl (iF ?_ rfl)⟩⟩))))))
  refine r_or1 (r_cmpT (r_many Z rfl (r_blt (r_cons (r_v rfl (r_nil ⟨le, cnI ⟨_, rfl, iF ?_ rfl⟩⟩))))))
  refine r_asg (r_callS spPlace rfl (r_cons (r_bin (r_callS spMix rfl (r_cons (r_v rfl (r_cons (r_bin (r_c (r_v rfl (addI' (r_nil ⟨_, _, rfl, fun m1 _ => r_c ⟨(by show (0 : Int) < 100003; decide), ?_⟩⟩))))))))))))
  refine r_cons (r_blt (r_cons (r_v rfl (r_nil ⟨le, r_nil ⟨_, _, rfl, by omega, fun vb H1 s1 hb => ?_⟩⟩))))
  refine r_asg (r_callS spPlace rfl (r_cons (r_bin (r_callS spMix rfl (r_cons (r_v rfl (r_cons (r_bin (r_c (r_v rfl (addI' (r_nil ⟨_, _, rfl, fun m2 _ => r_c ⟨(by show (0 : Int) < 100003; decide), ?_⟩⟩))))))))))))
  refine r_cons (r_blt (r_cons (r_v rfl (r_nil ⟨le, r_nil ⟨_, _, rfl, by omega, fun vn H2 s2 hs => ?_⟩⟩))))
  have s12 := s1.trans s2
  have B2 := Z.same s12
  have hb2 := hb.same s2
  have fin : ∀ vn, WhV vn H2 → rdSs (ΓL K CP C E) (bBody.drop 6) D [u0, some (.ref p), some (.str w), some (.int i), some (.int c), some (.int m), u6, some vn, u8, some vb] H2 := fun vn hs => turn_read B2 hn hb2 hs fun v7 v9 H' s' => k v7 v9 H' (s12.trans s')
  rcases hs with hs | ⟨j, rfl⟩
  · refine r_ite (r_andC (r_callTS spWholeX rfl (r_cons (r_v rfl (r_nil ⟨_, rfl, .inr ⟨hs, tru_bl (iF (iF ?_ rfl) rfl)⟩⟩)))))
    exact fin _ (.inl hs)
  refine r_ite (r_andC (r_callTS spWholeX rfl (r_cons (r_v rfl (r_nil ⟨_, rfl, .inl ⟨j, rfl, tru_bl (iT ?_ rfl)⟩⟩)))))
  rcases hb2 with hb2 | ⟨b, rfl⟩
  · refine r_andC (r_callTS spWholeX rfl (r_cons (r_v rfl (r_nil ⟨_, rfl, .inr ⟨hb2, tru_bl (iF (iF ?_ rfl) rfl)⟩⟩))))
    exact fin _ (.inr ⟨_, rfl⟩)
  refine r_andC (r_callTS spWholeX rfl (r_cons (r_v rfl (r_nil ⟨_, rfl, .inl ⟨b, rfl, tru_bl (iT ?_ rfl)⟩⟩))))
  refine r_and1 (r_cmpT (r_bin (r_v rfl (r_c ⟨(by show (0 : Int) < 3; decide), r_c (ceI fun b => ⟨_, rfl, ?_⟩)⟩))))
  refine ite2 (fun _ => ?_) (fun _ => ?_)
  · refine r_asg (r_blt (r_cons (r_v rfl (r_cons (r_bin (r_bin (r_blt (r_cons (r_v rfl (r_nil ⟨le, r_v rfl ⟨trivial, r_bin (r_bin (r_v rfl (r_c ⟨⟨by decide, by decide⟩, r_c ⟨(by show (0 : Int) < 2; decide), addI' (r_nil ?_)⟩⟩)))⟩⟩))))))))))
    exact fin _ (.inr ⟨_, rfl⟩)
  · exact fin _ (.inr ⟨_, rfl⟩)
end
end L2.K12
set_option maxRecDepth 100000
set_option maxHeartbeats 4000000
namespace L2.K12
open PySem PySem.Spec L2.B
theorem tab_bad' : ∀ H, BadT (.str "\t") H := fun H => .inl ⟨_, rfl, by decide, by decide +kernel⟩
theorem atb_bad : ∀ H, BadT (.str "a\tb") H := fun H => .inl ⟨_, rfl, by decide, by decide +kernel⟩
theorem good_app {x y : Str} (hx : good x) (hy : good y) (hl : x.length + y.length ≤ 100000) : good (x ++ y) := by
  refine ⟨by rw [app_len]; omega, fun c hc => ?_⟩
  rw [app_list] at hc
  rcases List.mem_append.mp hc with h | h
  · exact hx.2 c h
  · exact hy.2 c h
section
variable {K : PySem.W.Frag} {CP C : Addr} {E : XK} {p dx lt lb lf q : Addr} {L : List V} {w : Str} {ts : List Str} {i : Nat} {c : Int} {D : Ends} {H5 : Hp} {u0 u5 u6 u7 u8 u9 : Option V}
theorem turn_odd {m : Int} (B5 : Beside C H5 p dx lt lb lf w i ts) (hN : ∀ (v6 : Option V) H', Same H5 H' → D.nx [u0, some (.ref p), some (.str w), some (.int (i : Nat)), some (.int c), some (.int m), v6, u7, u8, u9] H') :
    rdSs (ΓL K CP C E) [.asg 6 (.ix (.lst [(.c .non), (.c (.int 5)), (.lst [(.c (.str "a"))]), (.c (.bl true)), (.c (.str "\t")), (.c (.str "a\tb")), (.tup [(.c (.str "a"))])]) (.bin .Mod (.bin .FloorDiv (.v 5) (.c (.int 7))) (.c (.int 7)))),
      .ite (.cmp .NotEq (.call 2 [(.v 1), (.v 6)]) (.c (.str "text"))) [.ret (.c (.bl false))] []] D [u0, some (.ref p), some (.str w), some (.int (i : Nat)), some (.int c), some (.int m), u6, u7, u8, u9] H5 := by
  refine r_asg (r_ix (r_lst (r_cons (r_c (r_cons (r_c (r_cons (r_lst (r_cons (r_c (r_nil ⟨(by show 1 ≤ sizeLine; decide), fun l1 f1 => ?_⟩)))))))))))
  refine r_cons (r_c (r_cons (r_c (r_cons (r_c (r_cons (r_tup (r_cons (r_c (r_nil ⟨(by show 1 ≤ sizeLine; decide), fun l2 f2 => r_nil ⟨(by show 7 ≤ sizeLine; decide), fun l3 f3 => ?_⟩⟩))))))))))
  have x1 := sameNew (o := .lst [V.str "a"]) f1
  have x2 := sameNew (o := .tup [V.str "a"]) f2
  generalize hits : [V.non, .int 5, .ref l1, .bl true, .str "\t", .str "a\tb", .ref l2] = its at f3 ⊢
  have x3 := sameNew (o := .lst its) f3
  have hit : its.length = 7 := by rw [← hits]; rfl
  have bads : ∀ v ∈ its, BadT v (upd (upd (upd H5 l1 (.lst [V.str "a"])) l2 (.tup [V.str "a"])) l3 (.lst its)) := by
    intro v hv
    rw [← hits] at hv
    have e1 := x3 _ _ (x2 _ _ (upd_same (H := H5) (a := l1) (o := .lst [V.str "a"])))
    have e2 := x3 _ _ (upd_same (a := l2) (o := .tup [V.str "a"]))
    simp only [List.mem_cons, List.not_mem_nil, or_false] at hv
    rcases hv with rfl | rfl | rfl | rfl | rfl | rfl | rfl
    · exact .inr rfl
    · exact .inr rfl
    · exact .inr (isi_lst e1 rfl)
    · exact .inr rfl
    · exact tab_bad' _
    · exact atb_bad _
    · exact .inr (isi_tup e2 rfl)
  have x13 := (x1.trans x2).trans x3
  have h3 : (upd (upd (upd H5 l1 (.lst [V.str "a"])) l2 (.tup [V.str "a"])) l3 (.lst its)) l3 = some (.lst its) := upd_same
  generalize (upd (upd (upd H5 l1 (.lst [V.str "a"])) l2 (.tup [V.str "a"])) l3 (.lst its)) = H6 at bads x13 h3 ⊢
  obtain ⟨v, hv, hat⟩ := pick (its := its) (j := m / 7 % 7) (Int.emod_nonneg _ (by decide)) (by rw [hit]; exact Int.emod_lt_of_pos _ (by decide))
  refine r_bin (r_bin (r_v rfl (r_c ⟨⟨by decide, by decide⟩, r_c ⟨(by show (0 : Int) < 7; decide), .inl ⟨l3, its, _, v, rfl, rfl, SqL.of h3, hat, ?_⟩⟩⟩)))
  refine r_ite (r_cmpT (r_callS (spPutL C) rfl (r_cons (r_v rfl (r_cons (r_v rfl (r_nil ⟨p, dx, lt, lb, lf, ts, v, rfl, (B5.same x13).st, .inl ⟨bads v hv, fun H7 s7 => r_c (cnS ⟨_, rfl, iF ?_ rfl⟩)⟩⟩)))))))
  exact hN _ _ (x13.trans s7)
theorem turn_text {m z : Int} (B5 : Beside C H5 p dx lt lb lf w i ts) (hi : i < 16) (hq5 : H5 q = some (.lst L)) (q1 : q ≠ p) (q2 : q ≠ lt) (q3 : q ≠ lb) (q4 : q ≠ lf) (z0 : 0 ≤ z) (z1 : z ≤ 100)
    (hN : ∀ (w' : Str) (ts' : List Str) (v8 v9 : Option V) H', Beside C H' p dx lt lb lf w' (i + 1) ts' → H' q = some (.lst L) → D.nx [u0, some (.ref p), some (.str w'), some (.int (i : Nat)), some (.int c), some (.int m), u6, some (.int z), v8, v9] H') :
    rdSs (ΓL K CP C E) [.asg 8 (.call 3 [(.v 5), (.v 7)]),
      .asg 9 (.call 2 [(.v 1), (.v 8)]),
      .ite (.or [(.not (.call 0 [(.v 9)])), (.cmp .NotEq (.v 9) (.blt .len [(.v 2)]))]) [.ret (.c (.bl false))] [],
      .asg 2 (.bin .Add (.v 2) (.v 8))] D [u0, some (.ref p), some (.str w), some (.int (i : Nat)), some (.int c), some (.int m), u6, some (.int z), u8, u9] H5 := by
  have lw := B5.wl
  have tl := B5.tl
  have sl := B5.len
  refine r_asg (r_callS spTextBy rfl (r_cons (r_v rfl (r_cons (r_v rfl (r_nil ⟨_, _, rfl, z0, z1, fun x H6 hx hxl s6 => ?_⟩))))))
  have B6 := B5.same s6
  refine r_asg (r_callS (spPutL C) rfl (r_cons (r_v rfl (r_cons (r_v rfl (r_nil ⟨p, dx, lt, lb, lf, ts, _, rfl, B6.st, .inr ⟨x, rfl, hx, by omega, by omega, fun H7 b7 S7 => ?_⟩⟩))))))
  refine r_ite (r_orC (r_notT (r_callTS spWholeX rfl (r_cons (r_v rfl (r_nil ⟨_, rfl, .inl ⟨_, rfl, tru_bl (iF ?_ rfl)⟩⟩))))))
  rw [sl]
  refine r_or1 (r_cmpT (r_v rfl (r_blt (r_cons (r_v rfl (r_nil ⟨le_line (by omega), cnI ⟨_, rfl, iF ?_ rfl⟩⟩))))))
  refine r_asg (r_bin (r_v rfl (r_v rfl ⟨le_line (by omega), ?_⟩)))
  refine hN (w ++ x) (ts ++ [x]) _ _ H7 ⟨S7, by rw [app_list, sgs_app, sgs_one, B6.sg], good_app B6.gd hx (by omega), by rw [app_len]; omega, by rw [List.length_append]; show ts.length + 1 ≤ i + 1; omega, fun t ht => ?_⟩ (b7 _ _ (s6 _ _ hq5) q1 q2 q3 q4)
  rcases List.mem_append.mp ht with h | h
  · exact B6.te t h
  · rw [List.mem_singleton.mp h]; omega
theorem turn (B5 : Beside C H5 p dx lt lb lf w i ts) (hi : i < 16) (hq5 : H5 q = some (.lst L)) (q1 : q ≠ p) (q2 : q ≠ lt) (q3 : q ≠ lb) (q4 : q ≠ lf)
    (hN : ∀ (w' : Str) (ts' : List Str) (v5 v6 v7 v8 v9 : Option V) H', Beside C H' p dx lt lb lf w' (i + 1) ts' → H' q = some (.lst L) → D.nx [u0, some (.ref p), some (.str w'), some (.int (i : Nat)), some (.int c), v5, v6, v7, v8, v9] H') :
    rdSs (ΓL K CP C E) bBody D [u0, some (.ref p), some (.str w), some (.int (i : Nat)), some (.int c), u5, u6, u7, u8, u9] H5 := by
  have lw := B5.wl
  have tl := B5.tl
  refine r_asg (r_callS spMix rfl (r_cons (r_v rfl (r_cons (r_bin (r_c (r_v rfl (addI' (r_nil ⟨_, _, rfl, fun m hm => ?_⟩)))))))))
  have rest : ∀ (w : Str) (ts : List Str) (H6 : Hp) (u6 u7 u8 u9 : Option V), Beside C H6 p dx lt lb lf w (i + 1) ts → H6 q = some (.lst L) →
      rdSs (ΓL K CP C E) (bBody.drop 2) D [u0, some (.ref p), some (.str w), some (.int (i : Nat)), some (.int c), some (.int m), u6, u7, u8, u9] H6 := by
    intro w ts H6 u6 u7 u8 u9 B6 hq6
    exact turn_places B6 (by omega) fun v7 v9 H' s' => hN w ts _ _ _ _ _ H' (B6.same s') (s' _ _ hq6)
  refine r_ite (r_cmpT (r_bin (r_v rfl (r_c ⟨(by show (0 : Int) < 7; decide), r_c (ceI fun b => ⟨_, rfl, ?_⟩)⟩))))
  refine ite2 (fun _ => ?_) (fun _ => ?_)
  · exact turn_odd B5 fun v6 H' s' => rest w ts H' _ _ _ _ ⟨B5.st.same s', B5.sg, B5.gd, by omega, by omega, B5.te⟩ (s' _ _ hq5)
  · refine r_asg (r_bin (r_bin (r_v rfl (r_c ⟨⟨by decide, by decide⟩, r_c ⟨(by show (0 : Int) < 7; decide), ?_⟩⟩))))
    refine r_ite (r_cmpT (r_bin (r_bin (r_v rfl (r_c ⟨⟨by decide, by decide⟩, r_c ⟨(by show (0 : Int) < 5; decide), r_c (ceI fun b => ⟨_, rfl, ?_⟩)⟩⟩)))))
    refine ite2 (fun _ => ?_) (fun _ => ?_)
    · refine r_asg (r_bin (r_c (r_bin (r_bin (r_v rfl (r_c ⟨⟨by decide, by decide⟩, r_c ⟨(by show (0 : Int) < 60; decide), addI' ?_⟩⟩))))))
      have h60 := Int.emod_lt_of_pos (m / 245) (show (0 : Int) < 60 by decide)
      have h0 := Int.emod_nonneg (m / 245) (show (60 : Int) ≠ 0 by decide)
      exact turn_text B5 hi hq5 q1 q2 q3 q4 (by omega) (by omega) fun w' ts' v8 v9 H' B' hq' => rest w' ts' H' _ _ _ _ B' hq'
    · have h7 := Int.emod_lt_of_pos (m / 7) (show (0 : Int) < 7 by decide)
      have h0 := Int.emod_nonneg (m / 7) (show (7 : Int) ≠ 0 by decide)
      exact turn_text B5 hi hq5 q1 q2 q3 q4 (by omega) (by omega) fun w' ts' v8 v9 H' B' hq' => rest w' ts' H' _ _ _ _ B' hq'
end
theorem rd_law {K : PySem.W.Frag} {CP C : Addr} (vs : List V) (H : Hp) (Q : VK) (E : XK) (h : spLaw K vs H Q E) : rdSs (rcx K (tLaw C) [] [] (mLaw CP C) (kLaw C) (E := E)) b_law (Dn Q) (start N_law vs) H := by
  obtain ⟨a, ns, rfl, ha, k⟩ := h
  refine r_asg (r_make0 C (spStInit C) rfl fun p dx hp hdx npd => ?_)
  refine ⟨p, dx, rfl, upd_same, fun lt lb lf H1 S f1 f2 f3 keep => ⟨rfl, ?_⟩⟩
  have s1 : Same H H1 := fun b o e => keep b o (by rw [upd_ne (ne_of_none e hp), upd_ne (ne_of_none e hdx)]; exact e) (ne_of_none e hp)
  have B0 : Beside C H1 p dx lt lb lf "" 0 [] := ⟨S, rfl, good_no, Nat.zero_le _, Nat.le_refl _, fun t ht => by cases ht⟩
  refine r_asg (r_c ?_)
  refine r_ite (r_orC (r_notT (r_callTS spWholeX rfl (r_cons (r_many B0 rfl (r_nil ⟨_, rfl, .inl ⟨_, rfl, tru_bl (iF ?_ rfl)⟩⟩))))))
  refine r_orC (r_cmpT (r_many B0 rfl (r_c (cnI (x := 0) ⟨_, rfl, iF ?_ rfl⟩))))
  refine r_or1 (r_cmpT (r_meth2 C (spRead CP C) rfl (r_v rfl ⟨p, dx, _, rfl, S.ob, sf_m.2.1, r_c (r_c ⟨p, dx, lt, lb, lf, [], _, _, rfl, S, .inr ⟨0, 0, rfl, rfl, Nat.zero_le _, by decide, by decide, (fun t ht => by cases ht), fun H2 s2 => r_c ?_⟩⟩)⟩)))
  refine cnS (x := "") ⟨_, rfl, iF ?_ rfl⟩
  have s12 := s1.trans s2
  have B2 := B0.same s2
  have ha2 := s12.seq ha
  refine ⟨_, rfl, _, rfl, .inl ⟨_, ha2, fun q hq => ?_⟩⟩
  have s3 := sameNew (o := .lst (cutV (ns.map V.int) none (some 16))) hq
  have B3 := B2.same s3
  have q1 : q ≠ p := fun z => by rw [z] at hq; rw [B2.st.ob] at hq; cases hq
  have q2 : q ≠ lt := fun z => by rw [z] at hq; rw [B2.st.tx] at hq; cases hq
  have q3 : q ≠ lb := fun z => by rw [z] at hq; rw [B2.st.bg] at hq; cases hq
  have q4 : q ≠ lf := fun z => by rw [z] at hq; rw [B2.st.fd] at hq; cases hq
  have hq3 : upd H2 q (.lst (cutV (ns.map V.int) none (some 16))) q = some (.lst (cutV (ns.map V.int) none (some 16))) := upd_same
  have ec := cut_pre (ns.map V.int) 16
  generalize upd H2 q (.lst (cutV (ns.map V.int) none (some 16))) = H3 at s3 B3 hq3 ⊢
  rw [show ((16 : Nat) : Int) = 16 from rfl] at ec
  rw [ec] at hq3
  refine ⟨q, rfl, ⟨_, SqL.of hq3⟩, for_enm (K := K) (a := q) (xs := (ns.map V.int).take 16) (fun i σ H4 => ∃ (w : Str) (ts : List Str) (u3 u4 u5 u6 u7 u8 u9 : Option V), σ = [some (.ref a), some (.ref p), some (.str w), u3, u4, u5, u6, u7, u8, u9] ∧ Beside C H4 p dx lt lb lf w i ts ∧ H4 q = some (.lst ((ns.map V.int).take 16)))
    ⟨"", [], none, none, none, none, none, none, none, rfl, B3, hq3⟩ (fun i σ H4 ⟨_, _, _, _, _, _, _, _, _, _, _, h⟩ => SqL.of h) ?_ ?_⟩
  · rintro i y σ H4 T hi ⟨w, ts, u3, u4, u5, u6, u7, u8, u9, rfl, B4, hq4⟩ hT
    have hi16 : i < 16 := by
      have := (List.getElem?_eq_some_iff.mp hi).1
      rw [List.length_take] at this; omega
    obtain ⟨c, rfl⟩ : ∃ c : Int, y = .int c := by
      have hm := List.mem_of_mem_take (List.mem_of_getElem? hi)
      obtain ⟨c, _, e⟩ := List.mem_map.mp hm
      exact ⟨c, e.symm⟩
    have s5 := sameNew (o := .tup [V.int (i : Nat), V.int c]) hT
    refine gs_two upd_same ?_
    have B5 := B4.same s5
    have hq5 := s5 _ _ hq4
    generalize upd H4 T (.tup [V.int (i : Nat), V.int c]) = H5 at s5 B5 hq5 ⊢
    exact turn B5 hi16 hq5 q1 q2 q3 q4 fun w' ts' v5 v6 v7 v8 v9 H' B' hq' => ⟨w', ts', _, _, _, _, _, _, _, rfl, B', hq'⟩
  · rintro σ H4 ⟨w, ts, u3, u4, u5, u6, u7, u8, u9, rfl, B4, hq4⟩
    have hl16 : ((ns.map V.int).take 16).length ≤ 16 := by rw [List.length_take]; omega
    have lw := B4.wl
    have tl := B4.tl
    have sl := B4.len
    refine r_ret (r_cmp (r_meth2 C (spRead CP C) rfl (r_v rfl ⟨p, dx, _, rfl, B4.st.ob, sf_m.2.1, r_c (r_many B4 rfl ⟨p, dx, lt, lb, lf, ts, _, _, rfl, B4.st, .inr ⟨0, w.length, rfl, rfl, by omega, by omega, by omega, B4.te, fun H5 s5 => r_v rfl ?_⟩⟩)⟩)))
    have e : (⟨(((sgs ts).drop 0).take w.length).toArray⟩ : Str) = w := str_ext (by
      show ((sgs ts).drop 0).take w.length = _
      rw [List.drop_zero, ← sl, List.take_length, B4.sg])
    rw [e]
    refine ce_str ?_
    rw [show (w == w) = true by simp]
    exact k H5
end L2.K12
set_option maxRecDepth 100000
set_option maxHeartbeats 4000000
namespace L2.K12
open PySem PySem.Spec PyProof.Rows L2.B
theorem all_mk {l : PySem.W.OpenLaw} {w : World} {K : PySem.W.Frag} {h : Heap} {mg : Str → Option Value} {fa f0 f1 f2 f3 f4 f5 f6 f7 f8 f9 f10 f11 f12 f13 f14 f15 f16 f17 : Addr} {C_Stock : Addr} {C_InkError : Addr} {C_BadText : Addr} {C_BadChange : Addr} {C_BadFit : Addr} {C_NoPlace : Addr} {C_BadSide : Addr} {C_NoMark : Addr} {C_NoNode : Addr} {C_NoCursor : Addr} {C_BadDeed : Addr} {C_BadLetter : Addr} {C_NoLetter : Addr} {C_NoHand : Addr} {C_NoNote : Addr} (X : K.In h) (G : h.Ns mainGlobals mg) (hfa : mg "law" = some (.ref fa))
    {od0 an0 : Option Addr} {sl0 : Array (Option Value)} {oc0 kV0 dc0 pm0 cd0 ct0 : Value}
    {od1 an1 : Option Addr} {sl1 : Array (Option Value)} {oc1 kV1 dc1 pm1 cd1 ct1 : Value}
    {od2 an2 : Option Addr} {sl2 : Array (Option Value)} {oc2 kV2 dc2 pm2 cd2 ct2 : Value}
    {od3 an3 : Option Addr} {sl3 : Array (Option Value)} {oc3 kV3 dc3 pm3 cd3 ct3 : Value}
    {od4 an4 : Option Addr} {sl4 : Array (Option Value)} {oc4 kV4 dc4 pm4 cd4 ct4 : Value}
    {od5 an5 : Option Addr} {sl5 : Array (Option Value)} {oc5 kV5 dc5 pm5 cd5 ct5 : Value}
    {od6 an6 : Option Addr} {sl6 : Array (Option Value)} {oc6 kV6 dc6 pm6 cd6 ct6 : Value}
    {od7 an7 : Option Addr} {sl7 : Array (Option Value)} {oc7 kV7 dc7 pm7 cd7 ct7 : Value}
    {od8 an8 : Option Addr} {sl8 : Array (Option Value)} {oc8 kV8 dc8 pm8 cd8 ct8 : Value}
    {od9 an9 : Option Addr} {sl9 : Array (Option Value)} {oc9 kV9 dc9 pm9 cd9 ct9 : Value}
    {od10 an10 : Option Addr} {sl10 : Array (Option Value)} {oc10 kV10 dc10 pm10 cd10 ct10 : Value}
    {od11 an11 : Option Addr} {sl11 : Array (Option Value)} {oc11 kV11 dc11 pm11 cd11 ct11 : Value}
    {od12 an12 : Option Addr} {sl12 : Array (Option Value)} {oc12 kV12 dc12 pm12 cd12 ct12 : Value}
    {od13 an13 : Option Addr} {sl13 : Array (Option Value)} {oc13 kV13 dc13 pm13 cd13 ct13 : Value}
    {od14 an14 : Option Addr} {sl14 : Array (Option Value)} {oc14 kV14 dc14 pm14 cd14 ct14 : Value}
    {od15 an15 : Option Addr} {sl15 : Array (Option Value)} {oc15 kV15 dc15 pm15 cd15 ct15 : Value}
    {od16 an16 : Option Addr} {sl16 : Array (Option Value)} {oc16 kV16 dc16 pm16 cd16 ct16 : Value}
    {od17 an17 : Option Addr} {sl17 : Array (Option Value)} {oc17 kV17 dc17 pm17 cd17 ct17 : Value}
    {tk_SIGNS : Tok}
    (g_Stock : PySem.W.nsIn K mainGlobals "Stock" = some (some (.ref C_Stock)))
    (pg_Stock : PySem.W.plainGet K C_Stock Str.empty = true)
    (hd_Stock : PySem.W.hasDictIn K C_Stock = true)
    (po_Stock : PySem.W.plainOver K C_Stock = true)
    (sa_Stock : PySem.W.findIn K (.ref C_Stock) "__setattr__" = some (some (.builtin "object.__setattr__")))
    (mk_Stock : PySem.W.makesIn K C_Stock = true)
    (kc_Stock : PySem.W.keepIn K (.ref C_Stock) = true)
    (nf_Stock_texts : PySem.W.findIn K (.ref C_Stock) "texts" = some none)
    (nf_Stock_begins : PySem.W.findIn K (.ref C_Stock) "begins" = some none)
    (nf_Stock_feeds : PySem.W.findIn K (.ref C_Stock) "feeds" = some none)
    (nf_Stock_signs : PySem.W.findIn K (.ref C_Stock) "signs" = some none)
    (g_InkError : PySem.W.nsIn K mainGlobals "InkError" = some (some (.ref C_InkError)))
    (g_BadText : PySem.W.nsIn K mainGlobals "BadText" = some (some (.ref C_BadText)))
    (g_BadChange : PySem.W.nsIn K mainGlobals "BadChange" = some (some (.ref C_BadChange)))
    (g_BadFit : PySem.W.nsIn K mainGlobals "BadFit" = some (some (.ref C_BadFit)))
    (g_NoPlace : PySem.W.nsIn K mainGlobals "NoPlace" = some (some (.ref C_NoPlace)))
    (g_BadSide : PySem.W.nsIn K mainGlobals "BadSide" = some (some (.ref C_BadSide)))
    (g_NoMark : PySem.W.nsIn K mainGlobals "NoMark" = some (some (.ref C_NoMark)))
    (g_NoNode : PySem.W.nsIn K mainGlobals "NoNode" = some (some (.ref C_NoNode)))
    (g_NoCursor : PySem.W.nsIn K mainGlobals "NoCursor" = some (some (.ref C_NoCursor)))
    (g_BadDeed : PySem.W.nsIn K mainGlobals "BadDeed" = some (some (.ref C_BadDeed)))
    (g_BadLetter : PySem.W.nsIn K mainGlobals "BadLetter" = some (some (.ref C_BadLetter)))
    (g_NoLetter : PySem.W.nsIn K mainGlobals "NoLetter" = some (some (.ref C_NoLetter)))
    (g_NoHand : PySem.W.nsIn K mainGlobals "NoHand" = some (some (.ref C_NoHand)))
    (g_NoNote : PySem.W.nsIn K mainGlobals "NoNote" = some (some (.ref C_NoNote)))
    (x_BadText : PySem.W.excIn K C_BadText [.type "ValueError", .type "Exception", .type "BaseException", .type "object"] "ValueError.__new__" = true)
    (x_NoPlace : PySem.W.excIn K C_NoPlace [.type "ValueError", .type "Exception", .type "BaseException", .type "object"] "ValueError.__new__" = true)
    (e1_BadText : PySem.W.findIn K (.ref C_BadText) "__getattribute__" = some (some (.builtin "BaseException.__getattribute__")))
    (e2_BadText : PySem.W.findIn K (.ref C_BadText) "__getattr__" = some none)
    (e3_BadText : (PySem.W.clsIn K C_BadText).isSome = true)
    (e4_BadText : PySem.W.findIn K (.ref C_BadText) "__class__" = some (some (.builtin "object.__class__")))
    (e7_BadText : PySem.W.mroIn K C_BadText (.type "object") = some true)
    (e8_BadText : PySem.W.mroIn K C_BadText (.type "BaseException") = some true)
    (kt_BadText_BadText : PySem.W.kitOne K (.ref C_BadText) (.ref C_BadText) = some true)
    (kt_BadText_BadChange : PySem.W.kitOne K (.ref C_BadText) (.ref C_BadChange) = some false)
    (kt_BadText_BadFit : PySem.W.kitOne K (.ref C_BadText) (.ref C_BadFit) = some false)
    (kt_BadText_NoPlace : PySem.W.kitOne K (.ref C_BadText) (.ref C_NoPlace) = some false)
    (kt_BadText_BadSide : PySem.W.kitOne K (.ref C_BadText) (.ref C_BadSide) = some false)
    (kt_BadText_NoMark : PySem.W.kitOne K (.ref C_BadText) (.ref C_NoMark) = some false)
    (kt_BadText_NoNode : PySem.W.kitOne K (.ref C_BadText) (.ref C_NoNode) = some false)
    (kt_BadText_NoCursor : PySem.W.kitOne K (.ref C_BadText) (.ref C_NoCursor) = some false)
    (kt_BadText_BadDeed : PySem.W.kitOne K (.ref C_BadText) (.ref C_BadDeed) = some false)
    (kt_BadText_BadLetter : PySem.W.kitOne K (.ref C_BadText) (.ref C_BadLetter) = some false)
    (kt_BadText_NoLetter : PySem.W.kitOne K (.ref C_BadText) (.ref C_NoLetter) = some false)
    (kt_BadText_NoHand : PySem.W.kitOne K (.ref C_BadText) (.ref C_NoHand) = some false)
    (kt_BadText_NoNote : PySem.W.kitOne K (.ref C_BadText) (.ref C_NoNote) = some false)
    (ki_BadText : PySem.W.kitOne K (.ref C_BadText) (.ref C_InkError) = some true)
    (kv_BadText : PySem.W.kitOne K (.ref C_BadText) (.type "ValueError") = some true)
    (X_BadText : PySem.W.exmOne K (.ref C_BadText) (.ref C_InkError) = some true)
    (e1_NoPlace : PySem.W.findIn K (.ref C_NoPlace) "__getattribute__" = some (some (.builtin "BaseException.__getattribute__")))
    (e2_NoPlace : PySem.W.findIn K (.ref C_NoPlace) "__getattr__" = some none)
    (e3_NoPlace : (PySem.W.clsIn K C_NoPlace).isSome = true)
    (e4_NoPlace : PySem.W.findIn K (.ref C_NoPlace) "__class__" = some (some (.builtin "object.__class__")))
    (e7_NoPlace : PySem.W.mroIn K C_NoPlace (.type "object") = some true)
    (e8_NoPlace : PySem.W.mroIn K C_NoPlace (.type "BaseException") = some true)
    (kt_NoPlace_BadText : PySem.W.kitOne K (.ref C_NoPlace) (.ref C_BadText) = some false)
    (kt_NoPlace_BadChange : PySem.W.kitOne K (.ref C_NoPlace) (.ref C_BadChange) = some false)
    (kt_NoPlace_BadFit : PySem.W.kitOne K (.ref C_NoPlace) (.ref C_BadFit) = some false)
    (kt_NoPlace_NoPlace : PySem.W.kitOne K (.ref C_NoPlace) (.ref C_NoPlace) = some true)
    (kt_NoPlace_BadSide : PySem.W.kitOne K (.ref C_NoPlace) (.ref C_BadSide) = some false)
    (kt_NoPlace_NoMark : PySem.W.kitOne K (.ref C_NoPlace) (.ref C_NoMark) = some false)
    (kt_NoPlace_NoNode : PySem.W.kitOne K (.ref C_NoPlace) (.ref C_NoNode) = some false)
    (kt_NoPlace_NoCursor : PySem.W.kitOne K (.ref C_NoPlace) (.ref C_NoCursor) = some false)
    (kt_NoPlace_BadDeed : PySem.W.kitOne K (.ref C_NoPlace) (.ref C_BadDeed) = some false)
    (kt_NoPlace_BadLetter : PySem.W.kitOne K (.ref C_NoPlace) (.ref C_BadLetter) = some false)
    (kt_NoPlace_NoLetter : PySem.W.kitOne K (.ref C_NoPlace) (.ref C_NoLetter) = some false)
    (kt_NoPlace_NoHand : PySem.W.kitOne K (.ref C_NoPlace) (.ref C_NoHand) = some false)
    (kt_NoPlace_NoNote : PySem.W.kitOne K (.ref C_NoPlace) (.ref C_NoNote) = some false)
    (ki_NoPlace : PySem.W.kitOne K (.ref C_NoPlace) (.ref C_InkError) = some true)
    (kv_NoPlace : PySem.W.kitOne K (.ref C_NoPlace) (.type "ValueError") = some true)
    (X_NoPlace : PySem.W.exmOne K (.ref C_NoPlace) (.ref C_InkError) = some true)
    (e5 : PySem.W.specialIn K (.builtin "object.__class__") "__get__" = some (some (.builtin "getset_descriptor.__get__")))
    (e6 : PySem.W.takesIn K (.builtin "object.__class__") = some true)
    (a0 : PySem.W.nsIn K mainGlobals "many_upto" = some (some (.ref f0)))
    (l0 : K.lookup f0 = some ⟨oc0, od0, .func (PySem.W.fnOf "many_upto" "many_upto" (defArgs s_many_upto) (defBody s_many_upto) (defScope s_many_upto) .none kV0 dc0 pm0 an0 cd0 ct0), sl0⟩)
    (c0 : PySem.W.codeIn K cd0 "many_upto" = true)
    (k0 : PySem.W.keepIn K (.ref f0) = true)
    (a1 : PySem.W.nsIn K mainGlobals "is_whole" = some (some (.ref f1)))
    (l1 : K.lookup f1 = some ⟨oc1, od1, .func (PySem.W.fnOf "is_whole" "is_whole" (defArgs s_is_whole) (defBody s_is_whole) (defScope s_is_whole) .none kV1 dc1 pm1 an1 cd1 ct1), sl1⟩)
    (c1 : PySem.W.codeIn K cd1 "is_whole" = true)
    (k1 : PySem.W.keepIn K (.ref f1) = true)
    (a2 : PySem.W.nsIn K mainGlobals "is_between" = some (some (.ref f2)))
    (l2 : K.lookup f2 = some ⟨oc2, od2, .func (PySem.W.fnOf "is_between" "is_between" (defArgs s_is_between) (defBody s_is_between) (defScope s_is_between) .none kV2 dc2 pm2 an2 cd2 ct2), sl2⟩)
    (c2 : PySem.W.codeIn K cd2 "is_between" = true)
    (k2 : PySem.W.keepIn K (.ref f2) = true)
    (a3 : PySem.W.nsIn K mainGlobals "is_text" = some (some (.ref f3)))
    (l3 : K.lookup f3 = some ⟨oc3, od3, .func (PySem.W.fnOf "is_text" "is_text" (defArgs s_is_text) (defBody s_is_text) (defScope s_is_text) .none kV3 dc3 pm3 an3 cd3 ct3), sl3⟩)
    (c3 : PySem.W.codeIn K cd3 "is_text" = true)
    (k3 : PySem.W.keepIn K (.ref f3) = true)
    (a4 : PySem.W.nsIn K mainGlobals "need_text" = some (some (.ref f4)))
    (l4 : K.lookup f4 = some ⟨oc4, od4, .func (PySem.W.fnOf "need_text" "need_text" (defArgs s_need_text) (defBody s_need_text) (defScope s_need_text) .none kV4 dc4 pm4 an4 cd4 ct4), sl4⟩)
    (c4 : PySem.W.codeIn K cd4 "need_text" = true)
    (k4 : PySem.W.keepIn K (.ref f4) = true)
    (a5 : PySem.W.findIn K (.ref C_Stock) "__init__" = some (some (.ref f5)))
    (i5 : PySem.W.isFn K (.ref f5) = true)
    (l5 : K.lookup f5 = some ⟨oc5, od5, .func (PySem.W.fnOf "__init__" "Stock.__init__" (defArgs s_Stock_init) (defBody s_Stock_init) (defScope s_Stock_init) .none kV5 dc5 pm5 an5 cd5 ct5), sl5⟩)
    (c5 : PySem.W.codeIn K cd5 "Stock.__init__" = true)
    (k5 : PySem.W.keepIn K (.ref f5) = true)
    (a6 : PySem.W.findIn K (.ref C_Stock) "put" = some (some (.ref f6)))
    (i6 : PySem.W.isFn K (.ref f6) = true)
    (l6 : K.lookup f6 = some ⟨oc6, od6, .func (PySem.W.fnOf "put" "Stock.put" (defArgs s_Stock_put) (defBody s_Stock_put) (defScope s_Stock_put) .none kV6 dc6 pm6 an6 cd6 ct6), sl6⟩)
    (c6 : PySem.W.codeIn K cd6 "Stock.put" = true)
    (k6 : PySem.W.keepIn K (.ref f6) = true)
    (a7 : PySem.W.findIn K (.ref C_Stock) "read" = some (some (.ref f7)))
    (i7 : PySem.W.isFn K (.ref f7) = true)
    (l7 : K.lookup f7 = some ⟨oc7, od7, .func (PySem.W.fnOf "read" "Stock.read" (defArgs s_Stock_read) (defBody s_Stock_read) (defScope s_Stock_read) .none kV7 dc7 pm7 an7 cd7 ct7), sl7⟩)
    (c7 : PySem.W.codeIn K cd7 "Stock.read" = true)
    (k7 : PySem.W.keepIn K (.ref f7) = true)
    (a8 : PySem.W.findIn K (.ref C_Stock) "many" = some (some (.ref f8)))
    (i8 : PySem.W.isFn K (.ref f8) = true)
    (l8 : K.lookup f8 = some ⟨oc8, od8, .func (PySem.W.fnOf "many" "Stock.many" (defArgs s_Stock_many) (defBody s_Stock_many) (defScope s_Stock_many) .none kV8 dc8 pm8 an8 cd8 ct8), sl8⟩)
    (c8 : PySem.W.codeIn K cd8 "Stock.many" = true)
    (k8 : PySem.W.keepIn K (.ref f8) = true)
    (a9 : PySem.W.nsIn K mainGlobals "_law_whole" = some (some (.ref f9)))
    (l9 : K.lookup f9 = some ⟨oc9, od9, .func (PySem.W.fnOf "_law_whole" "_law_whole" (defArgs s_wholeL) (defBody s_wholeL) (defScope s_wholeL) .none kV9 dc9 pm9 an9 cd9 ct9), sl9⟩)
    (c9 : PySem.W.codeIn K cd9 "_law_whole" = true)
    (k9 : PySem.W.keepIn K (.ref f9) = true)
    (a10 : PySem.W.nsIn K mainGlobals "_law_mixed" = some (some (.ref f10)))
    (l10 : K.lookup f10 = some ⟨oc10, od10, .func (PySem.W.fnOf "_law_mixed" "_law_mixed" (defArgs s_mixedL) (defBody s_mixedL) (defScope s_mixedL) .none kV10 dc10 pm10 an10 cd10 ct10), sl10⟩)
    (c10 : PySem.W.codeIn K cd10 "_law_mixed" = true)
    (k10 : PySem.W.keepIn K (.ref f10) = true)
    (a11 : PySem.W.nsIn K mainGlobals "_law_text_by" = some (some (.ref f11)))
    (l11 : K.lookup f11 = some ⟨oc11, od11, .func (PySem.W.fnOf "_law_text_by" "_law_text_by" (defArgs s_text_byL) (defBody s_text_byL) (defScope s_text_byL) .none kV11 dc11 pm11 an11 cd11 ct11), sl11⟩)
    (c11 : PySem.W.codeIn K cd11 "_law_text_by" = true)
    (k11 : PySem.W.keepIn K (.ref f11) = true)
    (a12 : PySem.W.nsIn K mainGlobals "_law_word" = some (some (.ref f12)))
    (l12 : K.lookup f12 = some ⟨oc12, od12, .func (PySem.W.fnOf "_law_word" "_law_word" (defArgs s_wordL) (defBody s_wordL) (defScope s_wordL) .none kV12 dc12 pm12 an12 cd12 ct12), sl12⟩)
    (c12 : PySem.W.codeIn K cd12 "_law_word" = true)
    (k12 : PySem.W.keepIn K (.ref f12) = true)
    (a13 : PySem.W.nsIn K mainGlobals "_law_put" = some (some (.ref f13)))
    (l13 : K.lookup f13 = some ⟨oc13, od13, .func (PySem.W.fnOf "_law_put" "_law_put" (defArgs s_putL) (defBody s_putL) (defScope s_putL) .none kV13 dc13 pm13 an13 cd13 ct13), sl13⟩)
    (c13 : PySem.W.codeIn K cd13 "_law_put" = true)
    (k13 : PySem.W.keepIn K (.ref f13) = true)
    (a14 : PySem.W.nsIn K mainGlobals "_law_read" = some (some (.ref f14)))
    (l14 : K.lookup f14 = some ⟨oc14, od14, .func (PySem.W.fnOf "_law_read" "_law_read" (defArgs s_readL) (defBody s_readL) (defScope s_readL) .none kV14 dc14 pm14 an14 cd14 ct14), sl14⟩)
    (c14 : PySem.W.codeIn K cd14 "_law_read" = true)
    (k14 : PySem.W.keepIn K (.ref f14) = true)
    (a15 : PySem.W.nsIn K mainGlobals "_law_place" = some (some (.ref f15)))
    (l15 : K.lookup f15 = some ⟨oc15, od15, .func (PySem.W.fnOf "_law_place" "_law_place" (defArgs s_placeL) (defBody s_placeL) (defScope s_placeL) .none kV15 dc15 pm15 an15 cd15 ct15), sl15⟩)
    (c15 : PySem.W.codeIn K cd15 "_law_place" = true)
    (k15 : PySem.W.keepIn K (.ref f15) = true)
    (a16 : PySem.W.nsIn K mainGlobals "_law_due" = some (some (.ref f16)))
    (l16 : K.lookup f16 = some ⟨oc16, od16, .func (PySem.W.fnOf "_law_due" "_law_due" (defArgs s_dueL) (defBody s_dueL) (defScope s_dueL) .none kV16 dc16 pm16 an16 cd16 ct16), sl16⟩)
    (c16 : PySem.W.codeIn K cd16 "_law_due" = true)
    (k16 : PySem.W.keepIn K (.ref f16) = true)
    (a17 : PySem.W.nsIn K mainGlobals "law" = some (some (.ref f17)))
    (l17 : K.lookup f17 = some ⟨oc17, od17, .func (PySem.W.fnOf "law" "law" (defArgs s_law) (defBody s_law) (defScope s_law) .none kV17 dc17 pm17 an17 cd17 ct17), sl17⟩)
    (c17 : PySem.W.codeIn K cd17 "law" = true)
    (k17 : PySem.W.keepIn K (.ref f17) = true)
    (g_SIGNS : PySem.W.nsIn K mainGlobals "SIGNS" = some (some (Value.str SG tk_SIGNS)))
    (z_ValueError : PySem.W.nsIn K mainGlobals "ValueError" = some none)
    (z_bool : PySem.W.nsIn K mainGlobals "bool" = some none)
    (z_enumerate : PySem.W.nsIn K mainGlobals "enumerate" = some none)
    (z_int : PySem.W.nsIn K mainGlobals "int" = some none)
    (z_isinstance : PySem.W.nsIn K mainGlobals "isinstance" = some none)
    (z_len : PySem.W.nsIn K mainGlobals "len" = some none)
    (z_min : PySem.W.nsIn K mainGlobals "min" = some none)
    (z_range : PySem.W.nsIn K mainGlobals "range" = some none)
    (z_str : PySem.W.nsIn K mainGlobals "str" = some none)
    : ∃ fd : FuncData, (∀ (s : Shared) (v : Value), BindsTo s fd ⟨[v], []⟩ [("_law_script", v)]) ∧ ∀ base : Heap, K.In base → base.Ns mainGlobals mg → FnOk l.prog w K mg base CX0 5 fa fd ["_law_script"] (fun vs H Q _ => (spLaw K) vs H Q E0) := by
  have e := hfa.symm.trans (PySem.W.mg_of X G a17)
  cases e
  have y_ValueError : mg "ValueError" = none := PySem.W.mg_none_of X G z_ValueError
  have y_bool : mg "bool" = none := PySem.W.mg_none_of X G z_bool
  have y_enumerate : mg "enumerate" = none := PySem.W.mg_none_of X G z_enumerate
  have y_int : mg "int" = none := PySem.W.mg_none_of X G z_int
  have y_isinstance : mg "isinstance" = none := PySem.W.mg_none_of X G z_isinstance
  have y_len : mg "len" = none := PySem.W.mg_none_of X G z_len
  have y_min : mg "min" = none := PySem.W.mg_none_of X G z_min
  have y_range : mg "range" = none := PySem.W.mg_none_of X G z_range
  have y_str : mg "str" = none := PySem.W.mg_none_of X G z_str
  have u_SIGNS : GvT mg ("SIGNS", .str SG) := ⟨_, PySem.W.mg_of X G g_SIGNS, ⟨_, rfl⟩⟩
  have u_InkError : GvT mg ("InkError", .ref C_InkError) := ⟨_, PySem.W.mg_of X G g_InkError, rfl⟩
  have u_BadText : GvT mg ("BadText", .ref C_BadText) := ⟨_, PySem.W.mg_of X G g_BadText, rfl⟩
  have u_BadChange : GvT mg ("BadChange", .ref C_BadChange) := ⟨_, PySem.W.mg_of X G g_BadChange, rfl⟩
  have u_BadFit : GvT mg ("BadFit", .ref C_BadFit) := ⟨_, PySem.W.mg_of X G g_BadFit, rfl⟩
  have u_NoPlace : GvT mg ("NoPlace", .ref C_NoPlace) := ⟨_, PySem.W.mg_of X G g_NoPlace, rfl⟩
  have u_BadSide : GvT mg ("BadSide", .ref C_BadSide) := ⟨_, PySem.W.mg_of X G g_BadSide, rfl⟩
  have u_NoMark : GvT mg ("NoMark", .ref C_NoMark) := ⟨_, PySem.W.mg_of X G g_NoMark, rfl⟩
  have u_NoNode : GvT mg ("NoNode", .ref C_NoNode) := ⟨_, PySem.W.mg_of X G g_NoNode, rfl⟩
  have u_NoCursor : GvT mg ("NoCursor", .ref C_NoCursor) := ⟨_, PySem.W.mg_of X G g_NoCursor, rfl⟩
  have u_BadDeed : GvT mg ("BadDeed", .ref C_BadDeed) := ⟨_, PySem.W.mg_of X G g_BadDeed, rfl⟩
  have u_BadLetter : GvT mg ("BadLetter", .ref C_BadLetter) := ⟨_, PySem.W.mg_of X G g_BadLetter, rfl⟩
  have u_NoLetter : GvT mg ("NoLetter", .ref C_NoLetter) := ⟨_, PySem.W.mg_of X G g_NoLetter, rfl⟩
  have u_NoHand : GvT mg ("NoHand", .ref C_NoHand) := ⟨_, PySem.W.mg_of X G g_NoHand, rfl⟩
  have u_NoNote : GvT mg ("NoNote", .ref C_NoNote) := ⟨_, PySem.W.mg_of X G g_NoNote, rfl⟩
  have W_BadText : Kits K [C_BadText, C_BadChange, C_BadFit, C_NoPlace, C_BadSide, C_NoMark, C_NoNode, C_NoCursor, C_BadDeed, C_BadLetter, C_NoLetter, C_NoHand, C_NoNote] C_InkError C_BadText 0 := kits_of ⟨e1_BadText, e2_BadText, e3_BadText, e4_BadText, e5, e6, e7_BadText, e8_BadText⟩ ki_BadText kv_BadText kt_BadText_BadText kt_BadText_BadChange kt_BadText_BadFit kt_BadText_NoPlace kt_BadText_BadSide kt_BadText_NoMark kt_BadText_NoNode kt_BadText_NoCursor kt_BadText_BadDeed kt_BadText_BadLetter kt_BadText_NoLetter kt_BadText_NoHand kt_BadText_NoNote
  have W_NoPlace : Kits K [C_BadText, C_BadChange, C_BadFit, C_NoPlace, C_BadSide, C_NoMark, C_NoNode, C_NoCursor, C_BadDeed, C_BadLetter, C_NoLetter, C_NoHand, C_NoNote] C_InkError C_NoPlace 3 := kits_of ⟨e1_NoPlace, e2_NoPlace, e3_NoPlace, e4_NoPlace, e5, e6, e7_NoPlace, e8_NoPlace⟩ ki_NoPlace kv_NoPlace kt_NoPlace_BadText kt_NoPlace_BadChange kt_NoPlace_BadFit kt_NoPlace_NoPlace kt_NoPlace_BadSide kt_NoPlace_NoMark kt_NoPlace_NoNode kt_NoPlace_NoCursor kt_NoPlace_BadDeed kt_NoPlace_BadLetter kt_NoPlace_NoLetter kt_NoPlace_NoHand kt_NoPlace_NoNote
  have T_Stock : Tx_Stock K C_Stock := ⟨⟨pg_Stock, hd_Stock, po_Stock, sa_Stock⟩, nf_Stock_texts, nf_Stock_begins, nf_Stock_feeds, nf_Stock_signs⟩
  refine ⟨PySem.W.fnOf "law" "law" (defArgs s_law) (defBody s_law) (defScope s_law) .none kV17 dc17 pm17 an17 cd17 ct17, fun s v => .of_eq rfl, fun base X2 G2 => ?_⟩
  have v_BadText : ExT mg base ("BadText", C_BadText) := ext_of X2 G2 g_BadText x_BadText
  have v_NoPlace : ExT mg base ("NoPlace", C_NoPlace) := ext_of X2 G2 g_NoPlace x_NoPlace
  have F0 := fun_mk (st := s_many_upto) l0 c0 k0
  have B0 := F0.binds (ps := P_many_upto) fun _ _ _ _ _ _ us hl => match us, hl with | [_, _], _ => rfl
  have T0 : FnT l.prog w K mg base 1 "many_upto" (spUpto) := ⟨_, _, _, (def_fnX (k := 0) F0 sc_many_upto [] [] l_many_upto [] [] [] [] b_many_upto m_many_upto am_nil am_nil (am_cons y_len am_nil) [] am_nil am_nil am_nil am_nil am_nil (by rintro vs H Q E ⟨_, _, _, rfl, _⟩; rfl) rd_upto), PySem.W.mg_of X G a0, F0.kp, B0⟩
  have F1 := fun_mk (st := s_is_whole) l1 c1 k1
  have B1 := F1.binds (ps := P_is_whole) fun _ _ _ _ _ _ us hl => match us, hl with | [_], _ => rfl
  have T1 : FnT l.prog w K mg base 1 "is_whole" (spWholeX) := ⟨_, _, _, (def_fnX (k := 0) F1 sc_is_whole [] [] l_is_whole [] [] [] [] b_is_whole m_is_whole am_nil am_nil (am_cons y_isinstance (am_cons y_int (am_cons y_bool am_nil))) [] am_nil am_nil am_nil am_nil am_nil (by rintro vs H Q E ⟨_, rfl, _⟩; rfl) rd_wholeX), PySem.W.mg_of X G a1, F1.kp, B1⟩
  have F2 := fun_mk (st := s_is_between) l2 c2 k2
  have B2 := F2.binds (ps := P_is_between) fun _ _ _ _ _ _ us hl => match us, hl with | [_, _, _], _ => rfl
  have T2 : FnT l.prog w K mg base 2 "is_between" (spBetweenX) := ⟨_, _, _, (def_fnX (k := 1) F2 sc_is_between [("is_whole", spWholeX)] [] l_is_between [] [] [] [] b_is_between m_is_between (am_cons (T1.mono (by omega)) am_nil) am_nil am_nil [] am_nil am_nil am_nil am_nil am_nil (by rintro vs H Q E ⟨_, _, _, rfl, _⟩; rfl) rd_betweenX), PySem.W.mg_of X G a2, F2.kp, B2⟩
  have F3 := fun_mk (st := s_is_text) l3 c3 k3
  have B3 := F3.binds (ps := P_is_text) fun _ _ _ _ _ _ us hl => match us, hl with | [_], _ => rfl
  have T3 : FnT l.prog w K mg base 1 "is_text" (spTextX) := ⟨_, _, _, (def_fnX (k := 0) F3 sc_is_text [] [("SIGNS", .str SG)] l_is_text [] [] [] [] b_is_text m_is_text am_nil (am_cons u_SIGNS am_nil) (am_cons y_isinstance (am_cons y_str am_nil)) [] am_nil am_nil am_nil am_nil am_nil (by rintro vs H Q E ⟨_, rfl, _⟩; rfl) rd_textX), PySem.W.mg_of X G a3, F3.kp, B3⟩
  have F4 := fun_mk (st := s_need_text) l4 c4 k4
  have B4 := F4.binds (ps := P_need_text) fun _ _ _ _ _ _ us hl => match us, hl with | [_], _ => rfl
  have T4 : FnT l.prog w K mg base 2 "need_text" (spNeedTX C_BadText) := ⟨_, _, _, (def_fnX (k := 1) F4 sc_need_text [("is_text", spTextX)] [] l_need_text [] [] [("BadText", C_BadText)] [] b_need_text m_need_text (am_cons (T3.mono (by omega)) am_nil) am_nil am_nil [] am_nil am_nil am_nil (am_cons v_BadText am_nil) am_nil (by rintro vs H Q E ⟨_, rfl, _⟩; rfl) rd_needTX), PySem.W.mg_of X G a4, F4.kp, B4⟩
  have F5 := fun_mk (st := s_Stock_init) l5 c5 k5
  have B5 := F5.binds (ps := P_Stock_init) fun _ _ _ _ _ _ us hl => match us, hl with | [_], _ => rfl
  have T5 : MkT l.prog w K mg base 2 ("Stock", C_Stock, spStInit C_Stock) := ⟨0 + 1, _, _, _, Nat.le_refl _, ⟨mk_Stock, a5, i5, kc_Stock⟩, (def_fnX (k := 0) F5 sc_Stock_init [] [] l_Stock_init [] [] [] [] b_Stock_init m_Stock_init am_nil am_nil am_nil [] am_nil am_nil am_nil am_nil am_nil (by rintro vs H Q E ⟨_, _, rfl, _⟩; rfl) (rd_StInit T_Stock)), PySem.W.mg_of X G g_Stock, B5⟩
  have F6 := fun_mk (st := s_Stock_put) l6 c6 k6
  have B6 := F6.binds (ps := P_Stock_put) fun _ _ _ _ _ _ us hl => match us, hl with | [_, _], _ => rfl
  have T6 : MtT l.prog w K mg base 3 ("put", C_Stock, spPut C_BadText C_Stock) := ⟨T_Stock.cl, _, _, _, ⟨a6, i6, k6⟩, (def_fnX (k := 2) F6 sc_Stock_put [("need_text", spNeedTX C_BadText)] [] l_Stock_put [] [] [] [] b_Stock_put m_Stock_put (am_cons (T4.mono (by omega)) am_nil) am_nil (am_cons y_len am_nil) [] am_nil am_nil am_nil am_nil am_nil (by rintro vs H Q E ⟨_, _, _, _, _, _, _, rfl, _⟩; rfl) (rd_StPut T_Stock)), B6⟩
  have F7 := fun_mk (st := s_Stock_read) l7 c7 k7
  have B7 := F7.binds (ps := P_Stock_read) fun _ _ _ _ _ _ us hl => match us, hl with | [_, _, _], _ => rfl
  have T7 : MtT l.prog w K mg base 3 ("read", C_Stock, spRead C_NoPlace C_Stock) := ⟨T_Stock.cl, _, _, _, ⟨a7, i7, k7⟩, (def_fnX (k := 2) F7 sc_Stock_read [("is_between", spBetweenX), ("many_upto", spUpto)] [] l_Stock_read [] [] [("NoPlace", C_NoPlace)] [] b_Stock_read m_Stock_read (am_cons (T2.mono (by omega)) (am_cons (T0.mono (by omega)) am_nil)) am_nil (am_cons y_len am_nil) [] am_nil am_nil am_nil (am_cons v_NoPlace am_nil) am_nil (by rintro vs H Q E ⟨_, _, _, _, _, _, _, _, rfl, _⟩; rfl) (rd_StRead T_Stock)), B7⟩
  have F8 := fun_mk (st := s_Stock_many) l8 c8 k8
  have B8 := F8.binds (ps := P_Stock_many) fun _ _ _ _ _ _ us hl => match us, hl with | [_], _ => rfl
  have T8 : MtT l.prog w K mg base 1 ("many", C_Stock, spStMany C_Stock) := ⟨T_Stock.cl, _, _, _, ⟨a8, i8, k8⟩, (def_fnX (k := 0) F8 sc_Stock_many [] [] l_Stock_many [] [] [] [] b_Stock_many m_Stock_many am_nil am_nil am_nil [] am_nil am_nil am_nil am_nil am_nil (by rintro vs H Q E ⟨_, _, _, _, _, _, rfl, _⟩; rfl) (rd_StMany T_Stock)), B8⟩
  have F9 := fun_mk (st := s_wholeL) l9 c9 k9
  have B9 := F9.binds (ps := P_wholeL) fun _ _ _ _ _ _ us hl => match us, hl with | [_], _ => rfl
  have T9 : FnT l.prog w K mg base 1 "_law_whole" (spWholeX) := ⟨_, _, _, (def_fnX (k := 0) F9 sc_wholeL [] [] l_wholeL [] [] [] [] b_wholeL m_wholeL am_nil am_nil (am_cons y_isinstance (am_cons y_int (am_cons y_bool am_nil))) [] am_nil am_nil am_nil am_nil am_nil (by rintro vs H Q E ⟨_, rfl, _⟩; rfl) rd_wholeXL), PySem.W.mg_of X G a9, F9.kp, B9⟩
  have F10 := fun_mk (st := s_mixedL) l10 c10 k10
  have B10 := F10.binds (ps := P_mixedL) fun _ _ _ _ _ _ us hl => match us, hl with | [_, _], _ => rfl
  have T10 : FnT l.prog w K mg base 1 "_law_mixed" (spMix) := ⟨_, _, _, (def_fnX (k := 0) F10 sc_mixedL [] [] l_mixedL [] [] [] [] b_mixedL m_mixedL am_nil am_nil am_nil [] am_nil am_nil am_nil am_nil am_nil (by rintro vs H Q E ⟨_, _, rfl, _⟩; rfl) rd_mix), PySem.W.mg_of X G a10, F10.kp, B10⟩
  have F11 := fun_mk (st := s_text_byL) l11 c11 k11
  have B11 := F11.binds (ps := P_text_byL) fun _ _ _ _ _ _ us hl => match us, hl with | [_, _], _ => rfl
  have T11 : FnT l.prog w K mg base 2 "_law_text_by" (spTextBy) := ⟨_, _, _, (def_fnX (k := 1) F11 sc_text_byL [("_law_mixed", spMix)] [] l_text_byL [] [] [] [] b_text_byL m_text_byL (am_cons (T10.mono (by omega)) am_nil) am_nil (am_cons y_range am_nil) [] am_nil am_nil am_nil am_nil am_nil (by rintro vs H Q E ⟨_, _, rfl, _⟩; rfl) rd_textBy), PySem.W.mg_of X G a11, F11.kp, B11⟩
  have F12 := fun_mk (st := s_wordL) l12 c12 k12
  have B12 := F12.binds (ps := P_wordL) fun _ _ _ _ _ _ us hl => match us, hl with | [_], _ => rfl
  have T12 : FnTH l.prog w K mg base 1 "_law_word" (spWord K [C_BadText, C_BadChange, C_BadFit, C_NoPlace, C_BadSide, C_NoMark, C_NoNode, C_NoCursor, C_BadDeed, C_BadLetter, C_NoLetter, C_NoHand, C_NoNote] C_InkError) := def_okH (k := 0) F12 sc_wordL (PySem.W.mg_of X G a12) B12 [("BadText", .ref C_BadText), ("BadChange", .ref C_BadChange), ("BadFit", .ref C_BadFit), ("NoPlace", .ref C_NoPlace), ("BadSide", .ref C_BadSide), ("NoMark", .ref C_NoMark), ("NoNode", .ref C_NoNode), ("NoCursor", .ref C_NoCursor), ("BadDeed", .ref C_BadDeed), ("BadLetter", .ref C_BadLetter), ("NoLetter", .ref C_NoLetter), ("NoHand", .ref C_NoHand), ("NoNote", .ref C_NoNote)] l_wordL b_wordL m_wordL (am_cons u_BadText (am_cons u_BadChange (am_cons u_BadFit (am_cons u_NoPlace (am_cons u_BadSide (am_cons u_NoMark (am_cons u_NoNode (am_cons u_NoCursor (am_cons u_BadDeed (am_cons u_BadLetter (am_cons u_NoLetter (am_cons u_NoHand (am_cons u_NoNote am_nil))))))))))))) (am_cons y_isinstance (am_cons y_ValueError am_nil)) (by rintro vs H Q E ⟨_, _, _, rfl, _⟩; rfl) rd_word
  have F13 := fun_mk (st := s_putL) l13 c13 k13
  have B13 := F13.binds (ps := P_putL) fun _ _ _ _ _ _ us hl => match us, hl with | [_, _], _ => rfl
  have T13 : FnT l.prog w K mg base 4 "_law_put" (spPutL C_Stock) := ⟨_, _, _, (def_fnX (k := 3) F13 sc_putL [] [("InkError", .ref C_InkError)] l_putL [("put", C_Stock, spPut C_BadText C_Stock)] [] [] [("_law_word", spWord K [C_BadText, C_BadChange, C_BadFit, C_NoPlace, C_BadSide, C_NoMark, C_NoNode, C_NoCursor, C_BadDeed, C_BadLetter, C_NoLetter, C_NoHand, C_NoNote] C_InkError)] b_putL m_putL am_nil (am_cons u_InkError am_nil) am_nil [] am_nil (am_cons (T6.mono (by omega)) am_nil) am_nil am_nil (am_cons (T12.mono (by omega)) am_nil) (by rintro vs H Q E ⟨_, _, _, _, _, _, _, rfl, _⟩; rfl) (rd_putL W_BadText X_BadText)), PySem.W.mg_of X G a13, F13.kp, B13⟩
  have F14 := fun_mk (st := s_readL) l14 c14 k14
  have B14 := F14.binds (ps := P_readL) fun _ _ _ _ _ _ us hl => match us, hl with | [_, _, _], _ => rfl
  have T14 : FnT l.prog w K mg base 4 "_law_read" (spReadL C_Stock) := ⟨_, _, _, (def_fnX (k := 3) F14 sc_readL [] [("InkError", .ref C_InkError)] l_readL [("read", C_Stock, spRead C_NoPlace C_Stock)] [] [] [("_law_word", spWord K [C_BadText, C_BadChange, C_BadFit, C_NoPlace, C_BadSide, C_NoMark, C_NoNode, C_NoCursor, C_BadDeed, C_BadLetter, C_NoLetter, C_NoHand, C_NoNote] C_InkError)] b_readL m_readL am_nil (am_cons u_InkError am_nil) am_nil [] am_nil (am_cons (T7.mono (by omega)) am_nil) am_nil am_nil (am_cons (T12.mono (by omega)) am_nil) (by rintro vs H Q E ⟨_, _, _, _, _, _, _, _, rfl, _⟩; rfl) (rd_readL W_NoPlace X_NoPlace)), PySem.W.mg_of X G a14, F14.kp, B14⟩
  have F15 := fun_mk (st := s_placeL) l15 c15 k15
  have B15 := F15.binds (ps := P_placeL) fun _ _ _ _ _ _ us hl => match us, hl with | [_, _], _ => rfl
  have T15 : FnT l.prog w K mg base 1 "_law_place" (spPlace) := ⟨_, _, _, (def_fnX (k := 0) F15 sc_placeL [] [] l_placeL [] [] [] [] b_placeL m_placeL am_nil am_nil am_nil [] am_nil am_nil am_nil am_nil am_nil (by rintro vs H Q E ⟨_, _, rfl, _⟩; rfl) rd_place), PySem.W.mg_of X G a15, F15.kp, B15⟩
  have F16 := fun_mk (st := s_dueL) l16 c16 k16
  have B16 := F16.binds (ps := P_dueL) fun _ _ _ _ _ _ us hl => match us, hl with | [_, _, _], _ => rfl
  have T16 : FnT l.prog w K mg base 2 "_law_due" (spDueT) := ⟨_, _, _, (def_fnX (k := 1) F16 sc_dueL [("_law_whole", spWholeX)] [] l_dueL [] [] [] [] b_dueL m_dueL (am_cons (T9.mono (by omega)) am_nil) am_nil (am_cons y_len am_nil) [] am_nil am_nil am_nil am_nil am_nil (by rintro vs H Q E ⟨_, _, _, rfl, _⟩; rfl) rd_dueT), PySem.W.mg_of X G a16, F16.kp, B16⟩
  have F17 := fun_mk (st := s_law) l17 c17 k17
  have B17 := F17.binds (ps := P_law) fun _ _ _ _ _ _ us hl => match us, hl with | [_], _ => rfl
  exact FnOk.top (def_fnX (k := 4) F17 sc_law [("_law_whole", spWholeX), ("_law_mixed", spMix), ("_law_put", spPutL C_Stock), ("_law_text_by", spTextBy), ("_law_place", spPlace), ("_law_read", spReadL C_Stock), ("_law_due", spDueT)] [] l_law [("many", C_Stock, spStMany C_Stock), ("read", C_Stock, spRead C_NoPlace C_Stock)] [("Stock", C_Stock, spStInit C_Stock)] [] [] b_law m_law (am_cons (T9.mono (by omega)) (am_cons (T10.mono (by omega)) (am_cons (T13.mono (by omega)) (am_cons (T11.mono (by omega)) (am_cons (T15.mono (by omega)) (am_cons (T14.mono (by omega)) (am_cons (T16.mono (by omega)) am_nil))))))) am_nil (am_cons y_enumerate (am_cons y_len (am_cons y_min am_nil))) [] am_nil (am_cons (T8.mono (by omega)) (am_cons (T7.mono (by omega)) am_nil)) (am_cons (T5.mono (by omega)) am_nil) am_nil am_nil (by rintro vs H Q E ⟨_, _, rfl, _⟩; rfl) rd_law)
theorem walk {l : PySem.W.OpenLaw} {q : Program} {loose : List Str} {XP : (Str → Option Value) → Heap → Prop} {YP : World → Heap → Prop} {d : DefRec} {K : Params → PySem.W.Frag} (hn : l.most = some 63) (hdf : d.params.defaults = [])
    (hY : ∀ (w : World) (h : Heap), YP w h → (K w.params).In h)
    (F : ∀ (w : World) (mg : Str → Option Value) (fa : Addr) (h : Heap), (K w.params).In h → h.Ns mainGlobals mg → mg d.name = some (.ref fa) →
      ∃ fd : FuncData, (∀ (s : Shared) (u : Value), BindsTo s fd ⟨[u], []⟩ [("_law_script", u)]) ∧ ∀ base : Heap, (K w.params).In base → base.Ns mainGlobals mg → FnOk l.prog w (K w.params) mg base CX0 5 fa fd ["_law_script"] ((fun K => (fun vs H Q _ => (spLaw K) vs H Q E0)) (K w.params))) :
    PySem.W.WalkO q loose XP YP l.row.toRowW d [] (fun f vs => PySem.call f vs) :=
  L2.walk_of (n := 63) (k := 5) (x := "_law_script") (CX := fun _ => CX0) (sp := fun w => (fun K => (fun vs H Q _ => (spLaw K) vs H Q E0)) (K w.params)) hn (by decide) hdf ⟨rfl, by decide, by decide⟩ hY F (fun _ _ a ns hl _ hS => ⟨a, ns, rfl, hS, fun _ => rfl⟩) fun _ _ _ _ _ z => z
end L2.K12
-- names that the head would fill with long twins of its tables; taken, the head goes on without them
def PySem.W.Fast.tw7759606448943789400 : Unit := ()
def PySem.W.Fast.tw9246742120847700426 : Unit := ()
def PySem.W.Fast.tw6552201751314698038 : Unit := ()
def PySem.W.Fast.tw12721899914691450560 : Unit := ()
def PySem.W.Fast.tw2070624524376039594 : Unit := ()
def PySem.W.Fast.tw4141442811187938587 : Unit := ()
def PySem.W.Fast.tw3119117760202598766 : Unit := ()
def PySem.W.Fast.tw17335768276868430581 : Unit := ()
def PySem.W.Fast.tw9460586009015332103 : Unit := ()
def PySem.W.Fast.tw5837076323945550198 : Unit := ()
def PySem.W.Fast.tw8594663958548788306 : Unit := ()
def PySem.W.Fast.tw16051880831711065578 : Unit := ()
def PySem.W.Fast.tw7611420645731731303 : Unit := ()
def PySem.W.Fast.tw13693716491605176816 : Unit := ()
def PySem.W.Fast.tw5843098903939088679 : Unit := ()
def PySem.W.Fast.tw1507678449285666187 : Unit := ()
def PySem.W.Fast.tw5714242420482779843 : Unit := ()
def PySem.W.Fast.tw12958905819682425501 : Unit := ()
def PySem.W.Fast.tw14585512552243130278 : Unit := ()
def PySem.W.Fast.tw16555658167023769984 : Unit := ()
def PySem.W.Fast.tw9418441672890616909 : Unit := ()
def PySem.W.Fast.tw12271390929482764363 : Unit := ()
def PySem.W.Fast.tw10018369877643458239 : Unit := ()
open PySem PySem.W PyProof.Rows
set_option maxRecDepth 100000 in
set_option maxHeartbeats 0 in
theorem PySem.Challenge.cw_inkloom_k12_the_stock_holds : PySem.Challenge.rw_inkloom_k12_the_stock.Holds := by
  w_on; o_law; k_head; (case hw => w_witness2)
  k_fill
  refine L2.K12.walk (l := PySem.Challenge.rw_inkloom_k12_the_stock) rfl rfl (fun w h Y => PySem.W.kIn_of Y) ?F
  case F =>
    intro w mg fa h KX G hmg
    refine' L2.K12.all_mk KX G hmg ?g_Stock ?pg_Stock ?hd_Stock ?po_Stock ?sa_Stock ?mk_Stock ?kc_Stock ?nf_Stock_texts ?nf_Stock_begins ?nf_Stock_feeds ?nf_Stock_signs ?g_InkError ?g_BadText ?g_BadChange ?g_BadFit ?g_NoPlace ?g_BadSide ?g_NoMark ?g_NoNode ?g_NoCursor ?g_BadDeed ?g_BadLetter ?g_NoLetter ?g_NoHand ?g_NoNote ?x_BadText ?x_NoPlace ?e1_BadText ?e2_BadText ?e3_BadText ?e4_BadText ?e7_BadText ?e8_BadText ?kt_BadText_BadText ?kt_BadText_BadChange ?kt_BadText_BadFit ?kt_BadText_NoPlace ?kt_BadText_BadSide ?kt_BadText_NoMark ?kt_BadText_NoNode ?kt_BadText_NoCursor ?kt_BadText_BadDeed ?kt_BadText_BadLetter ?kt_BadText_NoLetter ?kt_BadText_NoHand ?kt_BadText_NoNote ?ki_BadText ?kv_BadText ?X_BadText ?e1_NoPlace ?e2_NoPlace ?e3_NoPlace ?e4_NoPlace ?e7_NoPlace ?e8_NoPlace ?kt_NoPlace_BadText ?kt_NoPlace_BadChange ?kt_NoPlace_BadFit ?kt_NoPlace_NoPlace ?kt_NoPlace_BadSide ?kt_NoPlace_NoMark ?kt_NoPlace_NoNode ?kt_NoPlace_NoCursor ?kt_NoPlace_BadDeed ?kt_NoPlace_BadLetter ?kt_NoPlace_NoLetter ?kt_NoPlace_NoHand ?kt_NoPlace_NoNote ?ki_NoPlace ?kv_NoPlace ?X_NoPlace ?e5 ?e6 ?a0 ?l0 ?c0 ?k0 ?a1 ?l1 ?c1 ?k1 ?a2 ?l2 ?c2 ?k2 ?a3 ?l3 ?c3 ?k3 ?a4 ?l4 ?c4 ?k4 ?a5 ?i5 ?l5 ?c5 ?k5 ?a6 ?i6 ?l6 ?c6 ?k6 ?a7 ?i7 ?l7 ?c7 ?k7 ?a8 ?i8 ?l8 ?c8 ?k8 ?a9 ?l9 ?c9 ?k9 ?a10 ?l10 ?c10 ?k10 ?a11 ?l11 ?c11 ?k11 ?a12 ?l12 ?c12 ?k12 ?a13 ?l13 ?c13 ?k13 ?a14 ?l14 ?c14 ?k14 ?a15 ?l15 ?c15 ?k15 ?a16 ?l16 ?c16 ?k16 ?a17 ?l17 ?c17 ?k17 ?g_SIGNS ?z_ValueError ?z_bool ?z_enumerate ?z_int ?z_isinstance ?z_len ?z_min ?z_range ?z_str
    (case g_Stock => k_is)
    (case pg_Stock => k_is)
    (case hd_Stock => k_is)
    (case po_Stock => k_is)
    (case sa_Stock => k_is)
    (case mk_Stock => k_is)
    (case kc_Stock => k_is)
    (case nf_Stock_texts => k_is)
    (case nf_Stock_begins => k_is)
    (case nf_Stock_feeds => k_is)
    (case nf_Stock_signs => k_is)
    (case g_InkError => k_is)
    (case g_BadText => k_is)
    (case g_BadChange => k_is)
    (case g_BadFit => k_is)
    (case g_NoPlace => k_is)
    (case g_BadSide => k_is)
    (case g_NoMark => k_is)
    (case g_NoNode => k_is)
    (case g_NoCursor => k_is)
    (case g_BadDeed => k_is)
    (case g_BadLetter => k_is)
    (case g_NoLetter => k_is)
    (case g_NoHand => k_is)
    (case g_NoNote => k_is)
    (case x_BadText => k_exc)
    (case x_NoPlace => k_exc)
    (case e1_BadText => k_is)
    (case e2_BadText => k_is)
    (case e3_BadText => kernel_rfl)
    (case e4_BadText => k_is)
    (case e7_BadText => k_is)
    (case e8_BadText => k_is)
    (case kt_BadText_BadText => kernel_rfl)
    (case kt_BadText_BadChange => kernel_rfl)
    (case kt_BadText_BadFit => kernel_rfl)
    (case kt_BadText_NoPlace => kernel_rfl)
    (case kt_BadText_BadSide => kernel_rfl)
    (case kt_BadText_NoMark => kernel_rfl)
    (case kt_BadText_NoNode => kernel_rfl)
    (case kt_BadText_NoCursor => kernel_rfl)
    (case kt_BadText_BadDeed => kernel_rfl)
    (case kt_BadText_BadLetter => kernel_rfl)
    (case kt_BadText_NoLetter => kernel_rfl)
    (case kt_BadText_NoHand => kernel_rfl)
    (case kt_BadText_NoNote => kernel_rfl)
    (case ki_BadText => kernel_rfl)
    (case kv_BadText => kernel_rfl)
    (case X_BadText => kernel_rfl)
    (case e1_NoPlace => k_is)
    (case e2_NoPlace => k_is)
    (case e3_NoPlace => kernel_rfl)
    (case e4_NoPlace => k_is)
    (case e7_NoPlace => k_is)
    (case e8_NoPlace => k_is)
    (case kt_NoPlace_BadText => kernel_rfl)
    (case kt_NoPlace_BadChange => kernel_rfl)
    (case kt_NoPlace_BadFit => kernel_rfl)
    (case kt_NoPlace_NoPlace => kernel_rfl)
    (case kt_NoPlace_BadSide => kernel_rfl)
    (case kt_NoPlace_NoMark => kernel_rfl)
    (case kt_NoPlace_NoNode => kernel_rfl)
    (case kt_NoPlace_NoCursor => kernel_rfl)
    (case kt_NoPlace_BadDeed => kernel_rfl)
    (case kt_NoPlace_BadLetter => kernel_rfl)
    (case kt_NoPlace_NoLetter => kernel_rfl)
    (case kt_NoPlace_NoHand => kernel_rfl)
    (case kt_NoPlace_NoNote => kernel_rfl)
    (case ki_NoPlace => kernel_rfl)
    (case kv_NoPlace => kernel_rfl)
    (case X_NoPlace => kernel_rfl)
    (case e5 => k_is)
    (case e6 => k_is)
    (case a0 => k_is)
    (case l0 => k_is)
    (case c0 => k_is)
    (case k0 => k_is)
    (case a1 => k_is)
    (case l1 => k_is)
    (case c1 => k_is)
    (case k1 => k_is)
    (case a2 => k_is)
    (case l2 => k_is)
    (case c2 => k_is)
    (case k2 => k_is)
    (case a3 => k_is)
    (case l3 => k_is)
    (case c3 => k_is)
    (case k3 => k_is)
    (case a4 => k_is)
    (case l4 => k_is)
    (case c4 => k_is)
    (case k4 => k_is)
    (case a5 => k_is)
    (case i5 => k_is)
    (case l5 => k_is)
    (case c5 => k_is)
    (case k5 => k_is)
    (case a6 => k_is)
    (case i6 => k_is)
    (case l6 => k_is)
    (case c6 => k_is)
    (case k6 => k_is)
    (case a7 => k_is)
    (case i7 => k_is)
    (case l7 => k_is)
    (case c7 => k_is)
    (case k7 => k_is)
    (case a8 => k_is)
    (case i8 => k_is)
    (case l8 => k_is)
    (case c8 => k_is)
    (case k8 => k_is)
    (case a9 => k_is)
    (case l9 => k_is)
    (case c9 => k_is)
    (case k9 => k_is)
    (case a10 => k_is)
    (case l10 => k_is)
    (case c10 => k_is)
    (case k10 => k_is)
    (case a11 => k_is)
    (case l11 => k_is)
    (case c11 => k_is)
    (case k11 => k_is)
    (case a12 => k_is)
    (case l12 => k_is)
    (case c12 => k_is)
    (case k12 => k_is)
    (case a13 => k_is)
    (case l13 => k_is)
    (case c13 => k_is)
    (case k13 => k_is)
    (case a14 => k_is)
    (case l14 => k_is)
    (case c14 => k_is)
    (case k14 => k_is)
    (case a15 => k_is)
    (case l15 => k_is)
    (case c15 => k_is)
    (case k15 => k_is)
    (case a16 => k_is)
    (case l16 => k_is)
    (case c16 => k_is)
    (case k16 => k_is)
    (case a17 => k_is)
    (case l17 => k_is)
    (case c17 => k_is)
    (case k17 => k_is)
    (case g_SIGNS => k_is)
    (case z_ValueError => k_is)
    (case z_bool => k_is)
    (case z_enumerate => k_is)
    (case z_int => k_is)
    (case z_isinstance => k_is)
    (case z_len => k_is)
    (case z_min => k_is)
    (case z_range => k_is)
    (case z_str => k_is)
