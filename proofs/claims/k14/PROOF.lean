import PyProof.Rows.All
import Wide.All
import OpenK.AllK
import Wide.FinOn
import Lean
import PyProof.EqAt
import PyProof.EqKinds
import PyProof.TupleCall
import PyProof.Rows.EqDataRows
import PyProof.StrLawsIn
import PySem.Challenge.RW_inkloom_k14_nodes_parted
-- CHANGE: your row's module here, as the last of these rows
set_option Elab.async false
set_option linter.all false
set_option maxRecDepth 100000
set_option genSizeOf false
/-! THE HAND LAYER, for ints, bools, texts, own classes, LISTS and tuples (index, slices, in, append, pop ..), calls, loops. Paste it whole ahead of your own text; what your proof does not reach may be deleted. -/
namespace L2
open PySem PySem.Spec PyProof.Rows

/-- a key: an int or a str -/
abbrev Key := Sum Int Str
def keyIs : Key → Value → Bool
  | .inl k, v => Value.isInt k v
  | .inr x, v => Value.isStrOf x v
def keyH (w : World) : Key → Int
  | .inl k => hashInt k
  | .inr x => hashStr w x
theorem keyIs_shape : ∀ {k : Key} {v : Value}, keyIs k v = true → (∃ i t, k = Sum.inl i ∧ v = Value.int i t) ∨ (∃ x t, k = Sum.inr x ∧ v = Value.str x t)
  | .inl i, v, h => by
    obtain ⟨t, e⟩ := Value.isInt_shape (k := i) (v := v) h
    exact .inl ⟨i, t, rfl, e⟩
  | .inr x, v, h => by
    obtain ⟨t, e⟩ := Value.isStrOf_shape (x := x) (v := v) h
    exact .inr ⟨x, t, rfl, e⟩
theorem keyIs_int (i : Int) (t : Tok) : keyIs (.inl i) (.int i t) = true := by simp [keyIs, Value.isInt]
theorem keyIs_str (x : Str) (t : Tok) : keyIs (.inr x) (.str x t) = true := by simp [keyIs, Value.isStrOf]
theorem key_ll (a b : Int) : decide ((Sum.inl a : Key) = Sum.inl b) = (a == b) := by
  by_cases e : a = b
  · subst e; simp
  · have h : ¬ (Sum.inl a : Key) = Sum.inl b := fun q => e (Sum.inl.inj q)
    rw [decide_eq_false h]
    exact (beq_eq_false_iff_ne.mpr e).symm
theorem key_rr (a b : Str) : decide ((Sum.inr a : Key) = Sum.inr b) = decide (a = b) := by
  by_cases e : a = b
  · subst e; simp
  · have h : ¬ (Sum.inr a : Key) = Sum.inr b := fun q => e (Sum.inr.inj q)
    rw [decide_eq_false h, decide_eq_false e]
theorem key_lr (a : Int) (b : Str) : decide ((Sum.inl a : Key) = Sum.inr b) = false := decide_eq_false (fun q => nomatch q)
theorem key_rl (a : Str) (b : Int) : decide ((Sum.inr a : Key) = Sum.inl b) = false := decide_eq_false (fun q => nomatch q)

def mixKind (prog : Program) (w : World) : PySem.KeyKind prog w Key where
  is := keyIs
  hash := keyH w
  inj := fun v a b ha hb => by
    rcases keyIs_shape ha with ⟨i, t, rfl, rfl⟩ | ⟨x, t, rfl, rfl⟩
    · rcases keyIs_shape hb with ⟨j, u, rfl, e⟩ | ⟨y, u, rfl, e⟩
      · injection e with e1 _; rw [e1]
      · exact nomatch e
    · rcases keyIs_shape hb with ⟨j, u, rfl, e⟩ | ⟨y, u, rfl, e⟩
      · exact nomatch e
      · injection e with e1 _; rw [e1]
  byValue := fun k v h => by
    rcases keyIs_shape h with ⟨i, t, rfl, rfl⟩ | ⟨x, t, rfl, rfl⟩ <;> rfl
  pyHash := fun hv h => by
    rcases keyIs_shape hv with ⟨i, t, rfl, rfl⟩ | ⟨x, t, rfl, rfl⟩
    · exact wpAny_pyHash_int h
    · exact wpAny_pyHash_str h
  eqBool := fun hu hv h => by
    rcases keyIs_shape hu with ⟨i, t, rfl, rfl⟩ | ⟨x, t, rfl, rfl⟩
    · rcases keyIs_shape hv with ⟨j, u, rfl, rfl⟩ | ⟨y, u, rfl, rfl⟩
      · rw [key_ll] at h; exact wpAny_eqBool_int h
      · rw [key_lr] at h; exact SeqAt.EqAt.int_str i t y u _ _ _ _ h
    · rcases keyIs_shape hv with ⟨j, u, rfl, rfl⟩ | ⟨y, u, rfl, rfl⟩
      · rw [key_rl] at h; exact SeqAt.EqAt.str_int x t j u _ _ _ _ h
      · rw [key_rr] at h; exact wpAny_eqBool_str h
  «strs» := fun k x t v h => by
    rcases keyIs_shape h with ⟨i, u, rfl, e⟩ | ⟨y, u, rfl, e⟩
    · exact nomatch e
    · injection e with e1 _
      subst e1
      cases v <;> rfl

theorem mixKind_int (prog : Program) (w : World) (i : Int) (t : Tok) : (mixKind prog w).is (.inl i) (.int i t) = true := keyIs_int i t
theorem mixKind_str (prog : Program) (w : World) (x : Str) (t : Tok) : (mixKind prog w).is (.inr x) (.str x t) = true := keyIs_str x t
end L2

namespace L2
open PySem PySem.Spec PyProof.Rows

/-- a value, without the heap -/
inductive V where
  | non | bl (b : Bool) | int (i : Int) | str (x : Str) | byt (b : Array UInt8) | flt (b : UInt64) | ref (a : Addr) | ty (n : String)
  deriving DecidableEq

def RelV : V → Value → Prop
  | .non, u => u = Value.none
  | .bl b, u => u = Value.bool b
  | .int i, u => ∃ t, u = Value.int i t
  | .str x, u => ∃ t, u = Value.str x t
  | .byt b, u => ∃ t, u = Value.bytes b t
  | .flt b, u => ∃ t, u = Value.float b t
  | .ref a, u => u = Value.ref a
  | .ty n, u => u = Value.type n

abbrev Vals : List V → List Value → Prop := Paired RelV
theorem Vals.length {xs : List V} {us : List Value} (r : Vals xs us) : xs.length = us.length := Paired.length r
theorem Vals.get : ∀ {xs : List V} {us : List Value} {i : Nat} {x : V}, Vals xs us → xs[i]? = some x → ∃ u, us[i]? = some u ∧ RelV x u
  | _, _, _, _, .nil, e => by simp at e
  | _, _, 0, _, .cons r _, e => by simp at e; subst e; exact ⟨_, rfl, r⟩
  | _, _, i + 1, x, .cons _ t, e => by
    obtain ⟨u, h1, h2⟩ := Vals.get (i := i) (x := x) t (by simpa using e)
    exact ⟨u, by simpa using h1, h2⟩
theorem Vals.append : ∀ {xs ys : List V} {us ws : List Value}, Vals xs us → Vals ys ws → Vals (xs ++ ys) (us ++ ws)
  | _, _, _, _, .nil, s => s
  | _, _, _, _, .cons r t, s => .cons r (Vals.append t s)
theorem Vals.take : ∀ {xs : List V} {us : List Value} (n : Nat), Vals xs us → Vals (xs.take n) (us.take n)
  | _, _, 0, _ => .nil
  | _, _, _ + 1, .nil => .nil
  | _, _, n + 1, .cons r t => .cons r (Vals.take n t)
theorem Vals.drop : ∀ {xs : List V} {us : List Value} (n : Nat), Vals xs us → Vals (xs.drop n) (us.drop n)
  | _, _, 0, r => r
  | _, _, _ + 1, .nil => .nil
  | _, _, n + 1, .cons _ t => Vals.drop n t

def RelO : Option V → Option Value → Prop
  | some v, some u => RelV v u
  | none, none => True
  | _, _ => False
def KV {κ : Type} : List (κ × V) → List (κ × Value) → Prop := Paired fun (p : κ × V) (q : κ × Value) => p.1 = q.1 ∧ RelV p.2 q.2

/-- a key of a dict (00_mix): an int or a text -/
def kV : Key → V
  | .inl i => .int i
  | .inr x => .str x

/-- what stands at a tracked address -/
inductive HO where
  /-- a list -/
  | lst (xs : List V)
  /-- a tuple (never changes) -/
  | tup (xs : List V)
  /-- a dict whose keys are ints and texts; one whose keys are tuples of ints and texts (the empty one is both) -/
  | dK (kvs : List (Key × V)) | dT (kvs : List (List Key × V))
  /-- a set of ints: its members, its size -/
  | set (S : Int → Bool) (n : Nat)
  /-- an instance of the class at C, its dict at dx, its attributes -/
  | ins (C dx : Addr) (fs : List (Str × V))
  /-- the dict of the instance at x -/
  | own (x : Addr)
  /-- the dict of an exception -/
  | xd (fs : List (Str × V))
  /-- a bound method, f of x -/
  | met (f x : Addr)
  /-- a range object lo, lo + 1, .. below hi -/
  | rng (lo hi : Int)
  /-- a thing that is known to the object (the script; a dict while a loop walks it): read, never written while it is so -/
  | frz (o : Obj) (u : HO)
  /-- a code object's table -/
  | tbl (ps : Array Value)
  /-- any other thing, by what is true of its one object (a def of one's own: SetO a S n := HO.ext fun h => ..) -/
  | ext (φ : Heap → Prop)

abbrev Hp := Addr → Option HO
def upd (H : Hp) (a : Addr) (o : HO) : Hp := fun b => if b = a then some o else H b
theorem upd_same {H : Hp} {a : Addr} {o : HO} : upd H a o a = some o := by unfold upd; rw [if_pos rfl]
theorem upd_ne {H : Hp} {a b : Addr} {o : HO} (h : b ≠ a) : upd H a o b = H b := by unfold upd; rw [if_neg h]
/-- two objects of different content stand apart -/
theorem ne_of {H : Hp} {a b : Addr} {o u : HO} (h : H a = some o) (h' : H b = some u) (d : o ≠ u) : a ≠ b := by
  intro e; subst e; rw [h] at h'; exact d (Option.some.inj h')
theorem ne_of_none {H : Hp} {a b : Addr} {o : HO} (h : H a = some o) (h' : H b = none) : a ≠ b := by
  intro e; subst e; rw [h] at h'; cases h'

section
variable (P : Program) (w : World)
def ObjOk (H : Hp) (h : Heap) (a : Addr) : HO → Prop
  | .lst xs => xs.length ≤ sizeLine ∧ ∃ (its : List Value) (n : Nat), Vals xs its ∧ h.get? a = some { cls := .type "list", data := .seq its.toArray n }
  | .tup xs => xs.length ≤ sizeLine ∧ ∃ its : List Value, Vals xs its ∧ IsTup h a its.toArray
  | .dK kvs => kvs.length ≤ sizeLine ∧ (a == sysModules) = false ∧ ∃ vs, KV kvs vs ∧ h.DictOf (mixKind P w) a vs
  | .dT kvs => kvs.length ≤ sizeLine ∧ (a == sysModules) = false ∧ ∃ xs : List (List Key × Addr × Value),
      Paired (fun (p : List Key × V) (q : List Key × Addr × Value) => p.1 = q.1 ∧ H q.2.1 = some (.tup (p.1.map kV)) ∧ RelV p.2 q.2.2) kvs xs ∧
      ∃ o es ep, h.get? a = some o ∧ o.ExactDict ∧ o.data = .dict es ep ∧ es.toList = xs.map (entryOfKey (tupleKind (mixKind P w))) ∧ (xs.map (·.1)).Nodup
  | .set S n => h.SetOf (intKind P w) a S n
  | .ins C dx fs => H dx = some (.own a) ∧ fs.length ≤ 1000 ∧ dx ≠ a ∧ h.get? a = some (PySem.W.instObj C dx) ∧
      ∃ mA, h.Ns1 dx mA ∧ (∀ f, RelO (fs.lookup f) (mA f)) ∧ PySem.Within mA (fs.map (·.1))
  | .own _ => ∃ o, h.get? a = some o
  | .xd fs => ∃ mA, h.Ns1 a mA ∧ ∀ f, RelO (fs.lookup f) (mA f)
  | .rng lo hi => ∃ t u v, h.get? a = some { cls := .type "range", data := .fields #[.int lo t, .int hi u, .int 1 v] }
  | .frz o u => h.get? a = some o ∧ ObjOk H h a u
  | .tbl ps => h.get? a = some { cls := .none, data := .fields ps }
  | .met f x => h.get? a = some (PySem.W.methodObj (.ref f) (.ref x))
  | .ext φ => φ h ∧ (∃ o, h.get? a = some o) ∧ ∀ h1 h2 : Heap, φ h1 → (∀ o, h1.get? a = some o → h2.get? a = some o) → φ h2
/-- the abstract heap is held -/
def HOk (H : Hp) (h : Heap) : Prop := ∀ a o, H a = some o → ObjOk P w H h a o
end

section
variable {P : Program} {w : World} {H H' : Hp} {h h' : Heap} {a : Addr} {o : HO}
theorem ObjOk.lt (x : ObjOk P w H h a o) : a < h.objs.size := by
  cases o with
  | lst xs => obtain ⟨_, _, _, _, e⟩ := x; exact Heap.lt_size e
  | tup xs => obtain ⟨_, _, _, p⟩ := x; exact p.lt
  | dK kvs => obtain ⟨_, _, _, _, o, _, _, e, _⟩ := x; exact Heap.lt_size e
  | dT kvs => obtain ⟨_, _, _, _, o, _, _, e, _⟩ := x; exact Heap.lt_size e
  | set S n => obtain ⟨o, _, _, _, e, _⟩ := x; exact Heap.lt_size e
  | ins C dx fs => obtain ⟨_, _, _, e, _⟩ := x; exact Heap.lt_size e
  | own y => obtain ⟨_, e⟩ := x; exact Heap.lt_size e
  | xd fs => obtain ⟨_, ⟨_, _, _, e, _⟩, _⟩ := x; exact Heap.lt_size e
  | rng lo hi => obtain ⟨_, _, _, e⟩ := x; exact Heap.lt_size e
  | frz ob u => obtain ⟨e, _⟩ := x; exact Heap.lt_size e
  | tbl ps => exact Heap.lt_size (show h.get? a = some _ from x)
  | met f y => exact Heap.lt_size (show h.get? a = some _ from x)
  | ext φ => obtain ⟨_, ⟨_, e⟩, _⟩ := x; exact Heap.lt_size e
theorem Paired.mapP {α β : Type} {F G : α → β → Prop} : ∀ {l₁ : List α} {l₂ : List β}, Paired F l₁ l₂ → (∀ a b, F a b → G a b) → Paired G l₁ l₂
  | _, _, .nil, _ => .nil
  | _, _, .cons r t, f => .cons (f _ _ r) (Paired.mapP t f)
/-- what an object's description leans on: its own object, its own dict, the tuples -/
theorem ObjOk.stay (x : ObjOk P w H h a o) (k : ∀ b u, (b = a ∨ H b = some (.own a)) → h.get? b = some u → h'.get? b = some u)
    (ho : ∀ b, H b = some (.own a) → H' b = some (.own a)) (ht : ∀ b xs, H b = some (.tup xs) → H' b = some (.tup xs)) : ObjOk P w H' h' a o := by
  induction o with
  | lst xs => obtain ⟨z, its, n, r, e⟩ := x; exact ⟨z, its, n, r, k _ _ (.inl rfl) e⟩
  | tup xs => obtain ⟨z, its, r, ob, e, c⟩ := x; exact ⟨z, its, r, ob, k _ _ (.inl rfl) e, c⟩
  | dK kvs => obtain ⟨z, y, vs, r, ob, es, ep, e, c⟩ := x; exact ⟨z, y, vs, r, ob, es, ep, k _ _ (.inl rfl) e, c⟩
  | dT kvs =>
    obtain ⟨z, y, xs, r, ob, es, ep, e, c⟩ := x
    exact ⟨z, y, xs, Paired.mapP r fun p q z => ⟨z.1, ht _ _ z.2.1, z.2.2⟩, ob, es, ep, k _ _ (.inl rfl) e, c⟩
  | set S n => obtain ⟨ob, es, ep, t, e, c⟩ := x; exact ⟨ob, es, ep, t, k _ _ (.inl rfl) e, c⟩
  | ins C dx fs =>
    obtain ⟨d, z, ne, e, mA, ⟨od, es, ep, e2, c⟩, r⟩ := x
    exact ⟨ho _ d, z, ne, k _ _ (.inl rfl) e, mA, ⟨od, es, ep, k _ _ (.inr d) e2, c⟩, r⟩
  | own y => obtain ⟨ob, e⟩ := x; exact ⟨ob, k _ _ (.inl rfl) e⟩
  | xd fs => obtain ⟨mA, ⟨od, es, ep, e, c⟩, r⟩ := x; exact ⟨mA, ⟨od, es, ep, k _ _ (.inl rfl) e, c⟩, r⟩
  | rng lo hi => obtain ⟨t, u, v, e⟩ := x; exact ⟨t, u, v, k _ _ (.inl rfl) e⟩
  | frz ob u ih => obtain ⟨e, q⟩ := x; exact ⟨k _ _ (.inl rfl) e, ih q⟩
  | tbl ps =>
    have e : h.get? a = some { cls := .none, data := .fields ps } := x
    show h'.get? a = some { cls := .none, data := .fields ps }
    exact k a _ (.inl rfl) e
  | met f y =>
    have e : h.get? a = some (PySem.W.methodObj (.ref f) (.ref y)) := x
    show h'.get? a = some (PySem.W.methodObj (.ref f) (.ref y))
    exact k a _ (.inl rfl) e
  | ext φ => obtain ⟨p, ⟨o, e⟩, st⟩ := x; exact ⟨st _ _ p fun o q => k _ _ (.inl rfl) q, ⟨o, k _ _ (.inl rfl) e⟩, st⟩
theorem HOk.lt (x : HOk P w H h) (e : H a = some o) : a < h.objs.size := (x a o e).lt
theorem HOk.fresh (x : HOk P w H h) (e : h.objs.size ≤ a) : H a = none := by
  cases q : H a with
  | none => rfl
  | some u => exact absurd (Nat.lt_of_lt_of_le (x.lt q) e) (Nat.lt_irrefl _)
/-- every object of the heap is kept -/
theorem HOk.kept (x : HOk P w H h) (k : ∀ b u, h.get? b = some u → h'.get? b = some u) : HOk P w H h' := fun a o e =>
  (x a o e).stay (fun b u _ q => k b u q) (fun _ q => q) fun _ _ q => q
/-- a new object is laid and tracked -/
theorem HOk.laid (x : HOk P w H h) (k : ∀ b u, h.get? b = some u → h'.get? b = some u) (hp : h.objs.size ≤ a) (new : ObjOk P w (upd H a o) h' a o) : HOk P w (upd H a o) h' := fun b u e => by
  have hn := x.fresh hp
  by_cases hb : b = a
  · subst hb; rw [upd_same] at e; cases e; exact new
  · rw [upd_ne hb] at e
    exact (x b u e).stay (fun c v _ q => k c v q) (fun c q => by rw [upd_ne (ne_of_none q hn)]; exact q) fun c xs q => by rw [upd_ne (ne_of_none q hn)]; exact q
end

/-- what may be read as u: it is u, or a known u -/
def Rd (H : Hp) (a : Addr) (u : HO) : Prop := H a = some u ∨ ∃ o, H a = some (.frz o u)
theorem Rd.ok {P : Program} {w : World} {H : Hp} {h : Heap} {a : Addr} {u : HO} (r : Rd H a u) (x : HOk P w H h) : ObjOk P w H h a u := by
  rcases r with r | ⟨o, r⟩
  · exact x a u r
  · obtain ⟨_, q⟩ := x a _ r
    exact q
/-- what may be written -/
def Mut : Option HO → Prop
  | some (.lst _) => True
  | some (.dK _) => True
  | some (.dT _) => True
  | some (.set _ _) => True
  | some (.ins _ _ _) => True
  | some (.ext _) => True
  | _ => False
section
variable {P : Program} {w : World} {H : Hp} {h h' : Heap} {x e : Addr} {o' : HO}
/-- the object at e is changed: x itself, or the dict of the instance x -/
theorem HOk.write (ok : HOk P w H h) (mu : Mut (H x)) (he : e = x ∨ H e = some (.own x)) (k : ∀ b u, b ≠ e → h.get? b = some u → h'.get? b = some u) (heo : ∃ u, h'.get? e = some u)
    (new : ObjOk P w (upd H x o') h' x o') : HOk P w (upd H x o') h' := fun b u q => by
  have nown : ∀ c y, H c = some (.own y) → c ≠ x := fun c y r z => by subst z; rw [r] at mu; exact mu
  have ntup : ∀ c xs, H c = some (.tup xs) → c ≠ x := fun c xs r z => by subst z; rw [r] at mu; exact mu
  by_cases hb : b = x
  · subst hb; rw [upd_same] at q; cases q; exact new
  · rw [upd_ne hb] at q
    by_cases hbe : b = e
    · have q' : H b = some (.own x) := by
        rcases he with z | z
        · exact absurd (hbe.trans z) hb
        · rw [hbe]; exact z
      rw [q] at q'; cases q'
      obtain ⟨v, hv⟩ := heo
      exact ⟨v, by rw [hbe]; exact hv⟩
    · refine (ok b u q).stay (fun c v hc r => k c v ?_ r) (fun c r => by rw [upd_ne (nown c b r)]; exact r) fun c xs r => by rw [upd_ne (ntup c xs r)]; exact r
      rcases hc with rfl | hc
      · exact hbe
      · rintro rfl
        rcases he with z | z
        · exact nown c b hc z
        · rw [hc] at z; cases z; exact hb rfl
end

/-! ### kept unless tracked; of the frames at fs (the callers') the slots may change (an exception that passes writes there); of the records at ex (iterators) nothing is said -/
structure Un (fs ex : List Addr) (H H' : Hp) (h h' : Heap) : Prop where
  keep : ∀ b o, h.get? b = some o → H b = none → b ∉ fs → b ∉ ex → h'.get? b = some o
  slot : ∀ b o, h.get? b = some o → H b = none → b ∈ fs → b ∉ ex → ∃ sl, h'.get? b = some { o with slots := sl }
  free : ∀ b o, h.get? b = some o → H b = none → b ∉ ex → H' b = none
  there : ∀ b o, h.get? b = some o → b ∉ ex → ∃ o', h'.get? b = some o'
  tups : ∀ b xs, H b = some (.tup xs) → H' b = some (.tup xs)
  frzs : ∀ b o u, H b = some (.frz o u) → H' b = some (.frz o u)
  tbls : ∀ b ps, H b = some (.tbl ps) → ∃ more, H' b = some (.tbl (ps ++ more))
section
variable {fs fs' ex ex' : List Addr} {H H1 H2 : Hp} {h h1 h2 h' : Heap} {a x e : Addr} {o : HO}
theorem Un.any (u : Un fs ex H H1 h h1) {b : Addr} {ob : Obj} (q : h.get? b = some ob) (n : H b = none) (hx : b ∉ ex) : ∃ sl, h1.get? b = some { ob with slots := sl } := by
  by_cases hb : b ∈ fs
  · exact u.slot b ob q n hb hx
  · exact ⟨ob.slots, u.keep b ob q n hb hx⟩
theorem Un.kept (k : ∀ b u, h.get? b = some u → h'.get? b = some u) : Un fs ex H H h h' :=
  ⟨fun b ob q _ _ _ => k b ob q, fun b ob q _ _ _ => ⟨ob.slots, k b ob q⟩, fun _ _ _ n _ => n, fun b ob q _ => ⟨ob, k b ob q⟩, fun _ _ q => q, fun _ _ _ q => q, fun _ ps q => ⟨#[], by rw [q]; simp⟩⟩
theorem Un.refl : Un fs ex H H h h := Un.kept fun _ _ q => q
theorem Un.laid (k : ∀ b u, h.get? b = some u → h'.get? b = some u) (hp : h.objs.size ≤ a) (hn : H a = none) : Un fs ex H (upd H a o) h h' where
  keep := fun b u q _ _ _ => k b u q
  slot := fun b u q _ _ _ => ⟨u.slots, k b u q⟩
  free := fun b u q n _ => by rw [upd_ne (Nat.ne_of_lt (Nat.lt_of_lt_of_le (Heap.lt_size q) hp))]; exact n
  there := fun b u q _ => ⟨u, k b u q⟩
  tups := fun b xs q => by rw [upd_ne (ne_of_none q hn)]; exact q
  frzs := fun b u xs q => by rw [upd_ne (ne_of_none q hn)]; exact q
  tbls := fun b ps q => ⟨#[], by rw [upd_ne (ne_of_none q hn), q]; simp⟩
theorem Un.write (mu : Mut (H x)) (he : e = x ∨ H e = some (.own x)) (k : ∀ b u, b ≠ e → h.get? b = some u → h'.get? b = some u) (heo : ∃ u, h'.get? e = some u) : Un fs ex H (upd H x o) h h' := by
  have hx : ∀ b, H b = none → b ≠ x := fun b n z => by subst z; rw [n] at mu; exact mu
  have hb : ∀ b, H b = none → b ≠ e := fun b n z => by
    subst z
    rcases he with r | r
    · exact hx b n r
    · rw [n] at r; cases r
  have hm : ∀ b u, H b = some u → ¬ Mut (some u) → b ≠ x := fun b u q nm z => by subst z; rw [q] at mu; exact nm mu
  refine ⟨fun b u q n _ _ => k b u (hb b n) q, fun b u q n _ _ => ⟨u.slots, k b u (hb b n) q⟩, fun b u q n _ => by rw [upd_ne (hx b n)]; exact n, fun b u q _ => ?_,
    fun b xs q => by rw [upd_ne (hm b _ q fun z => z)]; exact q, fun b u xs q => by rw [upd_ne (hm b _ q fun z => z)]; exact q, fun b ps q => ⟨#[], by rw [upd_ne (hm b _ q fun z => z), q]; simp⟩⟩
  by_cases hbe : b = e
  · subst hbe; exact heo
  · exact ⟨u, k b u hbe q⟩
end

/-! ### the heap without what is tracked -/
def trk (h : Heap) (H : Hp) : List Addr := (List.range h.objs.size).filter fun a => (H a).isSome
def hidT (h : Heap) (H : Hp) : Heap := PySem.W.hideAll h (trk h H)
theorem hidT_size (h : Heap) (H : Hp) : (hidT h H).objs.size = h.objs.size := PySem.W.hideAll_size _ _
theorem hidT_get {h : Heap} {H : Hp} {b : Addr} {o : Obj} (e : h.get? b = some o) (n : H b = none) : (hidT h H).get? b = some o :=
  PySem.W.hideAll_get _ e fun hm => by
    have q : (H b).isSome = true := (List.mem_filter.mp hm).2
    rw [n] at q; simp at q
theorem of_hidT {h : Heap} {H : Hp} {b : Addr} {o : Obj} (e : (hidT h H).get? b = some o) : h.get? b = some o ∧ H b = none := by
  have e' : h.get? b = some o := PySem.W.of_hideAll (trk h H) e
  refine ⟨e', ?_⟩
  cases q : H b with
  | none => rfl
  | some x =>
    have hm : b ∈ trk h H := List.mem_filter.mpr ⟨List.mem_range.mpr (Heap.lt_size e'), by simp [q]⟩
    have z : (hidT h H).get? b = none := PySem.W.hideAll_none (trk h H) hm
    rw [z] at e; cases e

/-! ### OpenK's ledger, filled with every new object but one -/
end L2

namespace L2
open PySem PySem.Spec PyProof.Rows

/-- the module's facts, over the base: the heap at the law's entry without what is tracked there -/
structure Mod (K : PySem.W.Frag) (mg : Str → Option Value) (base : Heap) : Prop where
  kin : K.In base
  glob : base.Ns mainGlobals mg
  blt : ∃ mb, base.Ns builtinsNs mb ∧ ∀ x : Str, x ≠ "__name__" → mb x = bootBuiltins x
  nolimit : base.NoLimit

/-- the context: a def's body (or a comprehension's block) running. base: fixed through the whole law; s₀, H₀: the entry; outer: the frames whose slots others may change (a def's callers); stack: all frames that run;
   ex: iterators that were made ahead of the entry and are walked here (a comprehension's); fn: the names whose cells were made at the entry (a def: all; a comprehension's block: its own); calm: not within an except suite; pn: pins that every state bears; xe: what is wanted of an exception that leaves the code -/
structure Cx where
  prog : Program
  w : World
  K : PySem.W.Frag
  mg : Str → Option Value
  base : Heap
  A : Around
  N : List Str
  s₀ : Shared
  H₀ : Hp
  env : Env
  outer : List Env
  stack : List Env
  ex : List Addr
  fn : Str → Bool
  calm : Bool
  pn : List (Addr × Obj)
  xe : Value → Shared → Prop
/-- the callers' frames -/
def frs (l : List Env) : List Addr := l.filterMap (·.frame)
abbrev Cx.fs (X : Cx) : List Addr := frs X.outer

def Vis (sc : Scope) (x : Str) : Prop := sc.names.lookup x = some .local ∨ sc.names.lookup x = some .cell ∨ sc.names.lookup x = some .free
def Loc (sc : Scope) (x : Str) : Prop := sc.names.lookup x = some .local ∨ sc.names.lookup x = some .cell
def Look (env : Env) (h : Heap) (m : Str → Option Value) (x : Str) (u : Value) : Prop :=
  (env.kindOf x = some .local ∧ m x = some u) ∨ ((env.kindOf x = some .cell ∨ env.kindOf x = some .free) ∧ ∃ c, env.cells.lookup x = some c ∧ h.IsCell c (some u))

structure Cx.Ok (X : Cx) : Prop where
  mod : Mod X.K X.mg X.base
  kind : X.env.scope.kind = .function
  glob : X.env.globals = mainGlobals
  blt : X.env.builtins = builtinsNs
  above : X.s₀.heap.objs.size ≤ X.env.locals
  inj : ∀ x y c, X.env.cells.lookup x = some c → X.env.cells.lookup y = some c → x = y
  has : ∀ x, (X.env.kindOf x = some .cell ∨ X.env.kindOf x = some .free) → ∃ c, X.env.cells.lookup x = some c
  cab : ∀ x c, X.fn x = true → X.env.cells.lookup x = some c → X.s₀.heap.objs.size ≤ c
  hd : X.calm = true → X.A.handled = none
  frames : X.A.frames = some X.stack
  stk : X.stack = X.outer ∨ (X.stack = X.env :: X.outer ∧ X.env.frame = some X.env.locals)
  exf : ∀ b ∈ X.ex, b ≠ X.env.locals ∧ ∀ x c, X.env.cells.lookup x = some c → c ≠ b
  bs : ∀ b o, X.base.get? b = some o → X.s₀.heap.get? b = some o ∧ X.H₀ b = none
  bsz : X.base.objs.size ≤ X.s₀.heap.objs.size
  noex : ∀ b o, X.base.get? b = some o → b ∉ X.ex
  exfs : ∀ b ∈ X.ex, b ∉ X.fs
  funs : X.s₀.heap.FunFrames X.base X.outer
  frf : ∀ b ∈ X.fs, X.H₀ b = none

structure Inv (X : Cx) (pins : List (Addr × Obj)) (σ : List (Option V)) (H : Hp) (s : Shared) : Prop where
  ok : X.Ok
  os : s.os = X.s₀.os
  bare : AllBare s.gens
  base : Un X.fs X.ex X.H₀ H X.s₀.heap s.heap
  loc : ∃ m, s.heap.Ns X.env.locals m ∧ ∀ (i : Nat) (x : Str) (v : V), X.N[i]? = some x → σ[i]? = some (some v) → Vis X.env.scope x → ∃ u, RelV v u ∧ Look X.env s.heap m x u
  cell : ∀ x c, X.env.cells.lookup x = some c → ∃ v, s.heap.IsCell c v
  free : H X.env.locals = none
  freeC : ∀ x c, X.env.cells.lookup x = some c → H c = none
  pin : ∀ p ∈ X.pn ++ pins, s.heap.get? p.1 = some p.2 ∧ H p.1 = none ∧ p.1 ≠ X.env.locals ∧ p.1 ∉ X.fs ∧ ∀ v, p.2.data ≠ .cell v
  hok : HOk X.prog X.w H s.heap
  len : σ.length = X.N.length

section
variable {X : Cx} {pins : List (Addr × Obj)} {σ : List (Option V)} {H H' : Hp} {s : Shared} {h' : Heap}

theorem Cx.Ok.nofr (ok : X.Ok) {b : Addr} {o : Obj} (e : X.base.get? b = some o) : b ∉ X.fs := fun hb => by
  have := (ok.funs.mem hb).1
  rw [e] at this; cases this
theorem Inv.bs (I : Inv X pins σ H s) : ∀ b o, X.base.get? b = some o → s.heap.get? b = some o ∧ H b = none := fun b o e =>
  ⟨I.base.keep b o (I.ok.bs b o e).1 (I.ok.bs b o e).2 (I.ok.nofr e) (I.ok.noex b o e), I.base.free b o (I.ok.bs b o e).1 (I.ok.bs b o e).2 (I.ok.noex b o e)⟩
theorem Inv.bk (I : Inv X pins σ H s) : ∀ b o, X.base.get? b = some o → s.heap.get? b = some o := fun b o e => (I.bs b o e).1
theorem Inv.mod (I : Inv X pins σ H s) : Mod X.K X.mg X.base := I.ok.mod
theorem Inv.kIn (I : Inv X pins σ H s) : X.K.In s.heap := I.ok.mod.kin.keeps I.bk
theorem Inv.lt (I : Inv X pins σ H s) : X.env.locals < s.heap.objs.size := let ⟨_, hn, _⟩ := I.loc; hn.lt
theorem Inv.sz (I : Inv X pins σ H s) : X.s₀.heap.objs.size ≤ s.heap.objs.size := Nat.le_trans I.ok.above (Nat.le_of_lt I.lt)
theorem Inv.nofs (I : Inv X pins σ H s) {a : Addr} (h : s.heap.objs.size ≤ a) : a ∉ X.fs := fun hb => by
  obtain ⟨_, o, ho, _⟩ := I.ok.funs.mem hb
  exact absurd (Nat.lt_of_lt_of_le (Heap.lt_size ho) (Nat.le_trans I.sz h)) (Nat.lt_irrefl _)
theorem Inv.cne (I : Inv X pins σ H s) : ∀ x c, X.env.cells.lookup x = some c → c ≠ X.env.locals := fun x c e z => by
  obtain ⟨v, o, ho, hd⟩ := I.cell x c e
  obtain ⟨m, ⟨o', es, ep, ho', hd', _⟩, _⟩ := I.loc
  rw [z, ho'] at ho; cases ho; rw [hd'] at hd; cases hd
theorem Inv.funs (I : Inv X pins σ H s) : s.heap.FunFrames X.base X.outer := by
  have all : ∀ (l : List Env), (∀ b ∈ frs l, b ∈ X.fs) → X.s₀.heap.FunFrames X.base l → s.heap.FunFrames X.base l := by
    intro l
    induction l with
    | nil => intro _ _; trivial
    | cons env r ih =>
      intro hs hl
      obtain ⟨hk, ⟨L, o, hf, hn, ho, hd⟩, hr⟩ := hl
      have hL : L ∈ X.fs := hs L (by unfold frs; rw [List.filterMap_cons, hf]; exact List.mem_cons_self)
      obtain ⟨sl, e⟩ := I.base.slot L o ho (I.ok.frf L hL) hL fun z => I.ok.exfs L z hL
      exact ⟨hk, ⟨L, _, hf, hn, e, hd⟩, ih (fun b hb => hs b (by unfold frs; rw [List.filterMap_cons, hf]; exact List.mem_cons_of_mem _ hb)) hr⟩
  exact all X.outer (fun _ hb => hb) I.ok.funs

/-- the frames that run, for a call -/
theorem Inv.stack (I : Inv X pins σ H s) : s.heap.FunFrames X.base X.stack := by
  rcases I.ok.stk with e | ⟨e, hf⟩
  · rw [e]; exact I.funs
  · rw [e]
    obtain ⟨m, hn, _⟩ := I.loc
    refine .cons (by rw [I.ok.kind]; decide) hf hn ?_ I.funs
    exact Heap.get?_none_of_le (Nat.le_trans I.ok.bsz I.ok.above)
theorem Inv.stkSub (I : Inv X pins σ H s) : ∀ b ∈ frs X.stack, b ∈ X.env.locals :: X.fs := fun b hb => by
  rcases I.ok.stk with e | ⟨e, hf⟩
  · rw [e] at hb; exact List.mem_cons_of_mem _ hb
  · rw [e] at hb
    unfold frs at hb
    rw [List.filterMap_cons, hf] at hb
    exact hb
theorem Inv.stkFree (I : Inv X pins σ H s) : ∀ b ∈ frs X.stack, H b = none := fun b hb => by
  rcases List.mem_cons.mp (I.stkSub b hb) with e | hb
  · rw [e]; exact I.free
  · obtain ⟨_, o, ho, _⟩ := I.ok.funs.mem hb
    exact I.base.free b o ho (I.ok.frf b hb) fun z => I.ok.exfs b z hb

/-- THE STEP: the untracked objects but the frame and the records at ch are kept (the callers' frames up to slots), the frame's map is kept, the new abstract heap is held -/
theorem Inv.step {g' : Array GenState} {t' : Nat} {d' : Drawn} {ch : List Addr} (I : Inv X pins σ H s)
    (hch : ∀ b ∈ ch, (b ∈ X.ex ∨ X.s₀.heap.objs.size ≤ b) ∧ b ≠ X.env.locals ∧ (∀ x c, X.env.cells.lookup x = some c → c ≠ b) ∧ ∀ p ∈ X.pn ++ pins, p.1 ≠ b)
    (keep : ∀ b o, b ≠ X.env.locals → b ∉ X.fs → b ∉ ch → s.heap.get? b = some o → H b = none → h'.get? b = some o)
    (slot : ∀ b o, b ≠ X.env.locals → b ∈ X.fs → b ∉ ch → s.heap.get? b = some o → H b = none → ∃ sl, h'.get? b = some { o with slots := sl }) (free : ∀ b o, b ∉ ch → s.heap.get? b = some o → H b = none → H' b = none)
    (there : ∀ b o, b ∉ ch → s.heap.get? b = some o → ∃ o', h'.get? b = some o')
    (tups : ∀ b xs, H b = some (.tup xs) → H' b = some (.tup xs)) (frzs : ∀ b o u, H b = some (.frz o u) → H' b = some (.frz o u)) (tbls : ∀ b ps, H b = some (.tbl ps) → ∃ more, H' b = some (.tbl (ps ++ more)))
    (ns : ∀ m, s.heap.Ns X.env.locals m → h'.Ns X.env.locals m) (hok : HOk X.prog X.w H' h') (hg : AllBare g') :
    Inv X pins σ H' { s with heap := h', gens := g', drawn := d', toks := t' } := by
  have neL : ∀ b o, X.s₀.heap.get? b = some o → b ≠ X.env.locals := fun b o e => Nat.ne_of_lt (Nat.lt_of_lt_of_le (Heap.lt_size e) I.ok.above)
  have neC : ∀ b o, X.s₀.heap.get? b = some o → b ∉ X.ex → b ∉ ch := fun b o e hx hb => by
    rcases (hch b hb).1 with z | z
    · exact hx z
    · exact absurd (Nat.lt_of_lt_of_le (Heap.lt_size e) z) (Nat.lt_irrefl _)
  have cellK : ∀ x c, X.env.cells.lookup x = some c → ∀ v, s.heap.IsCell c v → h'.IsCell c v := fun x c e v ⟨o, ho, hd⟩ => by
    have nch : c ∉ ch := fun z => (hch c z).2.2.1 x c e rfl
    by_cases hc : c ∈ X.fs
    · obtain ⟨sl, q⟩ := slot c o (I.cne x c e) hc nch ho (I.freeC x c e)
      exact ⟨_, q, hd⟩
    · exact ⟨o, keep c o (I.cne x c e) hc nch ho (I.freeC x c e), hd⟩
  refine ⟨I.ok, I.os, hg, ⟨fun b o e n hb hx => ?_, fun b o e n hb hx => ?_, fun b o e n hx => ?_, fun b o e hx => ?_, fun b xs e => tups b xs (I.base.tups b xs e), fun b o xs e => frzs b o xs (I.base.frzs b o xs e), fun b ps e => ?_⟩, ?_, fun x c e => ?_, ?_, fun x c e => ?_, fun p hp => ?_, hok, I.len⟩
  · exact keep b o (neL b o e) hb (neC b o e hx) (I.base.keep b o e n hb hx) (I.base.free b o e n hx)
  · obtain ⟨sl, e1⟩ := I.base.slot b o e n hb hx
    obtain ⟨sl', e2⟩ := slot b _ (neL b o e) hb (neC b o e hx) e1 (I.base.free b o e n hx)
    exact ⟨sl', e2⟩
  · obtain ⟨o', e1⟩ := I.base.there b o e hx
    exact free b o' (neC b o e hx) e1 (I.base.free b o e n hx)
  · obtain ⟨o', e1⟩ := I.base.there b o e hx
    exact there b o' (neC b o e hx) e1
  · obtain ⟨m1, e1⟩ := I.base.tbls b ps e
    obtain ⟨m2, e2⟩ := tbls b _ e1
    exact ⟨m1 ++ m2, by rw [e2, Array.append_assoc]⟩
  · obtain ⟨m, hn, hl⟩ := I.loc
    refine ⟨m, ns m hn, fun i x v e1 e2 e3 => ?_⟩
    obtain ⟨u, r, l⟩ := hl i x v e1 e2 e3
    refine ⟨u, r, ?_⟩
    rcases l with l | ⟨k, c, e, z⟩
    · exact .inl l
    · exact .inr ⟨k, c, e, cellK x c e _ z⟩
  · obtain ⟨v, z⟩ := I.cell x c e
    exact ⟨v, cellK x c e v z⟩
  · obtain ⟨m, ⟨o, _, _, ho, _⟩, _⟩ := I.loc
    exact free _ o (fun z => (hch _ z).2.1 rfl) ho I.free
  · obtain ⟨v, o, ho, hd⟩ := I.cell x c e
    exact free c o (fun z => (hch c z).2.2.1 x c e rfl) ho (I.freeC x c e)
  · obtain ⟨e, n, ne, nf, d⟩ := I.pin p hp
    have nch : p.1 ∉ ch := fun z => (hch p.1 z).2.2.2 p hp rfl
    exact ⟨keep p.1 p.2 ne nf nch e n, free p.1 p.2 nch e n, ne, nf, d⟩
/-- .. where the frame's own object is kept too -/
theorem Inv.un {t' : Nat} (I : Inv X pins σ H s) (u : Un X.fs [] H H' s.heap h') (hok : HOk X.prog X.w H' h') : Inv X pins σ H' { s with heap := h', toks := t' } := by
  obtain ⟨m, ⟨o, es, ep, ho, r⟩, _⟩ := id I.loc
  obtain ⟨sl, hL⟩ := u.any ho I.free (by simp)
  exact I.step (g' := s.gens) (d' := s.drawn) (ch := []) (fun _ z => nomatch z) (fun b o _ hb _ e n => u.keep b o e n hb (by simp)) (fun b o _ hb _ e n => u.slot b o e n hb (by simp)) (fun b o _ e n => u.free b o e n (by simp)) (fun b o _ e => u.there b o e (by simp)) u.tups u.frzs u.tbls (fun m' hm => by
    obtain ⟨o', es', ep', ho', r'⟩ := hm
    rw [ho] at ho'; cases ho'
    exact ⟨_, es', ep', hL, r'⟩) hok I.bare
/-- behind a call (or a comprehension's block): the slots of this frame may have changed too, the records at ch may have turned -/
theorem Inv.call {g' : Array GenState} {t' : Nat} {d' : Drawn} {ch : List Addr} (I : Inv X pins σ H s) (u : Un (frs X.stack) ch H H' s.heap h') (hok : HOk X.prog X.w H' h') (hg : AllBare g')
    (hch : ∀ b ∈ ch, (b ∈ X.ex ∨ X.s₀.heap.objs.size ≤ b) ∧ b ≠ X.env.locals ∧ (∀ x c, X.env.cells.lookup x = some c → c ≠ b) ∧ ∀ p ∈ X.pn ++ pins, p.1 ≠ b) :
    Inv X pins σ H' { s with heap := h', gens := g', drawn := d', toks := t' } := by
  obtain ⟨m, ⟨o, es, ep, ho, r⟩, _⟩ := id I.loc
  obtain ⟨sl, hL⟩ := u.any ho I.free fun z => (hch _ z).2.1 rfl
  exact I.step (ch := ch) hch (fun b o hL hb hc e n => u.keep b o e n (fun z => (List.mem_cons.mp (I.stkSub b z)).elim hL hb) hc) (fun b o _ _ hc e n => u.any e n hc) (fun b o hc e n => u.free b o e n hc) (fun b o hc e => u.there b o e hc) u.tups u.frzs u.tbls (fun m' hm => by
    obtain ⟨o', es', ep', ho', r'⟩ := hm
    rw [ho] at ho'; cases ho'
    exact ⟨_, es', ep', hL, r'⟩) hok hg
/-- an untracked record of ours (an iterator) has turned -/
theorem Inv.turned {t' : Nat} {it : Addr} (I : Inv X pins σ H s) (k : ∀ b o, b ≠ it → s.heap.get? b = some o → h'.get? b = some o) (hn : H it = none) (hL : it ≠ X.env.locals)
    (h1 : it ∈ X.ex ∨ X.s₀.heap.objs.size ≤ it) (h2 : ∀ x c, X.env.cells.lookup x = some c → c ≠ it) (h3 : ∀ p ∈ X.pn ++ pins, p.1 ≠ it) : Inv X pins σ H { s with heap := h', toks := t' } := by
  have nit : ∀ b u, H b = some u → b ≠ it := fun b u e z => by rw [z, hn] at e; cases e
  refine I.step (g' := s.gens) (d' := s.drawn) (ch := [it]) (fun b hb => ?_) (fun b o _ _ hc e _ => k b o (fun z => hc (by simp [z])) e) (fun b o _ _ hc e _ => ⟨o.slots, k b o (fun z => hc (by simp [z])) e⟩) (fun _ _ _ _ n => n)
    (fun b o hc e => ⟨o, k b o (fun z => hc (by simp [z])) e⟩) (fun _ _ e => e) (fun _ _ _ e => e) (fun b ps e => ⟨#[], by rw [e]; simp⟩) (fun m hm => ?_) (fun b u e => ?_) I.bare
  · have e : b = it := by simpa using hb
    subst e
    exact ⟨h1, hL, h2, h3⟩
  · obtain ⟨o, es, ep, ho, r⟩ := hm
    exact ⟨o, es, ep, k _ o (Ne.symm hL) ho, r⟩
  · refine (I.hok b u e).stay (fun c v hc q => k c v ?_ q) (fun _ q => q) fun _ _ q => q
    rcases hc with z | z
    · rw [z]; exact nit b u e
    · exact nit c _ z
theorem Inv.tok (I : Inv X pins σ H s) (t : Nat) : Inv X pins σ H { s with toks := t } := I.un (h' := s.heap) (t' := t) Un.refl I.hok
/-- all objects kept -/
theorem Inv.kept {t' : Nat} (I : Inv X pins σ H s) (k : ∀ b u, s.heap.get? b = some u → h'.get? b = some u) : Inv X pins σ H { s with heap := h', toks := t' } := I.un (Un.kept k) (I.hok.kept k)
/-- a new object laid and tracked -/
theorem Inv.laid {a : Addr} {o : HO} {t' : Nat} (I : Inv X pins σ H s) (k : ∀ b u, s.heap.get? b = some u → h'.get? b = some u) (hp : s.heap.objs.size ≤ a) (new : ObjOk X.prog X.w (upd H a o) h' a o) :
    Inv X pins σ (upd H a o) { s with heap := h', toks := t' } := I.un (Un.laid k hp (I.hok.fresh hp)) (I.hok.laid k hp new)
/-- an object written -/
theorem Inv.write {x e : Addr} {o : HO} {t' : Nat} (I : Inv X pins σ H s) (mu : Mut (H x)) (he : e = x ∨ H e = some (.own x)) (k : ∀ b u, b ≠ e → s.heap.get? b = some u → h'.get? b = some u) (heo : ∃ u, h'.get? e = some u)
    (new : ObjOk X.prog X.w (upd H x o) h' x o) : Inv X pins σ (upd H x o) { s with heap := h', toks := t' } := I.un (Un.write mu he k heo) (I.hok.write mu he k heo new)
theorem Inv.pins_of {pins' : List (Addr × Obj)} (I : Inv X pins σ H s) (h : ∀ p ∈ pins', s.heap.get? p.1 = some p.2 ∧ H p.1 = none ∧ p.1 ≠ X.env.locals ∧ p.1 ∉ X.fs ∧ ∀ v, p.2.data ≠ .cell v) : Inv X pins' σ H s :=
  ⟨I.ok, I.os, I.bare, I.base, I.loc, I.cell, I.free, I.freeC, fun p hp => (List.mem_append.mp hp).elim (fun z => I.pin p (List.mem_append_left _ z)) (h p), I.hok, I.len⟩

theorem nodup_ix {N : List Str} (hN : N.Nodup) {i j : Nat} {x : Str} (a : N[i]? = some x) (b : N[j]? = some x) : i = j := by
  obtain ⟨h1, e1⟩ := List.getElem?_eq_some_iff.mp a
  obtain ⟨h2, e2⟩ := List.getElem?_eq_some_iff.mp b
  exact (List.getElem_inj hN).mp (e1.trans e2.symm)

/-- a name is stored; what changed -/
theorem store_ok2 {M : Model} {A : Around} {E : Value → Shared → Prop} {i : Nat} {x : Str} {v : V} {u : Value} {Q : Unit → Shared → Prop} (I : Inv X pins σ H s) (hN : X.N.Nodup) (hi : X.N[i]? = some x) (hx : Loc X.env.scope x) (r : RelV v u)
    (h : ∀ s', Inv X pins (σ.set i (some v)) H s' → (∃ a, Heap.SameBut a s.heap s'.heap ∧ (a = X.env.locals ∨ X.env.cells.lookup x = some a)) → Q () s') (hf : X.fn x = true ∨ X.env.scope.names.lookup x = some .local := by first | exact .inl rfl | exact .inr rfl | assumption) : wpAny M A (storeName X.env x u) Q E s := by
  obtain ⟨m, hn, hl⟩ := id I.loc
  have hcls : (X.env.scope.kind == .class || (X.env.scope.kind == .module && X.env.locals != X.env.globals)) = false := by rw [I.ok.kind]; rfl
  have hiσ : i < σ.length := by rw [I.len]; exact (List.getElem?_eq_some_iff.mp hi).1
  have cne := I.cne
  have tracked : ∀ {a : Addr} {h' : Heap}, (∃ o, s.heap.get? a = some o ∧ H a = none) → Heap.SameBut a s.heap h' → HOk X.prog X.w H h' := fun {a h'} ha hs b ob e => by
    obtain ⟨_, _, hfree⟩ := ha
    refine (I.hok b ob e).stay (fun c w' hc q => (hs.2 c ?_).trans q) (fun _ q => q) fun _ _ q => q
    rintro rfl
    rcases hc with rfl | hc
    · rw [hfree] at e; cases e
    · rw [hfree] at hc; cases hc
  rcases hx with hk | hk
  · refine wpAny_storeName_local hk hn (fun h' hn' hs => ?_) hcls
    obtain ⟨oL, _, _, hoL, _⟩ := id hn
    refine h _ ⟨I.ok, I.os, I.bare, ⟨fun b o e n hb hx => ?_, fun b o e n hb hx => ?_, I.base.free, fun b o e hx => ?_, I.base.tups, I.base.frzs, I.base.tbls⟩, ⟨_, hn', fun j y v' e1 e2 e3 => ?_⟩, fun y c e => ?_, I.free, I.freeC, fun p hp => ?_, tracked ⟨oL, hoL, I.free⟩ hs, by simpa using I.len⟩ ⟨_, hs, .inl rfl⟩
    · exact (hs.2 b (Nat.ne_of_lt (Nat.lt_of_lt_of_le (Heap.lt_size e) I.ok.above))).trans (I.base.keep b o e n hb hx)
    · obtain ⟨sl, e1⟩ := I.base.slot b o e n hb hx
      exact ⟨sl, (hs.2 b (Nat.ne_of_lt (Nat.lt_of_lt_of_le (Heap.lt_size e) I.ok.above))).trans e1⟩
    · obtain ⟨o', e1⟩ := I.base.there b o e hx
      exact ⟨o', (hs.2 b (Nat.ne_of_lt (Nat.lt_of_lt_of_le (Heap.lt_size e) I.ok.above))).trans e1⟩
    · by_cases hj : j = i
      · subst hj
        rw [hi] at e1; cases e1
        rw [List.getElem?_set_self hiσ] at e2
        cases e2
        exact ⟨u, r, .inl ⟨hk, by simp⟩⟩
      · rw [List.getElem?_set_ne (Ne.symm hj)] at e2
        obtain ⟨u', r', q⟩ := hl j y v' e1 e2 e3
        refine ⟨u', r', ?_⟩
        rcases q with ⟨k, e⟩ | ⟨k, c, e, z⟩
        · refine .inl ⟨k, ?_⟩
          have : y ≠ x := fun e => hj (nodup_ix hN e1 (e ▸ hi))
          simp [this, e]
        · exact .inr ⟨k, c, e, z.sameBut hs (cne y c e)⟩
    · obtain ⟨w', z⟩ := I.cell y c e
      exact ⟨w', z.sameBut hs (cne y c e)⟩
    · obtain ⟨e, n, ne, nf, d⟩ := I.pin p hp
      exact ⟨(hs.2 p.1 ne).trans e, n, ne, nf, d⟩
  · have hfn : X.fn x = true := by
      rcases hf with z | z
      · exact z
      · rw [z] at hk; cases hk
    obtain ⟨c, hc⟩ := I.ok.has x (.inl hk)
    obtain ⟨w', z⟩ := I.cell x c hc
    refine wpAny_storeName_cell I.ok.kind hk hc z (fun h' hc' hs => ?_)
    obtain ⟨oc, hoc, hocd⟩ := id z
    refine h { s with heap := h' } ⟨I.ok, I.os, I.bare, ⟨fun b o e n hb hx => ?_, fun b o e n hb hx => ?_, I.base.free, fun b o e hx => ?_, I.base.tups, I.base.frzs, I.base.tbls⟩, ⟨m, hn.sameBut hs (Ne.symm (cne x c hc)), fun j y v' e1 e2 e3 => ?_⟩, fun y c' e => ?_, I.free, I.freeC, fun p hp => ?_, tracked ⟨oc, hoc, I.freeC x c hc⟩ hs, by simpa using I.len⟩ ⟨c, hs, .inr hc⟩
    · exact (hs.2 b (Nat.ne_of_lt (Nat.lt_of_lt_of_le (Heap.lt_size e) (I.ok.cab x c hfn hc)))).trans (I.base.keep b o e n hb hx)
    · obtain ⟨sl, e1⟩ := I.base.slot b o e n hb hx
      exact ⟨sl, (hs.2 b (Nat.ne_of_lt (Nat.lt_of_lt_of_le (Heap.lt_size e) (I.ok.cab x c hfn hc)))).trans e1⟩
    · obtain ⟨o', e1⟩ := I.base.there b o e hx
      exact ⟨o', (hs.2 b (Nat.ne_of_lt (Nat.lt_of_lt_of_le (Heap.lt_size e) (I.ok.cab x c hfn hc)))).trans e1⟩
    · by_cases hj : j = i
      · subst hj
        rw [hi] at e1; cases e1
        rw [List.getElem?_set_self hiσ] at e2
        cases e2
        exact ⟨u, r, .inr ⟨.inl hk, c, hc, hc'⟩⟩
      · rw [List.getElem?_set_ne (Ne.symm hj)] at e2
        obtain ⟨u', r', q⟩ := hl j y v' e1 e2 e3
        refine ⟨u', r', ?_⟩
        rcases q with q | ⟨k, c', e, z'⟩
        · exact .inl q
        · refine .inr ⟨k, c', e, z'.sameBut hs ?_⟩
          rintro rfl
          exact hj (nodup_ix hN e1 (I.ok.inj _ _ _ e hc ▸ hi))
    · by_cases hcc : c' = c
      · subst hcc; exact ⟨_, hc'⟩
      · obtain ⟨w2, z2⟩ := I.cell y c' e
        exact ⟨w2, z2.sameBut hs hcc⟩
    · obtain ⟨e, n, ne, nf, d⟩ := I.pin p hp
      refine ⟨(hs.2 p.1 ?_).trans e, n, ne, nf, d⟩
      intro q
      rw [q, hoc] at e
      have q' : oc = p.2 := Option.some.inj e
      exact d w' (by rw [← q']; exact hocd)
theorem store_ok {M : Model} {A : Around} {E : Value → Shared → Prop} {i : Nat} {x : Str} {v : V} {u : Value} {Q : Unit → Shared → Prop} (I : Inv X pins σ H s) (hN : X.N.Nodup) (hi : X.N[i]? = some x) (hx : Loc X.env.scope x) (r : RelV v u)
    (h : ∀ s', Inv X pins (σ.set i (some v)) H s' → Q () s') (hf : X.fn x = true ∨ X.env.scope.names.lookup x = some .local := by first | exact .inl rfl | exact .inr rfl | assumption) : wpAny M A (storeName X.env x u) Q E s :=
  store_ok2 I hN hi hx r (fun s' I' _ => h s' I') hf
/-- behind a call or a block, the state as it is -/
theorem Inv.call' {s' : Shared} {ch : List Addr} (I : Inv X pins σ H s) (ho : s'.os = s.os) (u : Un (frs X.stack) ch H H' s.heap s'.heap) (hok : HOk X.prog X.w H' s'.heap) (hg : AllBare s'.gens)
    (hch : ∀ b ∈ ch, (b ∈ X.ex ∨ X.s₀.heap.objs.size ≤ b) ∧ b ≠ X.env.locals ∧ (∀ x c, X.env.cells.lookup x = some c → c ≠ b) ∧ ∀ p ∈ X.pn ++ pins, p.1 ≠ b) : Inv X pins σ H' s' := by
  obtain ⟨h', g', d', t', o'⟩ := s'
  have e : o' = s.os := ho
  subst e
  exact I.call (g' := g') (t' := t') (d' := d') u hok hg hch
end

/-! ### the judgements -/
/-- an exception: its class, its own dict's address (where it has one), the abstract heap behind it -/
abbrev XK := Value → Option Addr → Hp → Prop
abbrev St := List (Option V)
abbrev VK := V → Hp → Prop
/-- an expression's reading; a test's; an argument list's -/
abbrev TE := St → Hp → VK → Prop
abbrev TT := St → Hp → (Bool → Hp → Prop) → Prop
abbrev TA := St → Hp → (List V → Hp → Prop) → Prop
/-- what is wanted behind a statement -/
structure Ends where
  nx : St → Hp → Prop
  rt : VK
  bk : St → Hp → Prop := fun _ _ => False
  ct : St → Hp → Prop := fun _ _ => False
abbrev TS := Ends → St → Hp → Prop

def EP (X : Cx) (pins : List (Addr × Obj)) (σ : St) (Q : VK) (u : Value) (s' : Shared) : Prop := ∃ v H', Inv X pins σ H' s' ∧ RelV v u ∧ Q v H'
def TP (X : Cx) (pins : List (Addr × Obj)) (σ : St) (Q : Bool → Hp → Prop) (b : Bool) (s' : Shared) : Prop := ∃ H', Inv X pins σ H' s' ∧ Q b H'
def AP (X : Cx) (pins : List (Addr × Obj)) (σ : St) (Q : List V → Hp → Prop) (us : List Value) (s' : Shared) : Prop := ∃ vs H', Inv X pins σ H' s' ∧ Vals vs us ∧ Q vs H'
def SP (X : Cx) (pins : List (Addr × Obj)) (D : Ends) (f : Flow) (s' : Shared) : Prop :=
  match f with
  | .next => ∃ σ' H', Inv X pins σ' H' s' ∧ D.nx σ' H'
  | .brk => ∃ σ' H', Inv X pins σ' H' s' ∧ D.bk σ' H'
  | .cont => ∃ σ' H', Inv X pins σ' H' s' ∧ D.ct σ' H'
  | .ret u => ∃ v σ' H', Inv X pins σ' H' s' ∧ RelV v u ∧ D.rt v H'

def PE (X : Cx) (e : Expr) (t : TE) : Prop :=
  ∀ (pins : List (Addr × Obj)) (s : Shared) (σ : St) (H : Hp) (Q : VK), Inv X pins σ H s → t σ H Q → wpAny (model X.prog X.w) X.A (eval e X.env) (EP X pins σ Q) X.xe s
def PT (X : Cx) (e : Expr) (t : TT) : Prop :=
  ∀ (pins : List (Addr × Obj)) (s : Shared) (σ : St) (H : Hp) (Q : Bool → Hp → Prop), Inv X pins σ H s → t σ H Q → wpAny (model X.prog X.w) X.A (isTrue e X.env (eval e X.env)) (TP X pins σ Q) X.xe s
/-- a test whatever its 'whole' is (and, or) -/
def PW (X : Cx) (e : Expr) (t : TT) : Prop :=
  ∀ (whole : Sem Value) (pins : List (Addr × Obj)) (s : Shared) (σ : St) (H : Hp) (Q : Bool → Hp → Prop), Inv X pins σ H s → t σ H Q → wpAny (model X.prog X.w) X.A (isTrue e X.env whole) (TP X pins σ Q) X.xe s
theorem PW.pt {X : Cx} {e : Expr} {t : TT} (h : PW X e t) : PT X e t := h _
/-- an argument list (no star), from the left -/
def PA (X : Cx) (es : List Expr) (t : TA) : Prop :=
  ∀ (pos : Pos) (pins : List (Addr × Obj)) (s : Shared) (σ : St) (H : Hp) (Q : List V → Hp → Prop), Inv X pins σ H s → t σ H Q → wpAny (model X.prog X.w) X.A (spliced (backTo pos (starEach es X.env))) (AP X pins σ Q) X.xe s
def PS (X : Cx) (st : Stmt) (t : TS) : Prop :=
  ∀ (pins : List (Addr × Obj)) (s : Shared) (σ : St) (H : Hp) (D : Ends), Inv X pins σ H s → t D σ H → wpAny (model X.prog X.w) X.A (exec st X.env) (SP X pins D) X.xe s
def PSs (X : Cx) (st : List Stmt) (t : TS) : Prop :=
  ∀ (pins : List (Addr × Obj)) (s : Shared) (σ : St) (H : Hp) (D : Ends), Inv X pins σ H s → t D σ H → wpAny (model X.prog X.w) X.A (execs st X.env) (SP X pins D) X.xe s
/-- weaken the end -/
theorem thn {α : Type} {t : Sem α} {Q Q' : α → Shared → Prop} {M : Model} {A : Around} {E : Value → Shared → Prop} {s : Shared} (h : wpAny M A t Q E s) (hQ : ∀ a s, Q a s → Q' a s) : wpAny M A t Q' E s := wpAny_mono h hQ fun _ _ x => x
end L2

namespace L2
open PySem PySem.Spec PyProof.Rows
section
variable {X : Cx}


/-! ### names and constants -/
def tVar (i : Nat) : TE := fun σ H Q => ∃ v, σ[i]? = some (some v) ∧ Q v H
def tC (v : V) : TE := fun _ H Q => Q v H
theorem pe_var {i : Nat} {x : Str} {pos : Pos} (hN : X.N[i]? = some x) (hv : Vis X.env.scope x) (hd : (x == ("__debug__" : Str)) = false := by decide) (hcd : (x == ("__classdict__" : Str)) = false := by decide) : PE X (.Name x pos) (tVar i) := by
  intro pins s σ H Q I h
  obtain ⟨v, e, h⟩ := h
  obtain ⟨m, hn, hl⟩ := I.loc
  obtain ⟨u, r, l⟩ := hl i x v hN e hv
  have fin : EP X pins σ Q u s := ⟨v, H, I, r, h⟩
  rcases l with ⟨hk, hm⟩ | ⟨hk, c, hc, hcell⟩
  · exact wpAny_Name (wpAny_loadName_local I.ok.kind hk hn hm fin) hd
  · rcases hk with hk | hk
    · exact wpAny_Name (wpAny_loadName_cell I.ok.kind hk hc hcell fin) hd
    · exact wpAny_Name (wpAny_loadName_free I.ok.kind hk hc hcell fin hcd) hd
theorem pe_int {i j pos} : PE X (.Constant (.int i) j pos) (tC (.int i)) := fun _ _ _ H _ I h => wpAny_Constant_int ⟨.int i, H, I.tok _, ⟨_, rfl⟩, h⟩
theorem pe_bl {b j pos} : PE X (.Constant (.bool b) j pos) (tC (.bl b)) := fun _ _ _ H _ I h => Constant_bool ⟨.bl b, H, I, rfl, h⟩
theorem pe_non {j pos} : PE X (.Constant .none j pos) (tC .non) := fun _ _ _ H _ I h => Constant_none ⟨.non, H, I, rfl, h⟩
theorem pe_str {x j pos} : PE X (.Constant (.str x) j pos) (tC (.str x)) := fun _ _ _ H _ I h => Calls.Constant_str ⟨.str x, H, I.tok _, ⟨_, rfl⟩, h⟩

/-- a global name of the def -/
def Gl (X : Cx) (x : Str) : Prop := X.env.kindOf x = some .globalImplicit
theorem ld_glob {E : Value → Shared → Prop} {pins : List (Addr × Obj)} {s : Shared} {σ : St} {H : Hp} {x : Str} {u : Value} {pos : Pos} {Q : Value → Shared → Prop} (I : Inv X pins σ H s) (hg : Gl X x) (hm : X.mg x = some u) (h : Q u s)
    (hd : (x == ("__debug__" : Str)) = false := by decide) : wpAny (model X.prog X.w) X.A (eval (.Name x pos) X.env) Q E s :=
  Calls.Name_function_global I.ok.kind hg (Calls.loadGlobal_global (by rw [I.ok.glob]; exact I.mod.glob.keeps I.bk) hm h) hd
theorem ld_blt {E : Value → Shared → Prop} {pins : List (Addr × Obj)} {s : Shared} {σ : St} {H : Hp} {x : Str} {u : Value} {pos : Pos} {Q : Value → Shared → Prop} (I : Inv X pins σ H s) (hg : Gl X x) (hm : X.mg x = none) (hv : bootBuiltins x = some u) (h : Q u s)
    (hn : x ≠ "__name__" := by decide) (hd : (x == ("__debug__" : Str)) = false := by decide) : wpAny (model X.prog X.w) X.A (eval (.Name x pos) X.env) Q E s := by
  obtain ⟨mb, h1, h2⟩ := I.mod.blt
  exact Calls.Name_function_global I.ok.kind hg (Calls.loadGlobal_builtin (by rw [I.ok.glob]; exact I.mod.glob.keeps I.bk) hm (by rw [I.ok.blt]; exact h1.keeps I.bk) ((h2 x hn).trans hv) h) hd
/-- a module's constant, a class, a function, as a value -/
theorem pe_glob {x : Str} {v : V} {u : Value} {pos : Pos} (hg : Gl X x) (hm : X.mg x = some u) (r : RelV v u) (hd : (x == ("__debug__" : Str)) = false := by decide) : PE X (.Name x pos) (tC v) :=
  fun _ _ _ H _ I h => ld_glob I hg hm ⟨v, H, I, r, h⟩ hd
theorem pe_bltn {x : Str} {v : V} {u : Value} {pos : Pos} (hg : Gl X x) (hm : X.mg x = none) (hv : bootBuiltins x = some u) (r : RelV v u) (hn : x ≠ "__name__" := by decide) (hd : (x == ("__debug__" : Str)) = false := by decide) : PE X (.Name x pos) (tC v) :=
  fun _ _ _ H _ I h => ld_blt I hg hm hv ⟨v, H, I, r, h⟩ hn hd

/-! ### arithmetic -/
variable {a b : Expr} {ta tb : TE} {pos : Pos}

/-! ### comparisons -/

/-! ### and, or, not -/
variable {tA tB' : TT} {rest : List Expr}
def tAnd (t u : TT) : TT := fun σ H Q => t σ H fun c H1 => if c = true then u σ H1 Q else Q false H1
def tOr (t u : TT) : TT := fun σ H Q => t σ H fun c H1 => if c = true then Q true H1 else u σ H1 Q
def tNot (t : TT) : TT := fun σ H Q => t σ H fun c H1 => Q (!c) H1
theorem pw_or1 (ha : PT X a tA) : PW X (.BoolOp .Or [a] pos) tA := by
  intro wh pins s σ H Q I h
  refine isTrue_or (thn (ha pins s σ H Q I h) fun c s1 e => ?_)
  cases c with
  | false => exact isTrue_or_nil e
  | true => exact e
theorem pw_or (ha : PT X a tA) (hb : PW X (.BoolOp .Or (b :: rest) pos) tB') : PW X (.BoolOp .Or (a :: b :: rest) pos) (tOr tA tB') := by
  intro wh pins s σ H Q I h
  refine isTrue_or (thn (ha pins s σ H _ I h) fun c s1 ⟨H1, I1, q1⟩ => ?_)
  cases c with
  | true => exact ⟨H1, I1, q1⟩
  | false => exact hb wh pins s1 σ H1 Q I1 q1
theorem pt_not (ha : PT X a tA) : PT X (.UnaryOp .Not a pos) (tNot tA) := by
  intro pins s σ H Q I h
  exact isTrue_not (ha pins s σ H (fun c H1 => Q (!c) H1) I h)
/-- .. as values (bools) -/
def tAndV (ta tb : TE) : TE := fun σ H Q => ta σ H fun x H1 => ∃ c, x = .bl c ∧ if c = true then tb σ H1 Q else Q (.bl false) H1
def tOrV (ta tb : TE) : TE := fun σ H Q => ta σ H fun x H1 => ∃ c, x = .bl c ∧ if c = true then Q (.bl true) H1 else tb σ H1 Q
theorem pe_one {op} {t : TE} (h : PE X a t) : PE X (.BoolOp op [a] pos) t := fun pins s σ H Q I hw => BoolOp_one (h pins s σ H Q I hw)
theorem pe_and (ha : PE X a ta) (hb : PE X (.BoolOp .And (b :: rest) pos) tb) : PE X (.BoolOp .And (a :: b :: rest) pos) (tAndV ta tb) := by
  intro pins s σ H Q I h
  refine BoolOp_and (thn (ha pins s σ H _ I h) fun v s1 ⟨x, H1, I1, r1, q1⟩ => ?_)
  obtain ⟨c, rfl, q1⟩ := q1
  cases r1
  refine wpAny_truthy_bool ?_
  cases c with
  | true => exact hb pins s1 σ H1 Q I1 q1
  | false => exact ⟨.bl false, H1, I1, rfl, q1⟩
/-- a if t else b -/
def tIf (t : TT) (ta tb : TE) : TE := fun σ H Q => t σ H fun c H1 => if c = true then ta σ H1 Q else tb σ H1 Q
theorem pe_ifExp {c : Expr} (hc : PT X c tA) (ha : PE X a ta) (hb : PE X b tb) : PE X (.IfExp c a b pos) (tIf tA ta tb) := by
  intro pins s σ H Q I h
  refine wpAny_IfExp (thn (hc pins s σ H _ I h) fun d s1 ⟨H1, I1, q1⟩ => ?_)
  cases d with
  | true => exact ha pins s1 σ H1 Q I1 q1
  | false => exact hb pins s1 σ H1 Q I1 q1
end
end L2

namespace L2
open PySem PySem.Spec PyProof.Rows

/-! ### a list, a tuple that is read: tracked, frozen, or an object of the module -/
def SqL (K : PySem.W.Frag) (H : Hp) (a : Addr) (xs : List V) : Prop :=
  Rd H a (.lst xs) ∨
    ∃ (o : Obj) (its : Array Value) (n : Nat), K.lookup a = some o ∧ o.cls = .type "list" ∧ o.dict = none ∧ o.data = .seq its n ∧ its.size ≤ sizeLine ∧ Vals xs its.toList
def SqT (K : PySem.W.Frag) (H : Hp) (a : Addr) (xs : List V) : Prop :=
  Rd H a (.tup xs) ∨
    ∃ (o : Obj) (its : Array Value) (n : Nat), K.lookup a = some o ∧ o.cls = .type "tuple" ∧ o.data = .seq its n ∧ its.size ≤ sizeLine ∧ Vals xs its.toList
def absV : Value → Option V
  | .none => some .non
  | .bool b => some (.bl b)
  | .int i _ => some (.int i)
  | .str x _ => some (.str x)
  | .bytes b _ => some (.byt b)
  | .float b _ => some (.flt b)
  | .ref a => some (.ref a)
  | .type n => some (.ty n)
  | _ => none
theorem RelV.abs {x : V} {u : Value} (r : RelV x u) : absV u = some x := by
  cases x with
  | non => cases r; rfl
  | bl _ => cases r; rfl
  | int _ => obtain ⟨t, rfl⟩ := r; rfl
  | str _ => obtain ⟨t, rfl⟩ := r; rfl
  | byt _ => obtain ⟨t, rfl⟩ := r; rfl
  | flt _ => obtain ⟨t, rfl⟩ := r; rfl
  | ref _ => cases r; rfl
  | ty _ => cases r; rfl
theorem RelV.inj {x y : V} {u : Value} (r : RelV x u) (q : RelV y u) : x = y := Option.some.inj (r.abs.symm.trans q.abs)
theorem Vals.inj : ∀ {xs ys : List V} {us : List Value}, Vals xs us → Vals ys us → xs = ys
  | _, _, _, .nil, .nil => rfl
  | _, _, _, .cons r t, .cons r' t' => by rw [r.inj r', Vals.inj t t']
section
variable {X : Cx} {pins : List (Addr × Obj)} {σ : St} {H : Hp} {s : Shared} {a : Addr} {xs ys : List V}
theorem SqL.of {K : PySem.W.Frag} (h : H a = some (.lst xs)) : SqL K H a xs := .inl (.inl h)
theorem SqT.of {K : PySem.W.Frag} (h : H a = some (.tup xs)) : SqT K H a xs := .inl (.inl h)
theorem Inv.list (I : Inv X pins σ H s) (h : SqL X.K H a xs) : ∃ its : List Value, Vals xs its ∧ PlainL s.heap a its.toArray ∧ xs.length ≤ sizeLine := by
  rcases h with h | ⟨o, its, n, hk, hc, hd, hs, hz, r⟩
  · obtain ⟨z, its, n, r, e⟩ := h.ok I.hok
    exact ⟨its, r, ⟨_, n, e, rfl, rfl, rfl⟩, z⟩
  · refine ⟨its.toList, r, ⟨o, n, I.kIn a o hk, hc, hd, by simpa using hs⟩, ?_⟩
    have e := r.length
    simp only [Array.length_toList] at e
    omega
theorem Inv.tuple (I : Inv X pins σ H s) (h : SqT X.K H a xs) : ∃ its : List Value, Vals xs its ∧ IsTup s.heap a its.toArray ∧ xs.length ≤ sizeLine := by
  rcases h with h | ⟨o, its, n, hk, hc, hs, hz, r⟩
  · obtain ⟨z, its, r, p⟩ := h.ok I.hok
    exact ⟨its, r, p, z⟩
  · refine ⟨its.toList, r, ⟨o, I.kIn a o hk, hc, n, by simpa using hs⟩, ?_⟩
    have e := r.length
    simp only [Array.length_toList] at e
    omega
theorem Inv.list_inj (I : Inv X pins σ H s) (h : SqL X.K H a xs) (h' : SqL X.K H a ys) : xs = ys := by
  obtain ⟨its, r, ⟨o, n, e, _, _, d⟩, _⟩ := I.list h
  obtain ⟨its', r', ⟨o', n', e', _, _, d'⟩, _⟩ := I.list h'
  rw [e] at e'; cases e'
  rw [d] at d'
  injection d' with d1 _
  have : its = its' := by simpa using congrArg Array.toList d1
  subst this
  exact r.inj r'
theorem Inv.tuple_inj (I : Inv X pins σ H s) (h : SqT X.K H a xs) (h' : SqT X.K H a ys) : xs = ys := by
  obtain ⟨its, r, ⟨o, e, _, n, d⟩, _⟩ := I.tuple h
  obtain ⟨its', r', ⟨o', e', _, n', d'⟩, _⟩ := I.tuple h'
  rw [e] at e'; cases e'
  rw [d] at d'
  injection d' with d1 _
  have : its = its' := by simpa using congrArg Array.toList d1
  subst this
  exact r.inj r'
end

/-! ### another wish about exceptions -/
abbrev Cx.wish (X : Cx) (E : Value → Shared → Prop) : Cx := { X with xe := E }
/-- no exception leaves -/
abbrev Cx.nox (X : Cx) : Cx := X.wish fun _ _ => False
theorem Cx.Ok.wish {X : Cx} (ok : X.Ok) (E : Value → Shared → Prop) : (X.wish E).Ok :=
  ⟨ok.mod, ok.kind, ok.glob, ok.blt, ok.above, ok.inj, ok.has, ok.cab, ok.hd, ok.frames, ok.stk, ok.exf, ok.bs, ok.bsz, ok.noex, ok.exfs, ok.funs, ok.frf⟩
theorem Cx.Ok.unwish {X : Cx} {E : Value → Shared → Prop} (ok : (X.wish E).Ok) : X.Ok :=
  ⟨ok.mod, ok.kind, ok.glob, ok.blt, ok.above, ok.inj, ok.has, ok.cab, ok.hd, ok.frames, ok.stk, ok.exf, ok.bs, ok.bsz, ok.noex, ok.exfs, ok.funs, ok.frf⟩
section
variable {X : Cx} {pins : List (Addr × Obj)} {σ : St} {H : Hp} {s : Shared} {E : Value → Shared → Prop}
theorem Inv.wish (I : Inv X pins σ H s) (E : Value → Shared → Prop) : Inv (X.wish E) pins σ H s := ⟨I.ok.wish E, I.os, I.bare, I.base, I.loc, I.cell, I.free, I.freeC, I.pin, I.hok, I.len⟩
theorem Inv.unwish (I : Inv (X.wish E) pins σ H s) : Inv X pins σ H s := ⟨I.ok.unwish, I.os, I.bare, I.base, I.loc, I.cell, I.free, I.freeC, I.pin, I.hok, I.len⟩
theorem SP.unwish {D : Ends} {f : Flow} {s' : Shared} (h : SP (X.wish E) pins D f s') : SP X pins D f s' := by
  cases f with
  | next => obtain ⟨σ', H', I, q⟩ := h; exact ⟨σ', H', I.unwish, q⟩
  | brk => obtain ⟨σ', H', I, q⟩ := h; exact ⟨σ', H', I.unwish, q⟩
  | cont => obtain ⟨σ', H', I, q⟩ := h; exact ⟨σ', H', I.unwish, q⟩
  | ret u => obtain ⟨v, σ', H', I, r, q⟩ := h; exact ⟨v, σ', H', I.unwish, r, q⟩
theorem PSs.nox {st : List Stmt} {t : TS} (h : PSs X.nox st t) : PSs X st t := fun pins s σ H D I hw =>
  wpAny_mono (h pins s σ H D (I.wish _) hw) (fun _ _ q => q.unwish) fun _ _ z => False.elim z
end

/-! ### blocks and small statements -/
section
variable {X : Cx} {st : Stmt} {rest : List Stmt} {t u : TS} {e : Expr} {te : TE} {pos : Pos}
def tNext : TS := fun D σ H => D.nx σ H
def tSeq (t u : TS) : TS := fun D σ H => t { D with nx := u D } σ H
theorem pss_nil : PSs X [] tNext := fun _ _ σ H _ I h => wpAny_execs_nil ⟨σ, H, I, h⟩
theorem pss_cons (h1 : PS X st t) (h2 : PSs X rest u) : PSs X (st :: rest) (tSeq t u) := by
  intro pins s σ H D I h
  refine wpAny_execs_cons (thn (h1 pins s σ H { D with nx := u D } I h) fun f s1 q => ?_)
  cases f with
  | next =>
    obtain ⟨σ', H', I', q⟩ := q
    exact h2 pins s1 σ' H' D I' q
  | ret v => exact q
  | brk => exact q
  | cont => exact q
def tBreak : TS := fun D σ H => D.bk σ H
def tCont : TS := fun D σ H => D.ct σ H
/-- in a def's body nothing is shown -/
theorem Inv.quiet {pins : List (Addr × Obj)} {σ : St} {H : Hp} {s : Shared} (I : Inv X pins σ H s) : interactive X.env = false := by simp [interactive, I.ok.kind]
/-- an expression whose value is dropped -/
def tDrop (te : TE) : TS := fun D σ H => te σ H fun _ H1 => D.nx σ H1
theorem ps_expr (he : PE X e te) (hs : swapsWith e none pos.line X.env = pure false := by rfl) : PS X (.Expr e pos) (tDrop te) := by
  intro pins s σ H D I h
  exact wpAny_Expr_any (thn (he pins s σ H _ I h) fun v s1 ⟨x, H1, I1, r1, q1⟩ => ⟨σ, H1, I1, q1⟩) I.quiet hs
def tRet (te : TE) : TS := fun D σ H => te σ H D.rt
theorem ps_ret (he : PE X e te) : PS X (.Return (some e) pos) (tRet te) := by
  intro pins s σ H D I h
  exact wpAny_Return_some (thn (he pins s σ H _ I h) fun v s1 ⟨x, H1, I1, r1, q1⟩ => ⟨x, σ, H1, I1, r1, q1⟩)
def tRetN : TS := fun D _ H => D.rt .non H
def tIfS (c : TT) (t u : TS) : TS := fun D σ H => c σ H fun b H1 => if b = true then t D σ H1 else u D σ H1
theorem ps_if {c : Expr} {a b : List Stmt} {tc : TT} (hc : PT X c tc) (ha : PSs X a t) (hb : PSs X b u) : PS X (.If c a b pos) (tIfS tc t u) := by
  intro pins s σ H D I h
  refine wpAny_If (thn (hc pins s σ H _ I h) fun d s1 ⟨H1, I1, q1⟩ => ?_)
  cases d with
  | true => exact ha pins s1 σ H1 D I1 q1
  | false => exact hb pins s1 σ H1 D I1 q1
/-- code that the proof never comes to -/
def tNever : TS := fun _ _ _ => False
theorem ps_never : PS X st tNever := fun _ _ _ _ _ _ h => h.elim
end

/-! ### targets -/
abbrev TG := V → St → Hp → (St → Hp → Prop) → Prop
abbrev TGs := List V → St → Hp → (St → Hp → Prop) → Prop
def PG (X : Cx) (target : Expr) (t : TG) : Prop :=
  ∀ (pins : List (Addr × Obj)) (s : Shared) (σ : St) (H : Hp) (v : V) (u : Value) (Q : St → Hp → Prop), Inv X pins σ H s → RelV v u → t v σ H Q →
    wpAny (model X.prog X.w) X.A (assign target X.env u) (fun _ s' => ∃ σ' H', Inv X pins σ' H' s' ∧ Q σ' H') X.xe s
/-- several targets, one after another -/
def PGs (X : Cx) (ts : List Expr) (t : TGs) : Prop :=
  ∀ (pins : List (Addr × Obj)) (s : Shared) (σ : St) (H : Hp) (vs : List V) (us : List Value) (Q : St → Hp → Prop), Inv X pins σ H s → Vals vs us → t vs σ H Q →
    wpAny (model X.prog X.w) X.A (assignInOrder ((assignEach ts X.env).map (·.2)) us) (fun _ s' => ∃ σ' H', Inv X pins σ' H' s' ∧ Q σ' H') X.xe s
/-- o[i] = v, by values -/
abbrev TSet := V → V → V → Hp → (Hp → Prop) → Prop
section
variable {X : Cx} {pos : Pos}
def gName (i : Nat) : TG := fun v σ H Q => Q (σ.set i (some v)) H
theorem pg_name {i : Nat} {x : Str} (hN : X.N.Nodup) (hi : X.N[i]? = some x) (hx : Loc X.env.scope x) (hf : X.fn x = true ∨ X.env.scope.names.lookup x = some .local := by first | exact .inl rfl | exact .inr rfl | assumption) : PG X (.Name x pos) (gName i) := by
  intro pins s σ H v u Q I r h
  exact wpAny_assign_Name (store_ok I hN hi hx r (fun s' I' => ⟨_, H, I', h⟩) hf)
def gNil : TGs := fun vs σ H Q => vs = [] ∧ Q σ H
def gCons (t : TG) (u : TGs) : TGs := fun vs σ H Q => ∃ v r, vs = v :: r ∧ t v σ H fun σ' H' => u r σ' H' Q
theorem pgs_nil : PGs X [] gNil := by
  intro pins s σ H vs us Q I r h
  obtain ⟨e, h⟩ := h
  subst e
  cases r
  exact assignInOrder_nil ⟨σ, H, I, h⟩
theorem pgs_cons {e : Expr} {es : List Expr} {t : TG} {u : TGs} (h1 : PG X e t) (h2 : PGs X es u)
    (hs : (assignEach (e :: es) X.env).map (·.2) = assign e X.env :: (assignEach es X.env).map (·.2) := by rfl) : PGs X (e :: es) (gCons t u) := by
  intro pins s σ H vs us Q I r h
  obtain ⟨v, vr, e1, h⟩ := h
  subst e1
  cases r with
  | cons r rr =>
    rw [hs]
    refine assignInOrder_cons (thn (h1 pins s σ H _ _ _ I r h) fun _ s1 ⟨σ1, H1, I1, q1⟩ => ?_)
    exact h2 pins s1 σ1 H1 _ _ Q I1 rr q1
/-- (a, b, ..) = a tuple of that length -/
def gTup (K : PySem.W.Frag) (n : Nat) (t : TGs) : TG := fun v σ H Q => ∃ a xs, v = .ref a ∧ SqT K H a xs ∧ xs.length = n ∧ t xs σ H Q
theorem pg_tup {es : List Expr} {k : Nat} {t : TGs} {n : Nat} (hc : X.calm = true) (h : PGs X es t)
    (hn : (assignEach es X.env).length = n := by rfl) (hst : (assignEach es X.env).findIdx? (·.1) = none := by rfl) : PG X (.Tuple es k pos) (gTup X.K n t) := by
  intro pins s σ H v u Q I r hw
  obtain ⟨a, xs, e1, hq, hl, hw⟩ := hw
  subst e1
  cases r
  obtain ⟨its, rv, ht, hz⟩ := I.tuple hq
  refine assign_Tuple_tuple (I.ok.hd hc) ht (by simp [hn, ← hl, rv.length]) hst fun h' hx => ?_
  have I1 : Inv X pins σ H { s with heap := h' } := I.kept (t' := s.toks) fun b o e => hx b o (Nat.ne_of_lt (Heap.lt_size e)) e
  exact h pins _ σ H xs _ Q I1 (by simpa using rv) hw
/-- o[i] = .. -/
def gSub (to ti : TE) (t : TSet) : TG := fun v σ H Q => to σ H fun o H1 => ti σ H1 fun i H2 => t o i v H2 fun H3 => Q σ H3
/-- target = value -/
def tAsg (te : TE) (g : TG) : TS := fun D σ H => te σ H fun x H1 => g x σ H1 D.nx
/-- name = value -/
theorem ps_set {i : Nat} {x : Str} {e : Expr} {te : TE} {pos' : Pos} (hN : X.N.Nodup) (hi : X.N[i]? = some x) (hx : Loc X.env.scope x) (he : PE X e te) (hs : swapsWith e (some (.Name x pos')) pos.line X.env = pure false := by rfl) (hf : X.fn x = true ∨ X.env.scope.names.lookup x = some .local := by first | exact .inl rfl | exact .inr rfl | assumption) :
    PS X (.Assign [.Name x pos'] e pos) (tAsg te (gName i)) := by
  intro pins s σ H D I h
  refine wpAny_Assign_Name (thn (he pins s σ H _ I h) fun v s1 ⟨y, H1, I1, r1, q1⟩ => ?_) hs
  exact store_ok I1 hN hi hx r1 (fun s2 I2 => ⟨_, H1, I2, q1⟩) hf
end

/-! ### while -/
section
variable {X : Cx} {pos : Pos}
/-- the invariant W with its measure -/
def tWhile (c : TT) (tb : TS) : TS := fun D σ H => ∃ W : Nat → St → Hp → Prop, (∃ m, W m σ H) ∧ ∀ m σ H, W m σ H →
  c σ H fun b H1 => if b = true then ∃ N : St → Hp → Prop, (∀ σ' H', N σ' H' → ∃ m', m' < m ∧ W m' σ' H') ∧ tb { D with nx := N, ct := N, bk := D.nx } σ H1 else D.nx σ H1
theorem ps_while {c : Expr} {body : List Stmt} {tc : TT} {tb : TS} (hp : PassesOwn (model X.prog X.w) X.A X.env X.xe) (hc : PT X c tc) (hb : PSs X body tb) : PS X (.While c body [] pos) (tWhile tc tb) := by
  intro pins s σ H D I h
  obtain ⟨W, ⟨m0, w0⟩, turn⟩ := h
  refine wpAny_While (codeAny_whileLoop (fun n s' => ∃ σ' H', Inv X pins σ' H' s' ∧ W n σ' H') ?_ m0 ⟨σ, H, I, w0⟩)
  rintro n s1 ⟨σ1, H1, I1, w1⟩
  refine wpAny_passesOwn hp (thn (hc pins s1 σ1 H1 _ I1 (turn n σ1 H1 w1)) fun b s2 ⟨H2, I2, q2⟩ => ?_)
  cases b with
  | true =>
    obtain ⟨N, hN, q2⟩ := q2
    rw [if_pos rfl]
    refine wpAny_passesOwn hp (thn (hb pins s2 σ1 H2 _ I2 q2) fun f s3 q3 => ?_)
    cases f with
    | next =>
      obtain ⟨σ3, H3, I3, n3⟩ := q3
      obtain ⟨m', hm, w3⟩ := hN σ3 H3 n3
      exact ⟨m', hm, σ3, H3, I3, w3⟩
    | cont =>
      obtain ⟨σ3, H3, I3, n3⟩ := q3
      obtain ⟨m', hm, w3⟩ := hN σ3 H3 n3
      exact ⟨m', hm, σ3, H3, I3, w3⟩
    | brk => exact q3
    | ret v => exact q3
  | false =>
    rw [if_neg Bool.false_ne_true]
    exact wpAny_execs_nil ⟨σ1, H2, I2, q2⟩
end

/-! ### what a loop or a comprehension walks -/
/-- at turn i: it yields x (the heap may grow), or it stops -/
structure It where
  go : Nat → Hp → Prop
  yld : Nat → Hp → V → Hp → Prop
  stop : Nat → Hp → Prop
/-- the iterator's own objects may turn: they are not the frame's, not pinned, younger than the entry (or a comprehension's own) -/
def FpOk (X : Cx) (pins : List (Addr × Obj)) (H : Hp) (b : Addr) : Prop :=
  H b = none ∧ b ≠ X.env.locals ∧ b ∉ X.fs ∧ (b ∈ X.ex ∨ X.s₀.heap.objs.size ≤ b) ∧ (∀ x c, X.env.cells.lookup x = some c → c ≠ b) ∧ ∀ p ∈ X.pn ++ pins, p.1 ≠ b
theorem Inv.fpOk {X : Cx} {pins : List (Addr × Obj)} {σ : St} {H H' : Hp} {s : Shared} {b : Addr} (I : Inv X pins σ H s) (hb : s.heap.objs.size ≤ b) (hn : H' b = none) : FpOk X pins H' b := by
  refine ⟨hn, Nat.ne_of_gt (Nat.lt_of_lt_of_le I.lt hb), I.nofs hb, .inr (Nat.le_trans I.sz hb), fun x c e z => ?_, fun p hp z => ?_⟩
  · obtain ⟨v, q⟩ := I.cell x c e
    exact absurd (Nat.lt_of_lt_of_le q.lt (by rw [z]; exact hb)) (Nat.lt_irrefl _)
  · exact absurd (Nat.lt_of_lt_of_le (Heap.lt_size (I.pin p hp).1) (by rw [z]; exact hb)) (Nat.lt_irrefl _)
structure Turn (P : Program) (w : World) (K : PySem.W.Frag) (tg : Expr) (J : It) (fp : List Addr) (it : Addr) (tn : Nat → Heap → Prop) : Prop where
  mem : it ∈ fp
  obj : ∀ i h, tn i h → ∀ b ∈ fp, ∃ o, h.get? b = some o ∧ ∀ v, o.data ≠ .cell v
  keep : ∀ i h h', tn i h → (∀ b ∈ fp, ∀ o, h.get? b = some o → h'.get? b = some o) → tn i h'
  item : ∀ (X : Cx), X.prog = P → X.w = w → X.K = K → X.calm = true → ∀ (i : Nat) (pins : List (Addr × Obj)) (s : Shared) (σ : St) (H : Hp) (E : Value → Shared → Prop), Inv X pins σ H s → (∀ b ∈ fp, FpOk X pins H b) → tn i s.heap → J.go i H →
    wpAny (model P w) X.A (pyNext (.ref it)) (fun r s1 => ∃ u, r = some u ∧
      wpAny (model P w) X.A (letOwnedTupleGo tg (.ref it) u) (fun _ s2 => ∃ x H', Inv X pins σ H' s2 ∧ RelV x u ∧ J.yld i H x H' ∧ tn (i + 1) s2.heap ∧ ∀ b ∈ fp, H' b = none) E s1) E s
  done : ∀ (X : Cx), X.prog = P → X.w = w → X.K = K → X.calm = true → ∀ (i : Nat) (pins : List (Addr × Obj)) (s : Shared) (σ : St) (H : Hp) (E : Value → Shared → Prop), Inv X pins σ H s → (∀ b ∈ fp, FpOk X pins H b) → tn i s.heap → J.stop i H →
    wpAny (model P w) X.A (pyNext (.ref it)) (fun r s1 => r = none ∧ Inv X pins σ H s1) E s
  self : ∀ (A : Around) (i : Nat) (s : Shared) (Q : Value → Shared → Prop) (E : Value → Shared → Prop), tn i s.heap → Q (.ref it) s → wpAny (model P w) A (pyIter (.ref it)) Q E s
abbrev TI := St → Hp → (It → Hp → Prop) → Prop
/-- an iterator has come -/
def PIE (X : Cx) (pins : List (Addr × Obj)) (σ : St) (tg : Expr) (R : It → Hp → Prop) (itv : Value) (s2 : Shared) : Prop :=
  ∃ (it : Addr) (fp : List Addr) (tn : Nat → Heap → Prop) (J : It) (H' : Hp), itv = .ref it ∧ Inv X pins σ H' s2 ∧ Turn X.prog X.w X.K tg J fp it tn ∧ tn 0 s2.heap ∧ (∀ b ∈ fp, FpOk X pins H' b) ∧ R J H'
def PI (X : Cx) (tg iter : Expr) (wi : TI) : Prop :=
  ∀ (pins : List (Addr × Obj)) (s : Shared) (σ : St) (H : Hp) (R : It → Hp → Prop), Inv X pins σ H s → wi σ H R →
    wpAny (model X.prog X.w) X.A (eval iter X.env) (fun v s1 => wpAny (model X.prog X.w) X.A (pyIter v) (PIE X pins σ tg R) X.xe s1) X.xe s

/-- the step ahead of the store is nothing for an iterator that keeps no tuple -/
theorem go_of {M : Model} {A : Around} {E : Value → Shared → Prop} {s : Shared} {tg : Expr} {it : Addr} {u : Value} {o : Obj} {n : String} {vs : Array Value} {Q : Unit → Shared → Prop} (ho : s.heap.get? it = some o) (hc : o.cls = .type n) (hd : o.data = .fields vs)
    (hn : ["enumerate", "zip", "dict_itemiterator", "dict_reverseitemiterator", "odict_iterator", "itertools.zip_longest", "itertools.pairwise"].contains n = false) (hQ : Q () s) : wpAny M A (letOwnedTupleGo tg (.ref it) u) Q E s := by
  unfold letOwnedTupleGo
  cases tg <;> first
    | exact wpAny_pure hQ
    | (cases u <;> first
        | exact wpAny_pure hQ
        | (refine wpAny_bind (wpAny_load ho ?_)
           rw [hc, hd]
           show wpAny M A (if (["enumerate", "zip", "dict_itemiterator", "dict_reverseitemiterator", "odict_iterator", "itertools.zip_longest", "itertools.pairwise"].contains n && vs[0]? == some (rawInt _)) = true then _ else _) Q E s
           rw [if_neg (by intro h; rw [hn, Bool.false_and] at h; cases h)]
           exact wpAny_pure hQ))

/-- the list at a, as it stands at each turn (a loop may append to it) -/
def Itl (K : PySem.W.Frag) (a : Addr) : It :=
  ⟨fun i H => ∃ xs x, SqL K H a xs ∧ xs[i]? = some x, fun i H x H' => H' = H ∧ ∀ xs, SqL K H a xs → xs[i]? = some x, fun i H => ∃ xs, SqL K H a xs ∧ xs.length ≤ i⟩
def Itt (K : PySem.W.Frag) (a : Addr) : It :=
  ⟨fun i H => ∃ xs x, SqT K H a xs ∧ xs[i]? = some x, fun i H x H' => H' = H ∧ ∀ xs, SqT K H a xs → xs[i]? = some x, fun i H => ∃ xs, SqT K H a xs ∧ xs.length ≤ i⟩
/-- lo, lo + 1, .. (n of them) -/
def Itr (lo : Int) (n : Nat) : It := ⟨fun i _ => i < n, fun i H x H' => H' = H ∧ x = .int (lo + i), fun i _ => n ≤ i⟩
theorem turn_list {P : Program} {w : World} {K : PySem.W.Frag} {tg : Expr} (a it : Addr) : Turn P w K tg (Itl K a) [it] it (fun i h => h.IsListIter it a i) where
  mem := by simp
  obj := fun i h st b hb => by
    have e : b = it := by simpa using hb
    subst e
    obtain ⟨o, e, c, d⟩ := st
    exact ⟨o, e, fun v z => by rw [d] at z; cases z⟩
  keep := fun i h h' st k => st.at fun o e => k it (by simp) o e
  item := by
    intro X hP hw hK hc i pins s σ H E I hf st hg
    subst hP hw hK
    obtain ⟨xs, x, hq, hx⟩ := hg
    obtain ⟨its, rv, p, hz⟩ := I.list hq
    obtain ⟨u, hu, ru⟩ := rv.get hx
    obtain ⟨f0, f1, f2, f3, f4, f5⟩ := hf it (by simp)
    refine wpAny_pyNext_list_item st p.isList (x := u) (by simpa using hu) fun h' st' sb => ?_
    have I1 : Inv X pins σ H { s with heap := h' } := I.turned (t' := s.toks) (fun b o hb e => (sb.2 b hb).trans e) f0 f1 f3 f4 f5
    obtain ⟨o, e, c, d⟩ := id st'
    exact ⟨u, rfl, go_of (s := { s with heap := h' }) e c d (by decide) ⟨x, H, I1, ru, ⟨rfl, fun ys hy => by rw [I.list_inj hy hq]; exact hx⟩, st', fun b hb => (hf b hb).1⟩⟩
  done := by
    intro X hP hw hK hc i pins s σ H E I hf st hg
    subst hP hw hK
    obtain ⟨xs, hq, hx⟩ := hg
    obtain ⟨its, rv, p, hz⟩ := I.list hq
    obtain ⟨f0, f1, f2, f3, f4, f5⟩ := hf it (by simp)
    have hl := rv.length
    exact wpAny_pyNext_list_end (I.ok.hd hc) st p.isList (by simp; omega) fun h' eb => ⟨rfl, I.turned (t' := s.toks) (fun b o hb e => eb b o hb e) f0 f1 f3 f4 f5⟩
  self := fun _ _ _ _ _ st h => wpAny_pyIter_listiter st h
theorem turn_tuple {P : Program} {w : World} {K : PySem.W.Frag} {tg : Expr} (a it : Addr) : Turn P w K tg (Itt K a) [it] it (fun i h => h.IsTupleIter it a i) where
  mem := by simp
  obj := fun i h st b hb => by
    have e : b = it := by simpa using hb
    subst e
    obtain ⟨o, e, c, d⟩ := st
    exact ⟨o, e, fun v z => by rw [d] at z; cases z⟩
  keep := fun i h h' st k => st.at fun o e => k it (by simp) o e
  item := by
    intro X hP hw hK hc i pins s σ H E I hf st hg
    subst hP hw hK
    obtain ⟨xs, x, hq, hx⟩ := hg
    obtain ⟨its, rv, p, hz⟩ := I.tuple hq
    obtain ⟨u, hu, ru⟩ := rv.get hx
    obtain ⟨f0, f1, f2, f3, f4, f5⟩ := hf it (by simp)
    refine wpAny_pyNext_tuple_item st (show s.heap.IsTuple a its.toArray from p) (x := u) (by simpa using hu) fun h' st' sb => ?_
    have I1 : Inv X pins σ H { s with heap := h' } := I.turned (t' := s.toks) (fun b o hb e => (sb.2 b hb).trans e) f0 f1 f3 f4 f5
    obtain ⟨o, e, c, d⟩ := id st'
    exact ⟨u, rfl, go_of (s := { s with heap := h' }) e c d (by decide) ⟨x, H, I1, ru, ⟨rfl, fun ys hy => by rw [I.tuple_inj hy hq]; exact hx⟩, st', fun b hb => (hf b hb).1⟩⟩
  done := by
    intro X hP hw hK hc i pins s σ H E I hf st hg
    subst hP hw hK
    obtain ⟨xs, hq, hx⟩ := hg
    obtain ⟨its, rv, p, hz⟩ := I.tuple hq
    obtain ⟨f0, f1, f2, f3, f4, f5⟩ := hf it (by simp)
    have hl := rv.length
    exact wpAny_pyNext_tuple_end (I.ok.hd hc) st (show s.heap.IsTuple a its.toArray from p) (by simp; omega) fun h' eb => ⟨rfl, I.turned (t' := s.toks) (fun b o hb e => eb b o hb e) f0 f1 f3 f4 f5⟩
  self := fun _ _ _ _ _ st h => wpAny_pyIter_tupleiter st h
theorem turn_range {P : Program} {w : World} {K : PySem.W.Frag} {tg : Expr} (it : Addr) (lo : Int) (n : Nat) : Turn P w K tg (Itr lo n) [it] it (fun i h => IsRangeIter h it (lo + (i : Nat) * 1) ((n : Int) - (i : Nat)) 1) where
  mem := by simp
  obj := fun i h st b hb => by
    have e : b = it := by simpa using hb
    subst e
    exact ⟨_, st, fun v z => by
      have z' : Data.fields _ = Data.cell v := z
      cases z'⟩
  keep := fun i h h' st k => k it (by simp) _ st
  item := by
    intro X hP hw hK hc i pins s σ H E I hf st hg
    subst hP hw hK
    obtain ⟨f0, f1, f2, f3, f4, f5⟩ := hf it (by simp)
    have W := Walks.range (prog := X.prog) (w := X.w) (I.ok.hd hc) it lo 1 n
    refine W.item i s _ _ hg st fun v h' tk hv st' kk => ?_
    obtain ⟨t, rfl⟩ := hv
    have I1 : Inv X pins σ H { s with heap := h', toks := tk } := I.turned (fun b o hb e => kk b o (by simpa using hb) e) f0 f1 f3 f4 f5
    refine ⟨_, rfl, go_of (s := { s with heap := h', toks := tk }) (n := "range_iterator") st' rfl rfl (by decide) ⟨.int (lo + i), H, I1, ⟨t, ?_⟩, ⟨rfl, rfl⟩, st', fun b hb => (hf b hb).1⟩⟩
    rw [Int.mul_one]
  done := by
    intro X hP hw hK hc i pins s σ H E I hf st hg
    subst hP hw hK
    obtain ⟨f0, f1, f2, f3, f4, f5⟩ := hf it (by simp)
    exact wpAny_pyNext_range_end (I.ok.hd hc) st (by have : n ≤ i := hg; omega) fun h' eb => ⟨rfl, I.turned (t' := s.toks) (fun b o hb e => eb b o hb e) f0 f1 f3 f4 f5⟩
  self := fun _ _ _ _ _ st h => wpAny_pyIter_rangeiter st h
end L2

namespace L2
open PySem PySem.Spec PyProof.Rows
section
variable {X : Cx} {tg : Expr}
def iList (K : PySem.W.Frag) (tl : TE) : TI := fun σ H R => tl σ H fun x H1 => ∃ a, x = .ref a ∧ (∃ xs, SqL K H1 a xs) ∧ R (Itl K a) H1
def iTup (K : PySem.W.Frag) (tl : TE) : TI := fun σ H R => tl σ H fun x H1 => ∃ a, x = .ref a ∧ (∃ xs, SqT K H1 a xs) ∧ R (Itt K a) H1
theorem pi_list {l : Expr} {tl : TE} (hl : PE X l tl) : PI X tg l (iList X.K tl) := by
  intro pins s σ H R I h
  refine thn (hl pins s σ H _ I h) fun v s1 ⟨x, H1, I1, r1, q1⟩ => ?_
  obtain ⟨a, e, ⟨xs, hq⟩, q⟩ := q1
  subst e
  cases r1
  obtain ⟨its, rv, p, hz⟩ := I1.list hq
  refine wpAny_pyIter_list p.isList ?_
  refine ⟨s1.heap.objs.size, [s1.heap.objs.size], _, _, H1, rfl, I1.kept (t' := s1.toks) fun b o e => Heap.get?_push_of_some _ e, turn_list a _, ⟨_, Heap.get?_push_size _ rfl, rfl, rfl⟩, fun b hb => ?_, q⟩
  have e : b = s1.heap.objs.size := by simpa using hb
  subst e
  exact I1.fpOk (Nat.le_refl _) (I1.hok.fresh (Nat.le_refl _))
theorem pi_tup {l : Expr} {tl : TE} (hl : PE X l tl) : PI X tg l (iTup X.K tl) := by
  intro pins s σ H R I h
  refine thn (hl pins s σ H _ I h) fun v s1 ⟨x, H1, I1, r1, q1⟩ => ?_
  obtain ⟨a, e, ⟨xs, hq⟩, q⟩ := q1
  subst e
  cases r1
  obtain ⟨its, rv, p, hz⟩ := I1.tuple hq
  refine wpAny_pyIter_tuple (show s1.heap.IsTuple a its.toArray from p) ?_
  refine ⟨s1.heap.objs.size, [s1.heap.objs.size], _, _, H1, rfl, I1.kept (t' := s1.toks) fun b o e => Heap.get?_push_of_some _ e, turn_tuple a _, ⟨_, Heap.get?_push_size _ rfl, rfl, rfl⟩, fun b hb => ?_, q⟩
  have e : b = s1.heap.objs.size := by simpa using hb
  subst e
  exact I1.fpOk (Nat.le_refl _) (I1.hok.fresh (Nat.le_refl _))
/-- a range object just made, walked -/
theorem range_it {pins : List (Addr × Obj)} {σ : St} {H : Hp} {s : Shared} {R : It → Hp → Prop} {E : Value → Shared → Prop} {lo hi : Int} {t u v : Tok} {tk : Nat} (I : Inv X pins σ H s) (h1 : -(2 ^ 62) ≤ lo) (h2 : lo < 2 ^ 62) (h3 : -(2 ^ 62) ≤ hi) (h4 : hi < 2 ^ 62)
    (q : R (Itr lo (hi - lo).toNat) H) : wpAny (model X.prog X.w) X.A (pyIter (.ref s.heap.objs.size)) (PIE X pins σ tg R) E { s with heap := s.heap.push { cls := .type "range", data := .fields #[.int lo t, .int hi u, .int 1 v] }, toks := tk } := by
  refine wpAny_pyIter_range (IsRange.new ..) (small_one h1 h2 h3 h4) ?_
  have I1 : Inv X pins σ H { s with heap := s.heap.push { cls := .type "range", data := .fields #[.int lo t, .int hi u, .int 1 v] }, toks := tk } := I.kept fun b o e => Heap.get?_push_of_some _ e
  refine ⟨(s.heap.push { cls := .type "range", data := .fields #[.int lo t, .int hi u, .int 1 v] }).objs.size, [(s.heap.push { cls := .type "range", data := .fields #[.int lo t, .int hi u, .int 1 v] }).objs.size], _, _, H, rfl,
    I1.kept (t' := tk) fun b o e => Heap.get?_push_of_some _ e, turn_range _ lo (hi - lo).toNat, ?_, fun b hb => ?_, q⟩
  · have e1 : lo + ((0 : Nat) : Int) * 1 = lo := by simp
    have e2 : (((hi - lo).toNat : Nat) : Int) - ((0 : Nat) : Int) = Builtin.Range.rangeSize lo hi 1 := by rw [rangeSize_one]; split <;> omega
    show IsRangeIter _ _ (lo + ((0 : Nat) : Int) * 1) ((((hi - lo).toNat : Nat) : Int) - ((0 : Nat) : Int)) 1
    rw [e1, e2]
    exact Heap.get?_push_size _ rfl
  · have e : b = (s.heap.push { cls := .type "range", data := .fields #[.int lo t, .int hi u, .int 1 v] }).objs.size := by simpa using hb
    subst e
    exact I1.fpOk (Nat.le_refl _) (I1.hok.fresh (Nat.le_refl _))
def iRng1 (ta : TA) : TI := fun σ H R => ta σ H fun vs H1 => ∃ j : Int, vs = [.int j] ∧ -(2 ^ 62) ≤ j ∧ j < 2 ^ 62 ∧ R (Itr 0 j.toNat) H1
def iRng2 (ta : TA) : TI := fun σ H R => ta σ H fun vs H1 => ∃ i j : Int, vs = [.int i, .int j] ∧ (-(2 ^ 62) ≤ i ∧ i < 2 ^ 62 ∧ -(2 ^ 62) ≤ j ∧ j < 2 ^ 62) ∧ R (Itr i (j - i).toNat) H1
theorem pi_range1 {a : Expr} {ta : TA} {p pos : Pos} (hg : Gl X "range") (hm : X.mg "range" = none) (ha : PA X [a] ta) (hs : starEach [a] X.env = [(false, eval a X.env)] := by rfl) : PI X tg (.Call (.Name "range" p) [a] [] pos) (iRng1 ta) := by
  intro pins s σ H R I h
  refine Call_ (ld_blt I hg hm boot_range (PyProof.Rows.callWith_type1 (thn (ha pos pins s σ H _ I h) fun us s1 ⟨vs, H1, I1, r1, q1⟩ => ?_) hs rfl))
  obtain ⟨j, e, q1, q2, q⟩ := q1
  subst e
  cases r1 with
  | cons r rr =>
    cases rr
    obtain ⟨t, rfl⟩ := r
    exact call_range_1 (range_it I1 (by omega) (by omega) q1 q2 (by simpa using q))

/-! ### for -/
/-- W: the invariant by the turn and a measure; N: what the body is to reach -/
def tFor (wi : TI) (g : TG) (tb : TS) : TS := fun D σ H => wi σ H fun J H1 => ∃ W : Nat → Nat → St → Hp → Prop, (∃ m, W 0 m σ H1) ∧ ∀ i m σ H, W i m σ H →
  (J.stop i H ∧ D.nx σ H) ∨ (J.go i H ∧ ∃ N : St → Hp → Prop, (∀ σ' H', N σ' H' → ∃ m', m' < m ∧ W (i + 1) m' σ' H') ∧ ∀ x H', J.yld i H x H' → g x σ H' fun σ2 H2 => tb { D with nx := N, ct := N, bk := D.nx } σ2 H2)
/-- the records at fp as they stand -/
def pinsAt (fp : List Addr) (h : Heap) : List (Addr × Obj) := fp.filterMap fun b => (h.get? b).map fun o => (b, o)
theorem mem_pinsAt {fp : List Addr} {h : Heap} {b : Addr} {o : Obj} (hb : b ∈ fp) (e : h.get? b = some o) : (b, o) ∈ pinsAt fp h := List.mem_filterMap.mpr ⟨b, hb, by rw [e]; rfl⟩
theorem of_pinsAt {fp : List Addr} {h : Heap} {p : Addr × Obj} (hp : p ∈ pinsAt fp h) : p.1 ∈ fp ∧ h.get? p.1 = some p.2 := by
  obtain ⟨b, hb, e⟩ := List.mem_filterMap.mp hp
  cases q : h.get? b with
  | none => rw [q] at e; cases e
  | some o =>
    rw [q] at e
    have e' : (b, o) = p := Option.some.inj e
    subst e'
    exact ⟨hb, q⟩
theorem Inv.pinned {pins : List (Addr × Obj)} {σ : St} {H : Hp} {s : Shared} {fp : List Addr} (I : Inv X pins σ H s) (hf : ∀ b ∈ fp, FpOk X pins H b) (ho : ∀ b ∈ fp, ∃ o, s.heap.get? b = some o ∧ ∀ v, o.data ≠ .cell v) : Inv X (pins ++ pinsAt fp s.heap) σ H s :=
  I.pins_of fun p hp => (List.mem_append.mp hp).elim (fun z => I.pin p (List.mem_append_right _ z)) fun z => by
    obtain ⟨hb, e⟩ := of_pinsAt z
    obtain ⟨f0, f1, f2, _⟩ := hf p.1 hb
    obtain ⟨o, e', d⟩ := ho p.1 hb
    rw [e] at e'; cases e'
    exact ⟨e, f0, f1, f2, d⟩
theorem Inv.unpinned {pins pl : List (Addr × Obj)} {σ : St} {H : Hp} {s : Shared} (I : Inv X (pins ++ pl) σ H s) : Inv X pins σ H s := I.pins_of fun p hp => I.pin p (List.mem_append_right _ (List.mem_append_left _ hp))
theorem ps_for {iter : Expr} {body : List Stmt} {wi : TI} {g : TG} {tb : TS} {pos : Pos} (hp : PassesOwn (model X.prog X.w) X.A X.env X.xe) (hc : X.calm = true) (hi : PI X tg iter wi) (hg : PG X tg g) (hb : PSs X body tb)
    (hs : ∀ x, foldedSetIterable iter X.env x = pure x := by intro _; rfl) : PS X (.For tg iter body [] pos) (tFor wi g tb) := by
  intro pins s σ H D I h
  refine wpAny_For (thn (hi pins s σ H _ I h) fun v s1 h1 => thn h1 fun itv s2 h2 => ?_) hs
  obtain ⟨it, fp, tn, J, H2, e, I2, T, st2, f2, W, ⟨m0, w0⟩, turn⟩ := h2
  subst e
  -- what stays true of the iterator's objects through the loop
  have stat : ∀ {H' : Hp}, (∀ b ∈ fp, H' b = none) → ∀ b ∈ fp, FpOk X pins H' b := fun hn b hb => ⟨hn b hb, (f2 b hb).2⟩
  refine codeAny_forLoop_any (fun n s' => ∃ i σ' H', Inv X pins σ' H' s' ∧ tn i s'.heap ∧ (∀ b ∈ fp, H' b = none) ∧ W i n σ' H') ?_ m0 ⟨0, σ, H2, I2, st2, fun b hb => (f2 b hb).1, w0⟩
  rintro n s3 ⟨i, σ3, H3, I3, st3, fr3, w3⟩
  rcases turn i n σ3 H3 w3 with ⟨stop, qn⟩ | ⟨go, N, hN, step⟩
  · refine wpAny_passesOwn hp (thn (T.done X rfl rfl rfl hc i pins s3 σ3 H3 X.xe I3 (stat fr3) st3 stop) fun r s4 ⟨hr, I4⟩ => ?_)
    subst hr
    exact wpAny_execs_nil ⟨σ3, H3, I4, qn⟩
  · refine wpAny_passesOwn hp (thn (T.item X rfl rfl rfl hc i pins s3 σ3 H3 X.xe I3 (stat fr3) st3 go) fun r s4 ⟨u, hr, h4⟩ => ?_)
    subst hr
    refine wpAny_passesOwn hp (thn h4 fun _ s5 ⟨x, H5, I5, r5, y5, st5, fr5⟩ => ?_)
    have I5' := I5.pinned (stat fr5) (T.obj _ _ st5)
    refine wpAny_passesOwn hp (thn (hg _ s5 σ3 H5 x u _ I5' r5 (step x H5 y5)) fun _ s6 ⟨σ6, H6, I6, q6⟩ => ?_)
    refine wpAny_passesOwn hp (thn (hb _ s6 σ6 H6 _ I6 q6) fun f s7 q7 => ?_)
    have again : ∀ {σ7 : St} {H7 : Hp}, Inv X (pins ++ pinsAt fp s5.heap) σ7 H7 s7 → N σ7 H7 → ∃ m, m < n ∧ ∃ i σ' H', Inv X pins σ' H' s7 ∧ tn i s7.heap ∧ (∀ b ∈ fp, H' b = none) ∧ W i m σ' H' := fun {σ7 H7} I7 n7 => by
      obtain ⟨m', hm, w7⟩ := hN σ7 H7 n7
      refine ⟨m', hm, i + 1, σ7, H7, I7.unpinned, T.keep _ _ _ st5 fun b hb o e => (I7.pin (b, o) (List.mem_append_right _ (List.mem_append_right _ (mem_pinsAt hb e)))).1, fun b hb => ?_, w7⟩
      obtain ⟨o, e, d⟩ := T.obj _ _ st5 b hb
      exact (I7.pin (b, o) (List.mem_append_right _ (List.mem_append_right _ (mem_pinsAt hb e)))).2.1
    cases f with
    | next => obtain ⟨σ7, H7, I7, n7⟩ := q7; exact again I7 n7
    | cont => obtain ⟨σ7, H7, I7, n7⟩ := q7; exact again I7 n7
    | brk => obtain ⟨σ7, H7, I7, q7⟩ := q7; exact ⟨σ7, H7, I7.unpinned, q7⟩
    | ret v => obtain ⟨x7, σ7, H7, I7, r7, q7⟩ := q7; exact ⟨x7, σ7, H7, I7.unpinned, r7, q7⟩
end

/-! ### the forms one uses -/
/-- over a list that the body leaves as it is -/
theorem for_list {K : PySem.W.Frag} {a : Addr} {xs : List V} {g : TG} {tb : TS} {D : Ends} {σ : St} {H : Hp} (Pv : Nat → St → Hp → Prop) (h0 : Pv 0 σ H) (hl : ∀ i σ H, i ≤ xs.length → Pv i σ H → SqL K H a xs)
    (hs : ∀ i x σ H, xs[i]? = some x → Pv i σ H → g x σ H fun σ2 H2 => tb { D with nx := Pv (i + 1), ct := Pv (i + 1), bk := D.nx } σ2 H2) (hd : ∀ σ H, Pv xs.length σ H → D.nx σ H) :
    ∃ W : Nat → Nat → St → Hp → Prop, (∃ m, W 0 m σ H) ∧ ∀ i m σ H, W i m σ H →
      ((Itl K a).stop i H ∧ D.nx σ H) ∨ ((Itl K a).go i H ∧ ∃ N : St → Hp → Prop, (∀ σ' H', N σ' H' → ∃ m', m' < m ∧ W (i + 1) m' σ' H') ∧ ∀ x H', (Itl K a).yld i H x H' → g x σ H' fun σ2 H2 => tb { D with nx := N, ct := N, bk := D.nx } σ2 H2) := by
  refine ⟨fun i m σ H => m = xs.length - i ∧ i ≤ xs.length ∧ Pv i σ H, ⟨xs.length, by simp, Nat.zero_le _, h0⟩, ?_⟩
  rintro i m σ H ⟨rfl, hi, p⟩
  have q := hl i σ H hi p
  by_cases hlt : i < xs.length
  · refine .inr ⟨⟨xs, xs[i], q, by simp [hlt]⟩, Pv (i + 1), fun σ' H' p' => ⟨xs.length - (i + 1), by omega, rfl, hlt, p'⟩, fun x H' y => ?_⟩
    obtain ⟨e, y⟩ := y
    subst e
    exact hs i x σ _ (y xs q) p
  · have e : i = xs.length := by omega
    subst e
    exact .inl ⟨⟨xs, q, Nat.le_refl _⟩, hd σ H p⟩
theorem for_range {lo : Int} {n : Nat} {g : TG} {tb : TS} {D : Ends} {σ : St} {H : Hp} (Pv : Nat → St → Hp → Prop) (h0 : Pv 0 σ H)
    (hs : ∀ i σ H, i < n → Pv i σ H → g (.int (lo + i)) σ H fun σ2 H2 => tb { D with nx := Pv (i + 1), ct := Pv (i + 1), bk := D.nx } σ2 H2) (hd : ∀ σ H, Pv n σ H → D.nx σ H) :
    ∃ W : Nat → Nat → St → Hp → Prop, (∃ m, W 0 m σ H) ∧ ∀ i m σ H, W i m σ H →
      ((Itr lo n).stop i H ∧ D.nx σ H) ∨ ((Itr lo n).go i H ∧ ∃ N : St → Hp → Prop, (∀ σ' H', N σ' H' → ∃ m', m' < m ∧ W (i + 1) m' σ' H') ∧ ∀ x H', (Itr lo n).yld i H x H' → g x σ H' fun σ2 H2 => tb { D with nx := N, ct := N, bk := D.nx } σ2 H2) := by
  refine ⟨fun i m σ H => m = n - i ∧ i ≤ n ∧ Pv i σ H, ⟨n, by simp, Nat.zero_le _, h0⟩, ?_⟩
  rintro i m σ H ⟨rfl, hi, p⟩
  by_cases hlt : i < n
  · refine .inr ⟨hlt, Pv (i + 1), fun σ' H' p' => ⟨n - (i + 1), by omega, rfl, hlt, p'⟩, fun x H' y => ?_⟩
    obtain ⟨e, y⟩ := y
    subst e y
    exact hs i σ _ hlt p
  · have e : i = n := by omega
    subst e
    exact .inl ⟨Nat.le_refl _, hd σ H p⟩
end L2

namespace L2
open PySem PySem.Spec PyProof.Rows

abbrev R2 := V → V → Hp → VK → Prop
/-- a two-place operation on values: f is binaryOp op, inplaceOp op or compareOp op -/
def OpR (X : Cx) (f : Value → Value → Sem Value) (r : R2) : Prop :=
  ∀ (pins : List (Addr × Obj)) (s : Shared) (σ : St) (H : Hp) (x y : V) (v u : Value) (Q : VK), Inv X pins σ H s → RelV x v → RelV y u → r x y H Q →
    wpAny (model X.prog X.w) X.A (f v u) (EP X pins σ Q) X.xe s
/-- a call of a value that is known (a builtin, a type) with values -/
def CallR (X : Cx) (f : Value) (r : List V → Hp → VK → Prop) : Prop :=
  ∀ (pins : List (Addr × Obj)) (s : Shared) (σ : St) (H : Hp) (xs : List V) (us : List Value) (Q : VK), Inv X pins σ H s → Vals xs us → r xs H Q →
    wpAny (model X.prog X.w) X.A (call f us) (EP X pins σ Q) X.xe s
/-- a value's truth -/
def TruR (X : Cx) (r : V → Hp → (Bool → Hp → Prop) → Prop) : Prop :=
  ∀ (pins : List (Addr × Obj)) (s : Shared) (σ : St) (H : Hp) (x : V) (v : Value) (Q : Bool → Hp → Prop), Inv X pins σ H s → RelV x v → r x H Q →
    wpAny (model X.prog X.w) X.A (truthy v) (TP X pins σ Q) X.xe s

def tOp (r : R2) (ta tb : TE) : TE := fun σ H Q => ta σ H fun x H1 => tb σ H1 fun y H2 => r x y H2 Q
def tUn (r : V → Hp → VK → Prop) (ta : TE) : TE := fun σ H Q => ta σ H fun x H1 => r x H1 Q
/-- ints in, under C, and a value out -/
def rI (C : Int → Int → Prop) (g : Int → Int → V) : R2 := fun x y H Q => ∃ i j, x = .int i ∧ y = .int j ∧ C i j ∧ Q (g i j) H
def rI0 (g : Int → Int → V) : R2 := fun x y H Q => ∃ i j, x = .int i ∧ y = .int j ∧ Q (g i j) H

section
variable {X : Cx} {a b c : Expr} {ta tb tc : TE} {pos : Pos}

theorem binT (ha : PE X a ta) (hb : PE X b tb) {pins : List (Addr × Obj)} {s : Shared} {σ : St} {H : Hp} {R : V → V → Hp → Prop} (I : Inv X pins σ H s)
    (h : ta σ H fun x H1 => tb σ H1 fun y H2 => R x y H2) {Q : Value → Shared → Prop} {f : Value → Value → Sem Value}
    (hf : ∀ v u s2 x y H2, Inv X pins σ H2 s2 → RelV x v → RelV y u → R x y H2 → wpAny (model X.prog X.w) X.A (f v u) Q X.xe s2) :
    wpAny (model X.prog X.w) X.A (eval a X.env) (fun v s₁ => wpAny (model X.prog X.w) X.A (eval b X.env) (fun u s₂ => wpAny (model X.prog X.w) X.A (f v u) Q X.xe s₂) X.xe s₁) X.xe s := by
  refine thn (ha pins s σ H _ I h) fun v s1 ⟨x, H1, I1, r1, q1⟩ => ?_
  refine thn (hb pins s1 σ H1 _ I1 q1) fun u s2 ⟨y, H2, I2, r2, q2⟩ => ?_
  exact hf v u s2 x y H2 I2 r1 r2 q2

theorem pe_op {op : Operator} {r : R2} (ho : OpR X (binaryOp op) r) (ha : PE X a ta) (hb : PE X b tb) : PE X (.BinOp a op b pos) (tOp r ta tb) := by
  intro pins s σ H Q I h
  exact wpAny_BinOp (binT ha hb I h fun v u s2 x y H2 I2 rx ry q => ho pins s2 σ H2 x y v u Q I2 rx ry q)

/-! ### ints -/
theorem opI {f : Value → Value → Sem Value} {C : Int → Int → Prop} {g : Int → Int → Int}
    (rule : ∀ (i j : Int) (t u : Tok) (s : Shared) (Q : Value → Shared → Prop) (E : Value → Shared → Prop), C i j → Q (.int (g i j) s.toks) { s with toks := s.toks + 1 } → wpAny (model X.prog X.w) X.A (f (.int i t) (.int j u)) Q E s) :
    OpR X f (rI C fun i j => .int (g i j)) := by
  intro pins s σ H x y v u Q I rx ry h
  obtain ⟨i, j, rfl, rfl, hc, q⟩ := h
  obtain ⟨t, rfl⟩ := rx
  obtain ⟨t', rfl⟩ := ry
  exact rule i j t t' s _ _ hc ⟨.int (g i j), H, I.tok _, ⟨_, rfl⟩, q⟩
theorem opI0 {f : Value → Value → Sem Value} {g : Int → Int → Int}
    (rule : ∀ (i j : Int) (t u : Tok) (s : Shared) (Q : Value → Shared → Prop) (E : Value → Shared → Prop), Q (.int (g i j) s.toks) { s with toks := s.toks + 1 } → wpAny (model X.prog X.w) X.A (f (.int i t) (.int j u)) Q E s) :
    OpR X f (rI0 fun i j => .int (g i j)) := by
  intro pins s σ H x y v u Q I rx ry h
  obtain ⟨i, j, rfl, rfl, q⟩ := h
  obtain ⟨t, rfl⟩ := rx
  obtain ⟨t', rfl⟩ := ry
  exact rule i j t t' s _ _ ⟨.int (g i j), H, I.tok _, ⟨_, rfl⟩, q⟩
theorem opB0 {f : Value → Value → Sem Value} {g : Int → Int → Bool}
    (rule : ∀ (i j : Int) (t u : Tok) (s : Shared) (Q : Value → Shared → Prop) (E : Value → Shared → Prop), Q (.bool (g i j)) s → wpAny (model X.prog X.w) X.A (f (.int i t) (.int j u)) Q E s) :
    OpR X f (rI0 fun i j => .bl (g i j)) := by
  intro pins s σ H x y v u Q I rx ry h
  obtain ⟨i, j, rfl, rfl, q⟩ := h
  obtain ⟨t, rfl⟩ := rx
  obtain ⟨t', rfl⟩ := ry
  exact rule i j t t' s _ _ ⟨.bl (g i j), H, I, rfl, q⟩

def CDiv (i j : Int) : Prop := 0 < j ∧ j < 1073741824
def CPow (i j : Int) : Prop := 0 ≤ j ∧ j ≤ 1000000 ∧ i.natAbs < 2 ^ 64
def CMul (i j : Int) : Prop := (-(2 ^ 64) < i ∧ i < 2 ^ 64) ∨ (-(2 ^ 64) < j ∧ j < 2 ^ 64)
theorem CMul.ok {i j : Int} (h : CMul i j) : IntMulOk i j := by
  rcases h with ⟨h1, h2⟩ | ⟨h1, h2⟩
  · exact .of_left (intBits_le_64 h1 h2)
  · exact .of_right (intBits_le_64 h1 h2)

theorem op_add : OpR X (binaryOp .Add) (rI0 fun i j => .int (i + j)) := opI0 fun _ _ _ _ _ _ _ q => add_int q
theorem op_sub : OpR X (binaryOp .Sub) (rI0 fun i j => .int (i - j)) := opI0 fun _ _ _ _ _ _ _ q => sub_int q
theorem op_mul : OpR X (binaryOp .Mult) (rI CMul fun i j => .int (i * j)) := opI fun _ _ _ _ _ _ _ hc q => mul_int q hc.ok
/-- // by a positive divisor -/
theorem op_fdiv : OpR X (binaryOp .FloorDiv) (rI CDiv fun i j => .int (i / j)) := opI fun i j _ _ _ _ _ hc q => by
  have h1 : (0 : Int) < j := hc.1
  have h2 : j < 1073741824 := hc.2
  exact floordiv_int (by omega) (by rw [Int.fdiv_eq_ediv_of_nonneg i (by omega)]; exact q) (.inl (PyProof.noPylong_small (by omega)))
/-- % by a positive divisor of any size -/
theorem op_mod : OpR X (binaryOp .Mod) (rI (fun _ j => 0 < j) fun i j => .int (i % j)) := opI fun i j _ _ _ _ _ hc q => by
  have h1 : (0 : Int) < j := hc
  exact mod_int' (by omega) (by rw [Int.fmod_eq_emod_of_nonneg i (by omega)]; exact q)
theorem op_pow : OpR X (binaryOp .Pow) (rI CPow fun i j => .int (i ^ j.toNat)) := opI fun _ _ _ _ _ _ _ hc q => pow_int_small hc.1 hc.2.1 hc.2.2 q



/-! ### bools among ints: n += (a < b) -/
end

/-! ### comparisons -/
/-- the scalars that == tells apart as data does -/
def scal : V → V → Bool
  | .non, .non => true | .non, .int _ => true | .int _, .non => true | .non, .bl _ => true | .bl _, .non => true | .non, .str _ => true | .str _, .non => true
  | .int _, .int _ => true | .bl _, .bl _ => true | .str _, .str _ => true | .byt _, .byt _ => true
  | .int _, .str _ => true | .str _, .int _ => true | .bl _, .str _ => true | .str _, .bl _ => true
  | _, _ => false
def rEq : R2 := fun x y H Q => scal x y = true ∧ Q (.bl (decide (x = y))) H
def rNe : R2 := fun x y H Q => scal x y = true ∧ Q (.bl (!decide (x = y))) H

theorem dec_int {i j : Int} : decide (V.int i = V.int j) = (i == j) := by
  rw [Bool.eq_iff_iff]
  simp
theorem dec_bl {i j : Bool} : decide (V.bl i = V.bl j) = (i == j) := by
  rw [Bool.eq_iff_iff]
  simp
theorem dec_str {i j : Str} : decide (V.str i = V.str j) = (i == j) := by
  rw [Bool.eq_iff_iff]
  simp
theorem dec_byt {i j : Array UInt8} : decide (V.byt i = V.byt j) = (i.toList == j.toList) := by
  rw [Bool.eq_iff_iff]
  cases i
  cases j
  simp

section
variable {X : Cx} {a b c : Expr} {ta tb tc : TE} {pos : Pos}
theorem fin_bl {pins : List (Addr × Obj)} {σ : St} {H : Hp} {s : Shared} {Q : VK} {k k' : Bool} (I : Inv X pins σ H s) (q : Q (.bl k) H) (e : k = k') : EP X pins σ Q (.bool k') s := by
  subst e
  exact ⟨.bl k, H, I, rfl, q⟩
theorem op_eq : OpR X (compareOp .Eq) rEq := by
  intro pins s σ H x y v u Q I rx ry h
  obtain ⟨hs, q⟩ := h
  cases x with
  | non =>
    cases rx
    cases y with
    | non => cases ry; exact PySem.EqNone.eq_none_none (fin_bl I q (by simp))
    | bl j => cases ry; exact PySem.EqNone.eq_none_bool (fin_bl I q (by simp))
    | int j => obtain ⟨t', rfl⟩ := ry; exact PySem.EqNone.eq_none_int (fin_bl I q (by simp))
    | str j => obtain ⟨t', rfl⟩ := ry; exact PySem.EqNone.eq_none_str (fin_bl I q (by simp))
    | _ => exact absurd (show false = true from hs) Bool.false_ne_true
  | bl i =>
    cases rx
    cases y with
    | non => cases ry; exact PySem.EqNone.eq_bool_none (fin_bl I q (by simp))
    | bl j => cases ry; exact eq_bool (fin_bl I q dec_bl)
    | str j => obtain ⟨t', rfl⟩ := ry; exact PySem.EqMixed.eq_bool_str (fin_bl I q (by simp))
    | _ => exact absurd (show false = true from hs) Bool.false_ne_true
  | int i =>
    obtain ⟨t, rfl⟩ := rx
    cases y with
    | non => cases ry; exact PySem.EqNone.eq_int_none (fin_bl I q (by simp))
    | int j => obtain ⟨t', rfl⟩ := ry; exact eq_int (fin_bl I q dec_int)
    | str j => obtain ⟨t', rfl⟩ := ry; exact PySem.EqMixed.eq_int_str (fin_bl I q (by simp))
    | _ => exact absurd (show false = true from hs) Bool.false_ne_true
  | str i =>
    obtain ⟨t, rfl⟩ := rx
    cases y with
    | non => cases ry; exact PySem.EqNone.eq_str_none (fin_bl I q (by simp))
    | bl j => cases ry; exact PySem.EqMixed.eq_str_bool (fin_bl I q (by simp))
    | int j => obtain ⟨t', rfl⟩ := ry; exact PySem.EqMixed.eq_str_int (fin_bl I q (by simp))
    | str j => obtain ⟨t', rfl⟩ := ry; exact eq_str (fin_bl I q dec_str)
    | _ => exact absurd (show false = true from hs) Bool.false_ne_true
  | byt i =>
    obtain ⟨t, rfl⟩ := rx
    cases y with
    | byt j => obtain ⟨t', rfl⟩ := ry; exact PySem.W.eq_bytes (fin_bl I q dec_byt)
    | _ => exact absurd (show false = true from hs) Bool.false_ne_true
  | _ => cases y <;> exact absurd (show false = true from hs) Bool.false_ne_true
theorem op_ne : OpR X (compareOp .NotEq) rNe := by
  intro pins s σ H x y v u Q I rx ry h
  obtain ⟨hs, q⟩ := h
  cases x with
  | non =>
    cases rx
    cases y with
    | non => cases ry; exact PySem.EqNone.ne_none_none (fin_bl I q (by simp))
    | bl j => cases ry; exact PySem.EqNone.ne_none_bool (fin_bl I q (by simp))
    | int j => obtain ⟨t', rfl⟩ := ry; exact PySem.EqNone.ne_none_int (fin_bl I q (by simp))
    | str j => obtain ⟨t', rfl⟩ := ry; exact PySem.EqNone.ne_none_str (fin_bl I q (by simp))
    | _ => exact absurd (show false = true from hs) Bool.false_ne_true
  | bl i =>
    cases rx
    cases y with
    | non => cases ry; exact PySem.EqNone.ne_bool_none (fin_bl I q (by simp))
    | bl j => cases ry; exact ne_bool (fin_bl I q (congrArg not dec_bl))
    | str j => obtain ⟨t', rfl⟩ := ry; exact PySem.EqMixed.ne_bool_str (fin_bl I q (by simp))
    | _ => exact absurd (show false = true from hs) Bool.false_ne_true
  | int i =>
    obtain ⟨t, rfl⟩ := rx
    cases y with
    | non => cases ry; exact PySem.EqNone.ne_int_none (fin_bl I q (by simp))
    | int j => obtain ⟨t', rfl⟩ := ry; exact ne_int (fin_bl I q (congrArg not dec_int))
    | str j => obtain ⟨t', rfl⟩ := ry; exact PySem.EqMixed.ne_int_str (fin_bl I q (by simp))
    | _ => exact absurd (show false = true from hs) Bool.false_ne_true
  | str i =>
    obtain ⟨t, rfl⟩ := rx
    cases y with
    | non => cases ry; exact PySem.EqNone.ne_str_none (fin_bl I q (by simp))
    | bl j => cases ry; exact PySem.EqMixed.ne_str_bool (fin_bl I q (by simp))
    | int j => obtain ⟨t', rfl⟩ := ry; exact PySem.EqMixed.ne_str_int (fin_bl I q (by simp))
    | str j => obtain ⟨t', rfl⟩ := ry; exact ne_str (fin_bl I q (congrArg not dec_str))
    | _ => exact absurd (show false = true from hs) Bool.false_ne_true
  | byt i =>
    obtain ⟨t, rfl⟩ := rx
    cases y with
    | byt j => obtain ⟨t', rfl⟩ := ry; exact PySem.W.ne_bytes (fin_bl I q (congrArg not dec_byt))
    | _ => exact absurd (show false = true from hs) Bool.false_ne_true
  | _ => cases y <;> exact absurd (show false = true from hs) Bool.false_ne_true

theorem op_lt : OpR X (compareOp .Lt) (rI0 fun i j => .bl (decide (i < j))) := opB0 fun _ _ _ _ _ _ _ q => lt_int q
theorem op_le : OpR X (compareOp .LtE) (rI0 fun i j => .bl (decide (i ≤ j))) := opB0 fun _ _ _ _ _ _ _ q => le_int q
theorem op_gt : OpR X (compareOp .Gt) (rI0 fun i j => .bl (decide (j < i))) := opB0 fun _ _ _ _ _ _ _ q => gt_int q
theorem op_ge : OpR X (compareOp .GtE) (rI0 fun i j => .bl (decide (j ≤ i))) := opB0 fun _ _ _ _ _ _ _ q => ge_int q

/-- is None, is not None: the right side a value none -/
theorem op_isN : OpR X (compareOp .Is) (fun x y H Q => y = .non ∧ Q (.bl (decide (x = .non))) H) := by
  intro pins s σ H x y v u Q I rx ry h
  obtain ⟨rfl, q⟩ := h
  cases ry
  refine is_none_gen (fin_bl I q ?_)
  cases x <;> first
    | (cases rx; rfl)
    | (obtain ⟨t, rfl⟩ := rx; rfl)
theorem op_notN : OpR X (compareOp .IsNot) (fun x y H Q => y = .non ∧ Q (.bl (!decide (x = .non))) H) := by
  intro pins s σ H x y v u Q I rx ry h
  obtain ⟨rfl, q⟩ := h
  cases ry
  refine isnot_none_gen (fin_bl I q ?_)
  cases x <;> first
    | (cases rx; rfl)
    | (obtain ⟨t, rfl⟩ := rx; rfl)


/-- two rules for one operation: by cases -/
theorem OpR.or {f : Value → Value → Sem Value} {r r' : R2} (h : OpR X f r) (h' : OpR X f r') : OpR X f (fun x y H Q => r x y H Q ∨ r' x y H Q) := by
  intro pins s σ H x y v u Q I rx ry q
  rcases q with q | q
  · exact h pins s σ H x y v u Q I rx ry q
  · exact h' pins s σ H x y v u Q I rx ry q

/-- a comparison as a value; hm: nomark b, or (for in, not in) by with_unfolding_all rfl -/
theorem pe_cmpR {op : CmpOp} {r : R2} (ho : OpR X (compareOp op) r) (ha : PE X a ta) (hb : PE X b tb) (hm : behindInMarks op b = false) : PE X (.Compare a [op] [b] pos) (tOp r ta tb) := by
  intro pins s σ H Q I h
  exact wpAny_Compare1 (binT ha hb I h fun v u s2 x y H2 I2 rx ry q => ho pins s2 σ H2 x y v u Q I2 rx ry q) hm
/-- a reading of a value as a test -/
def tTest (t : TE) : TT := fun σ H Q => t σ H fun x H' => ∃ k, x = .bl k ∧ Q k H'
theorem pt_cmpR {op : CmpOp} {r : R2} (ho : OpR X (compareOp op) r) (ha : PE X a ta) (hb : PE X b tb) (hm : behindInMarks op b = false) : PT X (.Compare a [op] [b] pos) (tTest (tOp r ta tb)) := by
  intro pins s σ H Q I h
  refine wpAny_isTrue_Compare1 (thn (ha pins s σ H _ I h) fun v s1 ⟨x, H1, I1, r1, q1⟩ => thn (hb pins s1 σ H1 _ I1 q1) fun u s2 ⟨y, H2, I2, r2, q2⟩ =>
    thn (ho pins s2 σ H2 x y v u _ I2 r1 r2 q2) fun c s3 ⟨z, H3, I3, r3, k, e, q3⟩ => ?_) hm
  subst e
  cases r3
  exact wpAny_truthy_bool ⟨H3, I3, q3⟩
/-- a op1 b op2 c -/
def tChain (r r' : R2) (ta tb tc : TE) : TE := fun σ H Q => ta σ H fun x H1 => tb σ H1 fun y H2 => r x y H2 fun z H3 => ∃ k, z = .bl k ∧
  (if k = true then tc σ H3 fun w' H4 => r' y w' H4 Q else Q (.bl false) H3)
theorem pe_chain {op op' : CmpOp} {r r' : R2} (ho : OpR X (compareOp op) r) (ho' : OpR X (compareOp op') r') (ha : PE X a ta) (hb : PE X b tb) (hc : PE X c tc)
    (hm : lastMarks [op, op'] [b, c] = false := by with_unfolding_all rfl) : PE X (.Compare a [op, op'] [b, c] pos) (tChain r r' ta tb tc) := by
  intro pins s σ H Q I h
  refine Compare_chain (thn (ha pins s σ H _ I h) fun v s1 ⟨x, H1, I1, r1, q1⟩ => chain_link (thn (hb pins s1 σ H1 _ I1 q1) fun u s2 ⟨y, H2, I2, r2, q2⟩ =>
    thn (ho pins s2 σ H2 x y v u _ I2 r1 r2 q2) fun d s3 ⟨z, H3, I3, r3, k, e, q3⟩ => ?_)) hm
  subst e
  cases r3
  refine wpAny_truthy_bool ?_
  cases k with
  | false => exact ite_ff ⟨.bl false, H3, I3, rfl, q3⟩
  | true => exact ite_tt (chain_last (thn (hc pins s3 σ H3 _ I3 q3) fun w' s4 ⟨z', H4, I4, r4, q4⟩ => ho' pins s4 σ H4 y z' u w' Q I4 r2 r4 q4))

/-! ### truth -/
/-- a value's truth by the abstract heap -/
def TruV (K : PySem.W.Frag) (x : V) (H : Hp) (k : Bool) : Prop :=
  match x with
  | .non => k = false
  | .bl b => k = b
  | .int i => k = (i != 0)
  | .str y => y.length ≤ sizeLine ∧ k = ((y.length : Int) != 0)
  | .byt y => y.size ≤ sizeLine ∧ k = ((y.size : Int) != 0)
  | .ref p => (∃ xs, SqL K H p xs ∧ k = !xs.isEmpty) ∨ (∃ xs, SqT K H p xs ∧ k = !xs.isEmpty) ∨ ∃ kvs, H p = some (.dK kvs) ∧ k = !kvs.isEmpty
  | _ => False
theorem isEmpty_kv {κ : Type} {kvs : List (κ × V)} {vs : List (κ × Value)} (r : KV kvs vs) : (!vs.isEmpty) = !kvs.isEmpty := by
  cases r <;> rfl
theorem isEmpty_of {xs : List V} {its : List Value} (r : Vals xs its) : (!its.toArray.isEmpty) = !xs.isEmpty := by
  cases r <;> simp
theorem line63 : (sizeLine : Nat) < 2 ^ 63 := by rw [sizeLine_eq]; decide
theorem tru_ok : TruR X (fun x H Q => ∃ k, TruV X.K x H k ∧ Q k H) := by
  intro pins s σ H x v Q I rx h
  obtain ⟨k, e, q⟩ := h
  have hl := line63
  have hs : sizeLine = 16777216 := sizeLine_eq
  cases x with
  | non =>
    cases rx
    have e' : k = false := e
    subst e'
    exact truthy_none ⟨H, I, q⟩
  | bl b =>
    cases rx
    have e' : k = b := e
    subst e'
    exact wpAny_truthy_bool ⟨H, I, q⟩
  | int i =>
    obtain ⟨t, rfl⟩ := rx
    have e' : k = (i != 0) := e
    subst e'
    exact PySem.P.truthy_int ⟨H, I, q⟩
  | str y =>
    obtain ⟨t, rfl⟩ := rx
    obtain ⟨hy, e'⟩ : y.length ≤ sizeLine ∧ k = ((y.length : Int) != 0) := e
    subst e'
    exact PySem.P.truthy_str (by omega) ⟨H, I.tok _, q⟩
  | byt y =>
    obtain ⟨t, rfl⟩ := rx
    obtain ⟨hy, e'⟩ : y.size ≤ sizeLine ∧ k = ((y.size : Int) != 0) := e
    subst e'
    exact PySem.W.truthy_bytes (by omega) ⟨H, I.tok _, q⟩
  | ref p =>
    cases rx
    have e' : (∃ xs, SqL X.K H p xs ∧ k = !xs.isEmpty) ∨ (∃ xs, SqT X.K H p xs ∧ k = !xs.isEmpty) ∨ ∃ kvs, H p = some (.dK kvs) ∧ k = !kvs.isEmpty := e
    rcases e' with ⟨xs, hx, e'⟩ | ⟨xs, hx, e'⟩ | ⟨kvs, hx, e'⟩
    · subst e'
      obtain ⟨its, r, pl, hz⟩ := I.list hx
      have hlen := r.length
      exact wpAny_truthy_list pl.isList (by simp only [List.size_toArray]; omega) ⟨H, I.tok _, by rw [isEmpty_of r]; exact q⟩
    · subst e'
      obtain ⟨its, r, pl, hz⟩ := I.tuple hx
      have hlen := r.length
      exact truthy_tuple pl (by simp only [List.size_toArray]; omega) ⟨H, I.tok _, by rw [isEmpty_of r]; exact q⟩
    · subst e'
      obtain ⟨hz, hS, vs, r, m⟩ : kvs.length ≤ sizeLine ∧ (p == sysModules) = false ∧ ∃ vs, KV kvs vs ∧ s.heap.DictOf (mixKind X.prog X.w) p vs := I.hok p _ hx
      have hlen : kvs.length = vs.length := Paired.length r
      exact wpAny_truthy_dict hS m (by omega) ⟨H, I.tok _, by rw [isEmpty_kv r]; exact q⟩
  | _ => exact (show False from e).elim

/-! ### strs and bytes -/
theorem op_add_str : OpR X (binaryOp .Add) (fun x y H Q => ∃ i j, x = .str i ∧ y = .str j ∧ i.length + j.length ≤ sizeLine ∧ Q (.str (i ++ j)) H) := by
  intro pins s σ H x y v u Q I rx ry h
  obtain ⟨i, j, rfl, rfl, hz, q⟩ := h
  obtain ⟨t, rfl⟩ := rx
  obtain ⟨t', rfl⟩ := ry
  exact add_str (fun t' tk => ⟨.str (i ++ j), H, I.tok _, ⟨_, rfl⟩, q⟩) hz


/-! ### scalar builtins, by CallR -/
theorem vals1 {x : V} {us : List Value} (r : Vals [x] us) : ∃ u, us = [u] ∧ RelV x u := by
  cases r with
  | cons r1 r2 => cases r2; exact ⟨_, rfl, r1⟩
theorem vals2 {x y : V} {us : List Value} (r : Vals [x, y] us) : ∃ u w', us = [u, w'] ∧ RelV x u ∧ RelV y w' := by
  cases r with
  | cons r1 r2 =>
    cases r2 with
    | cons r3 r4 => cases r4; exact ⟨_, _, rfl, r1, r3⟩
theorem call_abs : CallR X (.builtin "abs") (fun xs H Q => ∃ i, xs = [.int i] ∧ Q (.int (if i < 0 then -i else i)) H) := by
  intro pins s σ H xs us Q I r h
  obtain ⟨i, rfl, q⟩ := h
  obtain ⟨u, rfl, t, rfl⟩ := vals1 r
  exact call_abs_int fun u tk => ⟨.int (if i < 0 then -i else i), H, I.tok _, ⟨_, rfl⟩, q⟩
theorem call_max2 (hc : X.calm = true) : CallR X (.builtin "max") (fun xs H Q => ∃ i j, xs = [.int i, .int j] ∧ Q (.int (if j > i then j else i)) H) := by
  intro pins s σ H xs us Q I r h
  obtain ⟨i, j, rfl, q⟩ := h
  obtain ⟨u, w', rfl, ⟨t, rfl⟩, ⟨t', rfl⟩⟩ := vals2 r
  refine max_two_ints (I.ok.hd hc) fun h' tk k => ⟨_, H, I.kept k, ?_, q⟩
  by_cases hj : j > i
  · rw [if_pos hj, if_pos hj]; exact ⟨_, rfl⟩
  · rw [if_neg hj, if_neg hj]; exact ⟨_, rfl⟩
theorem call_min2 (hc : X.calm = true) : CallR X (.builtin "min") (fun xs H Q => ∃ i j, xs = [.int i, .int j] ∧ Q (.int (if j < i then j else i)) H) := by
  intro pins s σ H xs us Q I r h
  obtain ⟨i, j, rfl, q⟩ := h
  obtain ⟨u, w', rfl, ⟨t, rfl⟩, ⟨t', rfl⟩⟩ := vals2 r
  refine min_two_ints (I.ok.hd hc) fun h' tk k => ⟨_, H, I.kept k, ?_, q⟩
  by_cases hj : j < i
  · rw [if_pos hj, if_pos hj]; exact ⟨_, rfl⟩
  · rw [if_neg hj, if_neg hj]; exact ⟨_, rfl⟩
/-- len of a str, a bytes, a list, a tuple -/
def LenV (K : PySem.W.Frag) (x : V) (H : Hp) (n : Nat) : Prop :=
  match x with
  | .str y => y.length ≤ sizeLine ∧ n = y.length
  | .byt y => y.size ≤ sizeLine ∧ n = y.size
  | .ref p => (∃ xs, SqL K H p xs ∧ n = xs.length) ∨ ∃ xs, SqT K H p xs ∧ n = xs.length
  | _ => False
theorem call_len : CallR X (.builtin "len") (fun xs H Q => ∃ x n, xs = [x] ∧ LenV X.K x H n ∧ Q (.int n) H) := by
  intro pins s σ H xs us Q I r h
  obtain ⟨x, n, rfl, e, q⟩ := h
  obtain ⟨u, rfl, rx⟩ := vals1 r
  have hl := line63
  have hs : sizeLine = 16777216 := sizeLine_eq
  cases x with
  | str y =>
    obtain ⟨t, rfl⟩ := rx
    obtain ⟨hy, e'⟩ : y.length ≤ sizeLine ∧ n = y.length := e
    subst e'
    exact len_str (by omega) ⟨.int _, H, I.tok _, ⟨_, rfl⟩, q⟩
  | byt y =>
    obtain ⟨t, rfl⟩ := rx
    obtain ⟨hy, e'⟩ : y.size ≤ sizeLine ∧ n = y.size := e
    subst e'
    exact PySem.W.len_bytes (by omega) ⟨.int _, H, I.tok _, ⟨_, rfl⟩, q⟩
  | ref p =>
    cases rx
    have e' : (∃ xs, SqL X.K H p xs ∧ n = xs.length) ∨ ∃ xs, SqT X.K H p xs ∧ n = xs.length := e
    rcases e' with ⟨xs, hx, e'⟩ | ⟨xs, hx, e'⟩
    · subst e'
      obtain ⟨its, r', pl, hz⟩ := I.list hx
      have hlen := r'.length
      exact Calls.call_len_list pl.isList (by simp only [List.size_toArray]; omega) ⟨.int xs.length, H, I.tok _, ⟨_, by simp only [List.size_toArray]; rw [hlen]⟩, q⟩
    · subst e'
      obtain ⟨its, r', pl, hz⟩ := I.tuple hx
      have hlen := r'.length
      exact len_tuple pl (by simp only [List.size_toArray]; omega) ⟨.int xs.length, H, I.tok _, ⟨_, by simp only [List.size_toArray]; rw [hlen]⟩, q⟩
  | _ => exact (show False from e).elim
end
end L2

namespace L2
open PySem PySem.Spec PyProof.Rows

/-! ### an instance, its attributes a map -/
structure ObjM (h : Heap) (x dx C : Addr) (mA : Str → Option Value) : Prop where
  obj : h.get? x = some (PySem.W.instObj C dx)
  ns : h.Ns1 dx mA
  ne : dx ≠ x

theorem lookIn_ns {h : Heap} {dx : Addr} {mA : Str → Option Value} (n : h.Ns1 dx mA) : ∃ od, h.get? dx = some od ∧ ∀ name, PySem.W.lookIn name od = some (mA name) := by
  obtain ⟨o, es, ep, ho, hd, hk, _, hm⟩ := n
  refine ⟨o, ho, fun name => ?_⟩
  have e := hm name
  unfold nsFind findBy at e
  rw [← Array.find?_toList] at e
  unfold PySem.W.lookIn
  rw [hd]
  dsimp only
  split
  · rename_i y q
    rw [q] at e
    exact congrArg some e
  · rename_i q
    rw [q] at e
    have a : es.toList.any (·.refKey) = false := by
      rw [List.any_eq_false]
      intro y hy
      obtain ⟨z, t, hkey⟩ := hk y (Array.mem_toList_iff.mp hy)
      simp [DictEntry.refKey, hkey]
    have a' : ¬ es.toList.any (·.refKey) = true := by rw [a]; exact Bool.false_ne_true
    rw [if_neg a']
    exact congrArg some e

theorem ObjM.look {h : Heap} {x dx C : Addr} {mA : Str → Option Value} (I : ObjM h x dx C mA) : ∃ od, PySem.W.InstAt h x (PySem.W.instObj C dx) C (some od) ∧ ∀ name, PySem.W.lookIn name od = some (mA name) :=
  let ⟨od, ho, hl⟩ := lookIn_ns I.ns
  ⟨od, ⟨I.obj, rfl, rfl, ho⟩, hl⟩

section
variable {prog : Program} {w : World} {A : Around} {E : Value → Shared → Prop} {s : Shared} {K : PySem.W.Frag} {x dx C f : Addr} {mA : Str → Option Value} {name : Str} {v : Value}

theorem get_map {expr : Bool} {Q : Value → Shared → Prop} (X : K.In s.heap) (I : ObjM s.heap x dx C mA) (hg : PySem.W.plainGet K C name = true) (hh : PySem.W.hasDictIn K C = true)
    (ha : PySem.W.findIn K (.ref C) name = some none) (hv : mA name = some v) (hv' : PySem.W.handedIn v = true) (h : Q v { s with toks := s.toks + 1 }) :
    wpAny (model prog w) A (getAttr (.ref x) name expr) Q E s := by
  obtain ⟨od, J, hl⟩ := I.look
  exact PySem.W.get_value X J (PySem.W.plainGet_of hg).1 (PySem.W.findObj_own hh ha rfl (by rw [hl, hv])) hv' h


theorem get_meth {pl : Sem Bool} {Q : Value × List Value → Shared → Prop} (X : K.In s.heap) (I : ObjM s.heap x dx C mA) (hg : PySem.W.plainGet K C name = true)
    (hf : PySem.W.findIn K (.ref C) name = some (some (.ref f))) (ht : PySem.W.isFn K (.ref f) = true) (hv : mA name = none) (h : Q (.ref f, [.ref x]) s) :
    wpAny (model prog w) A (getMethod (.ref x) name pl) Q E s := by
  obtain ⟨od, J, hl⟩ := I.look
  exact PySem.W.method_fn X J (PySem.W.plainGet_of hg).1 (PySem.W.plainGet_of hg).2 hf (beq_iff_eq.mp ht) (by show (PySem.W.lookIn name od).map (·.isSome) = some false; rw [hl, hv]; rfl) h

theorem set_map {ns : List Str} {Q : Unit → Shared → Prop} (X : K.In s.heap) (I : ObjM s.heap x dx C mA)
    (hs : PySem.W.findIn K (.ref C) "__setattr__" = some (some (.builtin "object.__setattr__"))) (hp : PySem.W.plainOver K C = true) (ht : PySem.W.takerIn K C name = some none) (hh : PySem.W.hasDictIn K C = true)
    (hw : PySem.Within mA ns) (hsz : ns.length ≤ sizeLine)
    (h : ∀ h', ObjM h' x dx C (fun y => if y = name then some v else mA y) → Heap.SameBut dx s.heap h' → Q () { s with heap := h', toks := s.toks + 2 }) :
    wpAny (model prog w) A (setAttr (.ref x) name v) Q E s := by
  obtain ⟨od, J, hl⟩ := I.look
  refine PySem.W.set_plain X J hs (PySem.W.osa_open (s := { s with toks := s.toks + 1 }) (r := none) X J hp ht fun b => ?_)
  obtain ⟨cd, hc, hd'⟩ := PySem.W.any_some hh
  have hx : s.heap.get? x = some ⟨.ref C, some dx, .plain, #[]⟩ := I.obj
  refine wpAny_bind (wpAny_pure (wpAny_bind (wpAny_bind (wpAny_loadPart hx (wpAny_bind (PySem.W.Looks.here (s := { s with toks := s.toks + 1 }) (PySem.W.looks_clsIn X hc) ?_))))))
  rw [hd']
  refine wpAny_pure (a := some dx) (wpAny_bind (wpAny_pure (wpAny_bind ?_)))
  refine wpAny_nsSet1 (s := { s with toks := s.toks + 1 }) I.ns fun h' hn2 hs2 => ?_
  obtain ⟨oD, esD, epD, hoD, hdD, hcD⟩ := hn2.count (PySem.Within.cons name v hw)
  refine wpAny_bind (wpAny_lookBehind hoD (by rw [hdD]; exact pastItsLine_dict (Nat.le_trans hcD (by rw [List.length_cons]; omega))) ?_)
  exact wpAny_pure (h _ ⟨(hs2.2 _ (Ne.symm I.ne)).trans I.obj, hn2, I.ne⟩ hs2)

/-- C(..): the dict at the heap's end, the instance behind it; then its __init__ -/
theorem make_map {R : Result → Shared → Prop} {vs : List Value} {kw : List (Str × Value)} (X : K.In s.heap) (hm : PySem.W.makesIn K C = true)
    (hi : PySem.W.findIn K (.ref C) "__init__" = some (some (.ref f))) (hf : PySem.W.typeIn K (.ref f) = some (.type "function"))
    (h : codeAny (model prog w) (A.under (.builtin "type.__call__" ⟨.ref C :: vs, kw⟩)) (.call (.ref f) ⟨.ref (s.heap.objs.size + 1) :: vs, kw⟩) (PySem.W.InitBack (s.heap.objs.size + 1) R)
      { s with heap := (s.heap.push PySem.W.emptyDict).push (PySem.W.instObj C s.heap.objs.size) }) :
    codeAny (model prog w) A (.call (.ref C) ⟨vs, kw⟩) R s := by
  obtain ⟨hh, g, d, t, os⟩ := s
  exact PySem.W.make_core (PySem.W.makes_of X hm) (PySem.W.looks_findIn X hi) (fun self => PySem.W.bind_fn X self hf) (.inl rfl) h
end

/-! ### the attributes as a list of pairs -/
def putF (f : Str) (v : V) : List (Str × V) → List (Str × V)
  | [] => [(f, v)]
  | (g, x) :: r => if g = f then (g, v) :: r else (g, x) :: putF f v r
theorem lookup_putF (f g : Str) (v : V) : ∀ fs : List (Str × V), (putF f v fs).lookup g = if g = f then some v else fs.lookup g
  | [] => by
    show List.lookup g [(f, v)] = _
    by_cases h : g = f
    · have hb : (g == f) = true := beq_iff_eq.mpr h
      simp only [List.lookup, hb, if_pos h]
    · have hb : (g == f) = false := beq_eq_false_iff_ne.mpr h
      simp only [List.lookup, hb, if_neg h]
  | (k, x) :: r => by
    have ih := lookup_putF f g v r
    rw [show putF f v ((k, x) :: r) = (if k = f then (k, v) :: r else (k, x) :: putF f v r) from rfl]
    by_cases hk : k = f
    · rw [if_pos hk]
      by_cases h : g = k
      · have hb : (g == k) = true := beq_iff_eq.mpr h
        simp only [List.lookup, hb, if_pos (h.trans hk)]
      · have hb : (g == k) = false := beq_eq_false_iff_ne.mpr h
        simp only [List.lookup, hb, if_neg (fun e : g = f => h (e.trans hk.symm))]
    · rw [if_neg hk]
      by_cases h : g = k
      · have hb : (g == k) = true := beq_iff_eq.mpr h
        simp only [List.lookup, hb, if_neg (fun e : g = f => hk (h.symm.trans e))]
      · have hb : (g == k) = false := beq_eq_false_iff_ne.mpr h
        simp only [List.lookup, hb]
        exact ih
theorem keys_putF (f : Str) (v : V) : ∀ fs : List (Str × V), f ∈ (putF f v fs).map (·.1) ∧ ∀ g, g ∈ fs.map (·.1) → g ∈ (putF f v fs).map (·.1)
  | [] => ⟨by simp [putF], fun g h => by simp at h⟩
  | (k, x) :: r => by
    obtain ⟨i1, i2⟩ := keys_putF f v r
    rw [show putF f v ((k, x) :: r) = (if k = f then (k, v) :: r else (k, x) :: putF f v r) from rfl]
    by_cases hk : k = f
    · rw [if_pos hk]
      subst hk
      exact ⟨by simp, fun g h => by simpa using h⟩
    · rw [if_neg hk]
      refine ⟨?_, fun g h => ?_⟩
      · rw [List.map_cons]
        exact List.mem_cons_of_mem _ i1
      · rw [List.map_cons] at h ⊢
        rcases List.mem_cons.mp h with e | e
        · exact List.mem_cons.mpr (.inl e)
        · exact List.mem_cons_of_mem _ (i2 g e)
theorem length_putF (f : Str) (v : V) : ∀ fs : List (Str × V), (putF f v fs).length ≤ fs.length + 1
  | [] => by simp [putF]
  | (k, x) :: r => by
    have ih := length_putF f v r
    rw [show putF f v ((k, x) :: r) = (if k = f then (k, v) :: r else (k, x) :: putF f v r) from rfl]
    by_cases hk : k = f
    · rw [if_pos hk, List.length_cons, List.length_cons]; omega
    · rw [if_neg hk, List.length_cons, List.length_cons]; omega

theorem RelO.some_of {v : V} {o : Option Value} (r : RelO (some v) o) : ∃ u, o = some u ∧ RelV v u := by
  cases o with
  | none => exact (show False from r).elim
  | some u => exact ⟨u, rfl, r⟩
theorem RelO.none_of {o : Option Value} (r : RelO none o) : o = none := by
  cases o with
  | none => rfl
  | some u => exact (show False from r).elim
theorem handed_of {v : V} {u : Value} (r : RelV v u) : PySem.W.handedIn u = true := by
  cases v with
  | non => cases (show u = Value.none from r); rfl
  | bl b => cases (show u = Value.bool b from r); rfl
  | int i => obtain ⟨t, e⟩ := (show ∃ t, u = Value.int i t from r); cases e; rfl
  | str x => obtain ⟨t, e⟩ := (show ∃ t, u = Value.str x t from r); cases e; rfl
  | byt b => obtain ⟨t, e⟩ := (show ∃ t, u = Value.bytes b t from r); cases e; rfl
  | flt b => obtain ⟨t, e⟩ := (show ∃ t, u = Value.float b t from r); cases e; rfl
  | ref a => cases (show u = Value.ref a from r); rfl
  | ty n => cases (show u = Value.type n from r); rfl

section
variable {P : Program} {w : World} {H H' : Hp} {h h' : Heap} {a C dx : Addr} {fs fs' : List (Str × V)}
theorem ins_get (hok : HOk P w H h) (e : H a = some (.ins C dx fs)) : ∃ mA, ObjM h a dx C mA ∧ (∀ f, RelO (fs.lookup f) (mA f)) ∧ PySem.Within mA (fs.map (·.1)) ∧ fs.length ≤ 1000 ∧ H dx = some (.own a) := by
  obtain ⟨d, z, ne, ob, mA, n, r, q⟩ := (show ObjOk P w H h a (.ins C dx fs) from hok a _ e)
  exact ⟨mA, ⟨ob, n, ne⟩, r, q, z, d⟩
end

/-! ### what of the text a class must have -/
structure Cls (K : PySem.W.Frag) (C : Addr) : Prop where
  pg : PySem.W.plainGet K C Str.empty = true
  hd : PySem.W.hasDictIn K C = true
  po : PySem.W.plainOver K C = true
  sa : PySem.W.findIn K (.ref C) "__setattr__" = some (some (.builtin "object.__setattr__"))
theorem Cls.get {K : PySem.W.Frag} {C : Addr} (c : Cls K C) (f : Str) : PySem.W.plainGet K C f = true := c.pg
/-- no class of it has the name -/
def NoAttr (K : PySem.W.Frag) (C : Addr) (f : Str) : Prop := PySem.W.findIn K (.ref C) f = some none
theorem NoAttr.taker {K : PySem.W.Frag} {C : Addr} {f : Str} (n : NoAttr K C f) : PySem.W.takerIn K C f = some none := by
  unfold PySem.W.takerIn
  rw [show PySem.W.findIn K (.ref C) f = some none from n]
  rfl
/-- a method: a plain def of the class or of one above it -/
structure Meth (K : PySem.W.Frag) (C : Addr) (m : Str) (f : Addr) : Prop where
  at_ : PySem.W.findIn K (.ref C) m = some (some (.ref f))
  fn : PySem.W.isFn K (.ref f) = true
  kp : PySem.W.keepIn K (.ref f) = true

section
variable {X : Cx} {pins : List (Addr × Obj)} {σ : St} {H : Hp} {s : Shared} {a C dx : Addr} {fs : List (Str × V)} {f : Str} {v : V} {A : Around} {E : Value → Shared → Prop}

theorem getattr_ok {b : Bool} {Q : Value → Shared → Prop} (I : Inv X pins σ H s) (e : H a = some (.ins C dx fs)) (c : Cls X.K C) (n : NoAttr X.K C f) (l : fs.lookup f = some v)
    (h : ∀ u s', Inv X pins σ H s' → RelV v u → Q u s') : wpAny (model X.prog X.w) A (getAttr (.ref a) f b) Q E s := by
  obtain ⟨mA, O, r, _, _, _⟩ := ins_get I.hok e
  obtain ⟨u, hu, ru⟩ := RelO.some_of (v := v) (o := mA f) (by rw [← l]; exact r f)
  exact get_map I.kIn O (c.get f) c.hd n hu (handed_of ru) (h u _ (I.tok _) ru)


theorem getmeth_ok {m : Str} {g : Addr} {pl : Sem Bool} {Q : Value × List Value → Shared → Prop} (I : Inv X pins σ H s) (e : H a = some (.ins C dx fs)) (c : Cls X.K C) (k : Meth X.K C m g) (l : fs.lookup m = none)
    (h : Q (.ref g, [.ref a]) s) : wpAny (model X.prog X.w) A (getMethod (.ref a) m pl) Q E s := by
  obtain ⟨mA, O, r, _, _, _⟩ := ins_get I.hok e
  have hn : mA m = none := RelO.none_of (by rw [← l]; exact r m)
  exact get_meth I.kIn O (c.get m) k.at_ k.fn hn h

theorem setattr_ok {y : V} {u : Value} {Q : Unit → Shared → Prop} (I : Inv X pins σ H s) (e : H a = some (.ins C dx fs)) (c : Cls X.K C) (n : NoAttr X.K C f) (hl : fs.length < 1000) (ry : RelV y u)
    (h : ∀ s', Inv X pins σ (upd H a (.ins C dx (putF f y fs))) s' → Q () s') : wpAny (model X.prog X.w) A (setAttr (.ref a) f u) Q E s := by
  obtain ⟨mA, O, r, wi, _, ho⟩ := ins_get I.hok e
  have hz : (fs.map (·.1)).length ≤ sizeLine := by rw [List.length_map, sizeLine_eq]; omega
  refine set_map I.kIn O c.sa c.po n.taker c.hd wi hz fun h' O' sb => h _ ?_
  have hd : ∃ o, h'.get? dx = some o := let ⟨o, _, _, e', _⟩ := O'.ns; ⟨o, e'⟩
  refine I.write (x := a) (e := dx) (by rw [e]; exact True.intro) (.inr ho) (fun b q hb z => (sb.2 b hb).trans z) hd ?_
  refine ⟨by rw [upd_ne O.ne]; exact ho, ?_, O.ne, O'.obj, _, O'.ns, fun g => ?_, fun g hg => ?_⟩
  · have := length_putF f y fs; omega
  · show RelO ((putF f y fs).lookup g) (if g = f then some u else mA g)
    rw [lookup_putF]
    by_cases q : g = f
    · rw [if_pos q, if_pos q]; exact ry
    · rw [if_neg q, if_neg q]; exact r g
  · by_cases q : g = f
    · rw [q]; exact (keys_putF f y fs).1
    · refine (keys_putF f y fs).2 g (wi g fun z => hg ?_)
      show (if g = f then some u else mA g) = none
      rw [if_neg q]; exact z

/-- a new instance, tracked, without attributes -/
theorem Inv.made (I : Inv X pins σ H s) : Inv X pins σ (upd (upd H s.heap.objs.size (.own (s.heap.objs.size + 1))) (s.heap.objs.size + 1) (.ins C s.heap.objs.size []))
    { s with heap := (s.heap.push PySem.W.emptyDict).push (PySem.W.instObj C s.heap.objs.size) } := by
  have e1 : (s.heap.push PySem.W.emptyDict).get? s.heap.objs.size = some PySem.W.emptyDict := Heap.get?_push_size s.heap rfl
  have e2 : ((s.heap.push PySem.W.emptyDict).push (PySem.W.instObj C s.heap.objs.size)).get? (s.heap.objs.size + 1) = some (PySem.W.instObj C s.heap.objs.size) := by
    have := Heap.get?_push_size (s.heap.push PySem.W.emptyDict) (o := PySem.W.instObj C s.heap.objs.size) rfl
    rwa [Heap.size_push] at this
  have e3 : (s.heap.push PySem.W.emptyDict).Ns s.heap.objs.size (fun _ => none) := ⟨PySem.W.emptyDict, #[], _, e1, rfl, (fun e he => absurd he (by simp)), fun _ => rfl⟩
  have I1 := I.laid (a := s.heap.objs.size) (o := .own (s.heap.objs.size + 1)) (h' := s.heap.push PySem.W.emptyDict) (t' := s.toks) (fun b u q => Heap.get?_push_of_some _ q) (Nat.le_refl _) ⟨_, e1⟩
  refine I1.laid (a := s.heap.objs.size + 1) (o := .ins C s.heap.objs.size []) (t' := s.toks) (fun b u q => Heap.get?_push_of_some _ q) (Nat.le_of_eq (Heap.size_push _ _)) ?_
  have ne : s.heap.objs.size ≠ s.heap.objs.size + 1 := Nat.ne_of_lt (Nat.lt_succ_self _)
  refine ⟨by rw [upd_ne ne, upd_same], Nat.zero_le _, ne, e2, fun _ => none, (Heap.Ns1.of_empty e3).at fun o q => Heap.get?_push_of_some _ q, fun _ => True.intro, fun y hy => absurd rfl hy⟩

/-- e.f where nothing but the object is asked: through attributeBase (super) and the last hold -/
theorem attr_of {prog : Program} {w : World} {env : Env} {e : Expr} {f : Str} {pos : Pos} {s : Shared} {Q : Value → Shared → Prop} (hb : attributeBase e f env (eval e env) = eval e env)
    (h : wpAny (model prog w) A (eval e env) (fun o s₁ => wpAny (model prog w) A (getAttr o f true) Q E s₁) E s) : wpAny (model prog w) A (eval (.Attribute e f pos) env) Q E s :=
  Attribute_any_ h (by rw [arm_eval_Attribute, hb])
end

/-! ### readings and rules -/
/-- e.f, an attribute of the instance -/
def tFld (K : PySem.W.Frag) (ta : TE) (f : Str) : TE := fun σ H Q => ta σ H fun x H1 => ∃ a C dx fs v, x = .ref a ∧ H1 a = some (.ins C dx fs) ∧ Cls K C ∧ NoAttr K C f ∧ fs.lookup f = some v ∧ Q v H1
/-- e.f = value -/
def sFld (K : PySem.W.Frag) (ta tv : TE) (f : Str) : TS := fun D σ H => tv σ H fun y H1 => ta σ H1 fun x H2 => ∃ a C dx fs, x = .ref a ∧ H2 a = some (.ins C dx fs) ∧ Cls K C ∧ NoAttr K C f ∧ fs.length < 1000 ∧
  D.nx σ (upd H2 a (.ins C dx (putF f y fs)))

section
variable {X : Cx} {o e value : Expr} {f : Str} {pos pos' tpos : Pos} {ta tv : TE}
theorem pe_fld (he : PE X e ta) (hb : attributeBase e f X.env (eval e X.env) = eval e X.env) : PE X (.Attribute e f pos) (tFld X.K ta f) := by
  intro pins s σ H Q I h
  refine attr_of hb (thn (he pins s σ H _ I h) fun u s1 ⟨x, H1, I1, rx, a, C, dx, fs, v, ex, ea, c, n, l, q⟩ => ?_)
  subst ex
  obtain rfl : u = Value.ref a := rx
  exact getattr_ok I1 ea c n l fun u' s2 I2 ru => ⟨v, H1, I2, ru, q⟩
theorem ps_fld (ha : PE X o ta) (hv : PE X value tv) (hs : swapsWith value (some (.Attribute o f pos')) pos.line X.env = pure false) : PS X (.Assign [.Attribute o f pos'] value pos) (sFld X.K ta tv f) := by
  intro pins s σ H D I h
  refine plainObj_wpAny_Assign_Attribute (thn (hv pins s σ H _ I h) fun u s1 ⟨y, H1, I1, ry, q⟩ => thn (ha pins s1 σ H1 _ I1 q) fun ov s2 ⟨x, H2, I2, rx, a, C, dx, fs, ex, ea, c, n, l, q2⟩ => ?_) hs
  subst ex
  obtain rfl : ov = Value.ref a := rx
  exact setattr_ok I2 ea c n l ry fun s3 I3 => ⟨σ, _, I3, q2⟩

end

/-! ### isinstance -/
section
variable {X : Cx} {pins : List (Addr × Obj)} {σ : St} {H : Hp} {s : Shared} {A : Around} {E : Value → Shared → Prop} {Q : Value → Shared → Prop} {c : Value} {b : Bool}
/-- the type of a value, as the fragment's deciders take it; for an instance its class -/
inductive TyOf (K : PySem.W.Frag) (H : Hp) : V → Value → Prop where
  | non : TyOf K H .non (.type "NoneType")
  | bl (x : Bool) : TyOf K H (.bl x) (.type "bool")
  | int (i : Int) : TyOf K H (.int i) (.type "int")
  | str (x : Str) : TyOf K H (.str x) (.type "str")
  | flt (x : UInt64) : TyOf K H (.flt x) (.type "float")
  | lst {a : Addr} {xs : List V} (e : H a = some (.lst xs)) : TyOf K H (.ref a) (.type "list")
  | frz {a : Addr} {o : Obj} {xs : List V} (e : H a = some (.frz o (.lst xs))) : TyOf K H (.ref a) (.type "list")
  | tup {a : Addr} {xs : List V} (e : H a = some (.tup xs)) : TyOf K H (.ref a) (.type "tuple")
  | dK {a : Addr} {kvs : List (Key × V)} (e : H a = some (.dK kvs)) : TyOf K H (.ref a) (.type "dict")
  | dT {a : Addr} {kvs : List (List Key × V)} (e : H a = some (.dT kvs)) : TyOf K H (.ref a) (.type "dict")
  | ins {a C dx : Addr} {fs : List (Str × V)} (e : H a = some (.ins C dx fs)) (cl : Cls K C) (ha : PySem.W.findIn K (.ref C) "__class__" = some (some (.builtin "object.__class__")))
      (hn : PySem.W.specialIn K (.builtin "object.__class__") "__get__" = some (some (.builtin "getset_descriptor.__get__"))) (htk : PySem.W.takesIn K (.builtin "object.__class__") = some true)
      (hm : PySem.W.mroIn K C (.type "object") = some true) : TyOf K H (.ref a) (.ref C)
/-- isinstance(x, c) for one class c, a built-in or an own one: kitOne's answer -/
theorem isinst_ok {x : V} {u t : Value} (I : Inv X pins σ H s) (rx : RelV x u) (ty : TyOf X.K H x t) (e : PySem.W.kitOne X.K t c = some b) (h : ∀ tk, Q (.bool b) { s with toks := tk }) :
    wpAny (model X.prog X.w) A (call (.builtin "isinstance") [u, c]) Q E s := by
  cases ty with
  | non => cases (show u = Value.none from rx); exact PySem.W.kia_one PySem.W.kitx_none I.kIn True.intro e (fun z => nomatch z) h
  | bl y => cases (show u = Value.bool y from rx); exact PySem.W.kia_one PySem.W.kitx_bool I.kIn True.intro e (fun z => nomatch z) h
  | int i => obtain ⟨t, q⟩ := (show ∃ t, u = Value.int i t from rx); cases q; exact PySem.W.kia_one PySem.W.kitx_int I.kIn True.intro e (fun z => nomatch z) h
  | str y => obtain ⟨t, q⟩ := (show ∃ t, u = Value.str y t from rx); cases q; exact PySem.W.kia_one PySem.W.kitx_str I.kIn True.intro e (fun z => nomatch z) h
  | flt y => obtain ⟨t, q⟩ := (show ∃ t, u = Value.float y t from rx); cases q; exact PySem.W.kia_one PySem.W.kitx_float I.kIn True.intro e (fun z => nomatch z) h
  | @lst a xs ea =>
    cases (show u = Value.ref a from rx)
    obtain ⟨_, _, n, _, h1⟩ := (show ObjOk X.prog X.w H s.heap a (.lst xs) from I.hok a _ ea)
    exact PySem.W.kia_one PySem.W.kitx_list I.kIn ⟨_, h1, rfl⟩ e (fun z => nomatch z) h
  | @frz a ob xs ea =>
    cases (show u = Value.ref a from rx)
    obtain ⟨_, _, _, n, _, h1⟩ := (show ObjOk X.prog X.w H s.heap a (.frz ob (.lst xs)) from I.hok a _ ea)
    exact PySem.W.kia_one PySem.W.kitx_list I.kIn ⟨_, h1, rfl⟩ e (fun z => nomatch z) h
  | @tup a xs ea =>
    cases (show u = Value.ref a from rx)
    obtain ⟨_, _, _, p⟩ := (show ObjOk X.prog X.w H s.heap a (.tup xs) from I.hok a _ ea)
    obtain ⟨o, h1, h2, _⟩ := p
    exact PySem.W.kia_one PySem.W.kitx_tuple I.kIn ⟨o, h1, h2⟩ e (fun z => nomatch z) h
  | @dK a kvs ea =>
    cases (show u = Value.ref a from rx)
    obtain ⟨_, _, vs, _, p⟩ := (show ObjOk X.prog X.w H s.heap a (.dK kvs) from I.hok a _ ea)
    obtain ⟨o, es, ep, h1, h2, _⟩ := p
    exact PySem.W.kia_one PySem.W.kitx_dict I.kIn ⟨o, h1, h2.1⟩ e (fun z => nomatch z) h
  | @dT a kvs ea =>
    cases (show u = Value.ref a from rx)
    obtain ⟨_, _, xs, _, o, es, ep, h1, h2, _⟩ := (show ObjOk X.prog X.w H s.heap a (.dT kvs) from I.hok a _ ea)
    exact PySem.W.kia_one PySem.W.kitx_dict I.kIn ⟨o, h1, h2.1⟩ e (fun z => nomatch z) h
  | @ins a C dx fs ea cl ha hn htk hm =>
    cases (show u = Value.ref a from rx)
    obtain ⟨mA, O, _⟩ := ins_get I.hok ea
    obtain ⟨od, J, _⟩ := O.look
    exact PySem.W.kia_one (PySem.W.kitx_own (cl.get _) cl.hd ha hn htk hm) I.kIn J e (fun z => nomatch z) h
end
end L2

namespace L2
open PySem PySem.Spec PyProof.Rows

/-! ### room -/
structure Room (k : Nat) (A : Around) : Prop where
  hd : A.handled = none
  dp : A.depth + 3 * k + 5 < recursionLimit
  un : A.units + 16 * k + 200 < cLine
theorem Room.mono {j k : Nat} {A : Around} (r : Room k A) (h : j ≤ k) : Room j A := ⟨r.hd, by have := r.dp; omega, by have := r.un; omega⟩
theorem Room.deeper {k : Nat} {A : Around} (r : Room (k + 1) A) (env : Env) : Room k (A.deeper env) :=
  ⟨r.hd, by have := r.dp; show A.depth + 1 + 3 * k + 5 < _; omega, by have := r.un; show A.units + 3 + 16 * k + 200 < _; omega⟩
theorem make_depth {A : Around} {C : Addr} {us : List Value} {kw : List (Str × Value)} : (A.under (.builtin "type.__call__" ⟨.ref C :: us, kw⟩)).depth = A.depth + 1 := by
  first | rfl | simp [Around.under, Code.weight, Code.isCreation, Code.isGuard, Code.isCaller, Code.frames, Code.isFrame, guardIds]
theorem make_units {A : Around} {C : Addr} {us : List Value} {kw : List (Str × Value)} : (A.under (.builtin "type.__call__" ⟨.ref C :: us, kw⟩)).units = A.units + 1 := by
  first | rfl | simp [Around.under, Code.cUnits, Code.frames, Code.isFrame]
theorem Room.make {k : Nat} {A : Around} (r : Room (k + 1) A) (C : Addr) (us : List Value) (kw : List (Str × Value)) : Room k (A.under (.builtin "type.__call__" ⟨.ref C :: us, kw⟩)) :=
  ⟨r.hd, by have := r.dp; rw [make_depth]; omega, by have := r.un; rw [make_units]; omega⟩
theorem Room.depth {k : Nat} {A : Around} (r : Room k A) : A.depth < recursionLimit := by have := r.dp; omega
theorem Room.units {k : Nat} {A : Around} (r : Room k A) : A.units + 64 < cLine := by have := r.un; omega

/-! ### argument lists and displays -/
def tNil : TA := fun _ H Q => Q [] H
def tCons (ta : TE) (tr : TA) : TA := fun σ H Q => ta σ H fun x H1 => tr σ H1 fun xs H2 => Q (x :: xs) H2
section
variable {X : Cx} {e : Expr} {es : List Expr} {te : TE} {t : TA} {pos : Pos}
theorem pa_nil : PA X [] tNil := fun _ _ _ _ H Q I h => Calls.spliced_nil ⟨[], H, I, .nil, h⟩
theorem pa_cons (ha : PE X e te) (hr : PA X es t) (hs : starEach (e :: es) X.env = (false, eval e X.env) :: starEach es X.env := by rfl) : PA X (e :: es) (tCons te t) := by
  intro pos pins s σ H Q I h
  rw [hs]
  show wpAny _ _ (spliced ((false, eval e X.env) :: backTo pos (starEach es X.env))) _ _ s
  refine Calls.spliced_cons (thn (ha pins s σ H _ I h) fun u s1 ⟨x, H1, I1, r1, q1⟩ => ?_)
  exact thn (hr pos pins s1 σ H1 _ I1 q1) fun us s2 ⟨xs, H2, I2, r2, q2⟩ => ⟨x :: xs, H2, I2, .cons r1 r2, q2⟩

/-- a tuple, a list of written items -/
def tTup (t : TA) : TE := fun σ H Q => t σ H fun xs H1 => xs.length ≤ sizeLine ∧ ∀ p, H1 p = none → Q (.ref p) (upd H1 p (.tup xs))
def tLst (t : TA) : TE := fun σ H Q => t σ H fun xs H1 => xs.length ≤ sizeLine ∧ ∀ p, H1 p = none → Q (.ref p) (upd H1 p (.lst xs))
theorem pe_tup {x1} (h : PA X es t) : PE X (.Tuple es x1 pos) (tTup t) := by
  intro pins s σ H Q I hq
  refine wpAny_Tuple_spliced (thn (h pos pins s σ H _ I hq) fun us s1 ⟨xs, H1, I1, r, z, q⟩ => ⟨by rw [← r.length]; exact z, ?_⟩)
  have hf : H1 s1.heap.objs.size = none := I1.hok.fresh (Nat.le_refl _)
  refine ⟨.ref s1.heap.objs.size, upd H1 s1.heap.objs.size (.tup xs), I1.laid (t' := s1.toks) (fun b u e => Heap.get?_push_of_some _ e) (Nat.le_refl _) ?_, rfl, q _ hf⟩
  exact ⟨z, us, r, ⟨_, Heap.get?_push_size _ rfl, rfl, _, rfl⟩⟩
theorem pe_lst (h : PA X es t) : PE X (.List es pos) (tLst t) := by
  intro pins s σ H Q I hq
  refine wpAny_List_spliced (thn (h pos pins s σ H _ I hq) fun us s1 ⟨xs, H1, I1, r, z, q⟩ => ⟨by rw [← r.length]; exact z, ?_⟩)
  have hf : H1 s1.heap.objs.size = none := I1.hok.fresh (Nat.le_refl _)
  refine ⟨.ref s1.heap.objs.size, upd H1 s1.heap.objs.size (.lst xs), I1.laid (t' := s1.toks) (fun b u e => Heap.get?_push_of_some _ e) (Nat.le_refl _) ?_, rfl, q _ hf⟩
  exact ⟨z, us, 0, r, Heap.get?_push_size _ rfl⟩
end

/-! ### what a def promises -/
/-- a def's promise: the bound arguments in the parameters' order, the heap, the wanted end, the wanted exception -/
abbrev Sp := List V → Hp → VK → XK → Prop
/-- how an exception lies behind a call (file 08 gives it): the callers' frames, abstract heap and state ahead of the call, the wish, the exception, the state -/
abbrev CXT := List Env → Hp → Shared → XK → Value → Shared → Prop

/-- the state at a call -/
structure Env0 (P : Program) (w : World) (K : PySem.W.Frag) (mg : Str → Option Value) (base : Heap) (A : Around) (outer : List Env) (s : Shared) (H : Hp) : Prop where
  frames : A.frames = some outer
  mod : Mod K mg base
  bs : ∀ b o, base.get? b = some o → s.heap.get? b = some o ∧ H b = none
  bsz : base.objs.size ≤ s.heap.objs.size
  funs : s.heap.FunFrames base outer
  frf : ∀ b ∈ frs outer, H b = none
  hok : HOk P w H s.heap
  bare : AllBare s.gens
/-- a call's end -/
def CE (outer : List Env) (P : Program) (w : World) (H : Hp) (s : Shared) (Q : VK) (u : Value) (s' : Shared) : Prop :=
  ∃ v H', s'.os = s.os ∧ AllBare s'.gens ∧ Un (frs outer) [] H H' s.heap s'.heap ∧ HOk P w H' s'.heap ∧ RelV v u ∧ Q v H'
def CR (CX : CXT) (outer : List Env) (P : Program) (w : World) (H : Hp) (s : Shared) (Q : VK) (E : XK) (r : Result) (s' : Shared) : Prop :=
  match r with
  | .ok (.ret u) => CE outer P w H s Q u s'
  | .ok _ => False
  | .error e => CX outer H s E e s'
structure FnOk (P : Program) (w : World) (K : PySem.W.Frag) (mg : Str → Option Value) (base : Heap) (CX : CXT) (k : Nat) (f : Addr) (fd : FuncData) (ps : List Str) (sp : Sp) : Prop where
  len : ∀ vs H Q E, sp vs H Q E → vs.length = ps.length
  run : ∀ (A : Around) (outer : List Env) (s : Shared) (H : Hp) (args : Args) (us : List Value) (vs : List V) (Q : VK) (E : XK), Room k A → Env0 P w K mg base A outer s H → BindsTo s fd args (ps.zip us) → Vals vs us → sp vs H Q E →
    codeAny (model P w) A (.call (.ref f) args) (CR CX outer P w H s Q E) s
theorem FnOk.mono {P : Program} {w : World} {K : PySem.W.Frag} {mg : Str → Option Value} {base : Heap} {CX : CXT} {j k : Nat} {f : Addr} {fd : FuncData} {ps : List Str} {sp : Sp} (F : FnOk P w K mg base CX j f fd ps sp) (h : j ≤ k) :
    FnOk P w K mg base CX k f fd ps sp := ⟨F.len, fun A outer s H args us vs Q E hr => F.run A outer s H args us vs Q E (hr.mono h)⟩

theorem Env0.make {P : Program} {w : World} {K : PySem.W.Frag} {mg : Str → Option Value} {base : Heap} {A : Around} {outer : List Env} {s : Shared} {H : Hp} (e : Env0 P w K mg base A outer s H) (C : Addr) (us : List Value) (kw : List (Str × Value)) :
    Env0 P w K mg base (A.under (.builtin "type.__call__" ⟨.ref C :: us, kw⟩)) outer s H := ⟨by first | exact e.frames | (simpa [Around.under, Code.envs, Code.isFrame, pushEnvs] using e.frames), e.mod, e.bs, e.bsz, e.funs, e.frf, e.hok, e.bare⟩

section
variable {X : Cx} {pins : List (Addr × Obj)} {σ : St} {H : Hp} {s s' : Shared}
/-- from a body: what a callee wants -/
theorem Inv.env0 (I : Inv X pins σ H s) : Env0 X.prog X.w X.K X.mg X.base X.A X.stack s H :=
  ⟨I.ok.frames, I.ok.mod, I.bs, Nat.le_trans I.ok.bsz I.sz, I.stack, I.stkFree, I.hok, I.bare⟩
/-- behind a call -/
theorem Inv.after {Q : VK} {u : Value} (I : Inv X pins σ H s) (h : CE X.stack X.prog X.w H s Q u s') : EP X pins σ Q u s' := by
  obtain ⟨v, H', os, bare, un, hok, r, q⟩ := h
  obtain ⟨hh, g, d, t, os'⟩ := s'
  obtain rfl : os' = s.os := os
  exact ⟨v, H', I.call (h' := hh) (g' := g) (d' := d) (t' := t) (ch := []) un hok bare (fun b z => absurd z (by simp)), r, q⟩
end

/-! ### calls -/
/-- f(..): the written arguments, then the defaults dvs; E: what is wanted of an exception -/
def tCall (sp : Sp) (dvs : List V) (E : XK) (t : TA) : TE := fun σ H Q => t σ H fun vs H1 => sp (vs ++ dvs) H1 Q E
/-- o.m(..) of an instance of the class at C -/
def tMeth (C : Addr) (m : Str) (sp : Sp) (dvs : List V) (E : XK) (ta : TE) (t : TA) : TE := fun σ H Q => ta σ H fun x H1 => ∃ a dx fs, x = .ref a ∧ H1 a = some (.ins C dx fs) ∧ fs.lookup m = none ∧
  t σ H1 fun vs H2 => sp (x :: (vs ++ dvs)) H2 Q E
/-- C(..): a new instance and its dict, then __init__ -/
def tMake (C : Addr) (sp : Sp) (dvs : List V) (E : XK) (t : TA) : TE := fun σ H Q => t σ H fun vs H1 => ∀ x dx, H1 x = none → H1 dx = none → dx ≠ x →
  sp (.ref x :: (vs ++ dvs)) (upd (upd H1 dx (.own x)) x (.ins C dx [])) (fun v H2 => v = .non ∧ Q (.ref x) H2) E

/-- how the parameters are bound: us the positional arguments, kw the keywords' values by name, ds the defaults that fill up -/
def Binds (K : PySem.W.Frag) (fd : FuncData) (ps : List Str) (ds : List Value) : Prop :=
  ∀ (s : Shared) (us : List Value), K.In s.heap → (us ++ ds).length = ps.length → BindsTo s fd ⟨us, []⟩ (ps.zip (us ++ ds))
/-- every parameter is given -/
theorem Binds.all {K : PySem.W.Frag} {fd : FuncData} {ps : List Str} (h : ∀ us : List Value, us.length = ps.length → bindArgs fd ⟨us, []⟩ = pure (ps.zip us)) : Binds K fd ps [] := fun s us _ hl => by
  rw [List.append_nil] at hl ⊢
  exact .of_eq (h us hl)

/-- an exception of a callee reaches what this body wants of exceptions -/
def Passes (CX : CXT) (X : Cx) (E : XK) : Prop := ∀ (pins : List (Addr × Obj)) (σ : St) (H : Hp) (s : Shared) (e : Value) (s' : Shared), Inv X pins σ H s → CX X.stack H s E e s' → X.xe e s'

section
variable {X : Cx} {CX : CXT} {k : Nat} {f C : Addr} {fd : FuncData} {ps : List Str} {sp : Sp} {dvs : List V} {ds : List Value} {E : XK} {x m : Str} {p pos apos : Pos} {e o : Expr} {es : List Expr} {ta : TE} {t : TA}

/-- the callee runs -/
theorem run_fn {pins : List (Addr × Obj)} {σ : St} {H : Hp} {s : Shared} {Q : VK} {us : List Value} {vs : List V} (F : FnOk X.prog X.w X.K X.mg X.base CX k f fd ps sp) (hr : Room k X.A) (hb : Binds X.K fd ps ds) (hd : Vals dvs ds) (hx : Passes CX X E)
    (I : Inv X pins σ H s) (r : Vals vs us) (h : sp (vs ++ dvs) H Q E) : wpAny (model X.prog X.w) X.A (call (.ref f) us) (EP X pins σ Q) X.xe s := by
  have r2 : Vals (vs ++ dvs) (us ++ ds) := r.append hd
  have hl : (us ++ ds).length = ps.length := by rw [← r2.length]; exact F.len _ _ _ _ h
  refine wpAny_call (codeAny_mono (F.run X.A X.stack s H ⟨us, []⟩ (us ++ ds) (vs ++ dvs) Q E hr I.env0 (hb s us I.kIn hl) r2 h) fun r s' hq => ?_)
  cases r with
  | error e => exact hx pins σ H s e s' I hq
  | ok fl =>
    cases fl with
    | ret u => exact I.after hq
    | next => exact False.elim hq
    | brk => exact False.elim hq
    | cont => exact False.elim hq

theorem pe_call (F : FnOk X.prog X.w X.K X.mg X.base CX k f fd ps sp) (hr : Room k X.A) (hg : Gl X x) (hm : X.mg x = some (.ref f)) (hk : PySem.W.keepIn X.K (.ref f) = true) (hb : Binds X.K fd ps ds) (hd : Vals dvs ds) (hx : Passes CX X E)
    (ha : PA X (e :: es) t) (hdb : (x == ("__debug__" : Str)) = false := by decide) (he : starEach (e :: es) X.env = (false, eval e X.env) :: starEach es X.env := by rfl) (hpl : (backTo pos (starEach es X.env)).any (·.1) = false := by rfl) :
    PE X (.Call (.Name x p) (e :: es) [] pos) (tCall sp dvs E t) := by
  intro pins s σ H Q I h
  refine wpAny_Call_Name_kw (ld_glob I hg hm ?_ hdb)
  refine PySem.W.callWith_K (h₀ := X.base) I.ok.mod.kin hk (thn (ha pos pins s σ H _ I h) fun us s1 ⟨vs, H1, I1, r, q⟩ => ⟨I1.kIn, ?_⟩) he hpl
  exact run_fn F hr hb hd hx I1 r q


/-- what a class must have to be made -/
structure Mk (K : PySem.W.Frag) (C f : Addr) : Prop where
  makes : PySem.W.makesIn K C = true
  init : PySem.W.findIn K (.ref C) "__init__" = some (some (.ref f))
  fn : PySem.W.isFn K (.ref f) = true
  kp : PySem.W.keepIn K (.ref C) = true

theorem run_make {pins : List (Addr × Obj)} {σ : St} {H : Hp} {s : Shared} {Q : VK} {us : List Value} {vs : List V} (M : Mk X.K C f) (F : FnOk X.prog X.w X.K X.mg X.base CX k f fd ps sp) (hr : Room (k + 1) X.A) (hb : Binds X.K fd ps ds) (hd : Vals dvs ds)
    (hx : Passes CX X E) (I : Inv X pins σ H s) (r : Vals vs us)
    (h : ∀ x dx, H x = none → H dx = none → dx ≠ x → sp (.ref x :: (vs ++ dvs)) (upd (upd H dx (.own x)) x (.ins C dx [])) (fun v H2 => v = .non ∧ Q (.ref x) H2) E) :
    wpAny (model X.prog X.w) X.A (call (.ref C) us) (EP X pins σ Q) X.xe s := by
  have hq := h (s.heap.objs.size + 1) s.heap.objs.size (I.hok.fresh (Nat.le_succ _)) (I.hok.fresh (Nat.le_refl _)) (Nat.ne_of_lt (Nat.lt_succ_self _))
  have I2 := Inv.made (C := C) I
  have r2 : Vals (V.ref (s.heap.objs.size + 1) :: (vs ++ dvs)) (Value.ref (s.heap.objs.size + 1) :: (us ++ ds)) := .cons rfl (r.append hd)
  have hl : (Value.ref (s.heap.objs.size + 1) :: us ++ ds).length = ps.length := by
    have e := r2.length
    rw [F.len _ _ _ _ hq] at e
    exact e.symm
  refine wpAny_call (make_map (f := f) I.kIn M.makes M.init (beq_iff_eq.mp M.fn) (codeAny_mono (F.run _ X.stack _ _ ⟨Value.ref (s.heap.objs.size + 1) :: us, []⟩ (Value.ref (s.heap.objs.size + 1) :: (us ++ ds)) _ _ E (hr.make C us [])
    (I2.env0.make C us []) (hb _ (Value.ref (s.heap.objs.size + 1) :: us) I2.kIn hl) r2 hq) fun r s' hq' => ?_))
  cases r with
  | error e => exact hx pins σ _ _ e s' I2 hq'
  | ok fl =>
    cases fl with
    | ret u =>
      obtain ⟨v, H', I3, rv, ev, q3⟩ := I2.after hq'
      subst ev
      exact ⟨rv, ⟨V.ref (s.heap.objs.size + 1), H', I3, rfl, q3⟩⟩
    | next => exact False.elim hq'
    | brk => exact False.elim hq'
    | cont => exact False.elim hq'
theorem pe_make0 (M : Mk X.K C f) (F : FnOk X.prog X.w X.K X.mg X.base CX k f fd ps sp) (hr : Room (k + 1) X.A) (hg : Gl X x) (hm : X.mg x = some (.ref C)) (hb : Binds X.K fd ps ds) (hd : Vals dvs ds) (hx : Passes CX X E)
    (hdb : (x == ("__debug__" : Str)) = false := by decide) : PE X (.Call (.Name x p) [] [] pos) (tMake C sp dvs E tNil) := by
  intro pins s σ H Q I h
  refine wpAny_Call_Name_kw (ld_glob I hg hm ?_ hdb)
  exact PySem.W.callWith_K0 I.kIn M.kp (run_make (us := []) M F hr hb hd hx I .nil h)
end

/-! ### keywords -/
section
variable {X : Cx} {CX : CXT} {k : Nat} {f C : Addr} {fd : FuncData} {ps ks : List Str} {sp : Sp} {E : XK} {x m : Str} {p pos apos kpos : Pos} {e o : Expr} {es : List Expr} {kws : List Keyword} {te ta : TE} {t tk : TA} {nm : Option Str}

variable {g : List Value → List Value → List Value} {gV : List V → List V → List V}
end

/-! ### a def's body keeps its promise -/
/-- names: the parameters first -/
structure FnScope (N P : List Str) (sc : Scope) : Prop where
  kind : sc.kind = .function
  co : sc.isCoroutine = false
  gen : sc.isGenerator = false
  nd : N.Nodup
  pre : N.take P.length = P
  par : ∀ x ∈ P, sc.names.lookup x = some .local ∨ sc.names.lookup x = some .cell
  nofree : ∀ y ∈ sc.names, y.2 ≠ .free

theorem bindL_out {kindOf : Str → Option NameKind} {x : Str} : ∀ {binds : List (Str × Value)} {m : Str → Option Value}, (∀ v, (x, v) ∉ binds) → bindL kindOf binds m x = m x
  | [], _, _ => rfl
  | (n, v) :: r, m, h => by
    unfold bindL
    rw [bindL_out fun w hw => h w (List.mem_cons_of_mem _ hw)]
    split
    · have : x ≠ n := by rintro rfl; exact h v List.mem_cons_self
      simp [this]
    · rfl
theorem bindC_out {kindOf : Str → Option NameKind} {x : Str} : ∀ {binds : List (Str × Value)} {m : Str → Option Value}, (∀ v, (x, v) ∉ binds) → bindC kindOf binds m x = m x
  | [], _, _ => rfl
  | (n, v) :: r, m, h => by
    unfold bindC
    rw [bindC_out fun w hw => h w (List.mem_cons_of_mem _ hw)]
    split
    · rfl
    · have : x ≠ n := by rintro rfl; exact h v List.mem_cons_self
      simp [this]
theorem bindL_get {kindOf : Str → Option NameKind} {x : Str} {v : Value} : ∀ {P : List Str} {vs : List Value} {i : Nat} {m : Str → Option Value}, P.Nodup → P[i]? = some x → vs[i]? = some v → kindOf x = some .local →
    bindL kindOf (P.zip vs) m x = some v
  | [], _, _, _, _, h, _, _ => by simp at h
  | _ :: _, [], _, _, _, _, h, _ => by simp at h
  | p :: P, w :: vs, 0, m, nd, h1, h2, hk => by
    simp at h1 h2; subst h1; subst h2
    show bindL kindOf ((p, w) :: P.zip vs) m p = _
    unfold bindL
    rw [bindL_out fun v hv => (List.nodup_cons.mp nd).1 (List.of_mem_zip hv).1, if_pos hk]
    simp
  | p :: P, w :: vs, i + 1, m, nd, h1, h2, hk => by
    show bindL kindOf ((p, w) :: P.zip vs) m x = _
    unfold bindL
    exact bindL_get (i := i) (List.nodup_cons.mp nd).2 (by simpa using h1) (by simpa using h2) hk
theorem bindC_get {kindOf : Str → Option NameKind} {x : Str} {v : Value} : ∀ {P : List Str} {vs : List Value} {i : Nat} {m : Str → Option Value}, P.Nodup → P[i]? = some x → vs[i]? = some v → kindOf x ≠ some .local →
    bindC kindOf (P.zip vs) m x = some v
  | [], _, _, _, _, h, _, _ => by simp at h
  | _ :: _, [], _, _, _, _, h, _ => by simp at h
  | p :: P, w :: vs, 0, m, nd, h1, h2, hk => by
    simp at h1 h2; subst h1; subst h2
    show bindC kindOf ((p, w) :: P.zip vs) m p = _
    unfold bindC
    rw [bindC_out fun v hv => (List.nodup_cons.mp nd).1 (List.of_mem_zip hv).1, if_neg hk]
    simp
  | p :: P, w :: vs, i + 1, m, nd, h1, h2, hk => by
    show bindC kindOf ((p, w) :: P.zip vs) m x = _
    unfold bindC
    exact bindC_get (i := i) (List.nodup_cons.mp nd).2 (by simpa using h1) (by simpa using h2) hk

/-- the names' values at the entry -/
def start (N : List Str) (vs : List V) : St := vs.map some ++ List.replicate (N.length - vs.length) none

/-- the context of a def's body, at its entry; an exception leaves the frame, then lies as CX says -/
def cxOf (CX : CXT) (P : Program) (w : World) (K : PySem.W.Frag) (mg : Str → Option Value) (base : Heap) (N : List Str) (qual : Str) (scope : Scope) (f : Addr) (cd : Value) (A : Around) (outer : List Env) (s : Shared) (H : Hp) (E : XK) : Cx where
  prog := P
  w := w
  K := K
  mg := mg
  base := base
  A := A.deeper (envOfC qual scope s.heap.objs.size f cd)
  N := N
  s₀ := s
  H₀ := H
  env := envOfC qual scope s.heap.objs.size f cd
  outer := outer
  stack := envOfC qual scope s.heap.objs.size f cd :: outer
  ex := []
  calm := true
  fn := fun _ => true
  pn := []
  xe := fun e s' => wpAny (model P w) (A.deeper (envOfC qual scope s.heap.objs.size f cd)) (leaving (envOfC qual scope s.heap.objs.size f cd) e) (fun _ s'' => CX outer H s E e s'') (fun e' s'' => CX outer H s E e' s'') s'

theorem cell_has {sc : Scope} {n : Nat} {x : Str} (h : sc.names.lookup x = some .cell) : ∃ c, (cellsFrom n sc.names []).lookup x = some c := by
  have q := PySem.W.cellsFrom_some sc.names n [] (.inl h)
  exact Option.isSome_iff_exists.mp q

theorem inv_start {CX : CXT} {P : Program} {w : World} {K : PySem.W.Frag} {mg : Str → Option Value} {base : Heap} {N ps : List Str} {qual : Str} {scope : Scope} {f : Addr} {cd : Value} {A : Around} {outer : List Env} {s s1 : Shared} {H : Hp} {E : XK} {us : List Value} {vs : List V}
    (S : FnScope N ps scope) (hd : A.handled = none) (e0 : Env0 P w K mg base A outer s H) (hl : vs.length = ps.length) (r : Vals vs us)
    (x : InCallC s s.heap.objs.size (bindL (envOfC qual scope s.heap.objs.size f cd).kindOf (ps.zip us) fun _ => none) (cellsFrom (s.heap.objs.size + 1) scope.names []) (bindC (envOfC qual scope s.heap.objs.size f cd).kindOf (ps.zip us) fun _ => none) s1) :
    Inv (cxOf CX P w K mg base N qual scope f cd A outer s H E) [] (start N vs) H s1 := by
  have hpl : ps.length ≤ N.length := by have := congrArg List.length S.pre; rw [List.length_take] at this; omega
  obtain ⟨h1, tk, rfl, hk⟩ := x.done
  have noA : ∀ b : Addr, b ∉ (cxOf CX P w K mg base N qual scope f cd A outer s H E).ex := fun b z => absurd (show b ∈ ([] : List Addr) from z) (by simp)
  refine ⟨⟨e0.mod, S.kind, rfl, rfl, Nat.le_refl _, fun y z c h1 h2 => ?_, fun y hy => ?_, fun y c _ h => ?_, fun _ => hd, Around.frames_deeper e0.frames, .inr ⟨rfl, rfl⟩, fun b z => absurd z (noA b), e0.bs, e0.bsz, fun b _ _ => noA b, fun b z => absurd z (noA b), e0.funs, e0.frf⟩,
    rfl, e0.bare, Un.kept hk, ⟨_, x.toInCall.ns, fun i y v h1 h2 h3 => ?_⟩, fun y c h => ⟨_, x.cell y c h⟩, e0.hok.fresh (Nat.le_refl _), fun y c h => ?_, fun p hp => absurd (show p ∈ ([] : List (Addr × Obj)) from hp) (by simp), e0.hok.kept hk, ?_⟩
  · exact name_of_addr x.apart (PySem.mem_of_lookup h1) (PySem.mem_of_lookup h2)
  · have hy : scope.names.lookup y = some .cell ∨ scope.names.lookup y = some .free := hy
    rcases hy with hy | hy
    · exact cell_has hy
    · exact absurd rfl (S.nofree _ (PySem.mem_of_lookup hy))
  · exact Nat.le_of_lt (x.above y c (PySem.mem_of_lookup h))
  · have hi : i < vs.length := by
      unfold start at h2
      by_cases hi : i < vs.length
      · exact hi
      · rw [List.getElem?_append_right (by simpa using hi)] at h2
        rw [List.getElem?_replicate] at h2
        split at h2 <;> cases h2
    have ha : vs[i]? = some v := by
      unfold start at h2
      rw [List.getElem?_append_left (by simpa using hi), List.getElem?_map] at h2
      cases e : vs[i]? with
      | none => rw [e] at h2; cases h2
      | some a => rw [e] at h2; cases h2; rfl
    obtain ⟨u, hu, rv⟩ := r.get ha
    have hp : ps[i]? = some y := by
      rw [← S.pre, List.getElem?_take_of_lt (by omega)]; exact h1
    have ndP : ps.Nodup := by rw [← S.pre]; exact S.nd.sublist (List.take_sublist _ _)
    refine ⟨u, rv, ?_⟩
    rcases S.par y (List.mem_of_getElem? hp) with k | k
    · exact .inl ⟨k, bindL_get ndP hp hu k⟩
    · obtain ⟨c, e⟩ := cell_has (n := s.heap.objs.size + 1) k
      refine .inr ⟨.inl k, c, e, ?_⟩
      have q := x.cell y c e
      rw [bindC_get ndP hp hu (by show scope.names.lookup y ≠ _; rw [k]; decide)] at q
      exact q
  · exact e0.hok.fresh (Nat.le_of_lt (x.above y c (PySem.mem_of_lookup h)))
  · unfold start
    show _ = N.length
    rw [List.length_append, List.length_map, List.length_replicate]
    omega

/-- THE RULE: a def (or a method) of the text, by its body. The body's reading t is chosen for each entry; it is run at the parameters' values -/
theorem fn_of {CX : CXT} {P : Program} {w : World} {K : PySem.W.Frag} {mg : Str → Option Value} {base : Heap} {k : Nat} {f : Addr} {name qual : Str} {params : Arguments} {body : List Stmt} {scope : Scope} {dV kV doc pm cdv ct oc : Value} {an od : Option Addr}
    {osl : Array (Option Value)} {N ps : List Str} {sp : Sp} (lk : K.lookup f = some ⟨oc, od, .func (PySem.W.fnOf name qual params body scope dV kV doc pm an cdv ct), osl⟩) (hcd : PySem.W.codeIn K cdv qual = true) (S : FnScope N ps scope)
    (len : ∀ vs H Q E, sp vs H Q E → vs.length = ps.length)
    (hbody : ∀ (A : Around) (outer : List Env) (s : Shared) (H : Hp) (vs : List V) (Q : VK) (E : XK), Room k (A.deeper (envOfC qual scope s.heap.objs.size f cdv)) → sp vs H Q E →
      ∃ t, PSs (cxOf CX P w K mg base N qual scope f cdv A outer s H E) body t ∧ t { nx := fun _ H' => Q .non H', rt := Q } (start N vs) H) :
    FnOk P w K mg base CX (k + 1) f (PySem.W.fnOf name qual params body scope dV kV doc pm an cdv ct) ps sp := by
  refine ⟨len, fun A outer s H args us vs Q E hr e0 hb r hsp => ?_⟩
  have hl := len _ _ _ _ hsp
  have KX : K.In s.heap := e0.mod.kin.keeps fun b o e => (e0.bs b o e).1
  have lim : s.heap.NoLimit := e0.mod.nolimit.keeps fun b o e => (e0.bs b o e).1
  have hkind : ∀ y ∈ ps.zip us, scope.names.lookup y.1 = some .local ∨ (scope.names.lookup y.1 = some .cell ∧ ((cellsFrom (s.heap.objs.size + 1) scope.names []).lookup y.1).isSome = true) := fun ⟨n, v⟩ hy => by
    rcases S.par n (List.of_mem_zip hy).1 with q | q
    · exact .inl q
    · exact .inr ⟨q, PySem.W.cellsFrom_some _ _ _ (.inl q)⟩
  refine codeAny_call_function hr.depth (KX _ _ lk) rfl S.co S.gen rfl (PySem.W.codeRec_of KX hcd) (hb _ _ _ _ ?_)
  refine wpAny_newFunctionEnv_cells S.kind hkind fun env he s1 x => ?_
  subst he
  refine ⟨lim.keeps x.toInCall.keep, codeAny_func ?_⟩
  obtain ⟨t, ht, hq⟩ := hbody A outer s H vs Q E (hr.deeper _) hsp
  have I : Inv (cxOf CX P w K mg base N qual scope f cdv A outer s H E) [] (start N vs) H s1 := inv_start S hr.hd e0 hl r x
  refine wpAny_mono (ht [] s1 (start N vs) H _ I hq) (fun fl s' hs => ?_) fun e s' hs => hs
  have fin : ∀ {σ' : St} {H' : Hp} {v : V} {u : Value}, Inv (cxOf CX P w K mg base N qual scope f cdv A outer s H E) [] σ' H' s' → RelV v u → Q v H' → CE outer P w H s Q u s' :=
    fun {σ' H' v u} J rv q => ⟨v, H', J.os, J.bare, J.base, J.hok, rv, q⟩
  cases fl with
  | ret u =>
    obtain ⟨v, σ', H', J, rv, q⟩ := hs
    exact fin J rv q
  | next =>
    obtain ⟨σ', H', J, q⟩ := hs
    exact fin (v := V.non) (u := Value.none) J rfl q
  | brk =>
    obtain ⟨_, _, _, q⟩ := hs
    exact False.elim q
  | cont =>
    obtain ⟨_, _, _, q⟩ := hs
    exact False.elim q
end L2

namespace L2
open PySem PySem.Spec PyProof.Rows
section
variable {X : Cx} {x : Str} {p pos : Pos} {e : Expr} {es : List Expr} {t : TA} {id T : String} {r : List V → Hp → VK → Prop}

def tCB (r : List V → Hp → VK → Prop) (t : TA) : TE := fun σ H Q => t σ H fun vs H1 => r vs H1 Q
/-- f(e, ..), f a built-in function -/
theorem pe_callB (hc : CallR X (.builtin id) r) (hg : Gl X x) (hm : X.mg x = none) (hv : bootBuiltins x = some (.builtin id)) (ha : PA X (e :: es) t) (hn : x ≠ "__name__" := by decide) (hdb : (x == ("__debug__" : Str)) = false := by decide)
    (he : starEach (e :: es) X.env = (false, eval e X.env) :: starEach es X.env := by rfl) (hpl : (backTo pos (starEach es X.env)).any (·.1) = false := by rfl) : PE X (.Call (.Name x p) (e :: es) [] pos) (tCB r t) := by
  intro pins s σ H Q I h
  refine wpAny_Call_Name_kw (ld_blt I hg hm hv ?_ hn hdb)
  exact PyProof.Rows.callWith_builtin1 (thn (ha pos pins s σ H _ I h) fun us s1 ⟨vs, H1, I1, r1, q1⟩ => hc pins s1 σ H1 vs us Q I1 r1 q1) he hpl
/-- T(e, ..), T a built-in type -/
theorem pe_callTy (hc : CallR X (.type T) r) (hg : Gl X x) (hm : X.mg x = none) (hv : bootBuiltins x = some (.type T)) (ha : PA X (e :: es) t) (hn : x ≠ "__name__" := by decide) (hdb : (x == ("__debug__" : Str)) = false := by decide)
    (he : starEach (e :: es) X.env = (false, eval e X.env) :: starEach es X.env := by rfl) (hpl : (backTo pos (starEach es X.env)).any (·.1) = false := by rfl) : PE X (.Call (.Name x p) (e :: es) [] pos) (tCB r t) := by
  intro pins s σ H Q I h
  refine wpAny_Call_Name_kw (ld_blt I hg hm hv ?_ hn hdb)
  exact PyProof.Rows.callWith_type1 (thn (ha pos pins s σ H _ I h) fun us s1 ⟨vs, H1, I1, r1, q1⟩ => hc pins s1 σ H1 vs us Q I1 r1 q1) he hpl
end
end L2

namespace HT
open PySem PyProof.Rows



section
open PySem.SeqAt
open PySem.AutoSeq1 (wpAny_loadPart')
open PySem.MeetsSeq PySem.MeetsSeq2 PySem.MeetsSeq3

end

section
variable {prog : Program} {w : World} {A : Around} {E : Value → Shared → Prop} {s : Shared}


/-- t + u, t not empty -/
theorem cat_tup {t b : Addr} {vs ws : List Value} {Q : Value → Shared → Prop} (ht : IsTup s.heap t vs.toArray) (hb : IsTup s.heap b ws.toArray) (hv : vs ≠ [])
    (h1 : ws = [] → Q (.ref t) s) (h2 : ws ≠ [] → Q (.ref s.heap.objs.size) { s with heap := s.heap.push { cls := .type "tuple", data := .seq (vs ++ ws).toArray } })
    (hsz : vs.length + ws.length ≤ sizeLine) : wpAny (model prog w) A (binaryOp .Add (.ref t) (.ref b)) Q E s := by
  obtain ⟨⟨cls, dd, data, sl⟩, ho, hc, n, hd⟩ := id ht
  obtain ⟨⟨cls2, dd2, data2, sl2⟩, ho2, hc2, n2, hd2⟩ := id hb
  simp only at hc hd hc2 hd2
  subst hc hd hc2 hd2
  have e : vs.toArray ++ ws.toArray = (vs ++ ws).toArray := by simp
  by_cases hw : ws = []
  · exact concat_meets ⟨_, ho, rfl⟩ ⟨_, ho2, rfl⟩ noFill_tuple_add seq_tuple_add PySem.F.slot_tuple_add PySem.F.entry_tuple_add (PySem.F.args_tuple_add_2 _ _)
      (tuple_addW1 t b vs.toArray ws.toArray n n2 dd dd2 sl sl2 (by simpa using hv) (by simp [hw])) ⟨ho, ho2, h1 hw⟩
  · refine concat_meets ⟨_, ho, rfl⟩ ⟨_, ho2, rfl⟩ noFill_tuple_add seq_tuple_add PySem.F.slot_tuple_add PySem.F.entry_tuple_add (PySem.F.args_tuple_add_2 _ _)
      (tuple_addW2 t b vs.toArray ws.toArray n n2 dd dd2 sl sl2 (by simpa using hv) (by simpa using hw) (by rw [List.size_toArray, List.size_toArray]; exact hsz)) ⟨ho, ho2, ?_⟩
    rw [e]
    exact h2 hw

/-! ### t[a:b], not the whole -/
/-- a slice's bound as a place among n (d where it is left out) -/
def sIx (n d : Nat) : Option Int → Nat
  | none => d
  | some v => if v < 0 then (v + (n : Int)).toNat else min v.toNat n
theorem sIx_nat (n d k : Nat) : sIx n d (some (k : Int)) = min k n := by
  show (if (k : Int) < 0 then ((k : Int) + (n : Int)).toNat else min (k : Int).toNat n) = min k n
  rw [if_neg (by omega), Int.toNat_natCast]
theorem sIx_le (n d : Nat) (hd : d ≤ n) (o : Option Int) : sIx n d o ≤ n := by
  cases o with
  | none => exact hd
  | some v =>
    show (if v < 0 then (v + (n : Int)).toNat else min v.toNat n) ≤ n
    by_cases hv : v < 0
    · rw [if_pos hv]; omega
    · rw [if_neg hv]; exact Nat.min_le_right _ _
theorem clip_eq (v : Int) (n d : Nat) : (if v < 0 then max (v + (n : Int)) 0 else min v (n : Int)) = ((sIx n d (some v) : Nat) : Int) := by
  show (if v < 0 then max (v + (n : Int)) 0 else min v (n : Int)) = (((if v < 0 then (v + (n : Int)).toNat else min v.toNat n) : Nat) : Int)
  by_cases hv : v < 0
  · simp only [if_pos hv]; omega
  · simp only [if_neg hv]; omega
theorem adjust_gen (lo hi : Option Int) (n : Nat) : Builtin.Slice.sliceAdjust lo hi 1 (n : Int) = (((sIx n 0 lo : Nat) : Int), ((sIx n n hi : Nat) : Int)) := by
  have h1 : ¬ ((1 : Int) < 0) := by omega
  unfold Builtin.Slice.sliceAdjust
  simp only [h1, if_false]
  refine Prod.ext ?_ ?_
  · cases lo with
    | none => rfl
    | some v => exact clip_eq v n 0
  · cases hi with
    | none => rfl
    | some v => exact clip_eq v n n
theorem places_gen (i j : Nat) : Builtin.Slice.slicePlaces (i : Int) (j : Int) 1 = j - i := by
  unfold Builtin.Slice.slicePlaces
  have h1 : (1 : Int) > 0 := by omega
  simp only [h1, if_true, Int.ediv_one]
  split <;> omega
theorem slicePart_ {v : Value} {o : Option Int} {Q : Option Int → Shared → Prop} (p : IsPart v o) (h : Q o s) : wpAny (model prog w) A (Builtin.Slice.slicePartIndex v) Q E s := by
  cases p with
  | none => exact slicePart_none h
  | int i t => exact slicePart_int h
theorem sliceApplied_gen {sl : Addr} {vl vu : Value} {lo hi : Option Int} {n : Nat} {Q : Int × Int × Nat → Shared → Prop} (hs : s.heap.IsSliceOf sl vl vu .none) (pl : IsPart vl lo) (pu : IsPart vu hi)
    (h : Q (((sIx n 0 lo : Nat) : Int), 1, sIx n n hi - sIx n 0 lo) s) : wpAny (model prog w) A (Builtin.Slice.sliceApplied (.ref sl) (pure (n : Int))) Q E s := by
  obtain ⟨os, hos, hcs, hds⟩ := id hs
  unfold Builtin.Slice.sliceApplied Builtin.Slice.sliceFields
  refine wpAny_bind (wpAny_bind (wpAny_field hos hds (x := vl) rfl (wpAny_bind (wpAny_field hos hds (x := vu) rfl (wpAny_bind (wpAny_field hos hds (x := .none) rfl (wpAny_pure ?_)))))))
  refine wpAny_bind (slicePart_none ?_)
  show wpAny _ _ (if ((1 : Int) == 0) = true then _ else _) _ _ s
  rw [if_neg (by decide)]
  refine wpAny_bind (slicePart_ pl (wpAny_bind (slicePart_ pu (wpAny_bind (wpAny_pure ?_)))))
  show wpAny _ _ (match Builtin.Slice.sliceAdjust lo hi 1 (n : Int) with | (lo, hi) => pure (lo, (1 : Int), Builtin.Slice.slicePlaces lo hi 1)) _ _ s
  rw [adjust_gen lo hi n]
  show wpAny _ _ (pure (((sIx n 0 lo : Nat) : Int), (1 : Int), Builtin.Slice.slicePlaces ((sIx n 0 lo : Nat) : Int) ((sIx n n hi : Nat) : Int) 1)) _ _ s
  rw [places_gen]
  exact wpAny_pure h
theorem pick_gen (xs : Array Value) (i k : Nat) : ((List.range k).filterMap fun (m : Nat) => xs[((i : Int) + (m : Int) * 1).toNat]?).toArray = ((xs.toList.drop i).take k).toArray := by
  have e : (fun (m : Nat) => xs[((i : Int) + (m : Int) * 1).toNat]?) = fun m => xs[i + m]? := by
    funext m
    have : ((i : Int) + (m : Int) * 1).toNat = i + m := by omega
    rw [this]
  rw [e]
  have := pick_run xs i k
  rw [List.filterMap_map] at this
  have e2 : ((fun x => xs[x]?) ∘ fun x => i + x) = fun m => xs[i + m]? := rfl
  rw [e2] at this
  rw [this]

theorem getItem_tuple_cut {t sl : Addr} {items : Array Value} {vl vu : Value} {lo hi : Option Int} {Q : Value → Shared → Prop} (ht : IsTup s.heap t items) (hs : s.heap.IsSliceOf sl vl vu .none) (pl : IsPart vl lo) (pu : IsPart vu hi)
    (hw : ¬ (sIx items.size 0 lo = 0 ∧ sIx items.size items.size hi = items.size))
    (h : Q (.ref s.heap.objs.size) { s with heap := s.heap.push { cls := .type "tuple", data := .seq ((items.toList.drop (sIx items.size 0 lo)).take (sIx items.size items.size hi - sIx items.size 0 lo)).toArray } })
    (hsz : items.size ≤ sizeLine) : wpAny (model prog w) A (getItem (.ref t) (.ref sl)) Q E s := by
  have htake : sizeOk (.seq ((items.toList.drop (sIx items.size 0 lo)).take (sIx items.size items.size hi - sIx items.size 0 lo)).toArray) := by
    show ((items.toList.drop (sIx items.size 0 lo)).take (sIx items.size items.size hi - sIx items.size 0 lo)).toArray.size ≤ sizeLine
    rw [List.size_toArray, List.length_take, List.length_drop, Array.length_toList]
    omega
  have hj : sIx items.size items.size hi ≤ items.size := sIx_le _ _ (Nat.le_refl _) hi
  obtain ⟨os, hos, hcs, hds⟩ := id hs
  have hTs : s.TypeIs (.ref sl) "slice" := ⟨os, hos, hcs⟩
  unfold getItem
  try with_reducible refine wpAny_holding ?_
  first | refine wpAny_bind (wpAny_pure ?_) | skip
  refine wpAny_bind (wpAny_sequenceKey ht.typeIs (by decide) ?_)
  refine wpAny_bind (wpAny_callSpecial?_slot (name := Str.ofString "__getitem__") ht.typeIs PyProof.Rows.slot_tuple_getitem
    (wpAny_call_entry PyProof.Rows.slot_tuple_getitem ht.typeIs entry_tuple_getitem ?_ (args_tuple_getitem _ _)))
  show wpAny _ _ (Builtin.Tuple.tupleItemsOf (.ref t) >>= _) _ _ s
  refine wpAny_bind (tupleItemsOf_ ht ?_)
  refine wpAny_bind (wpAny_typeOf hTs ?_)
  rw [if_pos (by decide)]
  refine wpAny_bind (sliceApplied_gen hs pl pu ?_)
  have hno : ¬ ((((sIx items.size 0 lo : Nat) : Int) == 0 && (1 : Int) == 1 && (sIx items.size items.size hi - sIx items.size 0 lo) == items.size) = true) := by
    intro q
    rw [Bool.and_eq_true, Bool.and_eq_true] at q
    have q1 : ((sIx items.size 0 lo : Nat) : Int) = 0 := eq_of_beq q.1.1
    have q2 : sIx items.size items.size hi - sIx items.size 0 lo = items.size := eq_of_beq q.2
    exact hw ⟨by omega, by omega⟩
  show wpAny _ _ (if (((sIx items.size 0 lo : Nat) : Int) == 0 && (1 : Int) == 1 && (sIx items.size items.size hi - sIx items.size 0 lo) == items.size) = true then _ else _) _ _ s
  rw [if_neg hno, pick_gen]
  first
    | exact wpAny_bind (m := Builtin.Tuple.tupleExact _) (wpAny_newObj_type (wpAny_pure ⟨_, rfl, wpAny_pure h⟩) htake)
    | exact wpAny_bind (m := Builtin.Tuple.tupleExact _) (wpAny_newObj_type (wpAny_bind (wpAny_pure (wpAny_pure ⟨_, rfl, wpAny_pure h⟩))) htake)
    | exact wpAny_bind (wpAny_bind (m := Builtin.Tuple.tupleExact _) (wpAny_newObj_type (wpAny_pure (wpAny_pure ⟨_, rfl, wpAny_pure h⟩)) htake))
    | exact wpAny_bind (wpAny_bind (m := Builtin.Tuple.tupleExact _) (wpAny_newObj_type (wpAny_pure ⟨_, rfl, wpAny_pure h⟩) htake))
end
end HT

namespace L2
open PySem PySem.Spec PyProof.Rows

/-! ### the parts of a slice -/
abbrev TO := St → Hp → (Option Int → Hp → Prop) → Prop
/-- a slice's part (left out, or an int) -/
def PO (X : Cx) (e : Option Expr) (t : TO) : Prop :=
  ∀ (pins : List (Addr × Obj)) (s : Shared) (σ : St) (H : Hp) (Q : Option Int → Hp → Prop), Inv X pins σ H s → t σ H Q →
    wpAny (model X.prog X.w) X.A (evalPart e X.env) (fun u s' => ∃ o H', Inv X pins σ H' s' ∧ IsPart u o ∧ Q o H') X.xe s
def tNoPart : TO := fun _ H Q => Q none H
def tPart (t : TE) : TO := fun σ H Q => t σ H fun x H1 => ∃ i, x = .int i ∧ Q (some i) H1

theorem intsAre_of {ns : List Int} : ∀ {us : List Value}, Vals (ns.map V.int) us → IntsAre us ns := by
  induction ns with
  | nil => intro us r; rw [List.map_nil] at r; cases r; exact .nil
  | cons n ns ih =>
    intro us r
    rw [List.map_cons] at r
    cases r with
    | cons r1 r2 =>
      obtain ⟨t, e⟩ := r1
      subst e
      exact .cons n t (ih r2)

section
variable {X : Cx} {e : Expr} {te : TE} {lo hi : Option Expr} {tl th : TO} {pos p2 : Pos}

theorem po_none : PO X none tNoPart := by
  intro pins s σ H Q I h
  rw [evalPart_none]
  exact wpAny_pure ⟨none, H, I, .none, h⟩
theorem po_some (h : PE X e te) : PO X (some e) (tPart te) := by
  intro pins s σ H Q I hw
  rw [evalPart_some]
  refine thn (h pins s σ H _ I hw) fun u s1 ⟨x, H1, I1, r1, q1⟩ => ?_
  obtain ⟨i, rfl, q⟩ := q1
  obtain ⟨t, rfl⟩ := r1
  exact ⟨some i, H1, I1, .int i t, q⟩

/-- what a slice of a value is, by values: the slice object stands at sl -/
def SlR (X : Cx) (r : V → Option Int → Option Int → Hp → VK → Prop) : Prop :=
  ∀ (pins : List (Addr × Obj)) (s : Shared) (σ : St) (H : Hp) (x : V) (v vl vu : Value) (lo hi : Option Int) (sl : Addr) (Q : VK), Inv X pins σ H s → RelV x v → s.heap.IsSliceOf sl vl vu .none → IsPart vl lo → IsPart vu hi → r x lo hi H Q →
    ∃ T id, typeLookup (.type T) "__getitem__" = pure (some (.builtin id)) ∧ s.TypeIs v T ∧ wpAny (model X.prog X.w) X.A (getItem v (.ref sl)) (EP X pins σ Q) X.xe s
def tSl (r : V → Option Int → Option Int → Hp → VK → Prop) (te : TE) (tl th : TO) : TE := fun σ H Q => te σ H fun x H1 => tl σ H1 fun l H2 => th σ H2 fun u H3 => r x l u H3 Q
/-- a[lo:hi], any a -/
theorem pe_slice {r : V → Option Int → Option Int → Hp → VK → Prop} (hr : SlR X r) (he : PE X e te) (hl : PO X lo tl) (hu : PO X hi th) : PE X (.Subscript e (.Slice lo hi none p2) pos) (tSl r te tl th) := by
  intro pins s σ H Q I h
  refine Subscript_ (thn (he pins s σ H _ I h) fun v s1 ⟨x, H1, I1, r1, q1⟩ => ?_)
  refine wpAny_Slice (thn (hl pins s1 σ H1 _ I1 q1) fun vl s2 ⟨l, H2, I2, pl, q2⟩ => thn (hu pins s2 σ H2 _ I2 q2) fun vu s3 ⟨u, H3, I3, pu, q3⟩ => ?_)
  rw [evalPart_none]
  refine wpAny_pure ?_
  have I4 : Inv X pins σ H3 { s3 with heap := s3.heap.push { cls := .type "slice", data := .fields #[vl, vu, .none] } } := I3.kept (t' := s3.toks) fun b ob q => Heap.get?_push_of_some _ q
  obtain ⟨T, id, hT, ht, hg⟩ := hr pins { s3 with heap := s3.heap.push { cls := .type "slice", data := .fields #[vl, vu, .none] } } σ H3 x v vl vu l u s3.heap.objs.size Q I4 r1 (Heap.IsSliceOf.new ..) pl pu q3
  show wpAny (model X.prog X.w) X.A (subscriptTail e (.Slice lo hi none p2) v (.ref s3.heap.objs.size)) (EP X pins σ Q) X.xe { s3 with heap := s3.heap.push { cls := .type "slice", data := .fields #[vl, vu, .none] } }
  exact tail_any (ops := [.ref s3.heap.objs.size, v]) ht hT hg (by with_unfolding_all rfl)

/-- the items of xs[lo:hi] -/
def cutV (xs : List V) (lo hi : Option Int) : List V := (xs.drop (HT.sIx xs.length 0 lo)).take (HT.sIx xs.length xs.length hi - HT.sIx xs.length 0 lo)
theorem cutV_length (xs : List V) (lo hi : Option Int) : (cutV xs lo hi).length ≤ xs.length := by
  unfold cutV
  rw [List.length_take, List.length_drop]
  omega
/-- t[lo:hi], not the whole of it (the whole would be t itself) -/
def rSlT (K : PySem.W.Frag) : V → Option Int → Option Int → Hp → VK → Prop := fun x lo hi H Q => ∃ a xs, x = .ref a ∧ SqT K H a xs ∧
  ¬ (HT.sIx xs.length 0 lo = 0 ∧ HT.sIx xs.length xs.length hi = xs.length) ∧ ∀ p, H p = none → Q (.ref p) (upd H p (.tup (cutV xs lo hi)))
theorem sl_tup : SlR X (rSlT X.K) := by
  intro pins s σ H x v vl vu lo hi sl Q I rx hs pl pu h
  obtain ⟨a, xs, rfl, hx, hw, q⟩ := h
  cases rx
  obtain ⟨its, r, ht, hz⟩ := I.tuple hx
  have hlen : its.toArray.size = xs.length := by rw [List.size_toArray]; exact r.length.symm
  refine ⟨"tuple", _, PyProof.Rows.slot_tuple_getitem.lookup, ht.typeIs, ?_⟩
  refine HT.getItem_tuple_cut ht hs pl pu (by rw [hlen]; exact hw) ?_ (by rw [hlen]; exact hz)
  rw [hlen]
  refine ⟨.ref s.heap.objs.size, _, I.laid (t' := s.toks) (o := .tup (cutV xs lo hi)) (fun b ob q => Heap.get?_push_of_some _ q) (Nat.le_refl _) ?_, rfl, q _ (I.hok.fresh (Nat.le_refl _))⟩
  exact ⟨Nat.le_trans (cutV_length xs lo hi) hz, _, (r.drop (HT.sIx xs.length 0 lo)).take (HT.sIx xs.length xs.length hi - HT.sIx xs.length 0 lo), IsTup.new _ _⟩

/-! ### t < u, t + u -/
/-- t + u, t not empty: u empty gives t itself -/
def rCatT (K : PySem.W.Frag) : R2 := fun x y H Q => ∃ a b xs ys, x = .ref a ∧ y = .ref b ∧ SqT K H a xs ∧ SqT K H b ys ∧ xs ≠ [] ∧ xs.length + ys.length ≤ sizeLine ∧
  (ys = [] → Q (.ref a) H) ∧ (ys ≠ [] → ∀ p, H p = none → Q (.ref p) (upd H p (.tup (xs ++ ys))))
theorem Vals.nil_iff {xs : List V} {us : List Value} (r : Vals xs us) : us = [] ↔ xs = [] := by
  cases r with
  | nil => simp
  | cons _ _ => simp
theorem op_catT : OpR X (binaryOp .Add) (rCatT X.K) := by
  intro pins s σ H x y v u Q I rx ry h
  obtain ⟨a, b, xs, ys, rfl, rfl, ha, hb, hx, hz, q1, q2⟩ := h
  cases rx
  cases ry
  obtain ⟨its, r1, p1, _⟩ := I.tuple ha
  obtain ⟨its2, r2, p2, _⟩ := I.tuple hb
  refine HT.cat_tup p1 p2 (fun z => hx (r1.nil_iff.mp z)) (fun z => ⟨.ref a, H, I, rfl, q1 (r2.nil_iff.mp z)⟩) (fun z => ?_) (by rw [← r1.length, ← r2.length]; exact hz)
  refine ⟨.ref s.heap.objs.size, _, I.laid (t' := s.toks) (o := .tup (xs ++ ys)) (fun b ob q => Heap.get?_push_of_some _ q) (Nat.le_refl _) ?_, rfl, q2 (fun w => z (r2.nil_iff.mpr w)) _ (I.hok.fresh (Nat.le_refl _))⟩
  exact ⟨by rw [List.length_append]; exact hz, _, r1.append r2, IsTup.new _ _⟩
end
end L2

namespace L2
open PySem PySem.Spec PyProof.Rows

/-! ### places -/
/-- the place that an index of any sign means -/
def ixN (n : Nat) (i : Int) : Option Nat := if 0 ≤ i then (if i < n then some i.toNat else none) else if -(n : Int) ≤ i then some (i + n).toNat else none
def atI {α : Type} (xs : List α) (i : Int) : Option α := (ixN xs.length i).bind fun j => xs[j]?
theorem ixN_seq {n : Nat} {i : Int} {j : Nat} (h : ixN n i = some j) : seqIndex? i n = some j ∧ j < n ∧ -(n : Int) ≤ i ∧ i < n := by
  unfold ixN at h
  by_cases h0 : 0 ≤ i
  · rw [if_pos h0] at h
    by_cases h1 : i < n
    · rw [if_pos h1] at h
      have e : i.toNat = j := Option.some.inj h
      exact ⟨by rw [seqIndex_of h0 h1, e], by omega, by omega, h1⟩
    · rw [if_neg h1] at h; cases h
  · rw [if_neg h0] at h
    by_cases h1 : -(n : Int) ≤ i
    · rw [if_pos h1] at h
      have e : (i + n).toNat = j := Option.some.inj h
      exact ⟨by rw [seqIndex_neg (by omega) h1, e], by omega, h1, by omega⟩
    · rw [if_neg h1] at h; cases h
theorem atI_get {α : Type} {xs : List α} {i : Int} {v : α} (h : atI xs i = some v) : ∃ j, seqIndex? i xs.length = some j ∧ xs[j]? = some v ∧ j < xs.length ∧ -(xs.length : Int) ≤ i ∧ i < xs.length := by
  unfold atI at h
  cases e : ixN xs.length i with
  | none => rw [e] at h; cases h
  | some j =>
    rw [e] at h
    obtain ⟨h1, h2, h3, h4⟩ := ixN_seq e
    exact ⟨j, h1, h, h2, h3, h4⟩
theorem atI_nat {α : Type} {xs : List α} {j : Nat} {v : α} (h : xs[j]? = some v) : atI xs (j : Int) = some v := by
  have hj : j < xs.length := (List.getElem?_eq_some_iff.mp h).1
  have e : ixN xs.length (j : Int) = some j := by
    unfold ixN
    rw [if_pos (by omega), if_pos (by omega)]; simp
  unfold atI; rw [e]; exact h

/-! ### what may be subscripted -/
/-- what stands as an index of a plain subscript -/
def PlainIx (b : Expr) : Prop := ∀ o i, subscripted b false o i = operate [o, i] (getItem o i)
/-- a subscript by values -/
def IxR (X : Cx) (r : R2) : Prop :=
  ∀ (value slice : Expr) (pins : List (Addr × Obj)) (s : Shared) (σ : St) (H : Hp) (x y : V) (v u : Value) (Q : VK), Inv X pins σ H s → RelV x v → RelV y u → r x y H Q →
    subscripted slice false v u = operate [v, u] (getItem v u) → wpAny (model X.prog X.w) X.A (subscriptTail value slice v u) (EP X pins σ Q) X.xe s
/-- a call of a builtin's method by values: the receiver, the arguments -/
def MtR (X : Cx) (id : String) (r : V → List V → Hp → VK → Prop) : Prop :=
  ∀ (pins : List (Addr × Obj)) (s : Shared) (σ : St) (H : Hp) (x : V) (xs : List V) (v : Value) (us : List Value) (Q : VK), Inv X pins σ H s → RelV x v → Vals xs us → r x xs H Q →
    wpAny (model X.prog X.w) X.A (call (.builtin id) (v :: us)) (EP X pins σ Q) X.xe s
section
variable {X : Cx} {a b : Expr} {ta tb : TE} {pos : Pos}
theorem IxR.or {r r' : R2} (h : IxR X r) (h' : IxR X r') : IxR X (fun x y H Q => r x y H Q ∨ r' x y H Q) := by
  intro value slice pins s σ H x y v u Q I rx ry q hs
  rcases q with q | q
  · exact h value slice pins s σ H x y v u Q I rx ry q hs
  · exact h' value slice pins s σ H x y v u Q I rx ry q hs
/-- a[b] -/
theorem pe_ix {r : R2} (hr : IxR X r) (ha : PE X a ta) (hb : PE X b tb) (hs : PlainIx b) : PE X (.Subscript a b pos) (tOp r ta tb) := by
  intro pins s σ H Q I h
  exact Subscript_ (binT ha hb I h fun v u s2 x y H2 I2 rx ry q => hr a b pins s2 σ H2 x y v u Q I2 rx ry q (hs _ _))

def rIxL (K : PySem.W.Frag) : R2 := fun x y H Q => ∃ p xs i v, x = .ref p ∧ y = .int i ∧ SqL K H p xs ∧ atI xs i = some v ∧ Q v H
def rIxT (K : PySem.W.Frag) : R2 := fun x y H Q => ∃ p xs i v, x = .ref p ∧ y = .int i ∧ SqT K H p xs ∧ atI xs i = some v ∧ Q v H
def rIxS : R2 := fun x y H Q => ∃ z i c, x = .str z ∧ y = .int i ∧ z.length ≤ sizeLine ∧ atI z.cps.toList i = some c ∧ Q (.str ⟨#[c]⟩) H
theorem ix_list : IxR X (rIxL X.K) := by
  intro value slice pins s σ H x y v u Q I rx ry h hs
  obtain ⟨p, xs, i, z, rfl, rfl, hq, he, q⟩ := h
  cases rx
  obtain ⟨t, rfl⟩ := ry
  obtain ⟨its, r, pl, hz⟩ := I.list hq
  obtain ⟨j, h1, h2, h3, h4, h5⟩ := atI_get he
  obtain ⟨w, ew, rw'⟩ := r.get h2
  have hl := r.length
  have hn := line63
  have fin : EP X pins σ Q w s := ⟨z, H, I, rw', q⟩
  by_cases h0 : 0 ≤ i
  · have hj : i.toNat = j := by
      rw [seqIndex_of h0 h5] at h1
      exact Option.some.inj h1
    exact item_listR pl.isList h0 (by omega) (by rw [hj]; simpa using ew) fin hs
  · have hj : (i + (its.toArray.size : Int)).toNat = j := by
      rw [seqIndex_neg (by omega) h4] at h1
      rw [List.size_toArray, ← hl]
      exact Option.some.inj h1
    exact subscriptTail_builtinR (x := w) pl.isList.typeIs slot_list_getitem.lookup
      (wpAny_getItem_list_neg (Q := fun r s' => r = w ∧ EP X pins σ Q r s') pl.isList (by omega) (by rw [List.size_toArray] <;> omega) (by omega) (by rw [hj]; simpa using ew) ⟨rfl, fin⟩) hs
theorem ix_tup : IxR X (rIxT X.K) := by
  intro value slice pins s σ H x y v u Q I rx ry h hs
  obtain ⟨p, xs, i, z, rfl, rfl, hq, he, q⟩ := h
  cases rx
  obtain ⟨t, rfl⟩ := ry
  obtain ⟨its, r, pl, hz⟩ := I.tuple hq
  obtain ⟨j, h1, h2, h3, h4, h5⟩ := atI_get he
  obtain ⟨w, ew, rw'⟩ := r.get h2
  have hl := r.length
  have hn := line63
  have fin : EP X pins σ Q w s := ⟨z, H, I, rw', q⟩
  exact subscriptTail_builtinR (x := w) pl.typeIs slot_tuple_getitem.lookup
    (getItem_tuple (j := j) (Q := fun r s' => r = w ∧ EP X pins σ Q r s') pl (by omega) (by omega) (by rw [List.size_toArray, ← hl]; exact h1) (by simpa using ew) ⟨rfl, fin⟩) hs
theorem ix_str : IxR X rIxS := by
  intro value slice pins s σ H x y v u Q I rx ry h hs
  obtain ⟨z, i, c, rfl, rfl, hz, he, q⟩ := h
  obtain ⟨t, rfl⟩ := rx
  obtain ⟨t', rfl⟩ := ry
  obtain ⟨j, h1, h2, h3, h4, h5⟩ := atI_get he
  have hl : z.cps.toList.length = z.length := by simp [Str.length]
  rw [hl] at h1 h4 h5
  have hn := line63
  exact tail_any (typeIs_str s z t) slot_str_getitem.lookup (getItem_str (c := c) (by
    have e1 : decide (i < -(2 ^ 63 : Int)) = false := decide_eq_false (by omega)
    have e2 : decide (i ≥ 2 ^ 63) = false := decide_eq_false (by omega)
    rw [e1, e2, Bool.or_false]) (by rw [h1]; simpa using h2) ⟨.str ⟨#[c]⟩, H, I.tok _, ⟨_, rfl⟩, q⟩) hs

/-! ### xs[i] = v, any sign -/
def rSetL : V → V → V → Hp → (Hp → Prop) → Prop := fun o i v H Q => ∃ p xs k j, o = .ref p ∧ i = .int k ∧ H p = some (.lst xs) ∧ ixN xs.length k = some j ∧ Q (upd H p (.lst (xs.set j v)))

/-! ### slices -/
theorem slice_bounds (lo hi : Option Int) (n : Nat) : (sliceBounds lo hi none n).1 = ((HT.sIx n 0 lo : Nat) : Int) ∧ (sliceBounds lo hi none n).2.1 = ((HT.sIx n n hi : Nat) : Int) ∧ (sliceBounds lo hi none n).2.2 = 1 := by
  refine ⟨?_, ?_, rfl⟩
  · cases lo with
    | none => simp [sliceBounds, HT.sIx]
    | some i =>
      simp only [sliceBounds, HT.sIx, Option.getD_none, show (1 : Int) > 0 by decide, if_true]
      by_cases h : i < 0
      · simp only [h, if_true] <;> omega
      · simp only [h, if_false] <;> omega
  · cases hi with
    | none => simp [sliceBounds, HT.sIx]
    | some i =>
      simp only [sliceBounds, HT.sIx, Option.getD_none, show (1 : Int) > 0 by decide, if_true]
      by_cases h : i < 0
      · simp only [h, if_true] <;> omega
      · simp only [h, if_false] <;> omega
theorem slicePick_cut (its : List Value) (lo hi : Option Int) : slicePick its.toArray lo hi none = ((its.drop (HT.sIx its.length 0 lo)).take (HT.sIx its.length its.length hi - HT.sIx its.length 0 lo)).toArray := by
  obtain ⟨h1, h2, h3⟩ := slice_bounds lo hi its.toArray.size
  unfold slicePick
  rw [h1, h2, h3]
  simp only [sliceRange_one, pick_run, List.size_toArray] <;> rfl
/-- xs[lo:hi] of a list: a new list -/
def rSlL (K : PySem.W.Frag) : V → Option Int → Option Int → Hp → VK → Prop := fun x lo hi H Q => ∃ a xs, x = .ref a ∧ SqL K H a xs ∧ ∀ p, H p = none → Q (.ref p) (upd H p (.lst (cutV xs lo hi)))
theorem sl_list : SlR X (rSlL X.K) := by
  intro pins s σ H x v vl vu lo hi sl Q I rx hs pl pu h
  obtain ⟨a, xs, rfl, hx, q⟩ := h
  cases rx
  obtain ⟨its, r, ht, hz⟩ := I.list hx
  have hlen := r.length
  refine ⟨"list", _, slot_list_getitem.lookup, ht.isList.typeIs, ?_⟩
  refine wpAny_getItem_list_slice ht.isList hs pl pu .none (by simp) ?_ (by rw [List.size_toArray] <;> omega)
  rw [slicePick_cut, ← hlen]
  refine ⟨.ref s.heap.objs.size, _, I.laid (t' := s.toks) (o := .lst (cutV xs lo hi)) (fun b ob q => Heap.get?_push_of_some _ q) (Nat.le_refl _) ?_, rfl, q _ (I.hok.fresh (Nat.le_refl _))⟩
  exact ⟨Nat.le_trans (cutV_length xs lo hi) hz, _, 0, (r.drop (HT.sIx xs.length 0 lo)).take (HT.sIx xs.length xs.length hi - HT.sIx xs.length 0 lo), Heap.get?_push_size _ rfl⟩

/-! ### in, not in: flat items -/
def flatV : V → Bool
  | .non => true
  | .bl _ => true
  | .int _ => true
  | .str _ => true
  | _ => false
/-- == of flat values -/
def eqV : V → V → Bool
  | .non, .non => true
  | .bl a, .bl b => a == b
  | .bl a, .int b => (if a then 1 else 0) == b
  | .int a, .bl b => a == (if b then 1 else 0)
  | .int a, .int b => a == b
  | .str a, .str b => a == b
  | _, _ => false
theorem eqAt_V {A : Around} {s : Shared} {y x : V} {u v : Value} (ry : RelV y u) (rx : RelV x v) (fy : flatV y = true) (fx : flatV x = true) : SeqAt.EqAt A s u v (eqV y x) := by
  cases y with
  | non =>
    cases ry
    cases x with
    | non => cases rx; exact SeqAt.EqAt.same _
    | bl b => cases rx; exact SeqAt.EqAt.none_bool b
    | int b => obtain ⟨t, rfl⟩ := rx; exact SeqAt.EqAt.none_int b t
    | str b => obtain ⟨t, rfl⟩ := rx; exact SeqAt.EqAt.none_str b t
    | _ => exact absurd (show false = true from fx) Bool.false_ne_true
  | bl a =>
    cases ry
    cases x with
    | non => cases rx; exact SeqAt.EqAt.bool_none a
    | bl b => cases rx; exact SeqAt.EqAt.bool_bool a b
    | int b => obtain ⟨t, rfl⟩ := rx; exact SeqAt.EqAt.bool_int a b t
    | str b => obtain ⟨t, rfl⟩ := rx; exact SeqAt.EqAt.bool_str a b t
    | _ => exact absurd (show false = true from fx) Bool.false_ne_true
  | int a =>
    obtain ⟨t', rfl⟩ := ry
    cases x with
    | non => cases rx; exact SeqAt.EqAt.int_none a t'
    | bl b => cases rx; exact SeqAt.EqAt.int_bool a t' b
    | int b => obtain ⟨t, rfl⟩ := rx; exact SeqAt.EqAt.int_int a t' b t
    | str b => obtain ⟨t, rfl⟩ := rx; exact SeqAt.EqAt.int_str a t' b t
    | _ => exact absurd (show false = true from fx) Bool.false_ne_true
  | str a =>
    obtain ⟨t', rfl⟩ := ry
    cases x with
    | non => cases rx; exact SeqAt.EqAt.str_none a t'
    | bl b => cases rx; exact SeqAt.EqAt.str_bool a t' b
    | int b => obtain ⟨t, rfl⟩ := rx; exact SeqAt.EqAt.str_int a t' b t
    | str b => obtain ⟨t, rfl⟩ := rx; exact SeqAt.EqAt.str_str a t' b t
    | _ => exact absurd (show false = true from fx) Bool.false_ne_true
  | _ => exact absurd (show false = true from fy) Bool.false_ne_true
/-- the items' answers, read off the values (a value's own answer does not lean on its token) -/
def eqU (x : V) (u : Value) : Bool := match u with
  | .none => eqV .non x
  | .bool b => eqV (.bl b) x
  | .int i _ => eqV (.int i) x
  | .str z _ => eqV (.str z) x
  | _ => false
theorem eqU_of {x y : V} {u : Value} (r : RelV y u) (f : flatV y = true) : eqU x u = eqV y x := by
  cases y with
  | non => cases r; rfl
  | bl b => cases r; rfl
  | int i => obtain ⟨t, rfl⟩ := r; rfl
  | str z => obtain ⟨t, rfl⟩ := r; rfl
  | _ => exact absurd (show false = true from f) Bool.false_ne_true
theorem any_eqU {x : V} : ∀ {xs : List V} {us : List Value}, Vals xs us → xs.all flatV = true → us.any (eqU x) = xs.any fun y => eqV y x
  | _, _, .nil, _ => rfl
  | y :: xs, u :: us, .cons r t, f => by
    rw [List.all_cons, Bool.and_eq_true] at f
    rw [List.any_cons, List.any_cons, eqU_of r f.1, any_eqU t f.2]
theorem mem_eqAt {A : Around} {s : Shared} {x : V} {v : Value} (rx : RelV x v) (fx : flatV x = true) : ∀ {xs : List V} {us : List Value}, Vals xs us → xs.all flatV = true → ∀ u ∈ us, SeqAt.EqAt A s u v (eqU x u)
  | _, _, .nil, _ => fun u hu => by cases hu
  | y :: xs, u :: us, .cons r t, f => fun u' hu => by
    rw [List.all_cons, Bool.and_eq_true] at f
    rcases List.mem_cons.mp hu with rfl | hu
    · rw [eqU_of r f.1]; exact eqAt_V r rx f.1 fx
    · exact mem_eqAt rx fx t f.2 u' hu
def inV (x : V) (xs : List V) : Bool := xs.any fun y => eqV y x
/-- x in a list or tuple of flat items -/
def rIn (K : PySem.W.Frag) (neg : Bool) : R2 := fun x y H Q => ∃ p xs, y = .ref p ∧ (SqL K H p xs ∨ SqT K H p xs) ∧ flatV x = true ∧ xs.all flatV = true ∧ Q (.bl (if neg then !inV x xs else inV x xs)) H
theorem op_in_seq : OpR X (compareOp .In) (rIn X.K false) := by
  intro pins s σ H x y v u Q I rx ry h
  obtain ⟨p, xs, rfl, hq, fx, fs, q⟩ := h
  cases ry
  rcases hq with hq | hq
  · obtain ⟨its, r, pl, hz⟩ := I.list hq
    refine SeqAt.in_listAt (eqU x) pl.isList (fun w hw => mem_eqAt rx fx r fs w (by simpa using hw)) ⟨.bl _, H, I, rfl, ?_⟩
    rw [show its.toArray.any (eqU x) = its.any (eqU x) by simp, any_eqU r fs]
    exact q
  · obtain ⟨its, r, pl, hz⟩ := I.tuple hq
    refine SeqAt.in_tupleAt (eqU x) pl (fun w hw => mem_eqAt rx fx r fs w (by simpa using hw)) ⟨.bl _, H, I, rfl, ?_⟩
    rw [show its.toArray.any (eqU x) = its.any (eqU x) by simp, any_eqU r fs]
    exact q
theorem op_notIn_seq : OpR X (compareOp .NotIn) (rIn X.K true) := by
  intro pins s σ H x y v u Q I rx ry h
  obtain ⟨p, xs, rfl, hq, fx, fs, q⟩ := h
  cases ry
  rcases hq with hq | hq
  · obtain ⟨its, r, pl, hz⟩ := I.list hq
    refine SeqAt.notIn_listAt (eqU x) pl.isList (fun w hw => mem_eqAt rx fx r fs w (by simpa using hw)) ⟨.bl _, H, I, rfl, ?_⟩
    rw [show its.toArray.any (eqU x) = its.any (eqU x) by simp, any_eqU r fs]
    exact q
  · obtain ⟨its, r, pl, hz⟩ := I.tuple hq
    refine SeqAt.notIn_tupleAt (eqU x) pl (fun w hw => mem_eqAt rx fx r fs w (by simpa using hw)) ⟨.bl _, H, I, rfl, ?_⟩
    rw [show its.toArray.any (eqU x) = its.any (eqU x) by simp, any_eqU r fs]
    exact q

/-! ### len, list(x), tuple(x) of any list or tuple that is read -/
/-! ### the call of a builtin's method: o.m(..) -/
/-- the value is of that builtin type -/
def tyV (K : PySem.W.Frag) (T : String) (x : V) (H : Hp) : Prop := match x with
  | .str _ => T = "str"
  | .int _ => T = "int"
  | .ref p => (T = "list" ∧ ∃ xs, SqL K H p xs) ∨ (T = "tuple" ∧ ∃ o, K.lookup p = some o ∧ o.cls = .type "tuple" ∧ o.dict = none) ∨
      (T = "dict" ∧ ((∃ kvs, H p = some (.dK kvs)) ∨ ∃ kvs, H p = some (.dT kvs))) ∨ (T = "set" ∧ ∃ S n, H p = some (.set S n))
  | _ => False
theorem tyV_is {pins : List (Addr × Obj)} {σ : St} {H : Hp} {s : Shared} {T : String} {x : V} {v : Value} (I : Inv X pins σ H s) (r : RelV x v) (ty : tyV X.K T x H) :
    s.TypeIs v T ∧ ∀ a, v = .ref a → ∃ ob, s.heap.get? a = some ob ∧ ob.dict = none := by
  cases x with
  | str z =>
    obtain ⟨t, rfl⟩ := r
    cases (show T = "str" from ty)
    exact ⟨typeIs_str s z t, fun _ e => nomatch e⟩
  | int i =>
    obtain ⟨t, rfl⟩ := r
    cases (show T = "int" from ty)
    exact ⟨typeIs_int s i t, fun _ e => nomatch e⟩
  | ref p =>
    cases r
    rcases ty with ⟨rfl, xs, hq⟩ | ⟨rfl, o, hk, hc, hd⟩ | ⟨rfl, hk⟩ | ⟨rfl, S, n, hk⟩
    · obtain ⟨its, _, pl, _⟩ := I.list hq
      refine ⟨pl.isList.typeIs, fun a e => ?_⟩
      cases e
      obtain ⟨o, n, e, c, hd, _⟩ := pl
      exact ⟨o, e, hd⟩
    · refine ⟨⟨o, I.kIn p o hk, hc⟩, fun a e => ?_⟩
      cases e
      exact ⟨o, I.kIn _ o hk, hd⟩
    · have z : ∃ o, s.heap.get? p = some o ∧ o.ExactDict := by
        rcases hk with ⟨kvs, hk⟩ | ⟨kvs, hk⟩
        · obtain ⟨_, _, _, _, o, _, _, e, ex, _⟩ := I.hok p _ hk
          exact ⟨o, e, ex⟩
        · obtain ⟨_, _, _, _, o, _, _, e, ex, _⟩ := I.hok p _ hk
          exact ⟨o, e, ex⟩
      obtain ⟨o, e, ex⟩ := z
      refine ⟨⟨o, e, ex.1⟩, fun a e2 => ?_⟩
      cases e2
      exact ⟨o, e, ex.2.1⟩
    · obtain ⟨o, _, _, _, e, ex, _⟩ := I.hok p _ hk
      refine ⟨⟨o, e, ex.1⟩, fun a e2 => ?_⟩
      cases e2
      exact ⟨o, e, ex.2.1⟩
  | _ => exact False.elim ty
def tBM (K : PySem.W.Frag) (T : String) (r : V → List V → Hp → VK → Prop) (to : TE) (t : TA) : TE := fun σ H Q => to σ H fun x H1 => tyV K T x H1 ∧ t σ H1 fun xs H2 => r x xs H2 Q
variable {o e : Expr} {es : List Expr} {to : TE} {t : TA} {name : Str} {apos cpos : Pos} {T id : String} {r : V → List V → Hp → VK → Prop}
theorem pe_bm (pa : PlainAttrs T) (slot : Slot T name id) (hty : typeOf (.builtin id) = pure (.type "method_descriptor")) (hm : MtR X id r) (ho : PE X o to) (ha : PA X (e :: es) t)
    (hbase : attributeBase o name X.env (eval o X.env) = eval o X.env := by rfl)
    (hfew : ((backTo cpos (starEach (e :: es) X.env)).all (fun x => !x.1) && (backToKw cpos (keywordEach [] X.env)).all (fun x => x.1.isSome)
      && decide ((e :: es).length + ([] : List Keyword).length + (if ([] : List Keyword).isEmpty then 0 else 1) < 30)) = true := by rfl)
    (hline : (apos.endLine == cpos.line) = true := by rfl) (hs : starEach (e :: es) X.env = (false, eval e X.env) :: starEach es X.env := by rfl) (hplain : (backTo cpos (starEach es X.env)).any (·.1) = false := by rfl) :
    PE X (.Call (.Attribute o name apos) (e :: es) [] cpos) (tBM X.K T r to t) := by
  intro pins s σ H Q I h
  refine wpAny_Call_method_late hbase hfew hline rfl (thn (ho pins s σ H _ I h) fun v s1 ⟨x, H1, I1, r1, ty, q1⟩ => ?_)
  obtain ⟨h1, h2⟩ := tyV_is I1 r1 ty
  refine ⟨T, id, pa, slot, hty, h1, h2, ?_⟩
  have hA := ha cpos pins s1 σ H1 _ I1 q1
  rw [hs] at hA ⊢
  refine Calls.callWith_builtin (by show (false || (backTo cpos (starEach es X.env)).any (·.1)) = false; rw [hplain] <;> rfl) (Calls.evalArgs_plain ?_)
  exact thn hA fun us s2 ⟨vs, H2, I2, r2, q2⟩ => hm pins s2 σ H2 x vs v us Q I2 r1 r2 q2
/- xs.append(e), list.index on a module's tuple .. are MtR facts of 06m -/
end
end L2

namespace L2
open PySem PySem.Spec PyProof.Rows

def MtM (X : Cx) (id : String) (r : V → List V → Hp → VK → Prop) : Prop :=
  ∀ (pins : List (Addr × Obj)) (s : Shared) (σ : St) (H : Hp) (x : V) (xs : List V) (v : Value) (us : List Value) (Q : VK), Inv X pins σ H s → RelV x v → Vals xs us → r x xs H Q →
    wpAny (model X.prog X.w) X.A (call (.builtin id) (v :: us)) (EP X pins σ Q) X.xe s

/-! ### lists of values -/
theorem Vals.one : ∀ {x : V} {us : List Value}, Vals [x] us → ∃ u, us = [u] ∧ RelV x u
  | _, _, .cons r .nil => ⟨_, rfl, r⟩
theorem Vals.zero : ∀ {us : List Value}, Vals [] us → us = []
  | _, .nil => rfl
theorem Vals.dropLast {xs : List V} {us : List Value} (h : Vals xs us) : Vals xs.dropLast us.dropLast := by
  induction h with
  | nil => exact .nil
  | cons r t ih =>
    cases t with
    | nil => exact .nil
    | cons q t' => exact .cons r ih
theorem Vals.reverse {xs : List V} {us : List Value} (h : Vals xs us) : Vals xs.reverse us.reverse := by
  induction h with
  | nil => exact .nil
  | cons r t ih => rw [List.reverse_cons, List.reverse_cons]; exact Vals.append ih (.cons r .nil)
theorem erase_last {α : Type} (l : List α) : l.eraseIdx (l.length - 1) = l.dropLast := by
  induction l with
  | nil => rfl
  | cons a r ih =>
    cases r with
    | nil => rfl
    | cons b r =>
      have e : (a :: b :: r).length - 1 = ((b :: r).length - 1) + 1 := by
        have h1 : (a :: b :: r).length = r.length + 2 := rfl
        have h2 : (b :: r).length = r.length + 1 := rfl
        omega
      rw [e, List.eraseIdx_cons_succ, ih]
      all_goals rfl

section
variable {X : Cx} {pins : List (Addr × Obj)} {σ : St} {H : Hp} {s : Shared} {l b : Addr} {xs ys zs : List V}

/-! ### the two steps: a tracked list is rewritten, a new list is laid -/
theorem Inv.lset {its its' : List Value} {n : Nat} {f : Array Value → Array Value} {t' : Nat} (I : Inv X pins σ H s) (hH : H l = some (.lst xs))
    (e : s.heap.get? l = some { cls := .type "list", data := .seq its.toArray n }) (hf : f its.toArray = its'.toArray) (hv : Vals ys its') (hz : ys.length ≤ sizeLine) :
    Inv X pins σ (upd H l (.lst ys)) { s with heap := s.heap.update l (Obj.mapSeq f), toks := t' } := by
  have q := PySem.IsL.update e f
  rw [hf] at q
  refine I.write (x := l) (e := l) (by rw [hH]; exact trivial) (.inl rfl) (fun b' u hb hu => (Heap.get?_update_other s.heap (Obj.mapSeq f) (Ne.symm hb)).trans hu) ⟨_, q⟩ ?_
  exact ⟨hz, its', _, hv, q⟩
theorem Inv.lnew {its : List Value} {t' : Nat} (I : Inv X pins σ H s) (hv : Vals ys its) (hz : ys.length ≤ sizeLine) :
    Inv X pins σ (upd H s.heap.objs.size (.lst ys)) { s with heap := s.heap.push { cls := .type "list", data := .seq its.toArray }, toks := t' } :=
  I.laid (fun _ _ q => Heap.get?_push_of_some _ q) (Nat.le_refl _) ⟨hz, its, 0, hv, Heap.get?_push_size _ rfl⟩
theorem Inv.fresh (I : Inv X pins σ H s) : H s.heap.objs.size = none := I.hok.fresh (Nat.le_refl _)
theorem Inv.lstM (I : Inv X pins σ H s) (hH : H l = some (.lst xs)) : xs.length ≤ sizeLine ∧ ∃ (its : List Value) (n : Nat), Vals xs its ∧ xs.length = its.length ∧ s.heap.get? l = some { cls := .type "list", data := .seq its.toArray n } := by
  obtain ⟨z, its, n, r, e⟩ := I.hok l _ hH
  exact ⟨z, its, n, r, r.length, e⟩

theorem notLongL {n : Nat} (h : n ≤ sizeLine) : Builtin.List.listTooLong n = false := by
  unfold Builtin.List.listTooLong
  exact decide_eq_false (by omega)
end

section
variable {X : Cx}

/-! ### methods -/
def rAppend : V → List V → Hp → VK → Prop := fun x vs H Q => ∃ l xs y, x = .ref l ∧ vs = [y] ∧ H l = some (.lst xs) ∧ xs.length < sizeLine ∧ Q .non (upd H l (.lst (xs ++ [y])))
theorem mt_append : MtM X "list.append" rAppend := by
  intro pins s σ H x vs v us Q I rx rv h
  obtain ⟨l, xs, y, rfl, rfl, hH, hz, q⟩ := h
  cases rx
  obtain ⟨u, rfl, ru⟩ := rv.one
  obtain ⟨z, its, n, r, hl, e⟩ := I.lstM hH
  refine call_meets F.slot_list_append ⟨_, e, rfl⟩ F.entry_list_append (F.args_list_append_2 _ _) (PySem.list_append l its.toArray n u (by rw [List.size_toArray]; omega)) ⟨e, ?_⟩
  refine ⟨.non, _, I.lset (its' := its ++ [u]) hH e (by simp) (r.append (.cons ru .nil)) ?_, rfl, q⟩
  rw [List.length_append, List.length_singleton]
  omega

/-! ### list + list, list += list, list * int -/
def rCat : R2 := fun x y H Q => ∃ l b xs zs, x = .ref l ∧ y = .ref b ∧ H l = some (.lst xs) ∧ H b = some (.lst zs) ∧ xs.length + zs.length ≤ sizeLine ∧ ∀ p, H p = none → Q (.ref p) (upd H p (.lst (xs ++ zs)))
theorem op_cat : OpR X (binaryOp .Add) rCat := by
  intro pins s σ H x y v u Q I rx ry h
  obtain ⟨l, b, xs, zs, rfl, rfl, hH, hB, hz, q⟩ := h
  cases rx
  cases ry
  obtain ⟨z, its, n, r, hl, e⟩ := I.lstM hH
  obtain ⟨z2, its2, n2, r2, hl2, e2⟩ := I.lstM hB
  refine PySem.P.add_list e e2 ?_ (by rw [List.size_toArray, List.size_toArray]; omega)
  have ea : its.toArray ++ its2.toArray = (its ++ its2).toArray := by simp
  rw [ea]
  exact ⟨.ref _, _, I.lnew (t' := s.toks) (r.append r2) (by rw [List.length_append]; omega), rfl, q _ I.fresh⟩

/-! ### del xs[i] -/
end

/-! ### xs[a:b] = ys -/
section
variable {prog : Program} {w : World} {A : Around} {E : Value → Shared → Prop} {s : Shared}
end

section
variable {X : Cx}
end
end L2

namespace Att
open PySem PySem.W PySem.Calls PyProof.Rows

/-! ### the script -/
theorem ints_of_wellAll {P : Params} {h : Heap} : ∀ (ns : List Int) (vs : List Value), WellAll P h vs (ns.map WData.int) → IntsAre vs ns := by
  intro ns
  induction ns with
  | nil =>
    intro vs w
    rw [List.map_nil] at w
    cases w
    exact .nil
  | cons n ns ih =>
    intro vs w
    rw [List.map_cons] at w
    cases w with
    | cons a b =>
      cases a
      exact .cons _ _ (ih _ b)

theorem script_of {l : OpenLaw} {n : Nat} (hn : l.most = some n) {P : Params} {h : Heap} {args : List WData} {vals : List Value}
    (hpre : l.row.toRowW.claim.pre args = true) (hwl : WellAll P h vals args) :
    ∃ a vs ns, vals = [Value.ref a] ∧ args = [WData.list (ns.map WData.int)] ∧ h.get? a = some { cls := .type "list", data := .seq vs.toArray } ∧ IntsAre vs ns ∧ ns.length ≤ n := by
  have hsh : WShape.hasAll [] args [.list .int] = true := (pre_splitW hpre).1
  have hc : l.pre.holds [] { args := args } = true := (pre_splitW hpre).2
  obtain ⟨d, r, rfl, h1, h2⟩ := hasAllW_cons hsh
  obtain rfl := hasAllW_nil h2
  obtain ⟨xs, rfl, h3⟩ := hasW_list h1
  obtain ⟨ns, rfl⟩ := items_int h3
  have hlen : ns.length ≤ n := by
    unfold OpenLaw.pre at hc
    have h4 : (WTm.not (.lt (.lit (.int (n : Int))) (.len (.arg 0)))).holds [] { args := [.list (ns.map .int)] } = true := by
      have h4 := (holds_andW hc).1
      rw [hn] at h4
      exact h4
    have h5 := condW_of h4 (w_not (w_lt w_lit (w_len_list (w_arg rfl))))
    rw [List.length_map] at h5
    refine Nat.le_of_not_lt fun q => ?_
    have q' : (n : Int) < ((ns.length : Nat) : Int) := by omega
    first
      | (rw [decide_eq_true q'] at h5; exact absurd h5 (by decide))
      | (simp at h5; omega)
  cases hwl with
  | cons w1 w2 =>
    cases w2
    cases w1 with
    | list ho hall => exact ⟨_, _, ns, rfl, rfl, ho, ints_of_wellAll ns _ hall, hlen⟩

theorem post_true (l : OpenLaw) (args : List WData) : l.row.toRowW.claim.post args (.bool true) args = true :=
  postW_of (r := l.row.toRowW) (X := (true == true))
    (show WShape.has [] (.bool true) .bool = true by first | rfl | decide | simp [WShape.has, WShape.arms, WShape.armsAll])
    (show (WTm.eq .res (.lit (.bool true))).value [] { args := args, res := some (.bool true), after := args } = some (.bool (true == true)) from w_eq_bool (w_res rfl) w_lit) rfl

/-! ### the attachment: holds_open's last premise (the goal 'hc' behind k_head) from a wpAny of the law's body -/

/-- the same from a codeAny of the CALL (for a layer whose function contracts speak of calls) -/
theorem attach_call {l : OpenLaw} {n : Nat} {q : Program} {loose : List Str} {XP : (Str → Option Value) → Heap → Prop} {YP : World → Heap → Prop} {d : DefRec}
    (hn : l.most = some n) (hdf : d.params.defaults = [])
    (call : ∀ (w : World) (s₀ s₁ : Shared) (mg mb : Str → Option Value) (fa : Addr) (o : Obj) (pm cd doc : Value) (a : Addr) (vs : List Value) (ns : List Int),
      Ground q loose [] XP w s₀ mg mb s₁.heap → YP w s₁.heap →
      s₁.heap.get? fa = some o → o.data = .func (docDef d.name d.params d.body d.scope pm cd doc) → s₁.heap.CodeRec cd d.name → mg d.name = some (.ref fa) →
      s₁.heap.get? a = some { cls := .type "list", data := .seq vs.toArray } → IntsAre vs ns → ns.length ≤ n → s₁.gens = #[] →
      codeAny (model l.prog w) callerA (.call (.ref fa) ⟨[.ref a], []⟩) (fun r s' => r = .ok (.ret (.bool true)) ∧ OldK s₁.heap s'.heap ∧ s'.os = s₁.os ∧ AllBare s'.gens) s₁) :
    WalkO q loose XP YP l.row.toRowW d [] (fun f vs => PySem.call f vs) := by
  intro w s₀ s₁ mg mb G Y fa o pm cd doc dV kV ho hd hcd hD hmg hg args vals as hpre hlay hrd hwl hlo
  obtain rfl : dV = .none := Dflts.none hD hdf
  obtain rfl : kV = .none := Dflts.noKw hD
  obtain ⟨a, vs, ns, rfl, rfl, hobj, hints, hlen⟩ := script_of hn hpre hwl
  refine enter_call (codeAny_mono (call w s₀ s₁ mg mb fa o pm cd doc a vs ns G Y ho (fd_plain hd) hcd hmg hobj hints hlen hg) fun r s' hq => ?_)
  obtain ⟨rfl, h2, h3, h4⟩ := hq
  exact ⟨.inl ⟨.bool true, .bool true, [], rfl, fun _ => rfl, .bool true, post_true l _, fun _ => ⟨List.Pairwise.nil, fun _ hm => (nomatch hm)⟩⟩, h2, h3, h4⟩


/-! ### rules over ANY heap (no ledger) from facts about the written part K: the library's own take a ledger (News) for what they write -/
section
variable {prog : Program} {w : World} {A : Around} {E : Value → Shared → Prop} {s : Shared} {K : Frag}





/-! the whole heap as the ledger: makes every rule that writes through a ledger a rule over any heap -/

end
end Att

namespace L2
open PySem PySem.Spec PyProof.Rows

theorem vals_ints : ∀ {vs : List Value} {ns : List Int}, IntsAre vs ns → Vals (ns.map V.int) vs
  | _, _, .nil => .nil
  | _, _, .cons n t h => .cons ⟨t, rfl⟩ (vals_ints h)

/-- nothing is tracked but the script, known to the object (or it is an object of the module) -/
def Only (H : Hp) : Prop := ∀ b, H b = none ∨ ∃ o xs, H b = some (.frz o (.lst xs))

/-- THE HEAD: the law's promise, at the heap behind the top. F, the promise of the law's def, may use that base is part of the heap (so K.In base, base.Ns mainGlobals mg stand in Mod) -/
theorem law_call {P : Program} {w : World} {K : PySem.W.Frag} {mg mb : Str → Option Value} {CX : CXT} {k : Nat} {fa a : Addr} {fd : FuncData} {x : Str} {sp : Sp} {s₁ : Shared} {vs : List Value} {ns : List Int}
    (KX : K.In s₁.heap) (hns : s₁.heap.Ns mainGlobals mg) (hb : s₁.heap.Ns builtinsNs mb) (hbb : ∀ x : Str, x ≠ "__name__" → mb x = bootBuiltins x) (hlim : s₁.heap.NoLimit) (hg : s₁.gens = #[])
    (ha : s₁.heap.get? a = some { cls := .type "list", data := .seq vs.toArray }) (hi : IntsAre vs ns) (hl : ns.length ≤ sizeLine) (hr : Room k callerA)
    (F : ∀ base : Heap, K.In base → base.Ns mainGlobals mg → FnOk P w K mg base CX k fa fd [x] sp) (hbind : ∀ (s : Shared) (u : Value), BindsTo s fd ⟨[u], []⟩ [(x, u)])
    (hsp : ∀ H : Hp, Only H → SqL K H a (ns.map V.int) → sp [.ref a] H (fun v _ => v = .bl true) fun _ _ _ => False)
    (hCX : ∀ H e s', CX [] H s₁ (fun _ _ _ => False) e s' → False) :
    codeAny (model P w) callerA (.call (.ref fa) ⟨[.ref a], []⟩) (fun r s' => r = .ok (.ret (.bool true)) ∧ OldK s₁.heap s'.heap ∧ s'.os = s₁.os ∧ AllBare s'.gens) s₁ := by
  have rv := vals_ints hi
  have lenV := hi.length
  -- from an abstract heap in which nothing but the script may be tracked
  have core : ∀ H : Hp, Only H → SqL K H a (ns.map V.int) → HOk P w H s₁.heap → (∀ b, H b ≠ none → b = a) → (H a ≠ none → K.lookup a = none) →
      codeAny (model P w) callerA (.call (.ref fa) ⟨[.ref a], []⟩) (fun r s' => r = .ok (.ret (.bool true)) ∧ OldK s₁.heap s'.heap ∧ s'.os = s₁.os ∧ AllBare s'.gens) s₁ := by
    intro H hO hS hok hA hK
    have base_of : ∀ {b : Addr} {o : Obj}, s₁.heap.get? b = some o → H b = none → (hidT s₁.heap H).get? b = some o := fun e n => hidT_get e n
    have noA : ∀ {b : Addr} {o : Obj} {es : Array DictEntry} {ep : Nat}, s₁.heap.get? b = some o → o.data = .dict es ep → H b = none := fun {b o es ep} e d => by
      cases q : H b with
      | none => rfl
      | some u =>
        have e' : b = a := hA b (by rw [q]; simp)
        subst e'
        rw [ha] at e; cases e
        have d' : Data.seq vs.toArray _ = Data.dict es ep := d
        cases d'
    have nsK : ∀ {b : Addr} {m : Str → Option Value}, s₁.heap.Ns b m → (hidT s₁.heap H).Ns b m := fun {b m} ⟨o, es, ep, e, d, r⟩ => ⟨o, es, ep, base_of e (noA e d), d, r⟩
    have hKb : K.In (hidT s₁.heap H) := fun b o e => base_of (KX b o e) (by
      cases q : H b with
      | none => rfl
      | some u =>
        have e' : b = a := hA b (by rw [q]; simp)
        subst e'
        rw [hK (by rw [q]; simp)] at e; cases e)
    have hM : Mod K mg (hidT s₁.heap H) := ⟨hKb, nsK hns, ⟨mb, nsK hb, hbb⟩, let ⟨mc, h1, h2⟩ := hlim; ⟨mc, nsK h1, h2⟩⟩
    have e0 : Env0 P w K mg (hidT s₁.heap H) callerA [] s₁ H := ⟨rfl, hM, fun b o e => of_hidT e, Nat.le_of_eq (hidT_size _ _), trivial, fun b hb => absurd (show b ∈ ([] : List Addr) from hb) (by simp), hok, .of_eq hg⟩
    refine codeAny_mono ((F _ hKb (nsK hns)).run callerA [] s₁ H ⟨[.ref a], []⟩ [.ref a] [.ref a] _ _ hr e0 (hbind s₁ (.ref a)) (.cons rfl .nil) (hsp H hO hS)) fun r s' h => ?_
    cases r with
    | error e => exact (hCX H e s' h).elim
    | ok fl =>
      cases fl with
      | next => exact False.elim h
      | brk => exact False.elim h
      | cont => exact False.elim h
      | ret u =>
        obtain ⟨v, H', os, bare, un, hok', r', q⟩ := h
        have q' : v = .bl true := q
        subst q'
        obtain rfl : u = Value.bool true := r'
        refine ⟨rfl, OldK.of_keep fun b o e => ?_, os, bare⟩
        cases q : H b with
        | none => exact un.keep b o e q (by intro z; exact absurd (show b ∈ ([] : List Addr) from z) (by simp)) (by simp)
        | some u =>
          rcases hO b with z | ⟨ob, xs, z⟩
          · rw [q] at z; cases z
          · have z2 := un.frzs b ob _ z
            obtain ⟨e1, _⟩ := hok b _ z
            obtain ⟨e2, _⟩ := hok' b _ z2
            rw [e] at e1; cases e1
            exact e2
  cases hk : K.lookup a with
  | some o =>
    -- the script is one of the module's own objects
    have e := KX a o hk
    rw [ha] at e
    cases e
    refine core (fun _ => none) (fun _ => .inl rfl) (.inr ⟨_, vs.toArray, _, hk, rfl, rfl, rfl, by rw [List.size_toArray, lenV]; exact hl, by simpa using rv⟩) (fun b u z => by have z' : (none : Option HO) = some u := z; cases z') (fun b z => absurd rfl z) fun z => absurd rfl z
  | none =>
    refine core (fun b => if b = a then some (.frz { cls := .type "list", data := .seq vs.toArray } (.lst (ns.map V.int))) else none) (fun b => ?_) (.inl (.inr ⟨{ cls := .type "list", data := .seq vs.toArray }, if_pos rfl⟩)) (fun b u z => ?_) (fun b z => ?_) fun _ => hk
    · by_cases hb : b = a
      · exact .inr ⟨_, _, if_pos hb⟩
      · exact .inl (if_neg hb)
    · by_cases hb : b = a
      · have z' := (if_pos hb).symm.trans z
        cases z'
        subst hb
        exact ⟨ha, by rw [List.length_map]; exact hl, vs, _, rv, ha⟩
      · have z' := (if_neg hb).symm.trans z
        cases z'
    · by_cases hb : b = a
      · exact hb
      · exact absurd (if_neg hb) z
end L2

namespace L2
open PySem PySem.Spec PyProof.Rows


/-- the goal that k_head leaves (case hc), from the law's promise. F gives the function object fd (K's own) once, then the promise over every base -/
theorem walk_of {l : PySem.W.OpenLaw} {n k : Nat} {q : Program} {loose : List Str} {XP : (Str → Option Value) → Heap → Prop} {YP : World → Heap → Prop} {d : DefRec} {K : Params → PySem.W.Frag} {CX : World → CXT} {sp : World → Sp} {x : Str}
    (hn : l.most = some n) (hn2 : n ≤ sizeLine) (hdf : d.params.defaults = []) (hr : Room k callerA)
    (hY : ∀ (w : World) (h : Heap), YP w h → (K w.params).In h)
    (F : ∀ (w : World) (mg : Str → Option Value) (fa : Addr) (h : Heap), (K w.params).In h → h.Ns mainGlobals mg → mg d.name = some (.ref fa) →
      ∃ fd : FuncData, (∀ (s : Shared) (u : Value), BindsTo s fd ⟨[u], []⟩ [(x, u)]) ∧
        ∀ base : Heap, (K w.params).In base → base.Ns mainGlobals mg → FnOk l.prog w (K w.params) mg base (CX w) k fa fd [x] (sp w))
    (hsp : ∀ (w : World) (H : Hp) (a : Addr) (ns : List Int), ns.length ≤ n → Only H → SqL (K w.params) H a (ns.map V.int) → sp w [.ref a] H (fun v _ => v = .bl true) fun _ _ _ => False)
    (hCX : ∀ (w : World) (H : Hp) (s : Shared) (e : Value) (s' : Shared), CX w [] H s (fun _ _ _ => False) e s' → False) :
    PySem.W.WalkO q loose XP YP l.row.toRowW d [] (fun f vs => PySem.call f vs) := by
  refine Att.attach_call hn hdf fun w s₀ s₁ mg mb fa o pm cd doc a vs ns G Y ho hd hcd hmg hobj hints hlen hg => ?_
  have KX := hY w _ Y
  obtain ⟨fd, hb, hF⟩ := F w mg fa _ KX G.T.g hmg
  exact law_call KX G.T.g G.T.b G.T.builtins G.T.nolimit hg hobj hints (Nat.le_trans hlen hn2) hr hF hb (fun H hO hS => hsp w H a ns hlen hO hS) fun H e s' => hCX w H s₁ e s'
end L2

/- THE LAST THEOREM (shape; LID, My.* are yours):
   My.Adr: a structure of the addresses that your layer names (classes, functions); My.Txt K t: a structure (Prop) of the equations over K;
   My.txt_mk : {K} {implicit addresses ..} (e1 : nsIn K mainGlobals "law" = some (some (.ref f))) (e2 : K.lookup f = some ⟨oc, od, .func (fnOf "law" "law" params body scope dV kV doc pm an cdv ct), sl⟩) (e3 : codeIn K cdv "law" = true) .. : ∃ t, My.Txt K t

set_option maxRecDepth 100000 in
set_option maxHeartbeats 0 in
theorem PySem.Challenge.cw_LID_holds : PySem.Challenge.rw_LID.Holds := by
  w_on; o_law; k_head; (case hw => w_witness2)
  k_fill
  refine L2.walk_of (l := PySem.Challenge.rw_LID) (n := 63) (k := 40) (x := "script") (CX := fun w => ..) (sp := fun _ => My.sp_law) rfl (by decide) rfl ⟨rfl, by decide, by decide⟩ (fun w h Y => PySem.W.kIn_of Y) ?F ?S ?C
  case F =>
    intro w mg fa h KX G hmg
    have T : ∃ t, My.Txt (L2.KOf KX) t := by
      dsimp only [L2.KOf]                          -- K must stand as «<heap const> w.params» for k_is
      refine' My.txt_mk ?e1 ?e2 ?e3 ..
      (case e1 => PySem.W.k_is)                    -- in the order: a name -> its address -> its object -> its parts
      (case e2 => PySem.W.k_is)
      ..
    obtain ⟨t, T⟩ := T
    have e0 := hmg.symm.trans (PySem.W.mg_of KX G T.law)
    cases e0                                       -- fa is the law's own address
    exact ⟨_, fun s u => .of_eq rfl, fun base kb nb => My.law_fn T kb nb⟩     -- if «.of_eq rfl» comes too early: refine' ⟨_, ?b, fun base kb nb => My.law_fn T kb nb⟩; exact fun s u => .of_eq rfl
  case S => exact fun w H a ns hl hO hS => ..
  case C => exact ..
(the tactic k_is has no namespace: write k_is) -/

/-! SHORT WORDS over the layer: a def of the text, its body, what a loop and a test want. -/
namespace L2
open PySem PySem.Spec PyProof.Rows

/-! ### the text by places -/
/-- the j-th statement of a class's body -/
def inClass (s : Stmt) (j : Nat) : Stmt := match s with
  | .ClassDef _ _ _ body _ _ _ _ _ _ _ => body.getD j (.Pass ⟨0, 0, 0, 0⟩)
  | _ => .Pass ⟨0, 0, 0, 0⟩
def defArgs (s : Stmt) : Arguments := match s with
  | .FunctionDef _ a _ _ _ _ _ _ _ _ => a
  | _ => { posonlyargs := [], args := [], vararg := none, kwonlyargs := [], kw_defaults := [], kwarg := none, defaults := [] }
def defBody (s : Stmt) : List Stmt := match s with
  | .FunctionDef _ _ b _ _ _ _ _ _ _ => b
  | _ => []
def defScope (s : Stmt) : Scope := match s with
  | .FunctionDef _ _ _ _ _ _ sc _ _ _ => sc
  | _ => { kind := .function, names := [], isGenerator := false, isCoroutine := false }

/-! ### no exception leaves a def -/
abbrev CX0 : CXT := fun _ _ _ _ _ _ => False
abbrev E0 : XK := fun _ _ _ => False
theorem pass0 {X : Cx} : Passes CX0 X E0 := fun _ _ _ _ _ _ _ h => h.elim

/-! ### a def (or method) of the text as it stands behind the top -/
structure Fun (K : PySem.W.Frag) (x qual : Str) (st : Stmt) (f : Addr) (fd : FuncData) : Prop where
  ex : ∃ (oc : Value) (od : Option Addr) (kV doc pm : Value) (an : Option Addr) (cdv ct : Value) (osl : Array (Option Value)),
    fd = PySem.W.fnOf x qual (defArgs st) (defBody st) (defScope st) .none kV doc pm an cdv ct ∧ K.lookup f = some ⟨oc, od, .func fd, osl⟩ ∧ PySem.W.codeIn K cdv qual = true
  kp : PySem.W.keepIn K (.ref f) = true
section
variable {P : Program} {w : World} {K : PySem.W.Frag} {mg : Str → Option Value} {base : Heap}
/-- THE RULE for a def: its body as a term of rules, and the reading of that term -/
theorem Fun.ok {x qual : Str} {st : Stmt} {f : Addr} {fd : FuncData} {N ps : List Str} {k : Nat} {sp : Sp} (F : Fun K x qual st f fd) (S : FnScope N ps (defScope st)) (len : ∀ vs H Q E, sp vs H Q E → vs.length = ps.length)
    (hbody : ∀ (cdv : Value) (A : Around) (outer : List Env) (s : Shared) (H : Hp) (vs : List V) (Q : VK) (E : XK), Room k (A.deeper (envOfC qual (defScope st) s.heap.objs.size f cdv)) → sp vs H Q E →
      ∃ t, PSs (cxOf CX0 P w K mg base N qual (defScope st) f cdv A outer s H E).nox (defBody st) t ∧ t { nx := fun _ H' => Q .non H', rt := Q } (start N vs) H) : FnOk P w K mg base CX0 (k + 1) f fd ps sp := by
  obtain ⟨oc, od, kV, doc, pm, an, cdv, ct, osl, rfl, lk, hcd⟩ := F.ex
  refine fn_of lk hcd S len fun A outer s H vs Q E hr hsp => ?_
  obtain ⟨t, h, q⟩ := hbody cdv A outer s H vs Q E hr hsp
  exact ⟨t, h.nox, q⟩
/-- how its arguments bind (no defaults): h is «fun _ _ _ _ _ _ us hl => match us, hl with | [_, _], _ => rfl», one _ a parameter -/
theorem Fun.binds {x qual : Str} {st : Stmt} {f : Addr} {fd : FuncData} {ps : List Str} (F : Fun K x qual st f fd)
    (h : ∀ (kV doc pm : Value) (an : Option Addr) (cdv ct : Value) (us : List Value), us.length = ps.length → bindArgs (PySem.W.fnOf x qual (defArgs st) (defBody st) (defScope st) .none kV doc pm an cdv ct) ⟨us, []⟩ = pure (ps.zip us)) : Binds K fd ps [] := by
  obtain ⟨oc, od, kV, doc, pm, an, cdv, ct, osl, rfl, lk, hcd⟩ := F.ex
  exact .all (h kV doc pm an cdv ct)
theorem fun_mk {x qual : Str} {st : Stmt} {f : Addr} {oc : Value} {od an : Option Addr} {osl : Array (Option Value)} {kV doc pm cdv ct : Value} (l : K.lookup f = some ⟨oc, od, .func (PySem.W.fnOf x qual (defArgs st) (defBody st) (defScope st) .none kV doc pm an cdv ct), osl⟩)
    (c : PySem.W.codeIn K cdv qual = true) (k : PySem.W.keepIn K (.ref f) = true) : Fun K x qual st f (PySem.W.fnOf x qual (defArgs st) (defBody st) (defScope st) .none kV doc pm an cdv ct) := ⟨⟨oc, od, kV, doc, pm, an, cdv, ct, osl, rfl, l, c⟩, k⟩
end

/-! ### expressions in short: the name that stands in the i-th slot -/
section
variable {X : Cx}
end

/-! ### tests -/
theorem iteF {A B : Prop} (h : B) : if false = true then A else B := by
  rw [if_neg Bool.false_ne_true]
  exact h
theorem iteT {A B : Prop} (h : A) : if true = true then A else B := by
  rw [if_pos rfl]
  exact h
theorem ite2 {c A B : Prop} [Decidable c] (h1 : c → A) (h2 : ¬ c → B) : if c then A else B := by
  by_cases h : c
  · rw [if_pos h]
    exact h1 h
  · rw [if_neg h]
    exact h2 h

/-! ### heaps -/
/-- all that was tracked is as it was -/
def Same (H H' : Hp) : Prop := ∀ b o, H b = some o → H' b = some o
theorem Same.refl (H : Hp) : Same H H := fun _ _ h => h
theorem Same.trans {H H1 H2 : Hp} (a : Same H H1) (b : Same H1 H2) : Same H H2 := fun c o h => b c o (a c o h)
theorem Same.free {H H' : Hp} (e : Same H H') {l : Addr} (h : H' l = Option.none) : H l = Option.none := by
  cases q : H l with
  | none => rfl
  | some o =>
    rw [e l o q] at h
    cases h
theorem Same.seq {K : PySem.W.Frag} {H H' : Hp} {a : Addr} {xs : List V} (e : Same H H') (h : SqL K H a xs) : SqL K H' a xs := by
  rcases h with (h | ⟨o, h⟩) | h
  · exact .inl (.inl (e _ _ h))
  · exact .inl (.inr ⟨o, e _ _ h⟩)
  · exact .inr h

end L2

set_option maxRecDepth 100000
set_option maxHeartbeats 4000000
namespace L2
open PySem PySem.Spec PyProof.Rows

/-! ### an untracked object of ours comes to be tracked -/
section
variable {X : Cx} {pins : List (Addr × Obj)} {σ : St} {H : Hp} {s : Shared} {a : Addr} {o : HO}
theorem Inv.track (I : Inv X pins σ H s) (hn : H a = none) (h0 : X.s₀.heap.objs.size ≤ a) (hL : a ≠ X.env.locals) (hC : ∀ x c, X.env.cells.lookup x = some c → c ≠ a)
    (hp : ∀ p ∈ X.pn ++ pins, p.1 ≠ a) (new : ObjOk X.prog X.w (upd H a o) s.heap a o) : Inv X pins σ (upd H a o) s := by
  have ne0 : ∀ b u, X.s₀.heap.get? b = some u → b ≠ a := fun b u e => Nat.ne_of_lt (Nat.lt_of_lt_of_le (Heap.lt_size e) h0)
  have neH : ∀ b u, H b = some u → b ≠ a := fun b u e => ne_of_none e hn
  refine ⟨I.ok, I.os, I.bare, ⟨I.base.keep, I.base.slot, fun b u e n hx => ?_, I.base.there, fun b xs e => ?_, fun b u xs e => ?_, fun b ps e => ?_⟩, I.loc, I.cell, ?_, fun x c e => ?_, fun p q => ?_, fun b u e => ?_, I.len⟩
  · rw [upd_ne (ne0 b u e)]; exact I.base.free b u e n hx
  · have z := I.base.tups b xs e
    rw [upd_ne (neH b _ z)]; exact z
  · have z := I.base.frzs b u xs e
    rw [upd_ne (neH b _ z)]; exact z
  · obtain ⟨m, z⟩ := I.base.tbls b ps e
    exact ⟨m, by rw [upd_ne (neH b _ z)]; exact z⟩
  · rw [upd_ne (Ne.symm hL)]; exact I.free
  · rw [upd_ne (hC x c e)]; exact I.freeC x c e
  · obtain ⟨z1, z2, z3⟩ := I.pin p q
    exact ⟨z1, by rw [upd_ne (hp p q)]; exact z2, z3⟩
  · by_cases hb : b = a
    · subst hb; rw [upd_same] at e; cases e; exact new
    · rw [upd_ne hb] at e
      exact (I.hok b u e).stay (fun _ _ _ q => q) (fun c q => by rw [upd_ne (neH c _ q)]; exact q) fun c xs q => by rw [upd_ne (neH c _ q)]; exact q
end

/-! ### the cells that a block takes along -/
def closL (cells : List (Str × Addr)) : List (Str × NameKind) → List (Str × Addr) → List (Str × Addr)
  | [], acc => acc
  | (n, k) :: r, acc => closL cells r (if k = .free then (n, (cells.lookup n).getD 0) :: acc else acc)

theorem closureFor_go (env : Env) : ∀ (names : List (Str × NameKind)) (acc : List (Str × Addr)), (∀ y ∈ names, y.2 = .free → ∃ c, env.cells.lookup y.1 = some c) →
    (forIn names acc (fun (x : Str × NameKind) (cs : List (Str × Addr)) => match x with
      | (name, kind) => if (kind == NameKind.free) = true then do let a ← cellOf env name; pure (ForInStep.yield ((name, a) :: cs)) else pure (ForInStep.yield cs)) : Sem (List (Str × Addr))) = pure (closL env.cells names acc)
  | [], acc, _ => rfl
  | (n, k) :: r, acc, h => by
    have hr := fun acc' => closureFor_go env r acc' fun y hy => h y (List.mem_cons_of_mem _ hy)
    rw [List.forIn_cons]
    by_cases hk : k = .free
    · subst hk
      obtain ⟨c, e⟩ := h (n, .free) List.mem_cons_self rfl
      have e' : cellOf env n = pure c := by unfold cellOf; rw [e]
      have ec : closL env.cells ((n, .free) :: r) acc = closL env.cells r ((n, c) :: acc) := by simp [closL, e]
      rw [ec, ← hr]
      simp [e']
    · have hb : (k == NameKind.free) = false := by simpa using hk
      have ec : closL env.cells ((n, k) :: r) acc = closL env.cells r acc := by simp [closL, hk]
      rw [ec, ← hr]
      simp [hb]
theorem closureFor_of {scope : Scope} {env : Env} (h : ∀ y ∈ scope.names, y.2 = .free → ∃ c, env.cells.lookup y.1 = some c) : closureFor scope env = pure (closL env.cells scope.names []) := by
  have := closureFor_go env scope.names [] h
  simp only [closureFor]
  rw [← this]
  simp

theorem closL_look {cells : List (Str × Addr)} : ∀ (names : List (Str × NameKind)) (acc : List (Str × Addr)) (x : Str) (c : Addr), (closL cells names acc).lookup x = some c → (acc.lookup x = some c) ∨ ((x, .free) ∈ names ∧ (cells.lookup x).getD 0 = c)
  | [], acc, x, c, h => .inl h
  | (n, k) :: r, acc, x, c, h => by
    simp only [closL] at h
    rcases closL_look r _ x c h with z | ⟨z1, z2⟩
    · by_cases hk : k = .free
      · subst hk
        simp only [if_true] at z
        rw [List.lookup_cons] at z
        by_cases hx : x == n
        · simp only [hx] at z
          have hxn : x = n := eq_of_beq hx
          subst hxn
          exact .inr ⟨List.mem_cons_self, Option.some.inj z⟩
        · have hx' : (x == n) = false := by simpa using hx
          simp only [hx'] at z
          exact .inl z
      · simp only [if_neg hk] at z
        exact .inl z
    · exact .inr ⟨List.mem_cons_of_mem _ z1, z2⟩
theorem closL_has {cells : List (Str × Addr)} : ∀ (names : List (Str × NameKind)) (acc : List (Str × Addr)) (x : Str), ((x, NameKind.free) ∈ names ∨ ∃ c, acc.lookup x = some c) → ∃ c, (closL cells names acc).lookup x = some c
  | [], acc, x, h => by
    rcases h with h | h
    · cases h
    · exact h
  | (n, k) :: r, acc, x, h => by
    simp only [closL]
    refine closL_has r _ x ?_
    rcases h with h | ⟨c, h⟩
    · rcases List.mem_cons.mp h with e | h
      · cases e
        refine .inr ?_
        simp [List.lookup_cons]
      · exact .inl h
    · refine .inr ?_
      by_cases hk : k = .free
      · simp only [if_pos hk, List.lookup_cons]
        cases hx : x == n
        · exact ⟨c, h⟩
        · exact ⟨_, rfl⟩
      · simp only [if_neg hk]; exact ⟨c, h⟩

theorem relabel_look {env : Env} : ∀ (names : List (Str × NameKind)) (x : Str),
    (names.map fun (n, k) => if (k == NameKind.free && env.scope.kind == .function && env.kindOf n == some .cell) then (n, NameKind.cell) else (n, k)).lookup x =
      (names.lookup x).map fun k => if (k == NameKind.free && env.scope.kind == .function && env.kindOf x == some .cell) then NameKind.cell else k
  | [], _ => rfl
  | (n, k) :: r, x => by
    have ih := relabel_look (env := env) r x
    show List.lookup x ((if (k == NameKind.free && env.scope.kind == .function && env.kindOf n == some .cell) = true then (n, NameKind.cell) else (n, k)) :: _) = _
    cases hx : x == n with
    | true =>
      have e : x = n := eq_of_beq hx
      subst e
      by_cases hc : (k == NameKind.free && env.scope.kind == .function && env.kindOf x == some .cell) = true
      · rw [if_pos hc]; simp only [List.lookup_cons, beq_self_eq_true, Option.map_some]; rw [if_pos hc]
      · rw [if_neg hc]; simp only [List.lookup_cons, beq_self_eq_true, Option.map_some]; rw [if_neg hc]
    | false =>
      by_cases hc : (k == NameKind.free && env.scope.kind == .function && env.kindOf n == some .cell) = true
      · rw [if_pos hc]; simp only [List.lookup_cons, hx]; exact ih
      · rw [if_neg hc]; simp only [List.lookup_cons, hx]; exact ih

/-! ### the loop of a list comprehension, any target, no exception -/
section
variable {prog : Program} {w : World} {A : Around} {R : Result → Shared → Prop} {s : Shared}
theorem compLoop_any {elt target iter : Expr} {ifs : List Expr} {scope : Scope} {pos : Pos} {it acc : Value} {env : Env} (I : Nat → Shared → Prop)
    (turn : ∀ n s, I n s → wpAny (model prog w) A (pyNext it) (fun r s₁ => match r with
      | none => R (.ok .next) s₁
      | some v => wpAny (model prog w) A (letOwnedTupleGo target it v) (fun _ s₁' => wpAny (model prog w) A (assign target env v) (fun _ s₂ =>
          wpAny (model prog w) A (forIn ifs true fun c r => if r = true then do let ok ← isTrue c env (eval c env); pure (ForInStep.yield ok) else pure (ForInStep.yield r)) (fun ok s₃ =>
            if ok = true then wpAny (model prog w) A (eval elt env) (fun x s₄ =>
              wpAny (model prog w) A (call (.builtin "list.append") [acc, x]) (fun _ s₅ => ∃ m, m < n ∧ I m s₅) (fun _ _ => False) s₄) (fun _ _ => False) s₃
            else ∃ m, m < n ∧ I m s₃) (fun _ _ => False) s₂) (fun _ _ => False) s₁') (fun _ _ => False) s₁) (fun _ _ => False) s)
    (n : Nat) (h : I n s) : codeAny (model prog w) A (.compLoop (.ListComp elt [⟨target, iter, ifs, 0⟩] scope pos) 0 it acc env) R s := by
  refine codeAny_loop rfl I (fun n s hI => ?_) n h
  show wpAny _ A ((compTurn (.ListComp elt [⟨target, iter, ifs, 0⟩] scope pos) 0 it acc env).onRaise (fun x => do noteFrame x env; theTreesLotGoes x)) _ _ s
  refine wpAny_noted ?_
  rw [compTurn_list]
  refine wpAny_bind (wpAny_standAt (wpAny_bind (wpAny_mono (turn n s hI) (fun r s₁ h₁ => ?_) fun _ _ h' => h'.elim)))
  cases r with
  | none => exact wpAny_pure h₁
  | some v =>
    refine wpAny_bind (wpAny_mono h₁ (fun _ s₁' h₁' => ?_) fun _ _ h' => h'.elim)
    refine wpAny_bind (wpAny_mono h₁' (fun _ s₂ h₂ => wpAny_bind (wpAny_mono h₂ (fun ok s₃ h₃ => ?_) fun _ _ h' => h'.elim)) fun _ _ h' => h'.elim)
    cases ok with
    | false => exact wpAny_pure ⟨rfl, h₃⟩
    | true =>
      exact wpAny_bind (wpAny_bind (wpAny_mono h₃ (fun x s₄ h₄ => wpAny_bind (wpAny_mono h₄ (fun _ s₅ h₅ => wpAny_pure (wpAny_pure ⟨rfl, h₅⟩)) fun _ _ h' => h'.elim)) fun _ _ h' => h'.elim))
end

/-! ### the context of a block -/
def compCx (X : Cx) (scope : Scope) (N : List Str) (ex : List Addr) (C : Addr) (s : Shared) (H : Hp) : Cx where
  prog := X.prog
  w := X.w
  K := X.K
  mg := X.mg
  base := X.base
  A := X.A
  N := N
  s₀ := s
  H₀ := H
  env := compEnvC scope (closL X.env.cells scope.names []) C X.env
  outer := X.stack
  stack := X.stack
  ex := ex
  fn := fun _ => false
  calm := X.calm
  pn := []
  xe := fun _ _ => False

/-- what the scope of a block must be like: fv are the names that it takes from around, with their slots there -/
structure CompOk (X : Cx) (scope : Scope) (ln : List Str) (fv : List (Str × Nat)) : Prop where
  kind : scope.kind = .function
  nocell : ∀ y ∈ scope.names, y.2 ≠ .cell
  locals : ∀ y ∈ scope.names, y.2 = .local → scope.names.lookup y.1 = some .local
  free : ∀ y ∈ scope.names, y.2 = .free → (X.env.kindOf y.1 = some .cell ∨ X.env.kindOf y.1 = some .free)
  fvs : ∀ p ∈ fv, X.N[p.2]? = some p.1 ∧ scope.names.lookup p.1 = some .free

def fvals (σ : St) (fv : List (Str × Nat)) : St := fv.map fun p => (σ[p.2]?).join

/-- the targets of a block: one name, or a tuple of n names -/
def tgtK (K : PySem.W.Frag) : Option Nat → V → Hp → (List V → Prop) → Prop
  | none, x, _, Q => Q [x]
  | some n, x, H, Q => ∃ a xs, x = .ref a ∧ SqT K H a xs ∧ xs.length = n ∧ Q xs

/-- a block's test -/
def tCond : Option TT → TT
  | none => fun _ H k => k true H
  | some t => t
def tComp (K : PySem.W.Frag) (wi : TI) (tk : Option Nat) (fv : List (Str × Nat)) (tc : Option TT) (te : TE) : TE := fun σ H Q =>
  wi σ H fun J H1 => ∃ W : Nat → Nat → List V → Hp → Prop, (∃ m, W 0 m [] H1) ∧ ∀ i m ys H2, W i m ys H2 →
    (J.stop i H2 ∧ ∀ p, H2 p = none → Q (.ref p) (upd H2 p (.lst ys))) ∨
    (J.go i H2 ∧ ∀ x H3, J.yld i H2 x H3 → tgtK K tk x H3 fun xs =>
      tCond tc (xs.map some ++ fvals σ fv) H3 fun b H5 =>
        if b = true then te (xs.map some ++ fvals σ fv) H5 fun y H6 => ys.length < sizeLine ∧ ∃ m', m' < m ∧ W (i + 1) m' (ys ++ [y]) H6
        else ∃ m', m' < m ∧ W (i + 1) m' ys H5)

section
variable {X : Cx} {pins : List (Addr × Obj)} {σ : St} {H : Hp} {s₂ s₃ : Shared} {scope : Scope} {ln : List Str} {fv : List (Str × Nat)} {fp : List Addr} {h₁ : Heap} {D C : Addr} {m : Str → Option Value} {t : Nat}
theorem CompOk.cells (S : CompOk X scope ln fv) (I : Inv X pins σ H s₂) {x : Str} {c : Addr} (h : (closL X.env.cells scope.names []).lookup x = some c) : X.env.cells.lookup x = some c ∧ (x, NameKind.free) ∈ scope.names := by
  rcases closL_look _ _ _ _ h with z | ⟨z1, z2⟩
  · cases z
  · obtain ⟨c', e⟩ := I.ok.has x (S.free _ z1 rfl)
    rw [e] at z2
    have z3 : c' = c := z2
    subst z3
    exact ⟨e, z1⟩
theorem CompOk.clos (S : CompOk X scope ln fv) (I : Inv X pins σ H s₂) : closureFor scope X.env = pure (closL X.env.cells scope.names []) :=
  closureFor_of fun y hy hk => I.ok.has y.1 (S.free y hy hk)

theorem comp_inv (S : CompOk X scope ln fv) (I : Inv X pins σ H s₂) (f2 : ∀ b ∈ fp, FpOk X pins H b) (hob : ∀ b ∈ fp, ∃ o, s₂.heap.get? b = some o)
    (os : s₃.os = s₂.os) (gens : s₃.gens = s₂.gens) (k3 : ∀ b o, s₂.heap.get? b = some o → s₃.heap.get? b = some o) (hD : D = s₂.heap.objs.size) (h3 : s₃.heap.objs.size = s₂.heap.objs.size + 1) (hC : C = s₃.heap.objs.size)
    (k4 : ∀ b o, s₃.heap.get? b = some o → h₁.get? b = some o) (hns : h₁.Ns C m) :
    Inv (compCx X scope (ln ++ fv.map (·.1)) (D :: fp) C s₃ H) [] (ln.map (fun _ => none) ++ fvals σ fv) H { s₃ with heap := h₁, toks := t } := by
  have cl : ∀ {x c}, (closL X.env.cells scope.names []).lookup x = some c → X.env.cells.lookup x = some c := fun h => (S.cells I h).1
  have ltc : ∀ {x c}, (closL X.env.cells scope.names []).lookup x = some c → c < s₂.heap.objs.size := fun h => by
    obtain ⟨v, q⟩ := I.cell _ _ (cl h)
    exact q.lt
  have ltf : ∀ b ∈ fp, b < s₂.heap.objs.size := fun b hb => by obtain ⟨o, e⟩ := hob b hb; exact Heap.lt_size e
  have exb : ∀ b ∈ D :: fp, b ≤ s₂.heap.objs.size := fun b hb => by
    rcases List.mem_cons.mp hb with e | hb
    · rw [e, hD]; exact Nat.le_refl _
    · exact Nat.le_of_lt (ltf b hb)
  have klook : ∀ x, (relabel scope X.env).names.lookup x = (scope.names.lookup x).map fun k => if (k == NameKind.free && X.env.scope.kind == .function && X.env.kindOf x == some .cell) then NameKind.cell else k := fun x => relabel_look scope.names x
  have kfree : ∀ x, scope.names.lookup x = some .free → ((relabel scope X.env).names.lookup x = some .cell ∨ (relabel scope X.env).names.lookup x = some .free) := fun x e => by
    rw [klook, e]
    simp only [Option.map_some]
    split
    · exact .inl rfl
    · exact .inr rfl
  have kback : ∀ x, ((relabel scope X.env).names.lookup x = some .cell ∨ (relabel scope X.env).names.lookup x = some .free) → (x, NameKind.free) ∈ scope.names := fun x e => by
    rw [klook] at e
    cases q : scope.names.lookup x with
    | none => rw [q] at e; rcases e with e | e <;> cases e
    | some k =>
      rw [q] at e
      have hm : (x, k) ∈ scope.names := PySem.mem_of_lookup q
      simp only [Option.map_some] at e
      by_cases hk : k = .free
      · rw [hk] at hm; exact hm
      · have hb : (k == NameKind.free) = false := by simpa using hk
        simp only [hb, Bool.false_and, Bool.false_eq_true, if_false] at e
        rcases e with e | e
        · exact absurd (Option.some.inj e) (S.nocell _ hm)
        · exact absurd (Option.some.inj e) hk
  refine ⟨⟨I.ok.mod, S.kind, I.ok.glob, I.ok.blt, Nat.le_of_eq hC.symm, fun x y c h1 h2 => I.ok.inj x y c (cl h1) (cl h2), fun x hx => closL_has _ _ x (.inl (kback x hx)), fun x c h _ => (by cases h), I.ok.hd, I.ok.frames, .inl rfl, fun b hb => ⟨?_, fun x c e => ?_⟩, fun b o e => ⟨k3 b o (I.bs b o e).1, (I.bs b o e).2⟩, ?_, fun b o e hb => ?_, fun b hb hf => ?_, ?_, I.stkFree⟩,
    rfl, ?_, Un.kept fun b u e => k4 b u e, ⟨m, hns, fun i x v e1 e2 e3 => ?_⟩, fun x c e => ?_, I.hok.fresh ?_, fun x c e => I.freeC x c (cl e), fun p hp => absurd (show p ∈ ([] : List (Addr × Obj)) from hp) (by simp), I.hok.kept fun b u e => k4 b u (k3 b u e), ?_⟩
  · show b ≠ C
    have := exb b hb
    rw [hC, h3]; exact Nat.ne_of_lt (Nat.lt_succ_of_le this)
  · have q1 := ltc e
    rcases List.mem_cons.mp hb with z | z
    · rw [z, hD]; exact Nat.ne_of_lt q1
    · exact (f2 b z).2.2.2.2.1 x c (cl e)
  · show X.base.objs.size ≤ s₃.heap.objs.size
    have := Nat.le_trans I.ok.bsz I.sz
    omega
  · have e2 := (I.bs b o e).1
    have hb' : b ∈ D :: fp := hb
    rcases List.mem_cons.mp hb' with z | z
    · have := Heap.lt_size e2
      rw [z, hD] at this; exact Nat.lt_irrefl _ this
    · rcases (f2 b z).2.2.2.1 with q | q
      · exact I.ok.noex b o e q
      · exact absurd (Nat.lt_of_lt_of_le (Heap.lt_size (I.ok.bs b o e).1) q) (Nat.lt_irrefl _)
  · have hf' : b ∈ frs X.stack := hf
    have hb' : b ∈ D :: fp := hb
    rcases List.mem_cons.mp hb' with z | z
    · rcases List.mem_cons.mp (I.stkSub b hf') with q | q
      · have := I.lt
        rw [← q, z, hD] at this; exact Nat.lt_irrefl _ this
      · exact I.nofs (by rw [z, hD]; exact Nat.le_refl _) q
    · rcases List.mem_cons.mp (I.stkSub b hf') with q | q
      · exact (f2 b z).2.1 q
      · exact (f2 b z).2.2.1 q
  · exact PySem.Heap.FunFrames.of_keeps (fun b o e _ => ⟨o, k3 b o e, rfl⟩) I.stack
  · show AllBare s₃.gens
    rw [gens]; exact I.bare
  · have hi : ln.length ≤ i := by
      by_cases hi : i < ln.length
      · exfalso
        rw [List.getElem?_append_left (by simpa using hi), List.getElem?_map] at e2
        cases q : ln[i]? with
        | none => rw [q] at e2; cases e2
        | some y => rw [q] at e2; cases e2
      · omega
    have e1' : (ln ++ fv.map (·.1))[i]? = some x := e1
    rw [List.getElem?_append_right hi, List.getElem?_map] at e1'
    rw [List.getElem?_append_right (by simpa using hi), List.length_map] at e2
    unfold fvals at e2
    rw [List.getElem?_map] at e2
    cases q : fv[i - ln.length]? with
    | none => rw [q] at e1'; cases e1'
    | some p =>
      rw [q] at e1' e2
      have ex : p.1 = x := Option.some.inj e1'
      have ev : (σ[p.2]?).join = some v := Option.some.inj e2
      obtain ⟨g1, g2⟩ := S.fvs p (List.mem_of_getElem? q)
      rw [ex] at g1 g2
      have ev' : σ[p.2]? = some (some v) := by
        cases z : σ[p.2]? with
        | none => rw [z] at ev; cases ev
        | some o => rw [z] at ev; rw [show o = some v from ev]
      have hk := S.free _ (PySem.mem_of_lookup g2) rfl
      obtain ⟨m2, hn2, hl⟩ := I.loc
      obtain ⟨u, r, l⟩ := hl p.2 x v g1 ev' (by rcases hk with k | k; exact .inr (.inl k); exact .inr (.inr k))
      refine ⟨u, r, .inr ?_⟩
      rcases l with ⟨k, _⟩ | ⟨_, c, ec, z⟩
      · rcases hk with k' | k' <;> (rw [k] at k'; cases k')
      · refine ⟨kfree x g2, c, ?_, ?_⟩
        · obtain ⟨c', e'⟩ := closL_has (cells := X.env.cells) scope.names [] x (.inl (PySem.mem_of_lookup g2))
          have := cl e'
          rw [ec] at this; cases this
          exact e'
        · obtain ⟨o, ho, hd⟩ := z
          exact ⟨o, k4 c o (k3 c o ho), hd⟩
  · obtain ⟨v, o, ho, hd⟩ := I.cell x c (cl e)
    exact ⟨v, o, k4 c o (k3 c o ho), hd⟩
  · show s₂.heap.objs.size ≤ C
    rw [hC, h3]; exact Nat.le_succ _
  · show (ln.map (fun _ => none) ++ fvals σ fv).length = (ln ++ fv.map (·.1)).length
    simp [fvals]
end

/-! ### the block itself -/
section
variable {X : Cx} {pins : List (Addr × Obj)} {σ : St} {H : Hp} {s₂ : Shared} {scope : Scope} {ln : List Str} {fv : List (Str × Nat)} {elt tg iter : Expr} {ifs : List Expr} {pos : Pos}
  {J : It} {fp : List Addr} {it : Addr} {tn : Nat → Heap → Prop} {tk : Option Nat} {tc : Option TT} {te : TE} {Qv : VK} {RR : Value → Addr → Result → Shared → Prop} {E : Value → Shared → Prop}

/-- the target stores what tgtK says -/
def TgtOk (X : Cx) (scope : Scope) (ln : List Str) (fv : List (Str × Nat)) (tg : Expr) (tk : Option Nat) : Prop :=
  ∀ (ex : List Addr) (C : Addr) (s : Shared) (H : Hp), ∃ g, PG (compCx X scope (ln ++ fv.map (·.1)) ex C s H) tg g ∧
    ∀ (x : V) (pre φ : St) (H' : Hp) (Q : St → Hp → Prop), pre.length = ln.length → tgtK X.K tk x H' (fun xs => xs.length = ln.length → Q (xs.map some ++ φ) H') → g x (pre ++ φ) H' Q
def IfsOk (X : Cx) (scope : Scope) (N : List Str) (ifs : List Expr) (tc : Option TT) : Prop :=
  match tc with
  | none => ifs = []
  | some t => ∃ c, ifs = [c] ∧ ∀ (ex : List Addr) (C : Addr) (s : Shared) (H : Hp), PT (compCx X scope N ex C s H) c t

theorem comp_block (S : CompOk X scope ln fv) (hc : X.calm = true) (hg : TgtOk X scope ln fv tg tk) (ht : IfsOk X scope (ln ++ fv.map (·.1)) ifs tc)
    (he : ∀ (ex : List Addr) (C : Addr) (s : Shared) (H : Hp), PE (compCx X scope (ln ++ fv.map (·.1)) ex C s H) elt te)
    (I : Inv X pins σ H s₂) (T : Turn X.prog X.w X.K tg J fp it tn) (st : tn 0 s₂.heap) (f2 : ∀ b ∈ fp, FpOk X pins H b)
    (h : ∃ W : Nat → Nat → List V → Hp → Prop, (∃ m, W 0 m [] H) ∧ ∀ i m ys H2, W i m ys H2 →
      (J.stop i H2 ∧ ∀ p, H2 p = none → Qv (.ref p) (upd H2 p (.lst ys))) ∨
      (J.go i H2 ∧ ∀ x H3, J.yld i H2 x H3 → tgtK X.K tk x H3 fun xs =>
        tCond tc (xs.map some ++ fvals σ fv) H3 fun b H5 =>
          if b = true then te (xs.map some ++ fvals σ fv) H5 fun y H6 => ys.length < sizeLine ∧ ∃ m', m' < m ∧ W (i + 1) m' (ys ++ [y]) H6
          else ∃ m', m' < m ∧ W (i + 1) m' ys H5))
    (hRR : ∀ D C H' s' m, Inv X pins σ H' s' → s'.heap.Ns C m → H' C = none → C ≠ X.env.locals → X.s₀.heap.objs.size ≤ C → (∀ x c, X.env.cells.lookup x = some c → c ≠ C) → (∀ p ∈ X.pn ++ pins, p.1 ≠ C) → Qv (.ref D) H' → RR (.ref D) C (.ok .next) s') :
    wpAny (model X.prog X.w) X.A (newList []) (fun acc s₃ => wpAny (model X.prog X.w) X.A (newFunctionEnv scope X.env.globals (closL X.env.cells scope.names []) [] X.env.qual none .none (some X.env)) (fun cenv s₄ =>
      codeAny (model X.prog X.w) X.A (.compStart (.ListComp elt [⟨tg, iter, ifs, 0⟩] scope pos) 0 (.ref it) acc { cenv with scope := relabel scope X.env }) (RR acc cenv.locals) s₄) E s₃) E s₂ := by
  obtain ⟨W, ⟨m0, w0⟩, turn⟩ := h
  refine wpAny_newObj_type (wpAny_newFunctionEnv S.nocell (by intro y hy; simp at hy) (fun h₁ hns₁ hsb₁ => ?_) S.kind)
  dsimp only at hns₁ hsb₁ ⊢
  generalize hs3 : ({ s₂ with heap := s₂.heap.push { cls := .type "list", dict := none, data := .seq ([] : List Value).toArray } } : Shared) = s₃
  have hH3 : s₂.heap.push { cls := .type "list", dict := none, data := .seq ([] : List Value).toArray } = s₃.heap := by rw [← hs3]
  rw [hH3] at hns₁ hsb₁ ⊢
  have os3 : s₃.os = s₂.os := by rw [← hs3]
  have ge3 : s₃.gens = s₂.gens := by rw [← hs3]
  have sz3 : s₃.heap.objs.size = s₂.heap.objs.size + 1 := by rw [← hH3, Heap.size_push]
  have k3 : ∀ b o, s₂.heap.get? b = some o → s₃.heap.get? b = some o := fun b o e => by rw [← hH3]; exact Heap.get?_push_of_some _ e
  have k4 : ∀ b o, s₃.heap.get? b = some o → h₁.get? b = some o := fun b o e => hsb₁.extBut b o (Nat.ne_of_lt (Heap.lt_size e)) (Heap.get?_push_of_some _ e)
  have gD : s₃.heap.get? s₂.heap.objs.size = some { cls := .type "list", dict := none, data := .seq ([] : List Value).toArray } := by rw [← hH3]; exact Heap.get?_push_size _ rfl
  generalize eD : s₂.heap.objs.size = D at gD
  generalize eC : s₃.heap.objs.size = C at hns₁ hsb₁ ⊢
  have hDC : D ≠ C := by rw [← eD, ← eC, sz3]; exact Nat.ne_of_lt (Nat.lt_succ_self _)
  have hob : ∀ b ∈ fp, ∃ o, s₂.heap.get? b = some o := fun b hb => by obtain ⟨o, e, _⟩ := T.obj 0 _ st b hb; exact ⟨o, e⟩
  have hbD : ∀ b ∈ fp, b ≠ D := fun b hb => by obtain ⟨o, e⟩ := hob b hb; rw [← eD]; exact Nat.ne_of_lt (Heap.lt_size e)
  have hbC : ∀ b ∈ fp, b ≠ C := fun b hb => by
    obtain ⟨o, e⟩ := hob b hb
    have := Heap.lt_size e
    rw [← eC, sz3]; exact Nat.ne_of_lt (Nat.lt_succ_of_lt this)
  generalize eX : compCx X scope (ln ++ fv.map (·.1)) (D :: fp) C s₃ H = Xc
  have I4 : ∀ t, Inv Xc [] (ln.map (fun _ => none) ++ fvals σ fv) H { s₃ with heap := h₁, toks := t } := fun t => by
    rw [← eX]
    exact comp_inv S I f2 hob os3 ge3 k3 eD.symm sz3 eC.symm k4 hns₁
  have xL : Xc.env.locals = C := by rw [← eX]; rfl
  have xex : Xc.ex = D :: fp := by rw [← eX]; rfl
  have xfs : Xc.fs = frs X.stack := by rw [← eX]; rfl
  have xP : Xc.prog = X.prog := by rw [← eX]; rfl
  have xw : Xc.w = X.w := by rw [← eX]; rfl
  have xK : Xc.K = X.K := by rw [← eX]; rfl
  have xA : Xc.A = X.A := by rw [← eX]; rfl
  have xc : Xc.calm = true := by rw [← eX]; exact hc
  have xpn : Xc.pn = [] := by rw [← eX]; rfl
  have xxe : Xc.xe = fun _ _ => False := by rw [← eX]; rfl
  have xcell : Xc.env.cells = closL X.env.cells scope.names [] := by rw [← eX]; rfl
  have xenv : Xc.env = compEnvC scope (closL X.env.cells scope.names []) C X.env := by rw [← eX]; rfl
  have cD : ∀ x c, Xc.env.cells.lookup x = some c → c ≠ D := fun x c e => by
    rw [xcell] at e
    obtain ⟨v, q⟩ := I.cell x c (S.cells I e).1
    rw [← eD]; exact Nat.ne_of_lt q.lt
  have cF : ∀ x c, Xc.env.cells.lookup x = some c → ∀ b ∈ fp, c ≠ b := fun x c e b hb => by
    rw [xcell] at e
    exact (f2 b hb).2.2.2.2.1 x c (S.cells I e).1
  have sF : ∀ b ∈ D :: fp, b ∉ Xc.fs := fun b hb hf => by
    have := (I4 0).ok.exfs b (by rw [xex]; exact hb)
    exact this hf
  -- the iterator's objects, the list
  have stat : ∀ {H' : Hp} {oD : Obj}, (∀ b ∈ fp, H' b = none) → ∀ b ∈ fp, FpOk Xc [(D, oD)] H' b := fun hn b hb =>
    ⟨hn b hb, by rw [xL]; exact hbC b hb, sF b (List.mem_cons_of_mem _ hb), .inl (by rw [xex]; exact List.mem_cons_of_mem _ hb), fun x c e => cF x c e b hb, fun p hp => by
      rw [xpn] at hp
      rcases List.mem_singleton.mp (show p ∈ [(D, _)] from hp) with rfl
      exact (hbD b hb).symm⟩
  have loop : ∀ s₄ : Shared, s₄ = { s₃ with heap := h₁, toks := s₃.toks + ([] : List (Str × Value)).length } →
      codeAny (model X.prog X.w) X.A (.compLoop (.ListComp elt [⟨tg, iter, ifs, 0⟩] scope pos) 0 (.ref it) (.ref D) (compEnvC scope (closL X.env.cells scope.names []) C X.env)) (RR (.ref D) C) s₄ := by
    rintro s₄ rfl
    refine compLoop_any (fun n s' => ∃ i pre ys its nn H', Inv Xc [(D, { cls := .type "list", data := .seq (List.toArray its) nn })] (pre ++ fvals σ fv) H' s' ∧ pre.length = ln.length ∧ tn i s'.heap ∧ (∀ b ∈ fp, H' b = none) ∧ Vals ys its ∧ ys.length ≤ sizeLine ∧ W i n ys H') ?_ m0
      ⟨0, ln.map (fun _ => none), [], [], 0, H, (I4 _).pins_of (fun p hp => ?_), by simp, T.keep 0 _ _ st (fun b _ o e => k4 b o (k3 b o e)), fun b hb => (f2 b hb).1, .nil, Nat.zero_le _, w0⟩
    rotate_left
    · have hp' := List.mem_singleton.mp hp
      subst hp'
      refine ⟨k4 _ _ gD, I.hok.fresh (Nat.le_of_eq eD), by rw [xL]; exact hDC, sF D List.mem_cons_self, fun v z => by cases z⟩
    rintro n s' ⟨i, pre, ys, its, nn, H', I', hpre, st', fr', hv, hz, w'⟩
    have pinD := I'.pin (D, _) (List.mem_append_right _ List.mem_cons_self)
    rcases turn i n ys H' w' with ⟨stop, qn⟩ | ⟨go, step⟩
    · have td := T.done Xc xP xw xK xc i _ s' _ H' (fun _ _ => False) I' (stat fr') st' stop
      rw [xA] at td
      refine thn td fun r s1 ⟨hr, I1⟩ => ?_
      subst hr
      have pinD1 := I1.pin (D, _) (List.mem_append_right _ List.mem_cons_self)
      have b1 := I1.base
      rw [xfs, xex] at b1
      have hs0 : Xc.s₀ = s₃ := by rw [← eX]; rfl
      have hH0 : Xc.H₀ = H := by rw [← eX]; rfl
      rw [hs0, hH0] at b1
      have nD : ∀ b o, s₂.heap.get? b = some o → b ∉ fp → b ∉ D :: fp := fun b o e hb hm => by
        rcases List.mem_cons.mp hm with z | z
        · have := Heap.lt_size e
          rw [z, eD] at this; exact Nat.lt_irrefl _ this
        · exact hb z
      have un : Un (frs X.stack) fp H H' s₂.heap s1.heap := ⟨fun b o e nb hb hx => b1.keep b o (k3 b o e) nb hb (nD b o e hx), fun b o e nb hb hx => b1.slot b o (k3 b o e) nb hb (nD b o e hx), fun b o e nb hx => b1.free b o (k3 b o e) nb (nD b o e hx),
        fun b o e hx => b1.there b o (k3 b o e) (nD b o e hx), b1.tups, b1.frzs, b1.tbls⟩
      have os1 : s1.os = s₂.os := by rw [I1.os, hs0, os3]
      have hok1 := I1.hok
      rw [xP, xw] at hok1
      have J1 : Inv X pins σ H' s1 := I.call' os1 un hok1 I1.bare fun b hb => ⟨(f2 b hb).2.2.2.1, (f2 b hb).2.1, (f2 b hb).2.2.2.2.1, (f2 b hb).2.2.2.2.2⟩
      have cD' : ∀ x c, X.env.cells.lookup x = some c → c ≠ D := fun x c e => by
        obtain ⟨v, q⟩ := I.cell x c e
        rw [← eD]; exact Nat.ne_of_lt q.lt
      have cC' : ∀ x c, X.env.cells.lookup x = some c → c ≠ C := fun x c e => by
        obtain ⟨v, q⟩ := I.cell x c e
        rw [← eC, sz3]; exact Nat.ne_of_lt (Nat.lt_succ_of_lt q.lt)
      have pD : ∀ p ∈ X.pn ++ pins, p.1 ≠ D := fun p hp => by rw [← eD]; exact Nat.ne_of_lt (Heap.lt_size (I.pin p hp).1)
      have pC : ∀ p ∈ X.pn ++ pins, p.1 ≠ C := fun p hp => by
        rw [← eC, sz3]; exact Nat.ne_of_lt (Nat.lt_succ_of_lt (Heap.lt_size (I.pin p hp).1))
      have lD : D ≠ X.env.locals := by rw [← eD]; exact Nat.ne_of_gt I.lt
      have lC : C ≠ X.env.locals := by
        rw [← eC, sz3]; exact Nat.ne_of_gt (Nat.lt_succ_of_lt I.lt)
      have J2 : Inv X pins σ (upd H' D (.lst ys)) s1 := Inv.track J1 pinD1.2.1 (by rw [← eD]; exact I.sz) lD cD' pD ⟨hz, its, nn, hv, pinD1.1⟩
      obtain ⟨mC, nsC, _⟩ := I1.loc
      rw [xL] at nsC
      have fC : H' C = none := by have := I1.free; rw [xL] at this; exact this
      exact hRR D C _ s1 mC J2 nsC (by rw [upd_ne (Ne.symm hDC)]; exact fC) lC (by rw [← eC, sz3]; exact Nat.le_succ_of_le I.sz) cC' pC (qn D pinD1.2.1)
    · have ti := T.item Xc xP xw xK xc i _ s' _ H' (fun _ _ => False) I' (stat fr') st' go
      rw [xA] at ti
      refine thn ti fun r s4 ⟨u, hr, h4⟩ => ?_
      subst hr
      refine thn h4 fun _ s5 ⟨x, H5, I5, r5, y5, st5, fr5⟩ => ?_
      have I5' := I5.pinned (stat fr5) (T.obj _ _ st5)
      obtain ⟨g, pg, gq⟩ := hg (D :: fp) C s₃ H
      rw [eX] at pg
      have rd := step x H5 y5
      have as1 := pg _ s5 _ H5 x u (fun σ6 H6 => ∃ xs : List V, σ6 = xs.map some ++ fvals σ fv ∧ xs.length = ln.length ∧ H6 = H5 ∧
          tCond tc (xs.map some ++ fvals σ fv) H5 fun b H5 =>
          if b = true then te (xs.map some ++ fvals σ fv) H5 fun y H6 => ys.length < sizeLine ∧ ∃ m', m' < n ∧ W (i + 1) m' (ys ++ [y]) H6
          else ∃ m', m' < n ∧ W (i + 1) m' ys H5) I5' r5 (gq x pre (fvals σ fv) H5 _ hpre (by
            cases tk with
            | none => exact fun hl => ⟨_, rfl, hl, rfl, rd⟩
            | some k =>
              obtain ⟨a, xs, e1, e2, e3, rd⟩ := rd
              exact ⟨a, xs, e1, e2, e3, fun hl => ⟨xs, rfl, hl, rfl, rd⟩⟩))
      rw [xA, xP, xw, xxe, xenv] at as1
      refine thn as1 fun _ s6 ⟨σ6, H6, I6, xs, e6, hxs, eH, rd6⟩ => ?_
      subst e6 eH
      have pinsK : ∀ {H7 : Hp} {σ7 : St} {s7 : Shared}, Inv Xc ([(D, { cls := .type "list", data := .seq (List.toArray its) nn })] ++ pinsAt fp s5.heap) σ7 H7 s7 → tn (i + 1) s7.heap ∧ (∀ b ∈ fp, H7 b = none) ∧ s7.heap.get? D = some { cls := .type "list", data := .seq (List.toArray its) nn } ∧ H7 D = none := fun {H7 σ7 s7} I7 => by
        refine ⟨T.keep _ _ _ st5 fun b hb o e => (I7.pin (b, o) (List.mem_append_right _ (List.mem_append_right _ (mem_pinsAt hb e)))).1, fun b hb => ?_, ?_, ?_⟩
        · obtain ⟨o, e, d⟩ := T.obj _ _ st5 b hb
          exact (I7.pin (b, o) (List.mem_append_right _ (List.mem_append_right _ (mem_pinsAt hb e)))).2.1
        · exact (I7.pin (D, _) (List.mem_append_right _ (List.mem_append_left _ List.mem_cons_self))).1
        · exact (I7.pin (D, _) (List.mem_append_right _ (List.mem_append_left _ List.mem_cons_self))).2.1
      -- the tests
      have tests : wpAny (model X.prog X.w) X.A (forIn ifs true fun c r => if r = true then do let ok ← isTrue c (compEnvC scope (closL X.env.cells scope.names []) C X.env) (eval c (compEnvC scope (closL X.env.cells scope.names []) C X.env)); pure (ForInStep.yield ok) else pure (ForInStep.yield r))
          (fun ok s7 => ∃ H7, Inv Xc ([(D, { cls := .type "list", data := .seq (List.toArray its) nn })] ++ pinsAt fp s5.heap) (xs.map some ++ fvals σ fv) H7 s7 ∧
            if ok = true then te (xs.map some ++ fvals σ fv) H7 fun y H6 => ys.length < sizeLine ∧ ∃ m', m' < n ∧ W (i + 1) m' (ys ++ [y]) H6
            else ∃ m', m' < n ∧ W (i + 1) m' ys H7) (fun _ _ => False) s6 := by
        cases tc with
        | none =>
          have hif : ifs = [] := ht
          subst hif
          exact wpAny_tests_nil ⟨_, I6, rd6⟩
        | some t =>
          obtain ⟨c, hif, pt⟩ := (show ∃ c, ifs = [c] ∧ ∀ (ex : List Addr) (C : Addr) (s : Shared) (H : Hp), PT (compCx X scope (ln ++ fv.map (·.1)) ex C s H) c t from ht)
          subst hif
          have pt' := pt (D :: fp) C s₃ H
          rw [eX] at pt'
          have q := pt' _ s6 _ _ _ I6 rd6
          rw [xA, xP, xw, xxe, xenv] at q
          exact wpAny_tests_one (thn q fun b s7 ⟨H7, I7, q7⟩ => ⟨H7, I7, q7⟩)
      refine thn tests fun ok s7 ⟨H7, I7, q7⟩ => ?_
      cases ok with
      | false =>
        simp only [Bool.false_eq_true, if_false] at q7 ⊢
        obtain ⟨m', hm, w7⟩ := q7
        obtain ⟨t7, f7, d7, n7⟩ := pinsK I7
        refine ⟨m', hm, i + 1, xs.map some, ys, its, nn, H7, I7.pins_of (fun p hp => ?_), by simpa using hxs, t7, f7, hv, hz, w7⟩
        exact I7.pin p (List.mem_append_right _ (List.mem_append_left _ hp))
      | true =>
        simp only [if_true] at q7 ⊢
        have q := he (D :: fp) C s₃ H
        rw [eX] at q
        have q := q _ s7 _ H7 _ I7 q7
        rw [xA, xP, xw, xxe, xenv] at q
        refine thn q fun uy s8 ⟨y, H8, I8, r8, hlt, m', hm, w8⟩ => ?_
        obtain ⟨t8, f8, d8, n8⟩ := pinsK I8
        have hl := hv.length
        refine call_meets F.slot_list_append ⟨_, d8, rfl⟩ F.entry_list_append (F.args_list_append_2 _ _) (PySem.list_append D its.toArray nn uy (by rw [List.size_toArray]; omega)) ⟨d8, ?_⟩
        have I9 : ∀ t, Inv Xc [] (xs.map some ++ fvals σ fv) H8 { s8 with heap := s8.heap.update D (Obj.mapSeq (·.push uy)), toks := t } := fun t =>
          (I8.pins_of (pins' := []) (fun p hp => absurd hp (by simp))).turned (it := D) (t' := t) (fun b o hb e => (Heap.get?_update_other s8.heap (Obj.mapSeq (·.push uy)) (Ne.symm hb)).trans e) n8 (by rw [xL]; exact hDC) (.inl (by rw [xex]; exact List.mem_cons_self)) cD
            (fun p hp => by rw [xpn] at hp; exact absurd hp (by simp))
        have g9 := PySem.IsL.update d8 (·.push uy)
        obtain ⟨n9, g9'⟩ : ∃ n9, (s8.heap.update D (Obj.mapSeq (·.push uy))).get? D = some { cls := .type "list", data := .seq (its ++ [uy]).toArray n9 } :=
          ⟨_, by rw [show (its ++ [uy]).toArray = its.toArray.push uy by simp]; exact g9⟩
        refine ⟨m', hm, i + 1, xs.map some, ys ++ [y], its ++ [uy], n9, H8, (I9 _).pins_of (fun p hp => ?_), by simpa using hxs, ?_, f8, hv.append (.cons r8 .nil), ?_, w8⟩
        · have hp' := List.mem_singleton.mp hp
          subst hp'
          exact ⟨g9', n8, by rw [xL]; exact hDC, sF D List.mem_cons_self, fun v z => by cases z⟩
        · exact T.keep _ _ _ t8 fun b hb o e => (Heap.get?_update_other s8.heap (Obj.mapSeq (·.push uy)) (Ne.symm (hbD b hb))).trans e
        · rw [List.length_append, List.length_singleton]; omega
  have st4 : tn 0 h₁ := T.keep 0 _ _ st fun b _ o e => k4 b o (k3 b o e)
  have e4 : ({ s₂ with heap := h₁, toks := s₂.toks + ([] : List (Str × Value)).length } : Shared) = { s₃ with heap := h₁, toks := s₃.toks + ([] : List (Str × Value)).length } := by rw [← hs3]
  exact codeAny_compStart_list (loop _ e4) (T.self X.A 0 _ _ _ st4 (loop _ e4))
end

section
variable {X : Cx} {scope : Scope} {ln : List Str} {fv : List (Str × Nat)} {elt tg iter : Expr} {ifs : List Expr} {pos : Pos} {wi : TI} {tk : Option Nat} {tc : Option TT} {te : TE}
/-- [elt for tg in iter if ..] -/
theorem pe_comp (S : CompOk X scope ln fv) (hc : X.calm = true) (hi : PI X tg iter wi) (hg : TgtOk X scope ln fv tg tk) (ht : IfsOk X scope (ln ++ fv.map (·.1)) ifs tc)
    (he : ∀ (ex : List Addr) (C : Addr) (s : Shared) (H : Hp), PE (compCx X scope (ln ++ fv.map (·.1)) ex C s H) elt te) (hs : ∀ x, foldedSetIterable iter X.env x = pure x := by intro _; rfl) :
    PE X (.ListComp elt [⟨tg, iter, ifs, 0⟩] scope pos) (tComp X.K wi tk fv tc te) := by
  intro pins s σ H Q I h
  rw [eval_ListComp]
  refine wpAny_comprehension_free (use := none) rfl hs (S.clos I) S.kind S.locals (thn (hi pins s σ H _ I h) fun v s1 h1 => thn h1 fun itv s2 h2 => ?_)
  obtain ⟨it, fp, tn, J, H2, e, I2, T, st2, f2, hW⟩ := h2
  subst e
  refine comp_block (RR := fun acc C => compPost (model X.prog X.w) X.A X.xe none (EP X pins σ Q) acc C) S hc hg ht he I2 T st2 f2 hW ?_
  intro D C H' s' m I' ns hn hL h0 hcl hp q
  refine ⟨m, ns, fun h' sb => ⟨.ref D, H', ?_, rfl, q⟩⟩
  exact I'.turned (it := C) (t' := s'.toks) (fun b o hb e => sb.extBut b o hb e) hn hL (.inr h0) hcl hp
end

/-! ### targets of a block -/
section
variable {X : Cx} {scope : Scope} {fv : List (Str × Nat)}
theorem tgt_name {x : Str} {px : Pos} (hl : scope.names.lookup x = some .local) (hnd : (x :: fv.map (·.1)).Nodup) : TgtOk X scope [x] fv (.Name x px) none := by
  intro ex C s H
  have hloc : Loc (compCx X scope ([x] ++ fv.map (·.1)) ex C s H).env.scope x := .inl (lookup_relabel_local hl)
  refine ⟨gName 0, pg_name (X := compCx X scope ([x] ++ fv.map (·.1)) ex C s H) hnd rfl hloc (.inr (lookup_relabel_local hl)), fun v pre φ H' Q hp h => ?_⟩
  obtain ⟨a, rfl⟩ : ∃ a, pre = [a] := by
    match pre, hp with
    | [a], _ => exact ⟨a, rfl⟩
  exact h rfl
theorem tgt_two {x y : Str} {px py pos : Pos} {k : Nat} (hc : X.calm = true) (hx : scope.names.lookup x = some .local) (hy : scope.names.lookup y = some .local) (hnd : (x :: y :: fv.map (·.1)).Nodup) : TgtOk X scope [x, y] fv (.Tuple [.Name x px, .Name y py] k pos) (some 2) := by
  intro ex C s H
  generalize eX : compCx X scope ([x, y] ++ fv.map (·.1)) ex C s H = Xc
  have xN : Xc.N = x :: y :: fv.map (·.1) := by rw [← eX]; rfl
  have xc : Xc.calm = true := by rw [← eX]; exact hc
  have lx : Xc.env.scope.names.lookup x = some .local := by rw [← eX]; exact lookup_relabel_local hx
  have ly : Xc.env.scope.names.lookup y = some .local := by rw [← eX]; exact lookup_relabel_local hy
  have p1 : PG Xc (.Name x px) (gName 0) := pg_name (by rw [xN]; exact hnd) (by rw [xN]; rfl) (.inl lx) (.inr lx)
  have p2 : PG Xc (.Name y py) (gName 1) := pg_name (by rw [xN]; exact hnd) (by rw [xN]; rfl) (.inl ly) (.inr ly)
  have xK : Xc.K = X.K := by rw [← eX]; rfl
  refine ⟨gTup Xc.K 2 (gCons (gName 0) (gCons (gName 1) gNil)), pg_tup xc (pgs_cons p1 (pgs_cons p2 pgs_nil)), fun v pre φ H' Q hp h => ?_⟩
  obtain ⟨a, b, rfl⟩ : ∃ a b, pre = [a, b] := by
    match pre, hp with
    | [a, b], _ => exact ⟨a, b, rfl⟩
  obtain ⟨a', xs, rfl, e2, e3, q⟩ := h
  obtain ⟨v1, v2, rfl⟩ : ∃ v1 v2, xs = [v1, v2] := by
    match xs, e3 with
    | [v1, v2], _ => exact ⟨v1, v2, rfl⟩
  exact ⟨a', _, rfl, by rw [xK]; exact e2, rfl, v1, _, rfl, v2, _, rfl, rfl, q rfl⟩
end
end L2

set_option maxRecDepth 100000
set_option maxHeartbeats 4000000
namespace L2
open PySem PySem.Spec PyProof.Rows
section
variable {X : Cx}
theorem OpR.imp {f : Value → Value → Sem Value} {r r' : R2} (h : OpR X f r) (i : ∀ x y H Q, r' x y H Q → r x y H Q) : OpR X f r' := fun pins s σ H x y v u Q I rx ry q => h pins s σ H x y v u Q I rx ry (i _ _ _ _ q)
theorem CallR.imp {f : Value} {r r' : List V → Hp → VK → Prop} (h : CallR X f r) (i : ∀ xs H Q, r' xs H Q → r xs H Q) : CallR X f r' := fun pins s σ H xs us Q I rv q => h pins s σ H xs us Q I rv (i _ _ _ q)

/-! ### + of ints, texts, lists, tuples -/
def rAddV (K : PySem.W.Frag) : R2 := fun x y H Q => match x, y with
  | .int i, .int j => Q (.int (i + j)) H
  | .str i, .str j => i.length + j.length ≤ sizeLine ∧ Q (.str (i ++ j)) H
  | .ref l, .ref b => rCat (.ref l) (.ref b) H Q ∨ rCatT K (.ref l) (.ref b) H Q
  | _, _ => False
theorem op_addV : OpR X (binaryOp .Add) (rAddV X.K) := by
  refine OpR.imp ((op_add.or op_add_str).or (op_cat.or op_catT)) fun x y H Q h => ?_
  cases x <;> cases y <;> first
    | exact False.elim h
    | exact .inl (.inl ⟨_, _, rfl, rfl, h⟩)
    | exact .inl (.inr ⟨_, _, rfl, rfl, h⟩)
    | exact .inr h

/-! ### ints -/
def rI2 (C : Int → Int → Prop) (g : Int → Int → V) : R2 := fun x y H Q => match x, y with
  | .int i, .int j => C i j ∧ Q (g i j) H
  | _, _ => False
theorem rI2_imp {C : Int → Int → Prop} {g : Int → Int → V} (x y : V) (H : Hp) (Q : VK) (h : rI2 C g x y H Q) : rI C g x y H Q := by
  cases x <;> cases y <;> first
    | exact False.elim h
    | exact ⟨_, _, rfl, rfl, h⟩
theorem rI2_imp0 {g : Int → Int → V} (x y : V) (H : Hp) (Q : VK) (h : rI2 (fun _ _ => True) g x y H Q) : rI0 g x y H Q := by
  cases x <;> cases y <;> first
    | exact False.elim h
    | exact ⟨_, _, rfl, rfl, h.2⟩
def rBin (K : PySem.W.Frag) : Operator → R2
  | .Add => rAddV K
  | .Sub => rI2 (fun _ _ => True) fun i j => .int (i - j)
  | .Mult => rI2 CMul fun i j => .int (i * j)
  | .FloorDiv => rI2 CDiv fun i j => .int (i / j)
  | .Mod => rI2 (fun _ j => 0 < j) fun i j => .int (i % j)
  | .Pow => rI2 CPow fun i j => .int (i ^ j.toNat)
  | _ => fun _ _ _ _ => False
theorem op_bin (op : Operator) : OpR X (binaryOp op) (rBin X.K op) := by
  cases op <;> first
    | exact op_addV
    | exact OpR.imp op_sub rI2_imp0
    | exact OpR.imp op_mul rI2_imp
    | exact OpR.imp op_fdiv rI2_imp
    | exact OpR.imp op_mod rI2_imp
    | exact OpR.imp op_pow rI2_imp
    | exact fun _ _ _ _ _ _ _ _ _ _ _ _ h => False.elim h

/-! ### data of any depth, by the abstract heap -/
mutual
def Is (H : Hp) : PyData → V → Prop
  | .none, v => v = .non
  | .bool b, v => v = .bl b
  | .int i, v => v = .int i
  | .str x, v => v = .str x
  | .list xs, v => ∃ a vs, v = .ref a ∧ H a = some (.lst vs) ∧ IsL H xs vs
  | .tuple xs, v => ∃ a vs, v = .ref a ∧ H a = some (.tup vs) ∧ IsL H xs vs
  | .dict _, _ => False
def IsL (H : Hp) : List PyData → List V → Prop
  | [], vs => vs = []
  | d :: ds, vs => ∃ v r, vs = v :: r ∧ Is H d v ∧ IsL H ds r
end
mutual
theorem Is.reads {pins : List (Addr × Obj)} {σ : St} {H : Hp} {s : Shared} (I : Inv X pins σ H s) : ∀ (d : PyData) (v : V) (u : Value), Is H d v → RelV v u → ∃ as, Reads s.heap u d as
  | .none, v, u, h, r => by rw [show v = .non from h] at r; rw [show u = .none from r]; exact ⟨_, .none⟩
  | .bool b, v, u, h, r => by rw [show v = .bl b from h] at r; rw [show u = .bool b from r]; exact ⟨_, .bool b⟩
  | .int i, v, u, h, r => by rw [show v = .int i from h] at r; obtain ⟨t, e⟩ := r; rw [e]; exact ⟨_, .int i t⟩
  | .str x, v, u, h, r => by rw [show v = .str x from h] at r; obtain ⟨t, e⟩ := r; rw [e]; exact ⟨_, .str x t⟩
  | .list xs, v, u, h, r => by
    obtain ⟨a, vs, e, hH, hl⟩ := (show ∃ a vs, v = .ref a ∧ H a = some (.lst vs) ∧ IsL H xs vs by simpa only [Is] using h)
    rw [e] at r
    rw [show u = .ref a from r]
    obtain ⟨_, its, n, hv, hg⟩ := I.hok a _ hH
    obtain ⟨as, q⟩ := IsL.reads I xs vs its hl hv
    exact ⟨_, .list hg rfl rfl (by simpa using q)⟩
  | .tuple xs, v, u, h, r => by
    obtain ⟨a, vs, e, hH, hl⟩ := (show ∃ a vs, v = .ref a ∧ H a = some (.tup vs) ∧ IsL H xs vs by simpa only [Is] using h)
    rw [e] at r
    rw [show u = .ref a from r]
    obtain ⟨_, its, hv, o, hg, hc, n, hd⟩ := I.hok a _ hH
    obtain ⟨as, q⟩ := IsL.reads I xs vs its hl hv
    exact ⟨_, .tuple hg hc hd (by simpa using q)⟩
  | .dict _, v, u, h, r => by simp only [Is] at h
theorem IsL.reads {pins : List (Addr × Obj)} {σ : St} {H : Hp} {s : Shared} (I : Inv X pins σ H s) : ∀ (ds : List PyData) (vs : List V) (us : List Value), IsL H ds vs → Vals vs us → ∃ as, ReadsAll s.heap us ds as
  | [], vs, us, h, r => by
    rw [show vs = [] from h] at r
    cases r
    exact ⟨_, .nil⟩
  | d :: ds, vs, us, h, r => by
    obtain ⟨v, q, e, h1, h2⟩ := (show ∃ v r, vs = v :: r ∧ Is H d v ∧ IsL H ds r by simpa only [IsL] using h)
    rw [e] at r
    cases r with
    | cons r1 r2 =>
      obtain ⟨as, q1⟩ := Is.reads I d v _ h1 r1
      obtain ⟨bs, q2⟩ := IsL.reads I ds q _ h2 r2
      exact ⟨_, .cons q1 q2⟩
end

/-! ### ==, != -/
def rEqV (neg : Bool) : R2 := fun x y H Q => match scal x y with
  | true => Q (.bl (neg ^^ decide (x = y))) H
  | false => ∃ d e, Is H d x ∧ Is H e y ∧ SeqAt.shaped d = true ∧ SeqAt.shaped e = true ∧ Q (.bl (neg ^^ PyData.eqv d e)) H
theorem op_eqV (hu : X.A.units + 64 < cLine) : OpR X (compareOp .Eq) (rEqV false) := by
  intro pins s σ H x y v u Q I rx ry h
  unfold rEqV at h
  by_cases hs : scal x y = true
  · rw [hs] at h
    simp only [Bool.false_xor] at h
    exact op_eq pins s σ H x y v u Q I rx ry ⟨hs, h⟩
  · rw [show scal x y = false by simpa using hs] at h
    obtain ⟨d, e, h1, h2, h3, h4, q⟩ := h
    rw [Bool.false_xor] at q
    obtain ⟨as, r1⟩ := Is.reads I d x v h1 rx
    obtain ⟨bs, r2⟩ := Is.reads I e y u h2 ry
    exact eq_dataH r1 r2 h3 h4 hu ⟨.bl _, H, I, rfl, q⟩
theorem op_neV (hu : X.A.units + 64 < cLine) : OpR X (compareOp .NotEq) (rEqV true) := by
  intro pins s σ H x y v u Q I rx ry h
  unfold rEqV at h
  by_cases hs : scal x y = true
  · rw [hs] at h
    simp only [Bool.true_xor] at h
    exact op_ne pins s σ H x y v u Q I rx ry ⟨hs, h⟩
  · rw [show scal x y = false by simpa using hs] at h
    obtain ⟨d, e, h1, h2, h3, h4, q⟩ := h
    rw [Bool.true_xor] at q
    obtain ⟨as, r1⟩ := Is.reads I d x v h1 rx
    obtain ⟨bs, r2⟩ := Is.reads I e y u h2 ry
    exact ne_dataH r1 r2 h3 h4 hu ⟨.bl _, H, I, rfl, q⟩

/-! ### all comparisons -/
def rCmp (K : PySem.W.Frag) : CmpOp → R2
  | .Eq => rEqV false
  | .NotEq => rEqV true
  | .Lt => rI2 (fun _ _ => True) fun i j => .bl (decide (i < j))
  | .LtE => rI2 (fun _ _ => True) fun i j => .bl (decide (i ≤ j))
  | .Gt => rI2 (fun _ _ => True) fun i j => .bl (decide (j < i))
  | .GtE => rI2 (fun _ _ => True) fun i j => .bl (decide (j ≤ i))
  | .In => rIn K false
  | .NotIn => rIn K true
  | .Is => fun x y H Q => y = .non ∧ Q (.bl (decide (x = .non))) H
  | .IsNot => fun x y H Q => y = .non ∧ Q (.bl (!decide (x = .non))) H
theorem op_cmp (hu : X.A.units + 64 < cLine) (op : CmpOp) : OpR X (compareOp op) (rCmp X.K op) := by
  cases op with
  | Eq => exact op_eqV hu
  | NotEq => exact op_neV hu
  | Lt => exact OpR.imp op_lt rI2_imp0
  | LtE => exact OpR.imp op_le rI2_imp0
  | Gt => exact OpR.imp op_gt rI2_imp0
  | GtE => exact OpR.imp op_ge rI2_imp0
  | In => exact op_in_seq
  | NotIn => exact op_notIn_seq
  | Is => exact op_isN
  | IsNot => exact op_notN

/-! ### isinstance(x, T), T one of Python's own -/
inductive Ty where | int | str | bool | list | tuple | dict
  deriving DecidableEq
def Ty.nm : Ty → String
  | .int => "int" | .str => "str" | .bool => "bool" | .list => "list" | .tuple => "tuple" | .dict => "dict"
def isiV (T : Ty) (x : V) (H : Hp) (Q : Bool → Prop) : Prop := match x with
  | .non => Q false
  | .bl _ => Q (T == .bool || T == .int)
  | .int _ => Q (T == .int)
  | .str _ => Q (T == .str)
  | .ref a => match H a with
    | some (.lst _) => Q (T == .list)
    | some (.frz _ (.lst _)) => Q (T == .list)
    | some (.tup _) => Q (T == .tuple)
    | some (.dK _) => Q (T == .dict)
    | some (.dT _) => Q (T == .dict)
    | _ => False
  | _ => False
theorem kit_tys (K : PySem.W.Frag) (S T : Ty) : PySem.W.kitOne K (.type S.nm) (.type T.nm) = some (S == T || (S == .bool && T == .int)) := by
  cases S <;> cases T <;> rfl
theorem kit_none (K : PySem.W.Frag) (T : Ty) : PySem.W.kitOne K (.type "NoneType") (.type T.nm) = some false := by
  cases T <;> rfl

/-! ### sum of ints -/
theorem call_sumI (hc : X.calm = true) : CallR X (.builtin "sum") (fun xs H Q => ∃ (p : Addr) (ns : List Int), xs = [.ref p] ∧ SqL X.K H p (ns.map V.int) ∧ Q (.int ns.sum) H) := by
  intro pins s σ H xs us Q I r h
  obtain ⟨p, ns, rfl, hq, q⟩ := h
  obtain ⟨u, rfl, ru⟩ := vals1 r
  cases ru
  obtain ⟨its, rv, pl, hz⟩ := I.list hq
  have hi := intsAre_of rv
  obtain ⟨xs, hx⟩ := hi.allInts.items
  have hl' : s.heap.IsList p (intItems xs) := hx ▸ pl.isList
  refine sum_intListG (I.ok.hd hc) hl' fun h' tk t' hk => ?_
  have e1 : ns = xs.toList.map (·.1) := by
    rw [← nums_intItems, ← hx]
    exact (show numsOf its.toArray.toList = ns from hi.numsOf).symm
  have e2 : preSum (numAt xs) xs.size = ns.sum := by
    rw [preSum_eq, List.take_of_length_le (by simp), e1]
  rw [e2]
  exact ⟨.int ns.sum, H, I.kept (t' := tk) hk, ⟨t', rfl⟩, q⟩

/-! ### texts -/
theorem strs_of : ∀ {ts : List Str} {us : List Value}, Vals (ts.map V.str) us → ∃ l : List (Str × Tok), us = strValues l ∧ l.map (·.1) = ts
  | [], _, .nil => ⟨[], rfl, rfl⟩
  | x :: ts, _, .cons ⟨t, e⟩ r => by
    obtain ⟨l, e1, e2⟩ := strs_of r
    subst e e1
    exact ⟨(x, t) :: l, rfl, by simp [e2]⟩
def rJoin (K : PySem.W.Frag) : V → List V → Hp → VK → Prop := fun x vs H Q => ∃ (sep : Str) (p : Addr) (ts : List Str), x = .str sep ∧ vs = [.ref p] ∧ SqL K H p (ts.map V.str) ∧ JoinOk sep ts = true ∧ Q (.str (Txt.join sep ts)) H
theorem mt_join : MtR X "str.join" (rJoin X.K) := by
  intro pins s σ H x vs v us Q I rx rv h
  obtain ⟨sep, p, ts, rfl, rfl, hq, hj, q⟩ := h
  obtain ⟨t, rfl⟩ := rx
  obtain ⟨u, rfl, ru⟩ := vals1 rv
  cases ru
  obtain ⟨its, rv, pl, hz⟩ := I.list hq
  obtain ⟨l, rfl, e2⟩ := strs_of rv
  exact SC.join pl.isList e2 hj fun t' k => ⟨.str _, H, I.tok k, ⟨t', rfl⟩, q⟩
def rLstrip : V → List V → Hp → VK → Prop := fun x vs H Q => ∃ z y, x = .str z ∧ vs = [.str y] ∧ z.length ≤ sizeLine ∧ Q (.str (Txt.lstripChars z y)) H
theorem mt_lstrip : MtR X "str.lstrip" rLstrip := by
  intro pins s σ H x vs v us Q I rx rv h
  obtain ⟨z, y, rfl, rfl, hz, q⟩ := h
  obtain ⟨t, rfl⟩ := rx
  obtain ⟨u, rfl, ⟨t2, rfl⟩⟩ := vals1 rv
  refine call_gives F.slot_str_lstrip (typeIs_str _ _ _) F.entry_str_lstrip (F.args_str_lstrip_2 _ _) (gives_str_lstrip_chars z y t t2) (post_val_or_made (fun _ => fits_stripped _ _ _ hz) fun t' k => ?_)
  exact ⟨.str _, H, I.tok k, ⟨t', rfl⟩, q⟩
/-! ### z[lo:hi] -/
def cutL {α : Type} (xs : List α) (lo hi : Option Int) : List α := (xs.drop (HT.sIx xs.length 0 lo)).take (HT.sIx xs.length xs.length hi - HT.sIx xs.length 0 lo)
def cutS (z : Str) (lo hi : Option Int) : Str := ⟨(cutL z.cps.toList lo hi).toArray⟩
theorem picked_cut (z : Str) (lo hi : Option Int) : ((Builtin.Str.strSliceIndices lo hi 1 z.length).filterMap (z.cps[·]?)) = cutL z.cps.toList lo hi := by
  obtain ⟨h1, h2, h3⟩ := slice_bounds lo hi z.length
  have e0 : Builtin.Str.strSliceIndices lo hi 1 z.length = sliceRange (sliceBounds lo hi none z.length).1 (sliceBounds lo hi none z.length).2.1 (sliceBounds lo hi none z.length).2.2 := rfl
  have hz : z.cps.toList.length = z.length := by simp [Str.length]
  rw [e0, h1, h2, h3, sliceRange_one, pick_run]
  unfold cutL
  rw [hz]
end
end L2

set_option maxRecDepth 100000
set_option genSizeOf false
set_option genInjectivity false
set_option maxHeartbeats 4000000
namespace L2
open PySem PySem.Spec PyProof.Rows

/-! ### a short language for the program's own rows, and how it is read -/
inductive Blt where | len | min | max | sum | abs
  deriving DecidableEq
inductive Mth where | append | join | lstrip | find | count
  deriving DecidableEq
inductive IK where | list | tup | rng | rng2 | zip
  deriving DecidableEq
inductive RE where
  | v (i : Nat) | c (x : V) | g (j : Nat)
  | bin (op : Operator) (a b : RE) | neg (a : RE)
  | cmp (op : CmpOp) (a b : RE) | cmp2 (op op' : CmpOp) (a b d : RE)
  | and (as : List RE) | or (as : List RE) | not (a : RE) | ife (t a b : RE)
  | call (j : Nat) (as : List RE) | blt (b : Blt) (as : List RE) | isi (T : Ty) (a : RE)
  | mth (m : Mth) (o : RE) (as : List RE)
  | ix (a b : RE) | sl (a : RE) (lo hi : Option RE)
  | tup (as : List RE) | lst (as : List RE)
  | comp (tk : Option Nat) (fv : List (Str × Nat)) (k : IK) (its : List RE) (cond : Option RE) (elt : RE)
  | fld (o : RE) (f : Str) | meth (j : Nat) (m : Str) (o : RE) (as : List RE) | make (j : Nat) (as : List RE)
inductive RS where
  | asg (i : Nat) (e : RE) | asgC (i : Nat) (e : RE) | set (o ix e : RE)
  | drop (e : RE) | ret (e : RE) | retN
  | ite (c : RE) (t e : List RS)
  | for1 (i : Nat) (k : IK) (its : List RE) (body : List RS)
  | forT (is : List Nat) (k : IK) (its : List RE) (body : List RS)
  | whl (c : RE) (body : List RS)
  | pass | brk | cont | never
  | setSl (o lo hi e : RE) | setf (o : RE) (f : Str) (e : RE)

structure RCx where
  K : PySem.W.Frag
  fs : Nat → Sp
  gv : Nat → V
  E : XK
  sd : Addr → List (Key × V) → Prop
  ms : Nat → Addr × Sp
  kt : Nat → Addr × Sp
abbrev RCx.calm (Γ : RCx) : RCx := { Γ with E := E0 }

/-- a value's truth -/
def tru (K : PySem.W.Frag) (x : V) (H : Hp) (Q : Bool → Prop) : Prop := match x with
  | .non => Q false
  | .bl b => Q b
  | .int i => Q (i != 0)
  | .str y => y.length ≤ sizeLine ∧ Q ((y.length : Int) != 0)
  | .ref p => (∃ xs, SqL K H p xs ∧ Q (!xs.isEmpty)) ∨ (∃ xs, SqT K H p xs ∧ Q (!xs.isEmpty)) ∨ ∃ kvs, H p = some (.dK kvs) ∧ Q (!kvs.isEmpty)
  | _ => False
theorem tru_of {K : PySem.W.Frag} {x : V} {H : Hp} {Q : Bool → Prop} (h : tru K x H Q) : ∃ k, TruV K x H k ∧ Q k := by
  cases x with
  | non => exact ⟨_, rfl, h⟩
  | bl b => exact ⟨_, rfl, h⟩
  | int i => exact ⟨_, rfl, h⟩
  | str y => exact ⟨_, ⟨h.1, rfl⟩, h.2⟩
  | ref p =>
    rcases h with ⟨xs, h1, h2⟩ | ⟨xs, h1, h2⟩ | ⟨xs, h1, h2⟩
    · exact ⟨_, .inl ⟨xs, h1, rfl⟩, h2⟩
    · exact ⟨_, .inr (.inl ⟨xs, h1, rfl⟩), h2⟩
    · exact ⟨_, .inr (.inr ⟨xs, h1, rfl⟩), h2⟩
  | _ => exact False.elim h
def tTru (K : PySem.W.Frag) (t : TE) : TT := fun σ H Q => t σ H fun x H1 => tru K x H1 fun b => Q b H1
def tNotE (K : PySem.W.Frag) (t : TE) : TE := fun σ H Q => t σ H fun x H1 => tru K x H1 fun b => Q (.bl (!b)) H1
def rNeg : V → Hp → VK → Prop := fun x H Q => match x with | .int i => Q (.int (-i)) H | _ => False

def lenV (K : PySem.W.Frag) (x : V) (H : Hp) (Q : Nat → Prop) : Prop := match x with
  | .str y => y.length ≤ sizeLine ∧ Q y.length
  | .ref p => (∃ xs, SqL K H p xs ∧ Q xs.length) ∨ ∃ xs, SqT K H p xs ∧ Q xs.length
  | _ => False
def rBlt (K : PySem.W.Frag) : Blt → List V → Hp → VK → Prop
  | .len, [x], H, Q => lenV K x H fun n => Q (.int n) H
  | .min, [.int i, .int j], H, Q => Q (.int (if j < i then j else i)) H
  | .max, [.int i, .int j], H, Q => Q (.int (if j > i then j else i)) H
  | .sum, [.ref p], H, Q => ∃ ns : List Int, SqL K H p (ns.map V.int) ∧ Q (.int ns.sum) H
  | .abs, [.int i], H, Q => Q (.int (if i < 0 then -i else i)) H
  | _, _, _, _ => False
def rIsi (T : Ty) : List V → Hp → VK → Prop
  | [x, .ty n], H, Q => n = T.nm ∧ isiV T x H fun b => Q (.bl b) H
  | _, _, _ => False
def rMth (K : PySem.W.Frag) : Mth → V → List V → Hp → VK → Prop
  | .append, .ref l, [y], H, Q => ∃ xs, H l = some (.lst xs) ∧ xs.length < sizeLine ∧ Q .non (upd H l (.lst (xs ++ [y])))
  | .join, .str sep, [.ref p], H, Q => ∃ ts : List Str, SqL K H p (ts.map V.str) ∧ JoinOk sep ts = true ∧ Q (.str (Txt.join sep ts)) H
  | .lstrip, .str z, [.str y], H, Q => z.length ≤ sizeLine ∧ Q (.str (Txt.lstripChars z y)) H
  | .find, .str z, [.str y], H, Q => Q (.int (match Builtin.Str.occurrences z y 0 z.length 1 with | i :: _ => (i : Int) | [] => -1)) H
  | .find, .str z, [.str y, .int i], H, Q => Q (.int (match Builtin.Str.occurrences z y (fromIndex z.length i) z.length 1 with | k :: _ => (k : Int) | [] => -1)) H
  | .count, .str z, [.str y], H, Q => Q (.int (Builtin.Str.occurrences z y 0 z.length (z.length + 1)).length) H
  | _, _, _, _, _ => False
def mthTy : Mth → String
  | .join | .lstrip | .find | .count => "str"
  | _ => "list"
def tMth (K : PySem.W.Frag) (m : Mth) (to : TE) (t : TA) : TE := fun σ H Q => to σ H fun x H1 => tyV K (mthTy m) x H1 ∧ t σ H1 fun xs H2 => rMth K m x xs H2 Q
def rSl (K : PySem.W.Frag) : V → Option Int → Option Int → Hp → VK → Prop := fun x lo hi H Q => match x with
  | .str z => z.length ≤ sizeLine ∧ Q (.str (cutS z lo hi)) H
  | .ref a => (∃ xs, SqL K H a xs ∧ ∀ p, H p = none → Q (.ref p) (upd H p (.lst (cutV xs lo hi)))) ∨
    (∃ xs, SqT K H a xs ∧ ¬ (HT.sIx xs.length 0 lo = 0 ∧ HT.sIx xs.length xs.length hi = xs.length) ∧ ∀ p, H p = none → Q (.ref p) (upd H p (.tup (cutV xs lo hi))))
  | _ => False
/-- the value that a table has for a key -/
def valK (kvs : List (Key × V)) (k : Key) : Option V := (kvs.find? fun kv => decide (kv.1 = k)).map (·.2)
def rIxD (sd : Addr → List (Key × V) → Prop) : R2 := fun x y H Q => ∃ p kvs k v, x = .ref p ∧ y = kV k ∧ sd p kvs ∧ valK kvs k = some v ∧ Q v H
def rIx2 (K : PySem.W.Frag) (sd : Addr → List (Key × V) → Prop) : R2 := fun x y H Q => rIxL K x y H Q ∨ rIxT K x y H Q ∨ rIxS x y H Q ∨ rIxD sd x y H Q
/-- two lists side by side -/
def Itz (K : PySem.W.Frag) (a b : Addr) : It :=
  ⟨fun i H => ∃ xs ys, SqL K H a xs ∧ SqL K H b ys ∧ i < xs.length ∧ i < ys.length,
   fun i H x H' => ∃ T, H T = none ∧ x = .ref T ∧ ∀ xs ys u v, SqL K H a xs → SqL K H b ys → xs[i]? = some u → ys[i]? = some v → H' = upd H T (.tup [u, v]),
   fun i H => ∃ xs ys, SqL K H a xs ∧ SqL K H b ys ∧ i = min xs.length ys.length⟩
def iZip (K : PySem.W.Frag) (ta : TA) : TI := fun σ H R => ta σ H fun vs H1 => ∃ a b, vs = [.ref a, .ref b] ∧ (∃ xs, SqL K H1 a xs) ∧ (∃ ys, SqL K H1 b ys) ∧ R (Itz K a b) H1

mutual
def rdE (Γ : RCx) : RE → TE
  | .v i => tVar i
  | .c x => tC x
  | .g j => tC (Γ.gv j)
  | .bin op a b => tOp (rBin Γ.K op) (rdE Γ a) (rdE Γ b)
  | .neg a => tUn rNeg (rdE Γ a)
  | .cmp op a b => tOp (rCmp Γ.K op) (rdE Γ a) (rdE Γ b)
  | .cmp2 op op' a b d => tChain (rCmp Γ.K op) (rCmp Γ.K op') (rdE Γ a) (rdE Γ b) (rdE Γ d)
  | .and as => rdAnd Γ as
  | .or as => rdOr Γ as
  | .not a => tNotE Γ.K (rdE Γ a)
  | .ife t a b => tIf (rdT Γ t) (rdE Γ a) (rdE Γ b)
  | .call j as => tCall (Γ.fs j) [] Γ.E (rdA Γ as)
  | .blt b as => tCB (rBlt Γ.K b) (rdA Γ as)
  | .isi T a => tCB (rIsi T) (tCons (rdE Γ a) (tCons (tC (.ty T.nm)) tNil))
  | .mth m o as => tMth Γ.K m (rdE Γ o) (rdA Γ as)
  | .ix a b => tOp (rIx2 Γ.K Γ.sd) (rdE Γ a) (rdE Γ b)
  | .sl a lo hi => tSl (rSl Γ.K) (rdE Γ a) (rdO Γ lo) (rdO Γ hi)
  | .tup as => tTup (rdA Γ as)
  | .lst as => tLst (rdA Γ as)
  | .comp tk fv k its cond elt => tComp Γ.K (rdI Γ k its) tk fv (rdC Γ.calm cond) (rdE Γ.calm elt)
  | .fld o f => tFld Γ.K (rdE Γ o) f
  | .meth j m o as => tMeth (Γ.ms j).1 m (Γ.ms j).2 [] Γ.E (rdE Γ o) (rdA Γ as)
  | .make j as => tMake (Γ.kt j).1 (Γ.kt j).2 [] Γ.E (rdA Γ as)
def rdT (Γ : RCx) : RE → TT
  | .not a => tNot (rdT Γ a)
  | .and as => rdTAnd Γ as
  | .or as => rdTOr Γ as
  | .cmp op a b => tTest (tOp (rCmp Γ.K op) (rdE Γ a) (rdE Γ b))
  | .cmp2 op op' a b d => tTest (tChain (rCmp Γ.K op) (rCmp Γ.K op') (rdE Γ a) (rdE Γ b) (rdE Γ d))
  | .v i => tTru Γ.K (tVar i)
  | .call j as => tTru Γ.K (tCall (Γ.fs j) [] Γ.E (rdA Γ as))
  | .isi T a => tTru Γ.K (tCB (rIsi T) (tCons (rdE Γ a) (tCons (tC (.ty T.nm)) tNil)))
  | .mth m o as => tTru Γ.K (tMth Γ.K m (rdE Γ o) (rdA Γ as))
  | .ix a b => tTru Γ.K (tOp (rIx2 Γ.K Γ.sd) (rdE Γ a) (rdE Γ b))
  | .bin op a b => tTru Γ.K (tOp (rBin Γ.K op) (rdE Γ a) (rdE Γ b))
  | .fld o f => tTru Γ.K (tFld Γ.K (rdE Γ o) f)
  | .meth j m o as => tTru Γ.K (tMeth (Γ.ms j).1 m (Γ.ms j).2 [] Γ.E (rdE Γ o) (rdA Γ as))
  | _ => fun _ _ _ => False
def rdA (Γ : RCx) : List RE → TA
  | [] => tNil
  | a :: r => tCons (rdE Γ a) (rdA Γ r)
def rdAnd (Γ : RCx) : List RE → TE
  | [] => fun _ _ _ => False
  | [a] => rdE Γ a
  | a :: r => tAndV (rdE Γ a) (rdAnd Γ r)
def rdOr (Γ : RCx) : List RE → TE
  | [] => fun _ _ _ => False
  | [a] => rdE Γ a
  | a :: r => tOrV (rdE Γ a) (rdOr Γ r)
def rdTAnd (Γ : RCx) : List RE → TT
  | [] => fun _ _ _ => False
  | [a] => rdT Γ a
  | a :: r => tAnd (rdT Γ a) (rdTAnd Γ r)
def rdTOr (Γ : RCx) : List RE → TT
  | [] => fun _ _ _ => False
  | [a] => rdT Γ a
  | a :: r => tOr (rdT Γ a) (rdTOr Γ r)
def rdO (Γ : RCx) : Option RE → TO
  | none => tNoPart
  | some a => tPart (rdE Γ a)
def rdC (Γ : RCx) : Option RE → Option TT
  | none => none
  | some a => some (rdT Γ a)
def rdI (Γ : RCx) (k : IK) : List RE → TI
  | [] => fun _ _ _ => False
  | a :: r => match k with
    | .list => iList Γ.K (rdE Γ a)
    | .tup => iTup Γ.K (rdE Γ a)
    | .rng => iRng1 (tCons (rdE Γ a) (rdA Γ r))
    | .rng2 => iRng2 (tCons (rdE Γ a) (rdA Γ r))
    | .zip => iZip Γ.K (tCons (rdE Γ a) (rdA Γ r))
end
end L2

set_option maxRecDepth 100000
set_option maxHeartbeats 4000000
namespace L2
open PySem PySem.Spec PyProof.Rows

/-! ### is this the reading of that row? -/
structure SCx where
  N : List Str
  sc : Scope
  fn : List Str
  gn : List Str
  bl : List Str
  mn : List Str
  kn : List Str
def vis (sc : Scope) (x : Str) : Bool := match sc.names.lookup x with
  | some .local => true | some .cell => true | some .free => true | _ => false
def loc (sc : Scope) (x : Str) : Bool := match sc.names.lookup x with
  | some .local => true | some .cell => true | _ => false
def glo (sc : Scope) (x : Str) : Bool := match sc.names.lookup x with
  | some .globalImplicit => true | _ => false
theorem vis_of {sc : Scope} {x : Str} (h : vis sc x = true) : Vis sc x := by
  unfold vis at h
  unfold Vis
  cases e : sc.names.lookup x with
  | none => rw [e] at h; cases h
  | some k => rw [e] at h; cases k <;> first | exact .inl rfl | exact .inr (.inl rfl) | exact .inr (.inr rfl) | cases h
theorem loc_of {sc : Scope} {x : Str} (h : loc sc x = true) : Loc sc x := by
  unfold loc at h
  unfold Loc
  cases e : sc.names.lookup x with
  | none => rw [e] at h; cases h
  | some k => rw [e] at h; cases k <;> first | exact .inl rfl | exact .inr rfl | cases h
theorem glo_of {sc : Scope} {x : Str} (h : glo sc x = true) : sc.names.lookup x = some .globalImplicit := by
  unfold glo at h
  cases e : sc.names.lookup x with
  | none => rw [e] at h; cases h
  | some k => rw [e] at h; cases k <;> first | rfl | cases h

structure CompP where
  elt : Expr
  tg : Expr
  iter : Expr
  ifs : List Expr
  sc : Scope
def Blt.nm : Blt → Str
  | .len => "len" | .min => "min" | .max => "max" | .sum => "sum" | .abs => "abs"
def Mth.nm : Mth → Str
  | .append => "append" | .join => "join" | .lstrip => "lstrip" | .find => "find" | .count => "count"
def noSuper : Expr → Bool
  | .Call (.Name _ _) [] [] _ => false
  | _ => true
def noStar : Expr → Bool
  | .Starred .. => false
  | _ => true
def noSet : Expr → Bool
  | .Set .. => false
  | _ => true
def relabelS (sc' sc : Scope) : Scope :=
  { sc' with names := sc'.names.map fun (n, k) => if (k == .free && sc.kind == .function && sc.names.lookup n == some .cell) then (n, .cell) else (n, k) }
/-- the names of a block's target -/
def tgNames (tk : Option Nat) (tg : Expr) : Option (List Str) := match tk, tg with
  | none, .Name x _ => some [x]
  | some 2, .Tuple [.Name x _, .Name y _] _ _ => some [x, y]
  | _, _ => none
def compS (S : SCx) (c : CompP) (ln : List Str) (fv : List (Str × Nat)) : SCx := { S with N := ln ++ fv.map (·.1), sc := relabelS c.sc S.sc }
def compB (S : SCx) (c : CompP) (ln : List Str) (fv : List (Str × Nat)) : Bool :=
  decide (c.sc.kind = .function) && c.sc.names.all (fun y => decide (y.2 ≠ .cell)) && c.sc.names.all (fun y => decide (y.2 ≠ .local) || decide (c.sc.names.lookup y.1 = some .local))
  && c.sc.names.all (fun y => decide (y.2 ≠ .free) || decide (S.sc.names.lookup y.1 = some .cell) || decide (S.sc.names.lookup y.1 = some .free))
  && fv.all (fun p => decide (S.N[p.2]? = some p.1) && decide (c.sc.names.lookup p.1 = some .free))
  && ln.all (fun x => decide (c.sc.names.lookup x = some .local)) && decide ((ln ++ fv.map (·.1)).Nodup) && noSet c.iter

end L2

set_option maxRecDepth 100000
set_option maxHeartbeats 4000000
namespace L2
open PySem PySem.Spec PyProof.Rows

/-! ### for .. in zip(xs, ys), the target a tuple -/

end L2

set_option maxRecDepth 100000
set_option maxHeartbeats 4000000
namespace L2
open PySem PySem.Spec PyProof.Rows

def FnFor (CX : CXT) (X : Cx) (x : Str) (sp : Sp) : Prop :=
  ∃ k f fd ps, FnOk X.prog X.w X.K X.mg X.base CX k f fd ps sp ∧ Room k X.A ∧ X.mg x = some (.ref f) ∧ PySem.W.keepIn X.K (.ref f) = true ∧ Binds X.K fd ps []
def MtFor (CX : CXT) (X : Cx) (C : Addr) (m : Str) (sp : Sp) : Prop :=
  Cls X.K C ∧ ∃ k f fd ps, Meth X.K C m f ∧ FnOk X.prog X.w X.K X.mg X.base CX k f fd ps sp ∧ Room k X.A ∧ Binds X.K fd ps []
def MkFor (CX : CXT) (X : Cx) (x : Str) (C : Addr) (sp : Sp) : Prop :=
  ∃ k f fd ps, Mk X.K C f ∧ FnOk X.prog X.w X.K X.mg X.base CX k f fd ps sp ∧ Room (k + 1) X.A ∧ X.mg x = some (.ref C) ∧ Binds X.K fd ps []
structure Good (CX : CXT) (S : SCx) (Γ : RCx) (X : Cx) : Prop where
  N : X.N = S.N
  sc : X.env.scope = S.sc
  K : X.K = Γ.K
  calm : X.calm = true
  units : X.A.units + 64 < cLine
  fns : ∀ j x, S.fn[j]? = some x → FnFor CX X x (Γ.fs j)
  gvs : ∀ j x, S.gn[j]? = some x → ∃ u, X.mg x = some u ∧ RelV (Γ.gv j) u
  bls : ∀ x, S.bl.contains x = true → X.mg x = none
  pass : Passes CX X Γ.E
  noE : ∀ outer H s e s', CX outer H s E0 e s' → False
  sds : ∀ p kvs, Γ.sd p kvs → ∀ h : Heap, X.K.In h → ∃ vs, KV kvs vs ∧ h.DictOf (mixKind X.prog X.w) p vs
  mts : ∀ j m, S.mn[j]? = some m → MtFor CX X (Γ.ms j).1 m (Γ.ms j).2
  mks : ∀ j x, S.kn[j]? = some x → MkFor CX X x (Γ.kt j).1 (Γ.kt j).2

section
variable {CX : CXT} {S : SCx} {Γ : RCx} {X : Cx}
theorem Good.inner (G : Good CX S Γ X) (c : CompP) (ln : List Str) (fv : List (Str × Nat)) (ex : List Addr) (C : Addr) (s : Shared) (H : Hp) :
    Good CX (compS S c ln fv) Γ.calm (compCx X c.sc (ln ++ fv.map (·.1)) ex C s H) where
  N := rfl
  sc := by
    show relabel c.sc X.env = relabelS c.sc S.sc
    rw [← G.sc]; rfl
  K := G.K
  calm := G.calm
  units := G.units
  fns := fun j x h => G.fns j x h
  gvs := G.gvs
  bls := G.bls
  pass := fun _ _ _ _ _ _ _ h => (G.noE _ _ _ _ _ h).elim
  noE := G.noE
  sds := G.sds
  mts := fun j m h => G.mts j m h
  mks := fun j x h => G.mks j x h
theorem Good.gl (G : Good CX S Γ X) {x : Str} (h : glo S.sc x = true) : Gl X x := by
  show X.env.scope.names.lookup x = _
  rw [G.sc]; exact glo_of h

theorem star_cons {e : Expr} {es : List Expr} {env : Env} (h : noStar e = true) : starEach (e :: es) env = (false, eval e env) :: starEach es env := by
  cases e <;> first | rfl | cases h
theorem base_of {o : Expr} {x : Str} {env : Env} (h : noSuper o = true) : attributeBase o x env (eval o env) = eval o env := by
  unfold attributeBase
  split
  · cases h
  · rfl
theorem set_of {e : Expr} {env : Env} (h : noSet e = true) : ∀ x, foldedSetIterable e env x = pure x := by
  intro x
  cases e <;> first | rfl | cases h
def nst (es : List Expr) : Bool := es.all noStar
theorem stars_of (env : Env) (pos : Pos) : ∀ (es : List Expr), nst es = true → (backTo pos (starEach es env)).any (·.1) = false
  | [], h => rfl
  | e :: es, h => by
    simp only [nst, List.all_cons, Bool.and_eq_true] at h
    rw [star_cons h.1]
    have ih := stars_of env pos es h.2
    show (false || (backTo pos (starEach es env)).any (·.1)) = false
    rw [ih]; rfl
theorem few_of (env : Env) (pos : Pos) : ∀ (es : List Expr), nst es = true → (backTo pos (starEach es env)).all (fun x => !x.1) = true
  | [], h => rfl
  | e :: es, h => by
    simp only [nst, List.all_cons, Bool.and_eq_true] at h
    rw [star_cons h.1]
    have ih := few_of env pos es h.2
    show (!false && (backTo pos (starEach es env)).all (fun x => !x.1)) = true
    rw [ih]; rfl
theorem nst_cons {e : Expr} {es : List Expr} (h : nst (e :: es) = true) : noStar e = true ∧ nst es = true := by
  simp only [nst, List.all_cons, Bool.and_eq_true] at h
  exact h

theorem CompB_ok (G : Good CX S Γ X) {c : CompP} {ln : List Str} {fv : List (Str × Nat)} (h : compB S c ln fv = true) :
    CompOk X c.sc ln fv ∧ (∀ x ∈ ln, c.sc.names.lookup x = some .local) ∧ (ln ++ fv.map (·.1)).Nodup ∧ noSet c.iter = true := by
  simp only [compB, Bool.and_eq_true, decide_eq_true_eq, List.all_eq_true, Bool.or_eq_true] at h
  obtain ⟨⟨⟨⟨⟨⟨⟨h1, h2⟩, h3⟩, h4⟩, h5⟩, h6⟩, h7⟩, h8⟩ := h
  refine ⟨⟨h1, fun y hy => h2 y hy, fun y hy hl => ?_, fun y hy hf => ?_, fun p hp => ?_⟩, h6, h7, h8⟩
  · rcases h3 y hy with z | z
    · exact absurd hl z
    · exact z
  · show X.env.scope.names.lookup y.1 = _ ∨ X.env.scope.names.lookup y.1 = _
    rw [G.sc]
    rcases h4 y hy with (z | z) | z
    · exact absurd hf z
    · exact .inl z
    · exact .inr z
  · rw [G.N]; exact h5 p hp
theorem tgt_ok (hc : X.calm = true) {c : CompP} {tk : Option Nat} {ln : List Str} {fv : List (Str × Nat)} (h : tgNames tk c.tg = some ln) (hl : ∀ x ∈ ln, c.sc.names.lookup x = some .local) (hn : (ln ++ fv.map (·.1)).Nodup) :
    TgtOk X c.sc ln fv c.tg tk := by
  unfold tgNames at h
  split at h
  · rename_i x p he
    cases h
    rw [he]
    exact tgt_name (hl x (by simp)) hn
  · rename_i x p y q k pos he
    cases h
    rw [he]
    exact tgt_two hc (hl x (by simp)) (hl y (by simp)) hn
  · cases h

theorem lenV_of {K : PySem.W.Frag} {x : V} {H : Hp} {Q : Nat → Prop} (h : lenV K x H Q) : ∃ n, LenV K x H n ∧ Q n := by
  match x, h with
  | .str y, h => exact ⟨_, ⟨h.1, rfl⟩, h.2⟩
  | .ref p, .inl ⟨xs, a, b⟩ => exact ⟨_, .inl ⟨xs, a, rfl⟩, b⟩
  | .ref p, .inr ⟨xs, a, b⟩ => exact ⟨_, .inr ⟨xs, a, rfl⟩, b⟩

/-! ### what stands for each built-in name -/
inductive BltIs (X : Cx) (b : Blt) : Prop where
  | fn (id : String) (hv : bootBuiltins b.nm = some (.builtin id)) (hc : CallR X (.builtin id) (rBlt X.K b))
  | ty (T : String) (hv : bootBuiltins b.nm = some (.type T)) (hc : CallR X (.type T) (rBlt X.K b))
theorem boot_min : bootBuiltins "min" = some (.builtin "min") := by decide +kernel
theorem boot_max : bootBuiltins "max" = some (.builtin "max") := by decide +kernel
theorem boot_abs : bootBuiltins "abs" = some (.builtin "abs") := by decide +kernel
theorem boot_sum : bootBuiltins "sum" = some (.builtin "sum") := by decide +kernel
theorem boot_isi : bootBuiltins "isinstance" = some (.builtin "isinstance") := by decide +kernel
theorem blt_is (hc : X.calm = true) (b : Blt) : BltIs X b := by
  cases b with
  | len => exact .fn "len" boot_len (CallR.imp call_len fun xs H Q h => by
      match xs, h with
      | [x], h => obtain ⟨n, h1, h2⟩ := lenV_of (Q := fun n => Q (.int n) H) h; exact ⟨x, n, rfl, h1, h2⟩)
  | min => exact .fn "min" boot_min (CallR.imp (call_min2 hc) fun xs H Q h => by
      match xs, h with
      | [.int i, .int j], h => exact ⟨i, j, rfl, h⟩)
  | max => exact .fn "max" boot_max (CallR.imp (call_max2 hc) fun xs H Q h => by
      match xs, h with
      | [.int i, .int j], h => exact ⟨i, j, rfl, h⟩)
  | sum => exact .fn "sum" boot_sum (CallR.imp (call_sumI hc) fun xs H Q h => by
      match xs, h with
      | [.ref p], ⟨ns, h1, h2⟩ => exact ⟨p, ns, rfl, h1, h2⟩)
  | abs => exact .fn "abs" boot_abs (CallR.imp call_abs fun xs H Q h => by
      match xs, h with
      | [.int i], h => exact ⟨i, rfl, h⟩)
/-! ### what stands for each method -/
structure MthIs (X : Cx) (m : Mth) (id : String) : Prop where
  pa : PlainAttrs (mthTy m)
  slot : Slot (mthTy m) m.nm id
  ty : typeOf (.builtin id) = pure (.type "method_descriptor")
  mt : MtR X id (rMth X.K m)
theorem kV_is {P : Program} {w : World} {k : Key} {u : Value} (r : RelV (kV k) u) : (mixKind P w).is k u = true := by
  cases k with
  | inl i => obtain ⟨t, e⟩ := (show ∃ t, u = Value.int i t from r); subst e; exact mixKind_int P w i t
  | inr x => obtain ⟨t, e⟩ := (show ∃ t, u = Value.str x t from r); subst e; exact mixKind_str P w x t
theorem kvval {kvs : List (Key × V)} {vs : List (Key × Value)} (r : KV kvs vs) (k : Key) {v : V} (h : valK kvs k = some v) : ∃ u, valueAt vs k = some u ∧ RelV v u := by
  unfold KV at r
  induction r with
  | nil => cases h
  | @cons p q ps qs hh t ih =>
    obtain ⟨h1, h2⟩ := hh
    by_cases e : p.1 = k
    · have e' : q.1 = k := h1.symm.trans e
      have b : valueAt (q :: qs) k = some q.2 := by simp [valueAt, List.find?_cons, e']
      have a : valK (p :: ps) k = some p.2 := by simp [valK, List.find?_cons, e]
      rw [a] at h
      cases h
      exact ⟨_, b, h2⟩
    · have e' : ¬ q.1 = k := fun z => e (h1.trans z)
      have b : valueAt (q :: qs) k = valueAt qs k := by simp [valueAt, List.find?_cons, e']
      have a : valK (p :: ps) k = valK ps k := by simp [valK, List.find?_cons, e]
      rw [a] at h
      rw [b]
      exact ih h
theorem ix_sd {sd : Addr → List (Key × V) → Prop} (hsd : ∀ p kvs, sd p kvs → ∀ h : Heap, X.K.In h → ∃ vs, KV kvs vs ∧ h.DictOf (mixKind X.prog X.w) p vs) : IxR X (rIxD sd) := by
  intro value slice pins s σ H x y v u Q I rx ry h hs
  obtain ⟨p, kvs, k, z, rfl, rfl, hq, he, q⟩ := h
  cases rx
  obtain ⟨vs, r, dd⟩ := hsd p kvs hq s.heap I.kIn
  obtain ⟨w, ew, rw'⟩ := kvval r k he
  exact subscriptTail_builtinR (x := w) dd.mapOf.typeIs PySem.F.slot_dict_getitem.lookup
    (wpAny_getItem_of (Q := fun r s' => r = w ∧ EP X pins σ Q r s') (kV_is ry) dd.mapOf ew ⟨rfl, z, H, I.tok _, rw', q⟩) hs
theorem ix_any {sd : Addr → List (Key × V) → Prop} (hsd : ∀ p kvs, sd p kvs → ∀ h : Heap, X.K.In h → ∃ vs, KV kvs vs ∧ h.DictOf (mixKind X.prog X.w) p vs) : IxR X (rIx2 X.K sd) := ix_list.or (ix_tup.or (ix_str.or (ix_sd hsd)))
theorem mth_is (m : Mth) : ∃ id, MthIs X m id := by
  cases m with
  | append => exact ⟨_, F.plainAttrs_list, F.slot_list_append, F.type_list_append, fun pins s σ H x xs v us Q I rx rv h => by
      match x, xs, h with
      | .ref l, [y], ⟨zs, h1, h2, h3⟩ => exact mt_append pins s σ H _ _ v us Q I rx rv ⟨l, zs, y, rfl, rfl, h1, h2, h3⟩⟩
  | join => exact ⟨_, F.plainAttrs_str, F.slot_str_join, F.type_str_join, fun pins s σ H x xs v us Q I rx rv h => by
      match x, xs, h with
      | .str z, [.ref p], ⟨ts, h1, h2, h3⟩ => exact mt_join pins s σ H _ _ v us Q I rx rv ⟨z, p, ts, rfl, rfl, h1, h2, h3⟩⟩
  | lstrip => exact ⟨_, F.plainAttrs_str, F.slot_str_lstrip, F.type_str_lstrip, fun pins s σ H x xs v us Q I rx rv h => by
      match x, xs, h with
      | .str z, [.str y], ⟨h1, h2⟩ => exact mt_lstrip pins s σ H _ _ v us Q I rx rv ⟨z, y, rfl, rfl, h1, h2⟩⟩
  | find => exact ⟨_, F.plainAttrs_str, F.slot_str_find, F.type_str_find, fun pins s σ H x xs v us Q I rx rv h => by
      match x, xs, h with
      | .str z, [.str y], h1 =>
        obtain ⟨t, rfl⟩ := rx
        obtain ⟨u, rfl, ⟨t2, rfl⟩⟩ := vals1 rv
        exact call_gives F.slot_str_find (typeIs_str _ _ _) F.entry_str_find (F.args_str_find_2 _ _) (gives_str_find z y t t2) ⟨.int _, H, I.tok _, ⟨_, rfl⟩, h1⟩
      | .str z, [.str y, .int i], h1 =>
        obtain ⟨t, rfl⟩ := rx
        obtain ⟨u, w', rfl, ⟨t2, rfl⟩, ⟨t3, rfl⟩⟩ := vals2 rv
        exact call_gives F.slot_str_find (typeIs_str _ _ _) F.entry_str_find (F.args_str_find_3 _ _ _) (gives_str_find_from z y i t t2 t3) ⟨.int _, H, I.tok _, ⟨_, rfl⟩, h1⟩⟩
  | count => exact ⟨_, F.plainAttrs_str, F.slot_str_count, F.type_str_count, fun pins s σ H x xs v us Q I rx rv h => by
      match x, xs, h with
      | .str z, [.str y], h1 =>
        obtain ⟨t, rfl⟩ := rx
        obtain ⟨u, rfl, ⟨t2, rfl⟩⟩ := vals1 rv
        exact call_gives F.slot_str_count (typeIs_str _ _ _) F.entry_str_count (F.args_str_count_2 _ _) (gives_str_count z y t t2) ⟨.int _, H, I.tok _, ⟨_, rfl⟩, h1⟩⟩
/-! ### isinstance -/
theorem isi_ok {pins : List (Addr × Obj)} {σ : St} {H : Hp} {s : Shared} {T : Ty} {x : V} {u : Value} {Qb : Bool → Prop} {Q : Value → Shared → Prop} {E : Value → Shared → Prop} (I : Inv X pins σ H s) (rx : RelV x u) (h : isiV T x H Qb)
    (hq : ∀ b tk, Qb b → Q (.bool b) { s with toks := tk }) : wpAny (model X.prog X.w) X.A (call (.builtin "isinstance") [u, .type T.nm]) Q E s := by
  match x, rx, h with
  | .non, rx, h => exact isinst_ok I rx (.non) (kit_none _ T) fun tk => hq _ _ h
  | .bl b, rx, h => exact isinst_ok I rx (.bl b) (kit_tys X.K .bool T) fun tk => hq _ _ (by cases T <;> exact h)
  | .int i, rx, h => exact isinst_ok I rx (.int i) (kit_tys X.K .int T) fun tk => hq _ _ (by cases T <;> exact h)
  | .str i, rx, h => exact isinst_ok I rx (.str i) (kit_tys X.K .str T) fun tk => hq _ _ (by cases T <;> exact h)
  | .ref a, rx, h =>
    cases e : H a with
    | none => simp only [isiV, e] at h
    | some o =>
      match o, e with
      | .lst xs, e => simp only [isiV, e] at h; exact isinst_ok I rx (.lst e) (kit_tys X.K .list T) fun tk => hq _ _ (by cases T <;> exact h)
      | .frz ob (.lst xs), e => simp only [isiV, e] at h; exact isinst_ok I rx (.frz e) (kit_tys X.K .list T) fun tk => hq _ _ (by cases T <;> exact h)
      | .tup xs, e => simp only [isiV, e] at h; exact isinst_ok I rx (.tup e) (kit_tys X.K .tuple T) fun tk => hq _ _ (by cases T <;> exact h)
      | .dK xs, e => simp only [isiV, e] at h; exact isinst_ok I rx (.dK e) (kit_tys X.K .dict T) fun tk => hq _ _ (by cases T <;> exact h)
      | .dT xs, e => simp only [isiV, e] at h; exact isinst_ok I rx (.dT e) (kit_tys X.K .dict T) fun tk => hq _ _ (by cases T <;> exact h)
      | .set _ _, e => simp only [isiV, e] at h
      | .ins _ _ _, e => simp only [isiV, e] at h
      | .own _, e => simp only [isiV, e] at h
      | .xd _, e => simp only [isiV, e] at h
      | .met _ _, e => simp only [isiV, e] at h
      | .rng _ _, e => simp only [isiV, e] at h
      | .tbl _, e => simp only [isiV, e] at h
      | .ext _, e => simp only [isiV, e] at h
      | .frz ob (.tup xs), e => simp only [isiV, e] at h
      | .frz ob (.dK xs), e => simp only [isiV, e] at h
      | .frz ob (.dT xs), e => simp only [isiV, e] at h
      | .frz ob (.set _ _), e => simp only [isiV, e] at h
      | .frz ob (.ins _ _ _), e => simp only [isiV, e] at h
      | .frz ob (.own _), e => simp only [isiV, e] at h
      | .frz ob (.xd _), e => simp only [isiV, e] at h
      | .frz ob (.met _ _), e => simp only [isiV, e] at h
      | .frz ob (.rng _ _), e => simp only [isiV, e] at h
      | .frz ob (.tbl _), e => simp only [isiV, e] at h
      | .frz ob (.ext _), e => simp only [isiV, e] at h
      | .frz ob (.frz _ _), e => simp only [isiV, e] at h
theorem boot_ty (T : Ty) : bootBuiltins (Str.ofString T.nm) = some (.type T.nm) := by cases T <;> decide +kernel
theorem call_isi (T : Ty) : CallR X (.builtin "isinstance") (rIsi T) := by
  intro pins s σ H xs us Q I r h
  match xs, r, h with
  | [x, .ty n], r, ⟨e, h⟩ =>
    subst e
    obtain ⟨u, w', rfl, ru, rw'⟩ := vals2 r
    cases rw'
    exact isi_ok I ru h fun b tk hb => ⟨.bl b, H, I.tok tk, rfl, hb⟩
/-- isinstance(e, T): the call -/
theorem pe_isi {T : Ty} {a : Expr} {ta : TE} {p q pos : Pos} (ha : PE X a ta) (hs : noStar a = true) (hg : Gl X "isinstance") (hm : X.mg "isinstance" = none) (hgT : Gl X (Str.ofString T.nm)) (hmT : X.mg (Str.ofString T.nm) = none) :
    PE X (.Call (.Name "isinstance" p) [a, .Name (Str.ofString T.nm) q] [] pos) (tCB (rIsi T) (tCons ta (tCons (tC (.ty T.nm)) tNil))) := by
  have hT : PE X (.Name (Str.ofString T.nm) q) (tC (.ty T.nm)) := pe_bltn hgT hmT (boot_ty T) rfl (by cases T <;> decide) (by cases T <;> decide)
  exact pe_callB (call_isi T) hg hm boot_isi (pa_cons ha (pa_cons hT pa_nil rfl) (star_cons hs)) (by decide) (by decide) (star_cons hs) rfl
end

/-! ### slices -/
section
variable {X : Cx}
theorem sl_all : SlR X (rSl X.K) := by
  intro pins s σ H x v vl vu lo hi sl Q I rx hs pl pu h
  match x, rx, h with
  | .ref a, rx, .inl ⟨xs, h1, h2⟩ => exact sl_list pins s σ H _ v vl vu lo hi sl Q I rx hs pl pu ⟨a, xs, rfl, h1, h2⟩
  | .ref a, rx, .inr ⟨xs, h1, h2, h3⟩ => exact sl_tup pins s σ H _ v vl vu lo hi sl Q I rx hs pl pu ⟨a, xs, rfl, h1, h2, h3⟩
  | .str z, rx, ⟨h1, h2⟩ =>
    obtain ⟨t, rfl⟩ := rx
    obtain ⟨l, el, ml⟩ : ∃ l : Option (Int × Tok), vl = partValue l ∧ l.map (·.1) = lo := by
      cases pl with
      | none => exact ⟨none, rfl, rfl⟩
      | int i t => exact ⟨some (i, t), rfl, rfl⟩
    obtain ⟨u, eu, mu⟩ : ∃ u : Option (Int × Tok), vu = partValue u ∧ u.map (·.1) = hi := by
      cases pu with
      | none => exact ⟨none, rfl, rfl⟩
      | int i t => exact ⟨some (i, t), rfl, rfl⟩
    subst el eu
    refine ⟨"str", _, F.slot_str_getitem.lookup, typeIs_str _ _ _, ?_⟩
    refine wpAny_getItem_str_slice (l := l) (u := u) (st := none) hs rfl ?_
    obtain ⟨b1, b2, b3⟩ := slice_bounds lo hi z.length
    have hp : slicePicked z l u none = (List.range (HT.sIx z.length z.length hi - HT.sIx z.length 0 lo)).map (HT.sIx z.length 0 lo + ·) := by
      show Builtin.Str.strSliceIndices (l.map (·.1)) (u.map (·.1)) 1 z.length = _
      rw [ml, mu]
      have e0 : Builtin.Str.strSliceIndices lo hi 1 z.length = sliceRange (sliceBounds lo hi none z.length).1 (sliceBounds lo hi none z.length).2.1 (sliceBounds lo hi none z.length).2.2 := rfl
      rw [e0, b1, b2, b3, sliceRange_one]
    have hc : ((slicePicked z l u none).filterMap (z.cps[·]?)) = cutL z.cps.toList lo hi := by
      show (Builtin.Str.strSliceIndices (l.map (·.1)) (u.map (·.1)) 1 z.length).filterMap (z.cps[·]?) = _
      rw [ml, mu, picked_cut]
    have hz : z.cps.toList.length = z.length := by simp [Str.length]
    have hA := HT.sIx_le z.length 0 (Nat.zero_le _) lo
    have hB := HT.sIx_le z.length z.length (Nat.le_refl _) hi
    unfold sliceMade
    refine post_val_or_made (fun _ => ?_) fun t' k => ?_
    · show (List.toArray ((slicePicked z l u none).filterMap (z.cps[·]?))).size ≤ sizeLine
      rw [hc, List.size_toArray]
      have : (cutL z.cps.toList lo hi).length ≤ z.cps.toList.length := by unfold cutL; simp only [List.length_take, List.length_drop]; omega
      omega
    · have e : (if (((none : Option (Int × Tok)).map (·.1)).getD 1 == 1 && (slicePicked z l u none).length == z.length) = true then z else ⟨((slicePicked z l u none).filterMap (z.cps[·]?)).toArray⟩) = cutS z lo hi := by
        split
        · rename_i hq
          simp only [Bool.and_eq_true, beq_iff_eq] at hq
          have hq2 := hq.2
          rw [hp, List.length_map, List.length_range] at hq2
          have a0 : HT.sIx z.length 0 lo = 0 := by omega
          have b0 : HT.sIx z.length z.length hi = z.length := by omega
          unfold cutS cutL
          rw [hz, a0, b0, ← hz, Nat.sub_zero, List.drop_zero, List.take_length]
        · rw [hc]; rfl
      rw [e]
      exact ⟨.str _, H, I.tok k, ⟨t', rfl⟩, h2⟩
theorem pe_notE {a : Expr} {ta : TE} {pos : Pos} (ha : PE X a ta) : PE X (.UnaryOp .Not a pos) (tNotE X.K ta) := by
  intro pins s σ H Q I h
  refine UnaryOp_ (thn (ha pins s σ H _ I h) fun v s1 ⟨x, H1, I1, r1, q1⟩ => not_of ?_)
  exact thn (tru_ok pins s1 σ H1 x v (fun b H2 => Q (.bl (!b)) H2) I1 r1 (tru_of q1)) fun b s2 ⟨H2, I2, q2⟩ => ⟨.bl (!b), H2, I2, rfl, q2⟩
theorem pt_tru {a : Expr} {ta : TE} (ha : PE X a ta) (he : ∀ whole, isTrue a X.env whole = (do let v ← whole; standAt a.pos; holding [v] (truthy v))) : PT X a (tTru X.K ta) := by
  intro pins s σ H Q I h
  exact isTrue_plain (thn (ha pins s σ H _ I h) fun v s1 ⟨x, H1, I1, r1, q1⟩ => tru_ok pins s1 σ H1 x v Q I1 r1 (tru_of q1)) (he _)
theorem pe_mth {m : Mth} {o e : Expr} {es : List Expr} {to : TE} {t : TA} {apos cpos : Pos} (ho : PE X o to) (ha : PA X (e :: es) t) (hb : noSuper o = true) (hl : (apos.endLine == cpos.line) = true) (hn : (e :: es).length < 29)
    (hs : starEach (e :: es) X.env = (false, eval e X.env) :: starEach es X.env) (h1 : (backTo cpos (starEach es X.env)).any (·.1) = false) (h2 : (backTo cpos (starEach (e :: es) X.env)).all (fun x => !x.1) = true) :
    PE X (.Call (.Attribute o m.nm apos) (e :: es) [] cpos) (tMth X.K m to t) := by
  obtain ⟨id, M⟩ := mth_is (X := X) m
  exact pe_bm M.pa M.slot M.ty M.mt ho ha (base_of hb) (by
    rw [h2]
    show (true && true && decide ((e :: es).length + 0 + 0 < 30)) = true
    rw [decide_eq_true (by omega)]; rfl) hl hs h1
end

/-! ### methods and makers of own classes -/
section
variable {X : Cx} {CX : CXT}
theorem own_call {o : Expr} {m : Str} {apos pos : Pos} {args : List Expr} {Q : Value → Shared → Prop} {E : Value → Shared → Prop} {A : Around} {s : Shared} {env : Env} {prog : Program} {w : World}
    (hb : noSuper o = true) (hl : (apos.endLine == pos.line) = true) (hn : args.length < 29) (hf : (backTo pos (starEach args env)).all (fun x => !x.1) = true)
    (h : wpAny (model prog w) A (eval o env) (fun ov s1 => ∀ pl, wpAny (model prog w) A (getMethod ov m pl) (fun fx s2 => wpAny (model prog w) A (callWith pos fx.1 fx.2 (backTo pos (starEach args env)) (backToKw pos (keywordEach [] env))) Q E s2) E s1) E s) :
    wpAny (model prog w) A (eval (.Call (.Attribute o m apos) args [] pos) env) Q E s := by
  have form : methodCallForm (args.length + 0) (backTo pos (starEach args env)) (backToKw pos (keywordEach [] env)) = true := by
    show ((backTo pos (starEach args env)).all (fun x => !x.1) && true && decide (args.length + 0 + 0 < 30)) = true
    rw [hf, decide_eq_true (by omega)]; rfl
  have line : methodCallPos true o env apos pos = pure pos := by unfold methodCallPos; simp [hl]
  rw [arm_eval_Call, base_of hb]
  refine wpAny_bind (wpAny_mono h (fun ov s1 h1 => wpAny_bind (wpAny_standAt ?_)) fun _ _ e => e)
  unfold methodCall
  rw [show ([] : List Keyword).length = 0 from rfl, form]
  refine wpAny_bind (wpAny_holding (wpAny_mono (h1 _) (fun fx s2 h2 => ?_) fun _ _ e => e))
  exact wpAny_bind (wpAny_of_eq line h2)
theorem pe_own {o e : Expr} {es : List Expr} {to : TE} {t : TA} {apos pos : Pos} {C : Addr} {m : Str} {sp : Sp} {E : XK} (M : MtFor CX X C m sp) (hx : Passes CX X E) (ho : PE X o to) (ha : PA X (e :: es) t) (hb : noSuper o = true) (hl : (apos.endLine == pos.line) = true) (hn : (e :: es).length < 29)
    (hs : starEach (e :: es) X.env = (false, eval e X.env) :: starEach es X.env) (h1 : (backTo pos (starEach es X.env)).any (·.1) = false) (h2 : (backTo pos (starEach (e :: es) X.env)).all (fun x => !x.1) = true) :
    PE X (.Call (.Attribute o m apos) (e :: es) [] pos) (tMeth C m sp [] E to t) := by
  obtain ⟨c, k, f, fd, ps, hm, F, hr, hbd⟩ := M
  intro pins s σ H Q I h
  refine own_call hb hl hn h2 (thn (ho pins s σ H _ I h) fun u s1 ⟨x, H1, I1, rx, a, dx, fs, ex, ea, l, q⟩ => fun pl => ?_)
  subst ex
  obtain rfl : u = Value.ref a := rx
  refine getmeth_ok I1 ea c hm l ?_
  refine PySem.W.callWith_K (first := [.ref a]) (h₀ := X.base) I.ok.mod.kin hm.kp (thn (ha pos pins s1 σ H1 _ I1 q) fun us s2 ⟨vs, H2, I2, r, q2⟩ => ⟨I2.kIn, ?_⟩) hs h1
  exact run_fn (us := .ref a :: us) (vs := .ref a :: vs) F hr hbd .nil hx I2 (.cons rfl r) q2
theorem pe_own0 {o : Expr} {to : TE} {apos pos : Pos} {C : Addr} {m : Str} {sp : Sp} {E : XK} (M : MtFor CX X C m sp) (hx : Passes CX X E) (ho : PE X o to) (hb : noSuper o = true) (hl : (apos.endLine == pos.line) = true) :
    PE X (.Call (.Attribute o m apos) [] [] pos) (tMeth C m sp [] E to tNil) := by
  obtain ⟨c, k, f, fd, ps, hm, F, hr, hbd⟩ := M
  intro pins s σ H Q I h
  refine own_call hb hl (by decide) rfl (thn (ho pins s σ H _ I h) fun u s1 ⟨x, H1, I1, rx, a, dx, fs, ex, ea, l, q⟩ => fun pl => ?_)
  subst ex
  obtain rfl : u = Value.ref a := rx
  refine getmeth_ok I1 ea c hm l ?_
  exact PySem.W.callWith_K0 (first := [.ref a]) I1.kIn hm.kp (run_fn (us := [.ref a]) (vs := [.ref a]) F hr hbd .nil hx I1 (.cons rfl .nil) q)
end

end L2

set_option maxRecDepth 100000
set_option maxHeartbeats 4000000
namespace L2
open PySem PySem.Spec PyProof.Rows
section
variable {prog : Program} {w : World} {A : Around} {E : Value → Shared → Prop} {s : Shared}
theorem draw_list {it l : Addr} {items : Array Value} (hne : l ≠ it) : ∀ (n i : Nat) (s : Shared) (Q : List Value → Shared → Prop), s.heap.IsListIter it l i → s.heap.IsList l items → i + n ≤ items.size →
    (∀ h', h'.IsListIter it l (i + n) → Heap.SameBut it s.heap h' → Q ((items.toList.drop i).take n) { s with heap := h' }) → wpAny (model prog w) A (draw (.ref it) n) Q E s
  | 0, i, s, Q, hit, _, _, hQ => by
    show wpAny _ _ (pure []) Q E s
    exact wpAny_pure (by simpa using hQ s.heap hit (Heap.SameBut.refl ..))
  | n + 1, i, s, Q, hit, ht, hle, hQ => by
    have hlt : i < items.size := by omega
    show wpAny _ _ (pyNext (.ref it) >>= _) Q E s
    refine wpAny_bind (wpAny_pyNext_list_item hit ht (x := items[i]) (by simp [hlt]) fun h₁ hit₁ hs₁ => ?_)
    refine wpAny_bind (wpAny_holding (draw_list hne n (i + 1) _ _ hit₁ (ht.extBut hs₁.extBut hne) (by omega) fun h₂ hit₂ hs₂ => wpAny_pure ?_))
    have hd : items.toList.drop i = items[i] :: items.toList.drop (i + 1) := by simp [List.drop_eq_getElem_cons, hlt]
    have := hQ h₂ (by rw [show i + (n + 1) = i + 1 + n by omega]; exact hit₂) (hs₁.trans hs₂)
    rw [hd, List.take_succ_cons] at this
    exact this
theorem unpackItems_list {t : Addr} {items : Array Value} {Q : List Value → Shared → Prop} (hh : A.handled = none) (ht : s.heap.IsList t items)
    (hQ : ∀ h', Heap.ExtBut s.heap.objs.size s.heap h' → Q items.toList { s with heap := h' }) : wpAny (model prog w) A (unpackItems (.ref t) items.size none) Q E s := by
  have hlt : t ≠ s.heap.objs.size := by obtain ⟨o, ho, _⟩ := ht; exact Nat.ne_of_lt (Heap.lt_size ho)
  unfold unpackItems
  refine wpAny_bind ?_
  · unfold notIterableAtAll
    refine wpAny_bind (wpAny_specialOf ht.typeIs slot_list_iter.lookup ?_)
    refine wpAny_pure ?_
    simp only [Bool.false_eq_true, if_false]
    refine wpAny_bind (wpAny_holding (wpAny_pyIter_list ht ?_))
    refine wpAny_bind (wpAny_holding (draw_list hlt items.size 0 _ _ ⟨_, Heap.get?_push_size _ rfl, rfl, rfl⟩ (ht.push _) (by omega) fun h₁ hit₁ hs₁ => ?_))
    have hall : List.take items.size (List.drop 0 items.toList) = items.toList := by
      rw [List.drop_zero]; exact List.take_of_length_le (by simp)
    rw [hall]
    rw [if_neg (by simp)]
    have ht₁ : h₁.IsList t items := (ht.push _).extBut hs₁.extBut hlt
    refine wpAny_bind (wpAny_holding (wpAny_pyNext_list_end hh hit₁ ht₁ (by simp) fun h₂ he₂ => ?_))
    simp only [Option.isSome_none, Bool.false_eq_true, if_false]
    refine wpAny_pure (hQ h₂ fun b o hb e => he₂ b o hb (hs₁.extBut b o hb (Heap.get?_push_of_some _ e)))
theorem assign_Tuple_listv {env : Env} {elts : List Expr} {x1} {pos : Pos} {t : Addr} {items : Array Value} {Q : Unit → Shared → Prop} (hh : A.handled = none) (ht : s.heap.IsList t items)
    (hn : (assignEach elts env).length = items.size) (hstar : (assignEach elts env).findIdx? (·.1) = none)
    (h : ∀ h', Heap.ExtBut s.heap.objs.size s.heap h' → wpAny (model prog w) A (assignInOrder ((assignEach elts env).map (·.2)) items.toList) Q E { s with heap := h' }) :
    wpAny (model prog w) A (assign (.Tuple elts x1 pos) env (.ref t)) Q E s := by
  rw [assign_Tuple]
  refine wpAny_bind (wpAny_standAt ?_)
  unfold unpack
  rw [hn, hstar]
  exact wpAny_bind (wpAny_holding (unpackItems_list hh ht h))
end
/-- (a, b, ..) = a tuple or a list of that length -/
def gSeq (K : PySem.W.Frag) (n : Nat) (t : TGs) : TG := fun v σ H Q => ∃ a xs, v = .ref a ∧ (SqT K H a xs ∨ SqL K H a xs) ∧ xs.length = n ∧ t xs σ H Q
theorem pg_seq {X : Cx} {es : List Expr} {k : Nat} {t : TGs} {n : Nat} {pos : Pos} (hc : X.calm = true) (h : PGs X es t)
    (hn : (assignEach es X.env).length = n) (hst : (assignEach es X.env).findIdx? (·.1) = none) : PG X (.Tuple es k pos) (gSeq X.K n t) := by
  intro pins s σ H v u Q I r hw
  obtain ⟨a, xs, e1, hq, hl, hw⟩ := hw
  rcases hq with hq | hq
  · exact pg_tup hc h hn hst pins s σ H v u Q I r ⟨a, xs, e1, hq, hl, hw⟩
  · subst e1
    cases r
    obtain ⟨its, rv, ht, hz⟩ := I.list hq
    refine assign_Tuple_listv (I.ok.hd hc) ht.isList (by simp [hn, ← hl, rv.length]) hst fun h' hx => ?_
    have I1 : Inv X pins σ H { s with heap := h' } := I.kept (t' := s.toks) fun b o e => hx b o (Nat.ne_of_lt (Heap.lt_size e)) e
    exact h pins _ σ H xs _ Q I1 (by simpa using rv) hw
end L2

set_option maxRecDepth 100000
set_option maxHeartbeats 4000000
namespace L2
open PySem PySem.Spec PyProof.Rows

/-! ### a row's own derivation, part by part -/
def gNames : List Nat → TGs
  | [] => gNil
  | i :: r => gCons (gName i) (gNames r)
/-- o[lo:hi] = .. -/
def gSl (to : TE) (tl th : TO) : TG := fun v σ H Q => to σ H fun o H1 => tl σ H1 fun i H2 => th σ H2 fun j H3 => ∃ l b xs ys a c, o = .ref l ∧ v = .ref b ∧ i = some a ∧ j = some c ∧ H3 l = some (.lst xs) ∧ H3 b = some (.lst ys) ∧ l ≠ b ∧
  0 ≤ a ∧ a ≤ c ∧ c ≤ xs.length ∧ xs.length + ys.length ≤ sizeLine ∧ Q σ (upd H3 l (.lst (xs.take a.toNat ++ ys ++ xs.drop c.toNat)))
mutual
def rdS (Γ : RCx) : RS → TS
  | .asg i e => tAsg (rdE Γ e) (gName i)
  | .asgC i e => tAsg (rdE Γ e) (gName i)
  | .set o ix e => tAsg (rdE Γ e) (gSub (rdE Γ o) (rdE Γ ix) rSetL)
  | .drop e => tDrop (rdE Γ e)
  | .ret e => tRet (rdE Γ e)
  | .retN => tRetN
  | .ite c t e => tIfS (rdT Γ c) (rdSs Γ t) (rdSs Γ e)
  | .for1 i k its body => tFor (rdI Γ k its) (gName i) (rdSs Γ body)
  | .forT is k its body => tFor (rdI Γ k its) (gSeq Γ.K is.length (gNames is)) (rdSs Γ body)
  | .whl c body => tWhile (rdT Γ c) (rdSs Γ body)
  | .pass => tNext
  | .brk => tBreak
  | .cont => tCont
  | .never => tNever
  | .setSl o lo hi e => tAsg (rdE Γ e) (gSl (rdE Γ o) (tPart (rdE Γ lo)) (tPart (rdE Γ hi)))
  | .setf o f e => sFld Γ.K (rdE Γ o) (rdE Γ e) f
def rdSs (Γ : RCx) : List RS → TS
  | [] => tNext
  | s :: r => tSeq (rdS Γ s) (rdSs Γ r)
end
def noSl : Expr → Bool
  | .Slice .. => false | _ => true
def noComp : Expr → Bool
  | .ListComp .. => false | .SetComp .. => false | .DictComp .. => false | _ => true
def tgIs (N : List Str) (sc : Scope) : List Nat → List Str → Bool
  | [], xs => xs.isEmpty
  | i :: r, xs => match xs with
    | [] => false
    | x :: t => decide (N[i]? = some x) && loc sc x && tgIs N sc r t
structure GoodS (CX : CXT) (S : SCx) (Γ : RCx) (X : Cx) : Prop extends Good CX S Γ X where
  nd : S.N.Nodup
  fnt : ∀ x, X.fn x = true
  own : PassesOwn (model X.prog X.w) X.A X.env X.xe
  fun' : X.env.scope.kind = .function
def qV (S : SCx) (i : Nat) (x : Str) : Bool := decide (S.N[i]? = some x) && vis S.sc x && !(x == ("__debug__" : Str)) && !(x == ("__classdict__" : Str))
def kG (S : SCx) (j : Nat) (x : Str) : Bool := decide (S.gn[j]? = some x) && glo S.sc x && !(x == ("__debug__" : Str))
def kF (S : SCx) (j : Nat) (x : Str) : Bool := decide (S.fn[j]? = some x) && glo S.sc x && !(x == ("__debug__" : Str))
def kK (S : SCx) (j : Nat) (x : Str) : Bool := decide (S.kn[j]? = some x) && glo S.sc x && !(x == ("__debug__" : Str))
def kB (S : SCx) (x y : Str) : Bool := decide (x = y) && glo S.sc x && S.bl.contains x
def kM (o : Expr) (m : Str) (x : Str) (n : Nat) (a c : Pos) : Bool := decide (x = m) && noSuper o && (a.endLine == c.line) && decide (n < 29)
def kL (S : SCx) (i : Nat) (x : Str) : Bool := decide (S.N[i]? = some x) && loc S.sc x
section
variable {CX : CXT} {S : SCx} {Γ : RCx} {X : Cx} {e e2 a b c d : Expr} {es : List Expr} {x : Str} {p q pos : Pos} {r ra rb rc : RE} {rs : List RE} {i j : Nat}
theorem d_v (G : Good CX S Γ X) (h : qV S i x = true) : PE X (.Name x p) (rdE Γ (.v i)) := by
  simp only [qV, Bool.and_eq_true, decide_eq_true_eq, Bool.not_eq_true'] at h
  exact pe_var (by rw [G.N]; exact h.1.1.1) (by rw [G.sc]; exact vis_of h.1.1.2) h.1.2 h.2
theorem d_ci {v : Int} {k : Nat} : PE X (.Constant (.int v) k p) (rdE Γ (.c (.int v))) := pe_int
theorem d_cs {v : Str} {k : Nat} : PE X (.Constant (.str v) k p) (rdE Γ (.c (.str v))) := pe_str
theorem d_cb {v : Bool} {k : Nat} : PE X (.Constant (.bool v) k p) (rdE Γ (.c (.bl v))) := pe_bl
theorem d_cn {k : Nat} : PE X (.Constant .none k p) (rdE Γ (.c .non)) := pe_non
theorem d_g (G : Good CX S Γ X) (h : kG S j x = true) : PE X (.Name x p) (rdE Γ (.g j)) := by
  simp only [kG, Bool.and_eq_true, decide_eq_true_eq, Bool.not_eq_true'] at h
  obtain ⟨u, hm, r⟩ := G.gvs j x h.1.1
  exact pe_glob (G.gl h.1.2) hm r h.2
theorem d_bin {op : Operator} (G : Good CX S Γ X) (ha : PE X a (rdE Γ ra)) (hb : PE X b (rdE Γ rb)) : PE X (.BinOp a op b p) (rdE Γ (.bin op ra rb)) := by
  show PE X _ (tOp (rBin Γ.K op) (rdE Γ ra) (rdE Γ rb))
  rw [← G.K]
  exact pe_op (op_bin op) ha hb
theorem d_cmp {op : CmpOp} (G : Good CX S Γ X) (hm : behindInMarks op b = false) (ha : PE X a (rdE Γ ra)) (hb : PE X b (rdE Γ rb)) : PE X (.Compare a [op] [b] p) (rdE Γ (.cmp op ra rb)) := by
  show PE X _ (tOp (rCmp Γ.K op) (rdE Γ ra) (rdE Γ rb))
  rw [← G.K]
  exact pe_cmpR (op_cmp G.units op) ha hb hm
theorem d_cmp2 {op op' : CmpOp} (G : Good CX S Γ X) (hm : lastMarks [op, op'] [b, c] = false) (ha : PE X a (rdE Γ ra)) (hb : PE X b (rdE Γ rb)) (hc : PE X c (rdE Γ rc)) : PE X (.Compare a [op, op'] [b, c] p) (rdE Γ (.cmp2 op op' ra rb rc)) := by
  show PE X _ (tChain (rCmp Γ.K op) (rCmp Γ.K op') (rdE Γ ra) (rdE Γ rb) (rdE Γ rc))
  rw [← G.K]
  exact pe_chain (op_cmp G.units op) (op_cmp G.units op') ha hb hc hm
theorem d_and1 (h : PE X e (rdE Γ r)) : PE X (.BoolOp .And [e] p) (rdE Γ (.and [r])) := pe_one h
theorem d_and {r2 : RE} (h : PE X e (rdE Γ r)) (t : PE X (.BoolOp .And (e2 :: es) p) (rdE Γ (.and (r2 :: rs)))) : PE X (.BoolOp .And (e :: e2 :: es) p) (rdE Γ (.and (r :: r2 :: rs))) := pe_and h t
theorem d_not (G : Good CX S Γ X) (ha : PE X a (rdE Γ ra)) : PE X (.UnaryOp .Not a p) (rdE Γ (.not ra)) := by
  show PE X _ (tNotE Γ.K (rdE Γ ra))
  rw [← G.K]
  exact pe_notE ha
theorem d_ife (hc : PT X c (rdT Γ rc)) (ha : PE X a (rdE Γ ra)) (hb : PE X b (rdE Γ rb)) : PE X (.IfExp c a b p) (rdE Γ (.ife rc ra rb)) := pe_ifExp hc ha hb
theorem d_nil : PA X [] (rdA Γ []) := pa_nil
theorem d_cons (hs : noStar e = true) (h : PE X e (rdE Γ r)) (t : PA X es (rdA Γ rs)) : PA X (e :: es) (rdA Γ (r :: rs)) := pa_cons h t (star_cons hs)
theorem d_call (G : Good CX S Γ X) (h : kF S j x = true) (hn : nst (e :: es) = true) (hA : PA X (e :: es) (rdA Γ (r :: rs))) : PE X (.Call (.Name x p) (e :: es) [] pos) (rdE Γ (.call j (r :: rs))) := by
  simp only [kF, Bool.and_eq_true, decide_eq_true_eq, Bool.not_eq_true'] at h
  obtain ⟨k, f, fd, ps, F, hr, hm, hk, hb⟩ := G.fns j x h.1.1
  exact pe_call F hr (G.gl h.1.2) hm hk hb .nil G.pass hA h.2 (star_cons (nst_cons hn).1) (stars_of _ _ es (nst_cons hn).2)
theorem d_make0 (G : Good CX S Γ X) (h : kK S j x = true) : PE X (.Call (.Name x p) [] [] pos) (rdE Γ (.make j [])) := by
  simp only [kK, Bool.and_eq_true, decide_eq_true_eq, Bool.not_eq_true'] at h
  obtain ⟨k, f, fd, ps, M, F, hr, hm, hb⟩ := G.mks j x h.1.1
  exact pe_make0 M F hr (G.gl h.1.2) hm hb .nil G.pass h.2
theorem d_blt {t : Blt} (G : Good CX S Γ X) (h : kB S x t.nm = true) (hn : nst (e :: es) = true) (hA : PA X (e :: es) (rdA Γ (r :: rs))) : PE X (.Call (.Name x p) (e :: es) [] pos) (rdE Γ (.blt t (r :: rs))) := by
  simp only [kB, Bool.and_eq_true, decide_eq_true_eq] at h
  obtain ⟨⟨rfl, h2⟩, h3⟩ := h
  have n1 : t.nm ≠ "__name__" := by cases t <;> decide
  have n2 : (t.nm == ("__debug__" : Str)) = false := by cases t <;> decide
  show PE X _ (tCB (rBlt Γ.K t) (rdA Γ (r :: rs)))
  rw [← G.K]
  cases blt_is (X := X) G.calm t with
  | fn id hv hc => exact pe_callB hc (G.gl h2) (G.bls _ h3) hv hA n1 n2 (star_cons (nst_cons hn).1) (stars_of _ _ es (nst_cons hn).2)
  | ty T hv hc => exact pe_callTy hc (G.gl h2) (G.bls _ h3) hv hA n1 n2 (star_cons (nst_cons hn).1) (stars_of _ _ es (nst_cons hn).2)
theorem d_isi {T : Ty} {y : Str} (G : Good CX S Γ X) (h : kB S x "isinstance" = true) (h2 : kB S y (Str.ofString T.nm) = true) (hs : noStar a = true) (ha : PE X a (rdE Γ ra)) : PE X (.Call (.Name x p) [a, .Name y q] [] pos) (rdE Γ (.isi T ra)) := by
  simp only [kB, Bool.and_eq_true, decide_eq_true_eq] at h h2
  obtain ⟨⟨rfl, g2⟩, g3⟩ := h
  obtain ⟨⟨rfl, k2⟩, k3⟩ := h2
  exact pe_isi ha hs (G.gl g2) (G.bls _ g3) (G.gl k2) (G.bls _ k3)
theorem d_mth {m : Mth} {o : Expr} {ro : RE} {ap : Pos} (G : Good CX S Γ X) (h : kM o m.nm x (es.length + 1) ap pos = true) (hn : nst (e :: es) = true) (ho : PE X o (rdE Γ ro)) (hA : PA X (e :: es) (rdA Γ (r :: rs))) : PE X (.Call (.Attribute o x ap) (e :: es) [] pos) (rdE Γ (.mth m ro (r :: rs))) := by
  simp only [kM, Bool.and_eq_true, decide_eq_true_eq] at h
  obtain ⟨⟨⟨rfl, h2⟩, h3⟩, h4⟩ := h
  show PE X _ (tMth Γ.K m (rdE Γ ro) (rdA Γ (r :: rs)))
  rw [← G.K]
  exact pe_mth ho hA h2 h3 h4 (star_cons (nst_cons hn).1) (stars_of _ _ es (nst_cons hn).2) (few_of _ _ (e :: es) hn)
theorem d_fld {f : Str} {ro : RE} (G : Good CX S Γ X) (h : noSuper a = true) (ho : PE X a (rdE Γ ro)) : PE X (.Attribute a f p) (rdE Γ (.fld ro f)) := by
  show PE X _ (tFld Γ.K (rdE Γ ro) f)
  rw [← G.K]
  exact pe_fld ho (base_of h)
theorem d_meth0 {m : Str} {o : Expr} {ro : RE} {ap : Pos} (G : Good CX S Γ X) (h : (kM o m m 0 ap pos && decide (S.mn[j]? = some m)) = true) (ho : PE X o (rdE Γ ro)) : PE X (.Call (.Attribute o m ap) [] [] pos) (rdE Γ (.meth j m ro [])) := by
  simp only [kM, Bool.and_eq_true, decide_eq_true_eq] at h
  obtain ⟨⟨⟨⟨-, h2⟩, h3⟩, -⟩, h5⟩ := h
  exact pe_own0 (G.mts j _ h5) G.pass ho h2 h3
theorem d_meth {m : Str} {o : Expr} {ro : RE} {ap : Pos} (G : Good CX S Γ X) (h : (kM o m m (es.length + 1) ap pos && decide (S.mn[j]? = some m)) = true) (hn : nst (e :: es) = true) (ho : PE X o (rdE Γ ro)) (hA : PA X (e :: es) (rdA Γ (r :: rs))) : PE X (.Call (.Attribute o m ap) (e :: es) [] pos) (rdE Γ (.meth j m ro (r :: rs))) := by
  simp only [kM, Bool.and_eq_true, decide_eq_true_eq] at h
  obtain ⟨⟨⟨⟨-, h2⟩, h3⟩, h4⟩, h5⟩ := h
  exact pe_own (G.mts j _ h5) G.pass ho hA h2 h3 h4 (star_cons (nst_cons hn).1) (stars_of _ _ es (nst_cons hn).2) (few_of _ _ (e :: es) hn)
theorem plain_of (h : noSl b = true) : PlainIx b := fun o i => by cases b <;> first | rfl | cases h
theorem d_ix (G : Good CX S Γ X) (h : noSl b = true) (ha : PE X a (rdE Γ ra)) (hb : PE X b (rdE Γ rb)) : PE X (.Subscript a b p) (rdE Γ (.ix ra rb)) := by
  show PE X _ (tOp (rIx2 Γ.K Γ.sd) (rdE Γ ra) (rdE Γ rb))
  rw [← G.K]
  exact pe_ix (ix_any G.sds) ha hb (plain_of h)
theorem d_sl {lo hi : Option Expr} {rl rh : Option RE} (G : Good CX S Γ X) (ha : PE X a (rdE Γ ra)) (hl : PO X lo (rdO Γ rl)) (hh : PO X hi (rdO Γ rh)) : PE X (.Subscript a (.Slice lo hi none q) p) (rdE Γ (.sl ra rl rh)) := by
  show PE X _ (tSl (rSl Γ.K) (rdE Γ ra) (rdO Γ rl) (rdO Γ rh))
  rw [← G.K]
  exact pe_slice sl_all ha hl hh
theorem d_no : PO X none (rdO Γ none) := po_none
theorem d_some (ha : PE X a (rdE Γ ra)) : PO X (some a) (rdO Γ (some ra)) := po_some ha
theorem d_tup {k} (hA : PA X es (rdA Γ rs)) : PE X (.Tuple es k p) (rdE Γ (.tup rs)) := pe_tup hA
theorem d_lst (hA : PA X es (rdA Γ rs)) : PE X (.List es p) (rdE Γ (.lst rs)) := pe_lst hA
/-- a block's test -/
def dIfs (CX : CXT) (S : SCx) (Γ : RCx) (cond : Option RE) (ifs : List Expr) : Prop := match cond with
  | none => ifs = []
  | some r => ∃ e0, ifs = [e0] ∧ ∀ X, Good CX S Γ X → PT X e0 (rdT Γ r)
theorem d_if0 : dIfs CX S Γ none [] := rfl
theorem d_if1 (h : ∀ X, Good CX S Γ X → PT X e (rdT Γ r)) : dIfs CX S Γ (some r) [e] := ⟨e, rfl, h⟩
def kC (S : SCx) (tk : Option Nat) (tg iter : Expr) (sc : Scope) (k : IK) (ln : List Str) (fv : List (Str × Nat)) : Bool := decide (tgNames tk tg = some ln) && (decide (k ≠ .zip) || tk.isSome) && compB S ⟨.Constant .none 0 ⟨0, 0, 0, 0⟩, tg, iter, [], sc⟩ ln fv
abbrev cS (S : SCx) (sc : Scope) (ln : List Str) (fv : List (Str × Nat)) : SCx := { S with N := ln ++ fv.map (·.1), sc := relabelS sc S.sc }
theorem d_comp {tk : Option Nat} {fv : List (Str × Nat)} {k : IK} {its : List RE} {cond : Option RE} {elt : RE} {el tg iter : Expr} {ifs : List Expr} {sc : Scope} {ln : List Str} (G : Good CX S Γ X) (h : kC S tk tg iter sc k ln fv = true) (hi : PI X tg iter (rdI Γ k its))
    (hc : dIfs CX (cS S sc ln fv) Γ.calm cond ifs) (he : ∀ X, Good CX (cS S sc ln fv) Γ.calm X → PE X el (rdE Γ.calm elt)) : PE X (.ListComp el [⟨tg, iter, ifs, 0⟩] sc p) (rdE Γ (.comp tk fv k its cond elt)) := by
  simp only [kC, Bool.and_eq_true, decide_eq_true_eq] at h
  obtain ⟨⟨h1, h2⟩, h3⟩ := h
  obtain ⟨o1, o2, o3, o4⟩ := CompB_ok (c := ⟨.Constant .none 0 ⟨0, 0, 0, 0⟩, tg, iter, [], sc⟩) G h3
  show PE X _ (tComp Γ.K (rdI Γ k its) tk fv (rdC Γ.calm cond) (rdE Γ.calm elt))
  rw [← G.K]
  refine pe_comp o1 G.calm hi (tgt_ok (c := ⟨.Constant .none 0 ⟨0, 0, 0, 0⟩, tg, iter, [], sc⟩) G.calm h1 o2 o3) ?_ (fun ex C s H => he _ (G.inner ⟨.Constant .none 0 ⟨0, 0, 0, 0⟩, tg, iter, [], sc⟩ ln fv ex C s H)) (set_of o4)
  cases cond with
  | none => exact hc
  | some r =>
    obtain ⟨e0, q, hq⟩ := hc
    exact ⟨e0, q, fun ex C s H => hq _ (G.inner ⟨.Constant .none 0 ⟨0, 0, 0, 0⟩, tg, iter, [], sc⟩ ln fv ex C s H)⟩
/-! tests -/
theorem t_not (h : PT X a (rdT Γ ra)) : PT X (.UnaryOp .Not a p) (rdT Γ (.not ra)) := pt_not h
theorem t_or1 (h : PT X e (rdT Γ r)) : PW X (.BoolOp .Or [e] p) (rdT Γ (.or [r])) := pw_or1 h
theorem t_or {r2 : RE} (h : PT X e (rdT Γ r)) (t : PW X (.BoolOp .Or (e2 :: es) p) (rdT Γ (.or (r2 :: rs)))) : PW X (.BoolOp .Or (e :: e2 :: es) p) (rdT Γ (.or (r :: r2 :: rs))) := pw_or h t
theorem t_cmp {op : CmpOp} (G : Good CX S Γ X) (hm : behindInMarks op b = false) (ha : PE X a (rdE Γ ra)) (hb : PE X b (rdE Γ rb)) : PT X (.Compare a [op] [b] p) (rdT Γ (.cmp op ra rb)) := by
  show PT X _ (tTest (tOp (rCmp Γ.K op) (rdE Γ ra) (rdE Γ rb)))
  rw [← G.K]
  exact pt_cmpR (op_cmp G.units op) ha hb hm
theorem t_v (G : Good CX S Γ X) (h : PE X (.Name x p) (rdE Γ (.v i))) : PT X (.Name x p) (rdT Γ (.v i)) := by
  show PT X _ (tTru Γ.K (rdE Γ (.v i)))
  rw [← G.K]
  exact pt_tru h fun _ => rfl
theorem t_call (G : Good CX S Γ X) (h : PE X (.Call a es [] p) (rdE Γ (.call j rs))) : PT X (.Call a es [] p) (rdT Γ (.call j rs)) := by
  show PT X _ (tTru Γ.K (rdE Γ (.call j rs)))
  rw [← G.K]
  exact pt_tru h fun _ => rfl
theorem t_isi {T : Ty} (G : Good CX S Γ X) (h : PE X (.Call a es [] p) (rdE Γ (.isi T ra))) : PT X (.Call a es [] p) (rdT Γ (.isi T ra)) := by
  show PT X _ (tTru Γ.K (rdE Γ (.isi T ra)))
  rw [← G.K]
  exact pt_tru h fun _ => rfl
/-! iterables -/
theorem i_list {tg : Expr} (G : Good CX S Γ X) (ha : PE X a (rdE Γ ra)) : PI X tg a (rdI Γ .list [ra]) := by
  show PI X tg a (iList Γ.K (rdE Γ ra))
  rw [← G.K]
  exact pi_list ha
theorem i_tup {tg : Expr} (G : Good CX S Γ X) (ha : PE X a (rdE Γ ra)) : PI X tg a (rdI Γ .tup [ra]) := by
  show PI X tg a (iTup Γ.K (rdE Γ ra))
  rw [← G.K]
  exact pi_tup ha
theorem i_rng {tg : Expr} (G : Good CX S Γ X) (h : kB S x "range" = true) (hs : noStar a = true) (ha : PE X a (rdE Γ ra)) : PI X tg (.Call (.Name x p) [a] [] pos) (rdI Γ .rng [ra]) := by
  simp only [kB, Bool.and_eq_true, decide_eq_true_eq] at h
  obtain ⟨⟨rfl, h2⟩, h3⟩ := h
  exact pi_range1 (G.gl h2) (G.bls _ h3) (pa_cons ha pa_nil (star_cons hs)) (star_cons hs)
end
/-! rows -/
section
variable {CX : CXT} {S : SCx} {Γ : RCx} {X : Cx} {e a b c v : Expr} {es : List Expr} {x : Str} {p q pos : Pos} {r ra rb rc : RE} {i j : Nat} {st : Stmt} {sts : List Stmt} {s : RS} {ss t u : List RS}
theorem swaps_no {v : Expr} {t : Option Expr} {l : Nat} {env : Env} (h : noComp v = true) : swapsWith v t l env = pure false := by
  cases v <;> first | rfl | cases h
theorem swaps_cell {v : Expr} {x : Str} {p : Pos} {l : Nat} {env : Env} (h : env.kindOf x = some .cell) : swapsWith v (some (.Name x p)) l env = pure false := by
  cases v <;> first
    | rfl
    | (unfold swapsWith; simp only [h]; have q : (some NameKind.cell == some NameKind.local) = false := rfl; simp only [q, Bool.and_false, Bool.false_and])
theorem GoodS.name (G : GoodS CX S Γ X) (h : kL S i x = true) : PG X (.Name x p) (gName i) := by
  simp only [kL, Bool.and_eq_true, decide_eq_true_eq] at h
  exact pg_name (by rw [G.N]; exact G.nd) (by rw [G.N]; exact h.1) (by rw [G.sc]; exact loc_of h.2) (.inl (G.fnt x))
theorem s_nil : PSs X [] (rdSs Γ []) := pss_nil
theorem s_cons (h : PS X st (rdS Γ s)) (t : PSs X sts (rdSs Γ ss)) : PSs X (st :: sts) (rdSs Γ (s :: ss)) := pss_cons h t
theorem s_asg (G : GoodS CX S Γ X) (h : kL S i x = true) (hc : (noComp v || decide (S.sc.names.lookup x = some .cell)) = true) (he : PE X v (rdE Γ r)) : PS X (.Assign [.Name x p] v q) (rdS Γ (.asg i r)) := by
  simp only [kL, Bool.and_eq_true, decide_eq_true_eq, Bool.or_eq_true] at h hc
  refine ps_set (by rw [G.N]; exact G.nd) (by rw [G.N]; exact h.1) (by rw [G.sc]; exact loc_of h.2) he ?_ (.inl (G.fnt x))
  rcases hc with h4 | h4
  · exact swaps_no h4
  · exact swaps_cell (by show X.env.scope.names.lookup x = _; rw [G.sc]; exact h4)
theorem s_setf {f : Str} (G : GoodS CX S Γ X) (h : noComp v = true) (ho : PE X a (rdE Γ ra)) (he : PE X v (rdE Γ r)) : PS X (.Assign [.Attribute a f p] v q) (rdS Γ (.setf ra f r)) := by
  show PS X _ (sFld Γ.K (rdE Γ ra) (rdE Γ r) f)
  rw [← G.K]
  exact ps_fld ho he (swaps_no h)
theorem s_drop (h : noComp v = true) (he : PE X v (rdE Γ r)) : PS X (.Expr v p) (rdS Γ (.drop r)) := ps_expr he (swaps_no h)
theorem s_ret (he : PE X v (rdE Γ r)) : PS X (.Return (some v) p) (rdS Γ (.ret r)) := ps_ret he
theorem s_ite {as bs : List Stmt} (hc : PT X c (rdT Γ rc)) (ha : PSs X as (rdSs Γ t)) (hb : PSs X bs (rdSs Γ u)) : PS X (.If c as bs p) (rdS Γ (.ite rc t u)) := ps_if hc ha hb
theorem s_whl {as : List Stmt} (G : GoodS CX S Γ X) (hc : PT X c (rdT Γ rc)) (ha : PSs X as (rdSs Γ t)) : PS X (.While c as [] p) (rdS Γ (.whl rc t)) := ps_while G.own hc ha
theorem s_for1 {k : IK} {its : List RE} {iter : Expr} {as : List Stmt} (G : GoodS CX S Γ X) (h : kL S i x = true) (hs : noSet iter = true) (hi : PI X (.Name x p) iter (rdI Γ k its)) (ha : PSs X as (rdSs Γ t)) : PS X (.For (.Name x p) iter as [] q) (rdS Γ (.for1 i k its t)) :=
  ps_for G.own G.calm hi (G.name h) ha (set_of hs)
theorem gNames_ok (G : GoodS CX S Γ X) : ∀ (is : List Nat) (xs : List (Str × Pos)), tgIs S.N S.sc is (xs.map (·.1)) = true →
    PGs X (xs.map fun y => .Name y.1 y.2) (gNames is) ∧ (assignEach (xs.map fun y => Expr.Name y.1 y.2) X.env).length = is.length ∧ (assignEach (xs.map fun y => Expr.Name y.1 y.2) X.env).findIdx? (·.1) = none
  | [], xs, h => by
    simp only [tgIs, List.isEmpty_iff, List.map_eq_nil_iff] at h
    subst h; exact ⟨pgs_nil, rfl, rfl⟩
  | i :: r, [], h => by simp only [List.map_nil, tgIs] at h; cases h
  | i :: r, y :: t, h => by
    simp only [List.map_cons, tgIs, Bool.and_eq_true] at h
    obtain ⟨i1, i2, i3⟩ := gNames_ok G r t h.2
    refine ⟨pgs_cons (G.name (by simp only [kL, Bool.and_eq_true]; exact h.1)) i1 rfl, ?_, ?_⟩
    · show (assignEach _ X.env).length + 1 = r.length + 1
      rw [i2]
    · show List.findIdx? (·.1) ((false, assign (.Name y.1 y.2) X.env) :: assignEach _ X.env) = none
      rw [List.findIdx?_cons, i3]; rfl
theorem s_forT {is : List Nat} {k : IK} {its : List RE} {iter : Expr} {as : List Stmt} {kt} {tp : Pos} (xs : List (Str × Pos)) (G : GoodS CX S Γ X) (h : tgIs S.N S.sc is (xs.map (·.1)) = true) (hs : noSet iter = true) (hi : PI X (.Tuple (xs.map fun y => .Name y.1 y.2) kt tp) iter (rdI Γ k its)) (ha : PSs X as (rdSs Γ t)) :
    PS X (.For (.Tuple (xs.map fun y => .Name y.1 y.2) kt tp) iter as [] q) (rdS Γ (.forT is k its t)) := by
  obtain ⟨i1, i2, i3⟩ := gNames_ok G is xs h
  show PS X _ (tFor (rdI Γ k its) (gSeq Γ.K is.length (gNames is)) (rdSs Γ t))
  rw [← G.K]
  exact ps_for G.own G.calm hi (pg_seq G.calm i1 i2 i3) ha (set_of hs)
theorem s_never : PS X st (rdS Γ .never) := ps_never
end
end L2

set_option maxRecDepth 100000
set_option maxHeartbeats 4000000
namespace L2
open PySem PySem.Spec PyProof.Rows

/-! ### a def by its reading -/
section
variable {P : Program} {w : World} {K : PySem.W.Frag} {mg : Str → Option Value} {base : Heap}
/-- the def called x keeps the promise sp, k calls deep at the most -/
def FnT (P : Program) (w : World) (K : PySem.W.Frag) (mg : Str → Option Value) (base : Heap) (k : Nat) (x : Str) (sp : Sp) : Prop :=
  ∃ f fd ps, FnOk P w K mg base CX0 k f fd ps sp ∧ mg x = some (.ref f) ∧ PySem.W.keepIn K (.ref f) = true ∧ Binds K fd ps []
theorem FnT.mono {j k : Nat} {x : Str} {sp : Sp} (h : FnT P w K mg base j x sp) (hk : j ≤ k) : FnT P w K mg base k x sp := by
  obtain ⟨f, fd, ps, F, r⟩ := h
  exact ⟨f, fd, ps, F.mono hk, r⟩
def spAt (tab : List (Str × Sp)) (j : Nat) : Sp := match tab[j]? with
  | some p => p.2
  | none => fun _ _ _ _ => False
def gvAt (tab : List (Str × V)) (j : Nat) : V := match tab[j]? with
  | some p => p.2
  | none => .non
structure GvT (mg : Str → Option Value) (p : Str × V) : Prop where
  ex : ∃ u, mg p.1 = some u ∧ RelV p.2 u
def mtAt (tab : List (Str × Addr × Sp)) (j : Nat) : Addr × Sp := match tab[j]? with
  | some p => p.2
  | none => (0, fun _ _ _ _ => False)
abbrev rcx (K : PySem.W.Frag) (tab : List (Str × Sp)) (gt : List (Str × V)) (dk : List (Addr × List (Key × V)) := []) (mt kt : List (Str × Addr × Sp) := []) : RCx :=
  { K := K, fs := spAt tab, gv := gvAt gt, E := E0, sd := fun p kvs => (p, kvs) ∈ dk, ms := mtAt mt, kt := mtAt kt }
/-- a method; a class that is made -/
def MtT (P : Program) (w : World) (K : PySem.W.Frag) (mg : Str → Option Value) (base : Heap) (k : Nat) (p : Str × Addr × Sp) : Prop :=
  Cls K p.2.1 ∧ ∃ f fd ps, Meth K p.2.1 p.1 f ∧ FnOk P w K mg base CX0 k f fd ps p.2.2 ∧ Binds K fd ps []
def MkT (P : Program) (w : World) (K : PySem.W.Frag) (mg : Str → Option Value) (base : Heap) (k : Nat) (p : Str × Addr × Sp) : Prop :=
  ∃ j f fd ps, j + 1 ≤ k ∧ Mk K p.2.1 f ∧ FnOk P w K mg base CX0 j f fd ps p.2.2 ∧ mg p.1 = some (.ref p.2.1) ∧ Binds K fd ps []
theorem MtT.mono {j k : Nat} {p : Str × Addr × Sp} (h : MtT P w K mg base j p) (hk : j ≤ k) : MtT P w K mg base k p := by
  obtain ⟨c, f, fd, ps, m, F, b⟩ := h
  exact ⟨c, f, fd, ps, m, F.mono hk, b⟩
theorem MkT.mono {j k : Nat} {p : Str × Addr × Sp} (h : MkT P w K mg base j p) (hk : j ≤ k) : MkT P w K mg base k p := by
  obtain ⟨i, f, fd, ps, m, r⟩ := h
  exact ⟨i, f, fd, ps, Nat.le_trans m hk, r⟩
/-- a dict of the module's -/
def DkT (P : Program) (w : World) (K : PySem.W.Frag) (q : Addr × List (Key × V)) : Prop := ∀ h : Heap, K.In h → ∃ vs, KV q.2 vs ∧ h.DictOf (mixKind P w) q.1 vs
abbrev scx (N : List Str) (sc : Scope) (tab : List Str) (gt : List Str) (bl : List Str) (mn kn : List Str := []) : SCx := { N := N, sc := sc, fn := tab, gn := gt, bl := bl, mn := mn, kn := kn }

theorem def_fnM {x qual : Str} {st : Stmt} {f : Addr} {fd : FuncData} {N ps : List Str} {k : Nat} {sp : Sp} (F : Fun K x qual st f fd) (S : FnScope N ps (defScope st))
    (tab : List (Str × Sp)) (gt : List (Str × V)) (bl : List Str) (mt kt : List (Str × Addr × Sp)) (body : List RS)
    (hm : ∀ {CX : CXT} {Γ : RCx} {X : Cx}, GoodS CX (scx N (defScope st) (tab.map (·.1)) (gt.map (·.1)) bl (mt.map (·.1)) (kt.map (·.1))) Γ X → PSs X (defBody st) (rdSs Γ body))
    (hfs : ∀ p ∈ tab, FnT P w K mg base k p.1 p.2) (hgs : ∀ p ∈ gt, GvT mg p) (hbl : ∀ y ∈ bl, mg y = none) (dk : List (Addr × List (Key × V))) (hdk : ∀ q ∈ dk, DkT P w K q)
    (hmt : ∀ p ∈ mt, MtT P w K mg base k p) (hkt : ∀ p ∈ kt, MkT P w K mg base k p)
    (len : ∀ vs H Q E, sp vs H Q E → vs.length = ps.length)
    (hread : ∀ vs H Q E, sp vs H Q E → rdSs (rcx K tab gt dk mt kt) body { nx := fun _ H' => Q .non H', rt := Q } (start N vs) H) : FnOk P w K mg base CX0 (k + 1) f fd ps sp := by
  refine F.ok S len fun cdv A outer s H vs Q E hr hsp => ⟨_, hm (CX := CX0) (Γ := rcx K tab gt dk mt kt) ?_, hread vs H Q E hsp⟩
  refine { N := rfl, sc := rfl, K := rfl, calm := rfl, units := hr.units, fns := fun j y hj => ?_, gvs := fun j y hj => ?_, bls := fun y hy => ?_, pass := pass0, noE := fun _ _ _ _ _ h => h, sds := fun p kvs h => hdk _ h, mts := fun j y hj => ?_, mks := fun j y hj => ?_, nd := S.nd, fnt := fun _ => rfl, own := PassesOwn.never, fun' := S.kind }
  · have hj' : (tab.map (·.1))[j]? = some y := hj
    rw [List.getElem?_map] at hj'
    cases q : tab[j]? with
    | none => rw [q] at hj'; cases hj'
    | some p =>
      rw [q] at hj'
      have e : p.1 = y := Option.some.inj hj'
      obtain ⟨f', fd', ps', F', m', k', b'⟩ := hfs p (List.mem_of_getElem? q)
      have es : spAt tab j = p.2 := by unfold spAt; rw [q]
      show FnFor CX0 _ y (spAt tab j)
      rw [es, ← e]
      exact ⟨k, f', fd', ps', F', hr, m', k', b'⟩
  · have hj' : (gt.map (·.1))[j]? = some y := hj
    rw [List.getElem?_map] at hj'
    cases q : gt[j]? with
    | none => rw [q] at hj'; cases hj'
    | some p =>
      rw [q] at hj'
      have e : p.1 = y := Option.some.inj hj'
      obtain ⟨u, h1, h2⟩ := (hgs p (List.mem_of_getElem? q)).ex
      have es : gvAt gt j = p.2 := by unfold gvAt; rw [q]
      show ∃ u, mg y = some u ∧ RelV (gvAt gt j) u
      rw [es, ← e]
      exact ⟨u, h1, h2⟩
  · exact hbl y (by simpa using hy)
  · have hj' : (mt.map (·.1))[j]? = some y := hj
    rw [List.getElem?_map] at hj'
    cases q : mt[j]? with
    | none => rw [q] at hj'; cases hj'
    | some p =>
      rw [q] at hj'
      have e : p.1 = y := Option.some.inj hj'
      obtain ⟨c, f', fd', ps', m', F', b'⟩ := hmt p (List.mem_of_getElem? q)
      have es : mtAt mt j = p.2 := by unfold mtAt; rw [q]
      show MtFor CX0 _ (mtAt mt j).1 y (mtAt mt j).2
      rw [es, ← e]
      exact ⟨c, k, f', fd', ps', m', F', hr, b'⟩
  · have hj' : (kt.map (·.1))[j]? = some y := hj
    rw [List.getElem?_map] at hj'
    cases q : kt[j]? with
    | none => rw [q] at hj'; cases hj'
    | some p =>
      rw [q] at hj'
      have e : p.1 = y := Option.some.inj hj'
      obtain ⟨i, f', fd', ps', hi, m', F', g', b'⟩ := hkt p (List.mem_of_getElem? q)
      have es : mtAt kt j = p.2 := by unfold mtAt; rw [q]
      show MkFor CX0 _ y (mtAt kt j).1 (mtAt kt j).2
      rw [es, ← e]
      exact ⟨i, f', fd', ps', m', F', hr.mono hi, g', b'⟩
section
variable {x qual : Str} {st : Stmt} {f C : Addr} {fd : FuncData} {N ps : List Str} {k : Nat} {sp : Sp}
theorem def_okM (F : Fun K x qual st f fd) (S : FnScope N ps (defScope st)) (hmg : mg x = some (.ref f)) (hb : Binds K fd ps [])
    (tab : List (Str × Sp)) (gt : List (Str × V)) (bl : List Str) (mt kt : List (Str × Addr × Sp)) (body : List RS)
    (hm : ∀ {CX : CXT} {Γ : RCx} {X : Cx}, GoodS CX (scx N (defScope st) (tab.map (·.1)) (gt.map (·.1)) bl (mt.map (·.1)) (kt.map (·.1))) Γ X → PSs X (defBody st) (rdSs Γ body))
    (hfs : ∀ p ∈ tab, FnT P w K mg base k p.1 p.2) (hgs : ∀ p ∈ gt, GvT mg p) (hbl : ∀ y ∈ bl, mg y = none) (dk : List (Addr × List (Key × V))) (hdk : ∀ q ∈ dk, DkT P w K q)
    (hmt : ∀ p ∈ mt, MtT P w K mg base k p) (hkt : ∀ p ∈ kt, MkT P w K mg base k p) (len : ∀ vs H Q E, sp vs H Q E → vs.length = ps.length)
    (hread : ∀ vs H Q E, sp vs H Q E → rdSs (rcx K tab gt dk mt kt) body { nx := fun _ H' => Q .non H', rt := Q } (start N vs) H) : FnT P w K mg base (k + 1) x sp :=
  ⟨f, fd, ps, def_fnM F S tab gt bl mt kt body hm hfs hgs hbl dk hdk hmt hkt len hread, hmg, F.kp, hb⟩
theorem def_mt (F : Fun K x qual st f fd) (S : FnScope N ps (defScope st)) (c : Cls K C) (M : Meth K C x f) (hb : Binds K fd ps [])
    (tab : List (Str × Sp)) (gt : List (Str × V)) (bl : List Str) (mt kt : List (Str × Addr × Sp)) (body : List RS)
    (hm : ∀ {CX : CXT} {Γ : RCx} {X : Cx}, GoodS CX (scx N (defScope st) (tab.map (·.1)) (gt.map (·.1)) bl (mt.map (·.1)) (kt.map (·.1))) Γ X → PSs X (defBody st) (rdSs Γ body))
    (hfs : ∀ p ∈ tab, FnT P w K mg base k p.1 p.2) (hgs : ∀ p ∈ gt, GvT mg p) (hbl : ∀ y ∈ bl, mg y = none) (dk : List (Addr × List (Key × V))) (hdk : ∀ q ∈ dk, DkT P w K q)
    (hmt : ∀ p ∈ mt, MtT P w K mg base k p) (hkt : ∀ p ∈ kt, MkT P w K mg base k p) (len : ∀ vs H Q E, sp vs H Q E → vs.length = ps.length)
    (hread : ∀ vs H Q E, sp vs H Q E → rdSs (rcx K tab gt dk mt kt) body { nx := fun _ H' => Q .non H', rt := Q } (start N vs) H) : MtT P w K mg base (k + 1) (x, C, sp) :=
  ⟨c, f, fd, ps, M, def_fnM F S tab gt bl mt kt body hm hfs hgs hbl dk hdk hmt hkt len hread, hb⟩
theorem def_mk {cn : Str} (F : Fun K x qual st f fd) (S : FnScope N ps (defScope st)) (M : Mk K C f) (hC : mg cn = some (.ref C)) (hb : Binds K fd ps [])
    (tab : List (Str × Sp)) (gt : List (Str × V)) (bl : List Str) (mt kt : List (Str × Addr × Sp)) (body : List RS)
    (hm : ∀ {CX : CXT} {Γ : RCx} {X : Cx}, GoodS CX (scx N (defScope st) (tab.map (·.1)) (gt.map (·.1)) bl (mt.map (·.1)) (kt.map (·.1))) Γ X → PSs X (defBody st) (rdSs Γ body))
    (hfs : ∀ p ∈ tab, FnT P w K mg base k p.1 p.2) (hgs : ∀ p ∈ gt, GvT mg p) (hbl : ∀ y ∈ bl, mg y = none) (dk : List (Addr × List (Key × V))) (hdk : ∀ q ∈ dk, DkT P w K q)
    (hmt : ∀ p ∈ mt, MtT P w K mg base k p) (hkt : ∀ p ∈ kt, MkT P w K mg base k p) (len : ∀ vs H Q E, sp vs H Q E → vs.length = ps.length)
    (hread : ∀ vs H Q E, sp vs H Q E → rdSs (rcx K tab gt dk mt kt) body { nx := fun _ H' => Q .non H', rt := Q } (start N vs) H) : MkT P w K mg base (k + 2) (cn, C, sp) :=
  ⟨k + 1, f, fd, ps, Nat.le_refl _, M, def_fnM F S tab gt bl mt kt body hm hfs hgs hbl dk hdk hmt hkt len hread, hC, hb⟩
end
/-- a promise that nobody asks -/
theorem fn_never {x qual : Str} {st : Stmt} {f : Addr} {fd : FuncData} {N ps : List Str} {k : Nat} {sp : Sp} (F : Fun K x qual st f fd) (S : FnScope N ps (defScope st)) (hmg : mg x = some (.ref f)) (hb : Binds K fd ps [])
    (no : ∀ vs H Q E, ¬ sp vs H Q E) : FnT P w K mg base (k + 1) x sp :=
  ⟨f, fd, ps, F.ok S (fun vs H Q E h => (no vs H Q E h).elim) (fun cdv A outer s H vs Q E hr h => (no vs H Q E h).elim), hmg, F.kp, hb⟩
end

/-! ### steps of a reading -/
section
variable {Γ : RCx} {D : Ends} {σ : St} {H : Hp} {r : List RS} {Q : VK}
end
end L2

set_option maxRecDepth 100000
set_option maxHeartbeats 4000000
namespace L2
open PySem PySem.Spec PyProof.Rows
theorem am_nil {α : Type _} {p : α → Prop} : ∀ x ∈ ([] : List α), p x := fun _ h => nomatch h
theorem am_cons {α : Type _} {p : α → Prop} {a : α} {l : List α} (h : p a) (t : ∀ x ∈ l, p x) : ∀ x ∈ a :: l, p x := List.forall_mem_cons.2 ⟨h, t⟩
section
variable {P : Program} {w : World} {K : PySem.W.Frag}
end
end L2

set_option maxRecDepth 100000
set_option maxHeartbeats 4000000
namespace L2.K14
open PySem PySem.Spec PyProof.Rows

def stAt (i : Nat) : Stmt := (PySem.Challenge.pw_inkloom_k14_nodes_parted.main.body).getD i (.Pass ⟨0, 0, 0, 0⟩)
structure Tx_Stock (K : PySem.W.Frag) (C : Addr) : Prop where
  cl : Cls K C
  n_texts : NoAttr K C "texts"
  n_begins : NoAttr K C "begins"
  n_feeds : NoAttr K C "feeds"
  n_signs : NoAttr K C "signs"

/-! ### height_of -/
def s_height_of : Stmt := stAt 2
def N_height_of : List Str := ["node"]
def P_height_of : List Str := ["node"]
def b_height_of : List RS :=
  [.ret (.ife (.cmp .Is (.v 0) (.c .non)) (.c (.int 0)) (.ix (.v 0) (.c (.int 3))))]
theorem sc_height_of : FnScope N_height_of P_height_of (defScope s_height_of) := ⟨by kernel_rfl, by kernel_rfl, by kernel_rfl, by decide +kernel, by kernel_rfl, by decide +kernel, by decide +kernel⟩
def f_height_of : List Str := []
def g_height_of : List Str := []
def l_height_of : List Str := []
def mn_height_of : List Str := []
def kn_height_of : List Str := []
theorem m_height_of {CX : CXT} {Γ : RCx} {X : Cx} (G : GoodS CX (scx N_height_of (defScope s_height_of) f_height_of g_height_of l_height_of mn_height_of kn_height_of) Γ X) : PSs X (defBody s_height_of) (rdSs Γ b_height_of) := by
  have g := G.toGood
  exact (s_cons (s_ret (d_ife (t_cmp g (by kernel_rfl) (d_v g (by kernel_rfl)) d_cn) d_ci (d_ix g (by kernel_rfl) (d_v g (by kernel_rfl)) d_ci))) s_nil)

/-! ### size_of -/
def s_size_of : Stmt := stAt 3
def N_size_of : List Str := ["node"]
def P_size_of : List Str := ["node"]
def b_size_of : List RS :=
  [.ret (.ife (.cmp .Is (.v 0) (.c .non)) (.c (.int 0)) (.ix (.v 0) (.c (.int 4))))]
theorem sc_size_of : FnScope N_size_of P_size_of (defScope s_size_of) := ⟨by kernel_rfl, by kernel_rfl, by kernel_rfl, by decide +kernel, by kernel_rfl, by decide +kernel, by decide +kernel⟩
def f_size_of : List Str := []
def g_size_of : List Str := []
def l_size_of : List Str := []
def mn_size_of : List Str := []
def kn_size_of : List Str := []
theorem m_size_of {CX : CXT} {Γ : RCx} {X : Cx} (G : GoodS CX (scx N_size_of (defScope s_size_of) f_size_of g_size_of l_size_of mn_size_of kn_size_of) Γ X) : PSs X (defBody s_size_of) (rdSs Γ b_size_of) := by
  have g := G.toGood
  exact (s_cons (s_ret (d_ife (t_cmp g (by kernel_rfl) (d_v g (by kernel_rfl)) d_cn) d_ci (d_ix g (by kernel_rfl) (d_v g (by kernel_rfl)) d_ci))) s_nil)

/-! ### ends_of -/
def s_ends_of : Stmt := stAt 4
def N_ends_of : List Str := ["node"]
def P_ends_of : List Str := ["node"]
def b_ends_of : List RS :=
  [.ret (.ife (.cmp .Is (.v 0) (.c .non)) (.c (.int 0)) (.ix (.v 0) (.c (.int 5))))]
theorem sc_ends_of : FnScope N_ends_of P_ends_of (defScope s_ends_of) := ⟨by kernel_rfl, by kernel_rfl, by kernel_rfl, by decide +kernel, by kernel_rfl, by decide +kernel, by decide +kernel⟩
def f_ends_of : List Str := []
def g_ends_of : List Str := []
def l_ends_of : List Str := []
def mn_ends_of : List Str := []
def kn_ends_of : List Str := []
theorem m_ends_of {CX : CXT} {Γ : RCx} {X : Cx} (G : GoodS CX (scx N_ends_of (defScope s_ends_of) f_ends_of g_ends_of l_ends_of mn_ends_of kn_ends_of) Γ X) : PSs X (defBody s_ends_of) (rdSs Γ b_ends_of) := by
  have g := G.toGood
  exact (s_cons (s_ret (d_ife (t_cmp g (by kernel_rfl) (d_v g (by kernel_rfl)) d_cn) d_ci (d_ix g (by kernel_rfl) (d_v g (by kernel_rfl)) d_ci))) s_nil)

/-! ### made -/
def s_made : Stmt := stAt 5
def N_made : List Str := ["left", "piece", "right", "height", "size"]
def P_made : List Str := ["left", "piece", "right"]
def b_made : List RS :=
  [.asg 3 (.bin .Add (.c (.int 1)) (.blt .max [(.call 0 [(.v 0)]), (.call 0 [(.v 2)])])),
  .asg 4 (.bin .Add (.bin .Add (.call 1 [(.v 0)]) (.ix (.v 1) (.c (.int 1)))) (.call 1 [(.v 2)])),
  .ret (.tup [(.v 0), (.v 1), (.v 2), (.v 3), (.v 4), (.bin .Add (.bin .Add (.call 2 [(.v 0)]) (.ix (.v 1) (.c (.int 2)))) (.call 2 [(.v 2)]))])]
theorem sc_made : FnScope N_made P_made (defScope s_made) := ⟨by kernel_rfl, by kernel_rfl, by kernel_rfl, by decide +kernel, by kernel_rfl, by decide +kernel, by decide +kernel⟩
def f_made : List Str := ["height_of", "size_of", "ends_of"]
def g_made : List Str := []
def l_made : List Str := ["max"]
def mn_made : List Str := []
def kn_made : List Str := []
theorem m_made {CX : CXT} {Γ : RCx} {X : Cx} (G : GoodS CX (scx N_made (defScope s_made) f_made g_made l_made mn_made kn_made) Γ X) : PSs X (defBody s_made) (rdSs Γ b_made) := by
  have g := G.toGood
  exact (s_cons (s_asg G (by kernel_rfl) (by kernel_rfl) (d_bin g d_ci (d_blt g (by kernel_rfl) (by kernel_rfl) (d_cons (by kernel_rfl) (d_call g (by kernel_rfl) (by kernel_rfl) (d_cons (by kernel_rfl) (d_v g (by kernel_rfl)) d_nil)) (d_cons (by kernel_rfl) (d_call g (by kernel_rfl) (by kernel_rfl) (d_cons (by kernel_rfl) (d_v g (by kernel_rfl)) d_nil)) d_nil))))) (s_cons (s_asg G (by kernel_rfl) (by kernel_rfl) (d_bin g (d_bin g (d_call g (by kernel_rfl) (by kernel_rfl) (d_cons (by kernel_rfl) (d_v g (by kernel_rfl)) d_nil)) (d_ix g (by kernel_rfl) (d_v g (by kernel_rfl)) d_ci)) (d_call g (by kernel_rfl) (by kernel_rfl) (d_cons (by kernel_rfl) (d_v g (by kernel_rfl)) d_nil)))) (s_cons (s_ret (d_tup (d_cons (by kernel_rfl) (d_v g (by kernel_rfl)) (d_cons (by kernel_rfl) (d_v g (by kernel_rfl)) (d_cons (by kernel_rfl) (d_v g (by kernel_rfl)) (d_cons (by kernel_rfl) (d_v g (by kernel_rfl)) (d_cons (by kernel_rfl) (d_v g (by kernel_rfl)) (d_cons (by kernel_rfl) (d_bin g (d_bin g (d_call g (by kernel_rfl) (by kernel_rfl) (d_cons (by kernel_rfl) (d_v g (by kernel_rfl)) d_nil)) (d_ix g (by kernel_rfl) (d_v g (by kernel_rfl)) d_ci)) (d_call g (by kernel_rfl) (by kernel_rfl) (d_cons (by kernel_rfl) (d_v g (by kernel_rfl)) d_nil))) d_nil)))))))) s_nil)))

/-! ### turned_right -/
def s_turned_right : Stmt := stAt 6
def N_turned_right : List Str := ["left", "piece", "right", "inner"]
def P_turned_right : List Str := ["left", "piece", "right"]
def b_turned_right : List RS :=
  [.asg 3 (.ix (.v 0) (.c (.int 2))),
  .ite (.cmp .GtE (.call 0 [(.ix (.v 0) (.c (.int 0)))]) (.call 0 [(.v 3)])) [.ret (.call 1 [(.ix (.v 0) (.c (.int 0))), (.ix (.v 0) (.c (.int 1))), (.call 1 [(.v 3), (.v 1), (.v 2)])])] [],
  .ret (.call 1 [(.call 1 [(.ix (.v 0) (.c (.int 0))), (.ix (.v 0) (.c (.int 1))), (.ix (.v 3) (.c (.int 0)))]), (.ix (.v 3) (.c (.int 1))), (.call 1 [(.ix (.v 3) (.c (.int 2))), (.v 1), (.v 2)])])]
theorem sc_turned_right : FnScope N_turned_right P_turned_right (defScope s_turned_right) := ⟨by kernel_rfl, by kernel_rfl, by kernel_rfl, by decide +kernel, by kernel_rfl, by decide +kernel, by decide +kernel⟩
def f_turned_right : List Str := ["height_of", "made"]
def g_turned_right : List Str := []
def l_turned_right : List Str := []
def mn_turned_right : List Str := []
def kn_turned_right : List Str := []
theorem m_turned_right {CX : CXT} {Γ : RCx} {X : Cx} (G : GoodS CX (scx N_turned_right (defScope s_turned_right) f_turned_right g_turned_right l_turned_right mn_turned_right kn_turned_right) Γ X) : PSs X (defBody s_turned_right) (rdSs Γ b_turned_right) := by
  have g := G.toGood
  exact (s_cons (s_asg G (by kernel_rfl) (by kernel_rfl) (d_ix g (by kernel_rfl) (d_v g (by kernel_rfl)) d_ci)) (s_cons (s_ite (t_cmp g (by kernel_rfl) (d_call g (by kernel_rfl) (by kernel_rfl) (d_cons (by kernel_rfl) (d_ix g (by kernel_rfl) (d_v g (by kernel_rfl)) d_ci) d_nil)) (d_call g (by kernel_rfl) (by kernel_rfl) (d_cons (by kernel_rfl) (d_v g (by kernel_rfl)) d_nil))) (s_cons (s_ret (d_call g (by kernel_rfl) (by kernel_rfl) (d_cons (by kernel_rfl) (d_ix g (by kernel_rfl) (d_v g (by kernel_rfl)) d_ci) (d_cons (by kernel_rfl) (d_ix g (by kernel_rfl) (d_v g (by kernel_rfl)) d_ci) (d_cons (by kernel_rfl) (d_call g (by kernel_rfl) (by kernel_rfl) (d_cons (by kernel_rfl) (d_v g (by kernel_rfl)) (d_cons (by kernel_rfl) (d_v g (by kernel_rfl)) (d_cons (by kernel_rfl) (d_v g (by kernel_rfl)) d_nil)))) d_nil))))) s_nil) s_nil) (s_cons (s_ret (d_call g (by kernel_rfl) (by kernel_rfl) (d_cons (by kernel_rfl) (d_call g (by kernel_rfl) (by kernel_rfl) (d_cons (by kernel_rfl) (d_ix g (by kernel_rfl) (d_v g (by kernel_rfl)) d_ci) (d_cons (by kernel_rfl) (d_ix g (by kernel_rfl) (d_v g (by kernel_rfl)) d_ci) (d_cons (by kernel_rfl) (d_ix g (by kernel_rfl) (d_v g (by kernel_rfl)) d_ci) d_nil)))) (d_cons (by kernel_rfl) (d_ix g (by kernel_rfl) (d_v g (by kernel_rfl)) d_ci) (d_cons (by kernel_rfl) (d_call g (by kernel_rfl) (by kernel_rfl) (d_cons (by kernel_rfl) (d_ix g (by kernel_rfl) (d_v g (by kernel_rfl)) d_ci) (d_cons (by kernel_rfl) (d_v g (by kernel_rfl)) (d_cons (by kernel_rfl) (d_v g (by kernel_rfl)) d_nil)))) d_nil))))) s_nil)))

/-! ### turned_left -/
def s_turned_left : Stmt := stAt 7
def N_turned_left : List Str := ["left", "piece", "right", "inner"]
def P_turned_left : List Str := ["left", "piece", "right"]
def b_turned_left : List RS :=
  [.asg 3 (.ix (.v 2) (.c (.int 0))),
  .ite (.cmp .GtE (.call 0 [(.ix (.v 2) (.c (.int 2)))]) (.call 0 [(.v 3)])) [.ret (.call 1 [(.call 1 [(.v 0), (.v 1), (.v 3)]), (.ix (.v 2) (.c (.int 1))), (.ix (.v 2) (.c (.int 2)))])] [],
  .ret (.call 1 [(.call 1 [(.v 0), (.v 1), (.ix (.v 3) (.c (.int 0)))]), (.ix (.v 3) (.c (.int 1))), (.call 1 [(.ix (.v 3) (.c (.int 2))), (.ix (.v 2) (.c (.int 1))), (.ix (.v 2) (.c (.int 2)))])])]
theorem sc_turned_left : FnScope N_turned_left P_turned_left (defScope s_turned_left) := ⟨by kernel_rfl, by kernel_rfl, by kernel_rfl, by decide +kernel, by kernel_rfl, by decide +kernel, by decide +kernel⟩
def f_turned_left : List Str := ["height_of", "made"]
def g_turned_left : List Str := []
def l_turned_left : List Str := []
def mn_turned_left : List Str := []
def kn_turned_left : List Str := []
theorem m_turned_left {CX : CXT} {Γ : RCx} {X : Cx} (G : GoodS CX (scx N_turned_left (defScope s_turned_left) f_turned_left g_turned_left l_turned_left mn_turned_left kn_turned_left) Γ X) : PSs X (defBody s_turned_left) (rdSs Γ b_turned_left) := by
  have g := G.toGood
  exact (s_cons (s_asg G (by kernel_rfl) (by kernel_rfl) (d_ix g (by kernel_rfl) (d_v g (by kernel_rfl)) d_ci)) (s_cons (s_ite (t_cmp g (by kernel_rfl) (d_call g (by kernel_rfl) (by kernel_rfl) (d_cons (by kernel_rfl) (d_ix g (by kernel_rfl) (d_v g (by kernel_rfl)) d_ci) d_nil)) (d_call g (by kernel_rfl) (by kernel_rfl) (d_cons (by kernel_rfl) (d_v g (by kernel_rfl)) d_nil))) (s_cons (s_ret (d_call g (by kernel_rfl) (by kernel_rfl) (d_cons (by kernel_rfl) (d_call g (by kernel_rfl) (by kernel_rfl) (d_cons (by kernel_rfl) (d_v g (by kernel_rfl)) (d_cons (by kernel_rfl) (d_v g (by kernel_rfl)) (d_cons (by kernel_rfl) (d_v g (by kernel_rfl)) d_nil)))) (d_cons (by kernel_rfl) (d_ix g (by kernel_rfl) (d_v g (by kernel_rfl)) d_ci) (d_cons (by kernel_rfl) (d_ix g (by kernel_rfl) (d_v g (by kernel_rfl)) d_ci) d_nil))))) s_nil) s_nil) (s_cons (s_ret (d_call g (by kernel_rfl) (by kernel_rfl) (d_cons (by kernel_rfl) (d_call g (by kernel_rfl) (by kernel_rfl) (d_cons (by kernel_rfl) (d_v g (by kernel_rfl)) (d_cons (by kernel_rfl) (d_v g (by kernel_rfl)) (d_cons (by kernel_rfl) (d_ix g (by kernel_rfl) (d_v g (by kernel_rfl)) d_ci) d_nil)))) (d_cons (by kernel_rfl) (d_ix g (by kernel_rfl) (d_v g (by kernel_rfl)) d_ci) (d_cons (by kernel_rfl) (d_call g (by kernel_rfl) (by kernel_rfl) (d_cons (by kernel_rfl) (d_ix g (by kernel_rfl) (d_v g (by kernel_rfl)) d_ci) (d_cons (by kernel_rfl) (d_ix g (by kernel_rfl) (d_v g (by kernel_rfl)) d_ci) (d_cons (by kernel_rfl) (d_ix g (by kernel_rfl) (d_v g (by kernel_rfl)) d_ci) d_nil)))) d_nil))))) s_nil)))

/-! ### leveled -/
def s_leveled : Stmt := stAt 8
def N_leveled : List Str := ["left", "piece", "right"]
def P_leveled : List Str := ["left", "piece", "right"]
def b_leveled : List RS :=
  [.ite (.cmp .Gt (.call 0 [(.v 0)]) (.bin .Add (.call 0 [(.v 2)]) (.c (.int 1)))) [.ret (.call 1 [(.v 0), (.v 1), (.v 2)])] [],
  .ite (.cmp .Gt (.call 0 [(.v 2)]) (.bin .Add (.call 0 [(.v 0)]) (.c (.int 1)))) [.ret (.call 2 [(.v 0), (.v 1), (.v 2)])] [],
  .ret (.call 3 [(.v 0), (.v 1), (.v 2)])]
theorem sc_leveled : FnScope N_leveled P_leveled (defScope s_leveled) := ⟨by kernel_rfl, by kernel_rfl, by kernel_rfl, by decide +kernel, by kernel_rfl, by decide +kernel, by decide +kernel⟩
def f_leveled : List Str := ["height_of", "turned_right", "turned_left", "made"]
def g_leveled : List Str := []
def l_leveled : List Str := []
def mn_leveled : List Str := []
def kn_leveled : List Str := []
theorem m_leveled {CX : CXT} {Γ : RCx} {X : Cx} (G : GoodS CX (scx N_leveled (defScope s_leveled) f_leveled g_leveled l_leveled mn_leveled kn_leveled) Γ X) : PSs X (defBody s_leveled) (rdSs Γ b_leveled) := by
  have g := G.toGood
  exact (s_cons (s_ite (t_cmp g (by kernel_rfl) (d_call g (by kernel_rfl) (by kernel_rfl) (d_cons (by kernel_rfl) (d_v g (by kernel_rfl)) d_nil)) (d_bin g (d_call g (by kernel_rfl) (by kernel_rfl) (d_cons (by kernel_rfl) (d_v g (by kernel_rfl)) d_nil)) d_ci)) (s_cons (s_ret (d_call g (by kernel_rfl) (by kernel_rfl) (d_cons (by kernel_rfl) (d_v g (by kernel_rfl)) (d_cons (by kernel_rfl) (d_v g (by kernel_rfl)) (d_cons (by kernel_rfl) (d_v g (by kernel_rfl)) d_nil))))) s_nil) s_nil) (s_cons (s_ite (t_cmp g (by kernel_rfl) (d_call g (by kernel_rfl) (by kernel_rfl) (d_cons (by kernel_rfl) (d_v g (by kernel_rfl)) d_nil)) (d_bin g (d_call g (by kernel_rfl) (by kernel_rfl) (d_cons (by kernel_rfl) (d_v g (by kernel_rfl)) d_nil)) d_ci)) (s_cons (s_ret (d_call g (by kernel_rfl) (by kernel_rfl) (d_cons (by kernel_rfl) (d_v g (by kernel_rfl)) (d_cons (by kernel_rfl) (d_v g (by kernel_rfl)) (d_cons (by kernel_rfl) (d_v g (by kernel_rfl)) d_nil))))) s_nil) s_nil) (s_cons (s_ret (d_call g (by kernel_rfl) (by kernel_rfl) (d_cons (by kernel_rfl) (d_v g (by kernel_rfl)) (d_cons (by kernel_rfl) (d_v g (by kernel_rfl)) (d_cons (by kernel_rfl) (d_v g (by kernel_rfl)) d_nil))))) s_nil)))

/-! ### joined -/
def s_joined : Stmt := stAt 9
def N_joined : List Str := ["left", "piece", "right"]
def P_joined : List Str := ["left", "piece", "right"]
def b_joined : List RS :=
  [.ite (.cmp .Gt (.call 0 [(.v 0)]) (.bin .Add (.call 0 [(.v 2)]) (.c (.int 1)))) [.ret (.call 1 [(.ix (.v 0) (.c (.int 0))), (.ix (.v 0) (.c (.int 1))), (.call 2 [(.ix (.v 0) (.c (.int 2))), (.v 1), (.v 2)])])] [],
  .ite (.cmp .Gt (.call 0 [(.v 2)]) (.bin .Add (.call 0 [(.v 0)]) (.c (.int 1)))) [.ret (.call 1 [(.call 2 [(.v 0), (.v 1), (.ix (.v 2) (.c (.int 0)))]), (.ix (.v 2) (.c (.int 1))), (.ix (.v 2) (.c (.int 2)))])] [],
  .ret (.call 3 [(.v 0), (.v 1), (.v 2)])]
theorem sc_joined : FnScope N_joined P_joined (defScope s_joined) := ⟨by kernel_rfl, by kernel_rfl, by kernel_rfl, by decide +kernel, by kernel_rfl, by decide +kernel, by decide +kernel⟩
def f_joined : List Str := ["height_of", "leveled", "joined", "made"]
def g_joined : List Str := []
def l_joined : List Str := []
def mn_joined : List Str := []
def kn_joined : List Str := []
theorem m_joined {CX : CXT} {Γ : RCx} {X : Cx} (G : GoodS CX (scx N_joined (defScope s_joined) f_joined g_joined l_joined mn_joined kn_joined) Γ X) : PSs X (defBody s_joined) (rdSs Γ b_joined) := by
  have g := G.toGood
  exact (s_cons (s_ite (t_cmp g (by kernel_rfl) (d_call g (by kernel_rfl) (by kernel_rfl) (d_cons (by kernel_rfl) (d_v g (by kernel_rfl)) d_nil)) (d_bin g (d_call g (by kernel_rfl) (by kernel_rfl) (d_cons (by kernel_rfl) (d_v g (by kernel_rfl)) d_nil)) d_ci)) (s_cons (s_ret (d_call g (by kernel_rfl) (by kernel_rfl) (d_cons (by kernel_rfl) (d_ix g (by kernel_rfl) (d_v g (by kernel_rfl)) d_ci) (d_cons (by kernel_rfl) (d_ix g (by kernel_rfl) (d_v g (by kernel_rfl)) d_ci) (d_cons (by kernel_rfl) (d_call g (by kernel_rfl) (by kernel_rfl) (d_cons (by kernel_rfl) (d_ix g (by kernel_rfl) (d_v g (by kernel_rfl)) d_ci) (d_cons (by kernel_rfl) (d_v g (by kernel_rfl)) (d_cons (by kernel_rfl) (d_v g (by kernel_rfl)) d_nil)))) d_nil))))) s_nil) s_nil) (s_cons (s_ite (t_cmp g (by kernel_rfl) (d_call g (by kernel_rfl) (by kernel_rfl) (d_cons (by kernel_rfl) (d_v g (by kernel_rfl)) d_nil)) (d_bin g (d_call g (by kernel_rfl) (by kernel_rfl) (d_cons (by kernel_rfl) (d_v g (by kernel_rfl)) d_nil)) d_ci)) (s_cons (s_ret (d_call g (by kernel_rfl) (by kernel_rfl) (d_cons (by kernel_rfl) (d_call g (by kernel_rfl) (by kernel_rfl) (d_cons (by kernel_rfl) (d_v g (by kernel_rfl)) (d_cons (by kernel_rfl) (d_v g (by kernel_rfl)) (d_cons (by kernel_rfl) (d_ix g (by kernel_rfl) (d_v g (by kernel_rfl)) d_ci) d_nil)))) (d_cons (by kernel_rfl) (d_ix g (by kernel_rfl) (d_v g (by kernel_rfl)) d_ci) (d_cons (by kernel_rfl) (d_ix g (by kernel_rfl) (d_v g (by kernel_rfl)) d_ci) d_nil))))) s_nil) s_nil) (s_cons (s_ret (d_call g (by kernel_rfl) (by kernel_rfl) (d_cons (by kernel_rfl) (d_v g (by kernel_rfl)) (d_cons (by kernel_rfl) (d_v g (by kernel_rfl)) (d_cons (by kernel_rfl) (d_v g (by kernel_rfl)) d_nil))))) s_nil)))

/-! ### last_out -/
def s_last_out : Stmt := stAt 10
def N_last_out : List Str := ["node", "out"]
def P_last_out : List Str := ["node"]
def b_last_out : List RS :=
  [.ite (.cmp .Is (.ix (.v 0) (.c (.int 2))) (.c .non)) [.ret (.tup [(.ix (.v 0) (.c (.int 0))), (.ix (.v 0) (.c (.int 1)))])] [],
  .asg 1 (.call 0 [(.ix (.v 0) (.c (.int 2)))]),
  .ret (.tup [(.call 1 [(.ix (.v 0) (.c (.int 0))), (.ix (.v 0) (.c (.int 1))), (.ix (.v 1) (.c (.int 0)))]), (.ix (.v 1) (.c (.int 1)))])]
theorem sc_last_out : FnScope N_last_out P_last_out (defScope s_last_out) := ⟨by kernel_rfl, by kernel_rfl, by kernel_rfl, by decide +kernel, by kernel_rfl, by decide +kernel, by decide +kernel⟩
def f_last_out : List Str := ["last_out", "joined"]
def g_last_out : List Str := []
def l_last_out : List Str := []
def mn_last_out : List Str := []
def kn_last_out : List Str := []
theorem m_last_out {CX : CXT} {Γ : RCx} {X : Cx} (G : GoodS CX (scx N_last_out (defScope s_last_out) f_last_out g_last_out l_last_out mn_last_out kn_last_out) Γ X) : PSs X (defBody s_last_out) (rdSs Γ b_last_out) := by
  have g := G.toGood
  exact (s_cons (s_ite (t_cmp g (by kernel_rfl) (d_ix g (by kernel_rfl) (d_v g (by kernel_rfl)) d_ci) d_cn) (s_cons (s_ret (d_tup (d_cons (by kernel_rfl) (d_ix g (by kernel_rfl) (d_v g (by kernel_rfl)) d_ci) (d_cons (by kernel_rfl) (d_ix g (by kernel_rfl) (d_v g (by kernel_rfl)) d_ci) d_nil)))) s_nil) s_nil) (s_cons (s_asg G (by kernel_rfl) (by kernel_rfl) (d_call g (by kernel_rfl) (by kernel_rfl) (d_cons (by kernel_rfl) (d_ix g (by kernel_rfl) (d_v g (by kernel_rfl)) d_ci) d_nil))) (s_cons (s_ret (d_tup (d_cons (by kernel_rfl) (d_call g (by kernel_rfl) (by kernel_rfl) (d_cons (by kernel_rfl) (d_ix g (by kernel_rfl) (d_v g (by kernel_rfl)) d_ci) (d_cons (by kernel_rfl) (d_ix g (by kernel_rfl) (d_v g (by kernel_rfl)) d_ci) (d_cons (by kernel_rfl) (d_ix g (by kernel_rfl) (d_v g (by kernel_rfl)) d_ci) d_nil)))) (d_cons (by kernel_rfl) (d_ix g (by kernel_rfl) (d_v g (by kernel_rfl)) d_ci) d_nil)))) s_nil)))

/-! ### met -/
def s_met : Stmt := stAt 11
def N_met : List Str := ["left", "right", "out"]
def P_met : List Str := ["left", "right"]
def b_met : List RS :=
  [.ite (.cmp .Is (.v 0) (.c .non)) [.ret (.v 1)] [],
  .asg 2 (.call 0 [(.v 0)]),
  .ret (.call 1 [(.ix (.v 2) (.c (.int 0))), (.ix (.v 2) (.c (.int 1))), (.v 1)])]
theorem sc_met : FnScope N_met P_met (defScope s_met) := ⟨by kernel_rfl, by kernel_rfl, by kernel_rfl, by decide +kernel, by kernel_rfl, by decide +kernel, by decide +kernel⟩
def f_met : List Str := ["last_out", "joined"]
def g_met : List Str := []
def l_met : List Str := []
def mn_met : List Str := []
def kn_met : List Str := []
theorem m_met {CX : CXT} {Γ : RCx} {X : Cx} (G : GoodS CX (scx N_met (defScope s_met) f_met g_met l_met mn_met kn_met) Γ X) : PSs X (defBody s_met) (rdSs Γ b_met) := by
  have g := G.toGood
  exact (s_cons (s_ite (t_cmp g (by kernel_rfl) (d_v g (by kernel_rfl)) d_cn) (s_cons (s_ret (d_v g (by kernel_rfl))) s_nil) s_nil) (s_cons (s_asg G (by kernel_rfl) (by kernel_rfl) (d_call g (by kernel_rfl) (by kernel_rfl) (d_cons (by kernel_rfl) (d_v g (by kernel_rfl)) d_nil))) (s_cons (s_ret (d_call g (by kernel_rfl) (by kernel_rfl) (d_cons (by kernel_rfl) (d_ix g (by kernel_rfl) (d_v g (by kernel_rfl)) d_ci) (d_cons (by kernel_rfl) (d_ix g (by kernel_rfl) (d_v g (by kernel_rfl)) d_ci) (d_cons (by kernel_rfl) (d_v g (by kernel_rfl)) d_nil))))) s_nil)))

/-! ### cut_in_two -/
def s_cut_in_two : Stmt := stAt 12
def N_cut_in_two : List Str := ["piece", "size", "stock", "middle", "ends"]
def P_cut_in_two : List Str := ["piece", "size", "stock"]
def b_cut_in_two : List RS :=
  [.asg 3 (.bin .Add (.ix (.v 0) (.c (.int 0))) (.v 1)),
  .asg 4 (.bin .Sub (.meth 0 "ends_ahead" (.v 2) [(.v 3)]) (.meth 0 "ends_ahead" (.v 2) [(.ix (.v 0) (.c (.int 0)))])),
  .ret (.tup [(.tup [(.ix (.v 0) (.c (.int 0))), (.v 1), (.v 4)]), (.tup [(.v 3), (.bin .Sub (.ix (.v 0) (.c (.int 1))) (.v 1)), (.bin .Sub (.ix (.v 0) (.c (.int 2))) (.v 4))])])]
theorem sc_cut_in_two : FnScope N_cut_in_two P_cut_in_two (defScope s_cut_in_two) := ⟨by kernel_rfl, by kernel_rfl, by kernel_rfl, by decide +kernel, by kernel_rfl, by decide +kernel, by decide +kernel⟩
def f_cut_in_two : List Str := []
def g_cut_in_two : List Str := []
def l_cut_in_two : List Str := []
def mn_cut_in_two : List Str := ["ends_ahead"]
def kn_cut_in_two : List Str := []
theorem m_cut_in_two {CX : CXT} {Γ : RCx} {X : Cx} (G : GoodS CX (scx N_cut_in_two (defScope s_cut_in_two) f_cut_in_two g_cut_in_two l_cut_in_two mn_cut_in_two kn_cut_in_two) Γ X) : PSs X (defBody s_cut_in_two) (rdSs Γ b_cut_in_two) := by
  have g := G.toGood
  exact (s_cons (s_asg G (by kernel_rfl) (by kernel_rfl) (d_bin g (d_ix g (by kernel_rfl) (d_v g (by kernel_rfl)) d_ci) (d_v g (by kernel_rfl)))) (s_cons (s_asg G (by kernel_rfl) (by kernel_rfl) (d_bin g (d_meth g (by kernel_rfl) (by kernel_rfl) (d_v g (by kernel_rfl)) (d_cons (by kernel_rfl) (d_v g (by kernel_rfl)) d_nil)) (d_meth g (by kernel_rfl) (by kernel_rfl) (d_v g (by kernel_rfl)) (d_cons (by kernel_rfl) (d_ix g (by kernel_rfl) (d_v g (by kernel_rfl)) d_ci) d_nil)))) (s_cons (s_ret (d_tup (d_cons (by kernel_rfl) (d_tup (d_cons (by kernel_rfl) (d_ix g (by kernel_rfl) (d_v g (by kernel_rfl)) d_ci) (d_cons (by kernel_rfl) (d_v g (by kernel_rfl)) (d_cons (by kernel_rfl) (d_v g (by kernel_rfl)) d_nil)))) (d_cons (by kernel_rfl) (d_tup (d_cons (by kernel_rfl) (d_v g (by kernel_rfl)) (d_cons (by kernel_rfl) (d_bin g (d_ix g (by kernel_rfl) (d_v g (by kernel_rfl)) d_ci) (d_v g (by kernel_rfl))) (d_cons (by kernel_rfl) (d_bin g (d_ix g (by kernel_rfl) (d_v g (by kernel_rfl)) d_ci) (d_v g (by kernel_rfl))) d_nil)))) d_nil)))) s_nil)))

/-! ### parted -/
def s_parted : Stmt := stAt 13
def N_parted : List Str := ["node", "place", "stock", "piece", "begin", "end", "sides", "halves"]
def P_parted : List Str := ["node", "place", "stock"]
def b_parted : List RS :=
  [.ite (.cmp .Is (.v 0) (.c .non)) [.ret (.tup [(.c .non), (.c .non)])] [],
  .asg 3 (.ix (.v 0) (.c (.int 1))),
  .asg 4 (.call 0 [(.ix (.v 0) (.c (.int 0)))]),
  .asg 5 (.bin .Add (.v 4) (.ix (.v 3) (.c (.int 1)))),
  .ite (.cmp .LtE (.v 1) (.v 4)) [.asg 6 (.call 1 [(.ix (.v 0) (.c (.int 0))), (.v 1), (.v 2)]),
    .ret (.tup [(.ix (.v 6) (.c (.int 0))), (.call 2 [(.ix (.v 6) (.c (.int 1))), (.v 3), (.ix (.v 0) (.c (.int 2)))])])] [],
  .ite (.cmp .GtE (.v 1) (.v 5)) [.asg 6 (.call 1 [(.ix (.v 0) (.c (.int 2))), (.bin .Sub (.v 1) (.v 5)), (.v 2)]),
    .ret (.tup [(.call 2 [(.ix (.v 0) (.c (.int 0))), (.v 3), (.ix (.v 6) (.c (.int 0)))]), (.ix (.v 6) (.c (.int 1)))])] [],
  .asg 7 (.call 3 [(.v 3), (.bin .Sub (.v 1) (.v 4)), (.v 2)]),
  .ret (.tup [(.call 2 [(.ix (.v 0) (.c (.int 0))), (.ix (.v 7) (.c (.int 0))), (.c .non)]), (.call 2 [(.c .non), (.ix (.v 7) (.c (.int 1))), (.ix (.v 0) (.c (.int 2)))])])]
theorem sc_parted : FnScope N_parted P_parted (defScope s_parted) := ⟨by kernel_rfl, by kernel_rfl, by kernel_rfl, by decide +kernel, by kernel_rfl, by decide +kernel, by decide +kernel⟩
def f_parted : List Str := ["size_of", "parted", "joined", "cut_in_two"]
def g_parted : List Str := []
def l_parted : List Str := []
def mn_parted : List Str := []
def kn_parted : List Str := []
theorem m_parted {CX : CXT} {Γ : RCx} {X : Cx} (G : GoodS CX (scx N_parted (defScope s_parted) f_parted g_parted l_parted mn_parted kn_parted) Γ X) : PSs X (defBody s_parted) (rdSs Γ b_parted) := by
  have g := G.toGood
  exact (s_cons (s_ite (t_cmp g (by kernel_rfl) (d_v g (by kernel_rfl)) d_cn) (s_cons (s_ret (d_tup (d_cons (by kernel_rfl) d_cn (d_cons (by kernel_rfl) d_cn d_nil)))) s_nil) s_nil) (s_cons (s_asg G (by kernel_rfl) (by kernel_rfl) (d_ix g (by kernel_rfl) (d_v g (by kernel_rfl)) d_ci)) (s_cons (s_asg G (by kernel_rfl) (by kernel_rfl) (d_call g (by kernel_rfl) (by kernel_rfl) (d_cons (by kernel_rfl) (d_ix g (by kernel_rfl) (d_v g (by kernel_rfl)) d_ci) d_nil))) (s_cons (s_asg G (by kernel_rfl) (by kernel_rfl) (d_bin g (d_v g (by kernel_rfl)) (d_ix g (by kernel_rfl) (d_v g (by kernel_rfl)) d_ci))) (s_cons (s_ite (t_cmp g (by kernel_rfl) (d_v g (by kernel_rfl)) (d_v g (by kernel_rfl))) (s_cons (s_asg G (by kernel_rfl) (by kernel_rfl) (d_call g (by kernel_rfl) (by kernel_rfl) (d_cons (by kernel_rfl) (d_ix g (by kernel_rfl) (d_v g (by kernel_rfl)) d_ci) (d_cons (by kernel_rfl) (d_v g (by kernel_rfl)) (d_cons (by kernel_rfl) (d_v g (by kernel_rfl)) d_nil))))) (s_cons (s_ret (d_tup (d_cons (by kernel_rfl) (d_ix g (by kernel_rfl) (d_v g (by kernel_rfl)) d_ci) (d_cons (by kernel_rfl) (d_call g (by kernel_rfl) (by kernel_rfl) (d_cons (by kernel_rfl) (d_ix g (by kernel_rfl) (d_v g (by kernel_rfl)) d_ci) (d_cons (by kernel_rfl) (d_v g (by kernel_rfl)) (d_cons (by kernel_rfl) (d_ix g (by kernel_rfl) (d_v g (by kernel_rfl)) d_ci) d_nil)))) d_nil)))) s_nil)) s_nil) (s_cons (s_ite (t_cmp g (by kernel_rfl) (d_v g (by kernel_rfl)) (d_v g (by kernel_rfl))) (s_cons (s_asg G (by kernel_rfl) (by kernel_rfl) (d_call g (by kernel_rfl) (by kernel_rfl) (d_cons (by kernel_rfl) (d_ix g (by kernel_rfl) (d_v g (by kernel_rfl)) d_ci) (d_cons (by kernel_rfl) (d_bin g (d_v g (by kernel_rfl)) (d_v g (by kernel_rfl))) (d_cons (by kernel_rfl) (d_v g (by kernel_rfl)) d_nil))))) (s_cons (s_ret (d_tup (d_cons (by kernel_rfl) (d_call g (by kernel_rfl) (by kernel_rfl) (d_cons (by kernel_rfl) (d_ix g (by kernel_rfl) (d_v g (by kernel_rfl)) d_ci) (d_cons (by kernel_rfl) (d_v g (by kernel_rfl)) (d_cons (by kernel_rfl) (d_ix g (by kernel_rfl) (d_v g (by kernel_rfl)) d_ci) d_nil)))) (d_cons (by kernel_rfl) (d_ix g (by kernel_rfl) (d_v g (by kernel_rfl)) d_ci) d_nil)))) s_nil)) s_nil) (s_cons (s_asg G (by kernel_rfl) (by kernel_rfl) (d_call g (by kernel_rfl) (by kernel_rfl) (d_cons (by kernel_rfl) (d_v g (by kernel_rfl)) (d_cons (by kernel_rfl) (d_bin g (d_v g (by kernel_rfl)) (d_v g (by kernel_rfl))) (d_cons (by kernel_rfl) (d_v g (by kernel_rfl)) d_nil))))) (s_cons (s_ret (d_tup (d_cons (by kernel_rfl) (d_call g (by kernel_rfl) (by kernel_rfl) (d_cons (by kernel_rfl) (d_ix g (by kernel_rfl) (d_v g (by kernel_rfl)) d_ci) (d_cons (by kernel_rfl) (d_ix g (by kernel_rfl) (d_v g (by kernel_rfl)) d_ci) (d_cons (by kernel_rfl) d_cn d_nil)))) (d_cons (by kernel_rfl) (d_call g (by kernel_rfl) (by kernel_rfl) (d_cons (by kernel_rfl) d_cn (d_cons (by kernel_rfl) (d_ix g (by kernel_rfl) (d_v g (by kernel_rfl)) d_ci) (d_cons (by kernel_rfl) (d_ix g (by kernel_rfl) (d_v g (by kernel_rfl)) d_ci) d_nil)))) d_nil)))) s_nil))))))))

/-! ### many_upto -/
def s_many_upto : Stmt := stAt 19
def N_many_upto : List Str := ["row", "most", "least", "beyond", "middle"]
def P_many_upto : List Str := ["row", "most"]
def b_many_upto : List RS :=
  [.asg 2 (.c (.int 0)),
  .asg 3 (.blt .len [(.v 0)]),
  .whl (.cmp .Lt (.v 2) (.v 3)) [.asg 4 (.bin .FloorDiv (.bin .Add (.v 2) (.v 3)) (.c (.int 2))),
    .ite (.cmp .LtE (.ix (.v 0) (.v 4)) (.v 1)) [.asg 2 (.bin .Add (.v 4) (.c (.int 1)))] [.asg 3 (.v 4)]],
  .ret (.v 2)]
theorem sc_many_upto : FnScope N_many_upto P_many_upto (defScope s_many_upto) := ⟨by kernel_rfl, by kernel_rfl, by kernel_rfl, by decide +kernel, by kernel_rfl, by decide +kernel, by decide +kernel⟩
def f_many_upto : List Str := []
def g_many_upto : List Str := []
def l_many_upto : List Str := ["len"]
def mn_many_upto : List Str := []
def kn_many_upto : List Str := []
theorem m_many_upto {CX : CXT} {Γ : RCx} {X : Cx} (G : GoodS CX (scx N_many_upto (defScope s_many_upto) f_many_upto g_many_upto l_many_upto mn_many_upto kn_many_upto) Γ X) : PSs X (defBody s_many_upto) (rdSs Γ b_many_upto) := by
  have g := G.toGood
  exact (s_cons (s_asg G (by kernel_rfl) (by kernel_rfl) d_ci) (s_cons (s_asg G (by kernel_rfl) (by kernel_rfl) (d_blt g (by kernel_rfl) (by kernel_rfl) (d_cons (by kernel_rfl) (d_v g (by kernel_rfl)) d_nil))) (s_cons (s_whl G (t_cmp g (by kernel_rfl) (d_v g (by kernel_rfl)) (d_v g (by kernel_rfl))) (s_cons (s_asg G (by kernel_rfl) (by kernel_rfl) (d_bin g (d_bin g (d_v g (by kernel_rfl)) (d_v g (by kernel_rfl))) d_ci)) (s_cons (s_ite (t_cmp g (by kernel_rfl) (d_ix g (by kernel_rfl) (d_v g (by kernel_rfl)) (d_v g (by kernel_rfl))) (d_v g (by kernel_rfl))) (s_cons (s_asg G (by kernel_rfl) (by kernel_rfl) (d_bin g (d_v g (by kernel_rfl)) d_ci)) s_nil) (s_cons (s_asg G (by kernel_rfl) (by kernel_rfl) (d_v g (by kernel_rfl))) s_nil)) s_nil))) (s_cons (s_ret (d_v g (by kernel_rfl))) s_nil))))

/-! ### is_whole -/
def s_is_whole : Stmt := stAt 22
def N_is_whole : List Str := ["thing"]
def P_is_whole : List Str := ["thing"]
def b_is_whole : List RS :=
  [.ret (.and [(.isi .int (.v 0)), (.not (.isi .bool (.v 0)))])]
theorem sc_is_whole : FnScope N_is_whole P_is_whole (defScope s_is_whole) := ⟨by kernel_rfl, by kernel_rfl, by kernel_rfl, by decide +kernel, by kernel_rfl, by decide +kernel, by decide +kernel⟩
def f_is_whole : List Str := []
def g_is_whole : List Str := []
def l_is_whole : List Str := ["isinstance", "int", "bool"]
def mn_is_whole : List Str := []
def kn_is_whole : List Str := []
theorem m_is_whole {CX : CXT} {Γ : RCx} {X : Cx} (G : GoodS CX (scx N_is_whole (defScope s_is_whole) f_is_whole g_is_whole l_is_whole mn_is_whole kn_is_whole) Γ X) : PSs X (defBody s_is_whole) (rdSs Γ b_is_whole) := by
  have g := G.toGood
  exact (s_cons (s_ret (d_and (d_isi g (by kernel_rfl) (by kernel_rfl) (by kernel_rfl) (d_v g (by kernel_rfl))) (d_and1 (d_not g (d_isi g (by kernel_rfl) (by kernel_rfl) (by kernel_rfl) (d_v g (by kernel_rfl))))))) s_nil)

/-! ### is_between -/
def s_is_between : Stmt := stAt 23
def N_is_between : List Str := ["thing", "least", "most"]
def P_is_between : List Str := ["thing", "least", "most"]
def b_is_between : List RS :=
  [.ret (.and [(.call 0 [(.v 0)]), (.cmp2 .LtE .LtE (.v 1) (.v 0) (.v 2))])]
theorem sc_is_between : FnScope N_is_between P_is_between (defScope s_is_between) := ⟨by kernel_rfl, by kernel_rfl, by kernel_rfl, by decide +kernel, by kernel_rfl, by decide +kernel, by decide +kernel⟩
def f_is_between : List Str := ["is_whole"]
def g_is_between : List Str := []
def l_is_between : List Str := []
def mn_is_between : List Str := []
def kn_is_between : List Str := []
theorem m_is_between {CX : CXT} {Γ : RCx} {X : Cx} (G : GoodS CX (scx N_is_between (defScope s_is_between) f_is_between g_is_between l_is_between mn_is_between kn_is_between) Γ X) : PSs X (defBody s_is_between) (rdSs Γ b_is_between) := by
  have g := G.toGood
  exact (s_cons (s_ret (d_and (d_call g (by kernel_rfl) (by kernel_rfl) (d_cons (by kernel_rfl) (d_v g (by kernel_rfl)) d_nil)) (d_and1 (d_cmp2 g (by kernel_rfl) (d_v g (by kernel_rfl)) (d_v g (by kernel_rfl)) (d_v g (by kernel_rfl)))))) s_nil)

/-! ### is_text -/
def s_is_text : Stmt := stAt 24
def N_is_text : List Str := ["thing"]
def P_is_text : List Str := ["thing"]
def b_is_text : List RS :=
  [.ret (.and [(.isi .str (.v 0)), (.cmp .Eq (.mth .lstrip (.v 0) [(.g 0)]) (.c (.str "")))])]
theorem sc_is_text : FnScope N_is_text P_is_text (defScope s_is_text) := ⟨by kernel_rfl, by kernel_rfl, by kernel_rfl, by decide +kernel, by kernel_rfl, by decide +kernel, by decide +kernel⟩
def f_is_text : List Str := []
def g_is_text : List Str := ["SIGNS"]
def l_is_text : List Str := ["isinstance", "str"]
def mn_is_text : List Str := []
def kn_is_text : List Str := []
theorem m_is_text {CX : CXT} {Γ : RCx} {X : Cx} (G : GoodS CX (scx N_is_text (defScope s_is_text) f_is_text g_is_text l_is_text mn_is_text kn_is_text) Γ X) : PSs X (defBody s_is_text) (rdSs Γ b_is_text) := by
  have g := G.toGood
  exact (s_cons (s_ret (d_and (d_isi g (by kernel_rfl) (by kernel_rfl) (by kernel_rfl) (d_v g (by kernel_rfl))) (d_and1 (d_cmp g (by kernel_rfl) (d_mth g (by kernel_rfl) (by kernel_rfl) (d_v g (by kernel_rfl)) (d_cons (by kernel_rfl) (d_g g (by kernel_rfl)) d_nil)) d_cs)))) s_nil)

/-! ### need_text -/
def s_need_text : Stmt := stAt 25
def N_need_text : List Str := ["thing"]
def P_need_text : List Str := ["thing"]
def b_need_text : List RS :=
  [.ite (.not (.call 0 [(.v 0)])) [.never] []]
theorem sc_need_text : FnScope N_need_text P_need_text (defScope s_need_text) := ⟨by kernel_rfl, by kernel_rfl, by kernel_rfl, by decide +kernel, by kernel_rfl, by decide +kernel, by decide +kernel⟩
def f_need_text : List Str := ["is_text"]
def g_need_text : List Str := []
def l_need_text : List Str := []
def mn_need_text : List Str := []
def kn_need_text : List Str := []
theorem m_need_text {CX : CXT} {Γ : RCx} {X : Cx} (G : GoodS CX (scx N_need_text (defScope s_need_text) f_need_text g_need_text l_need_text mn_need_text kn_need_text) Γ X) : PSs X (defBody s_need_text) (rdSs Γ b_need_text) := by
  have g := G.toGood
  exact (s_cons (s_ite (t_not (t_call g (d_call g (by kernel_rfl) (by kernel_rfl) (d_cons (by kernel_rfl) (d_v g (by kernel_rfl)) d_nil)))) (s_cons s_never s_nil) s_nil) s_nil)

/-! ### Stock_init -/
def s_Stock_init : Stmt := inClass (stAt 27) 0
def N_Stock_init : List Str := ["self"]
def P_Stock_init : List Str := ["self"]
def b_Stock_init : List RS :=
  [.setf (.v 0) "texts" (.lst []),
  .setf (.v 0) "begins" (.lst []),
  .setf (.v 0) "feeds" (.lst []),
  .setf (.v 0) "signs" (.c (.int 0))]
theorem sc_Stock_init : FnScope N_Stock_init P_Stock_init (defScope s_Stock_init) := ⟨by kernel_rfl, by kernel_rfl, by kernel_rfl, by decide +kernel, by kernel_rfl, by decide +kernel, by decide +kernel⟩
def f_Stock_init : List Str := []
def g_Stock_init : List Str := []
def l_Stock_init : List Str := []
def mn_Stock_init : List Str := []
def kn_Stock_init : List Str := []
theorem m_Stock_init {CX : CXT} {Γ : RCx} {X : Cx} (G : GoodS CX (scx N_Stock_init (defScope s_Stock_init) f_Stock_init g_Stock_init l_Stock_init mn_Stock_init kn_Stock_init) Γ X) : PSs X (defBody s_Stock_init) (rdSs Γ b_Stock_init) := by
  have g := G.toGood
  exact (s_cons (s_setf G (by kernel_rfl) (d_v g (by kernel_rfl)) (d_lst d_nil)) (s_cons (s_setf G (by kernel_rfl) (d_v g (by kernel_rfl)) (d_lst d_nil)) (s_cons (s_setf G (by kernel_rfl) (d_v g (by kernel_rfl)) (d_lst d_nil)) (s_cons (s_setf G (by kernel_rfl) (d_v g (by kernel_rfl)) d_ci) s_nil))))

/-! ### Stock_put -/
def s_Stock_put : Stmt := inClass (stAt 27) 1
def N_Stock_put : List Str := ["self", "text", "begin", "feed"]
def P_Stock_put : List Str := ["self", "text"]
def b_Stock_put : List RS :=
  [.drop (.call 0 [(.v 1)]),
  .asg 2 (.fld (.v 0) "signs"),
  .drop (.mth .append (.fld (.v 0) "texts") [(.v 1)]),
  .drop (.mth .append (.fld (.v 0) "begins") [(.v 2)]),
  .setf (.v 0) "signs" (.bin .Add (.v 2) (.blt .len [(.v 1)])),
  .asg 3 (.mth .find (.v 1) [(.c (.str "\n"))]),
  .whl (.cmp .GtE (.v 3) (.c (.int 0))) [.drop (.mth .append (.fld (.v 0) "feeds") [(.bin .Add (.v 2) (.v 3))]),
    .asg 3 (.mth .find (.v 1) [(.c (.str "\n")), (.bin .Add (.v 3) (.c (.int 1)))])],
  .ret (.v 2)]
theorem sc_Stock_put : FnScope N_Stock_put P_Stock_put (defScope s_Stock_put) := ⟨by kernel_rfl, by kernel_rfl, by kernel_rfl, by decide +kernel, by kernel_rfl, by decide +kernel, by decide +kernel⟩
def f_Stock_put : List Str := ["need_text"]
def g_Stock_put : List Str := []
def l_Stock_put : List Str := ["len"]
def mn_Stock_put : List Str := []
def kn_Stock_put : List Str := []
theorem m_Stock_put {CX : CXT} {Γ : RCx} {X : Cx} (G : GoodS CX (scx N_Stock_put (defScope s_Stock_put) f_Stock_put g_Stock_put l_Stock_put mn_Stock_put kn_Stock_put) Γ X) : PSs X (defBody s_Stock_put) (rdSs Γ b_Stock_put) := by
  have g := G.toGood
  exact (s_cons (s_drop (by kernel_rfl) (d_call g (by kernel_rfl) (by kernel_rfl) (d_cons (by kernel_rfl) (d_v g (by kernel_rfl)) d_nil))) (s_cons (s_asg G (by kernel_rfl) (by kernel_rfl) (d_fld g (by kernel_rfl) (d_v g (by kernel_rfl)))) (s_cons (s_drop (by kernel_rfl) (d_mth g (by kernel_rfl) (by kernel_rfl) (d_fld g (by kernel_rfl) (d_v g (by kernel_rfl))) (d_cons (by kernel_rfl) (d_v g (by kernel_rfl)) d_nil))) (s_cons (s_drop (by kernel_rfl) (d_mth g (by kernel_rfl) (by kernel_rfl) (d_fld g (by kernel_rfl) (d_v g (by kernel_rfl))) (d_cons (by kernel_rfl) (d_v g (by kernel_rfl)) d_nil))) (s_cons (s_setf G (by kernel_rfl) (d_v g (by kernel_rfl)) (d_bin g (d_v g (by kernel_rfl)) (d_blt g (by kernel_rfl) (by kernel_rfl) (d_cons (by kernel_rfl) (d_v g (by kernel_rfl)) d_nil)))) (s_cons (s_asg G (by kernel_rfl) (by kernel_rfl) (d_mth g (by kernel_rfl) (by kernel_rfl) (d_v g (by kernel_rfl)) (d_cons (by kernel_rfl) d_cs d_nil))) (s_cons (s_whl G (t_cmp g (by kernel_rfl) (d_v g (by kernel_rfl)) d_ci) (s_cons (s_drop (by kernel_rfl) (d_mth g (by kernel_rfl) (by kernel_rfl) (d_fld g (by kernel_rfl) (d_v g (by kernel_rfl))) (d_cons (by kernel_rfl) (d_bin g (d_v g (by kernel_rfl)) (d_v g (by kernel_rfl))) d_nil))) (s_cons (s_asg G (by kernel_rfl) (by kernel_rfl) (d_mth g (by kernel_rfl) (by kernel_rfl) (d_v g (by kernel_rfl)) (d_cons (by kernel_rfl) d_cs (d_cons (by kernel_rfl) (d_bin g (d_v g (by kernel_rfl)) d_ci) d_nil)))) s_nil))) (s_cons (s_ret (d_v g (by kernel_rfl))) s_nil))))))))

/-! ### Stock_read -/
def s_Stock_read : Stmt := inClass (stAt 27) 2
def N_Stock_read : List Str := ["self", "begin", "size", "pieces", "number", "end", "offset", "piece"]
def P_Stock_read : List Str := ["self", "begin", "size"]
def b_Stock_read : List RS :=
  [.ite (.or [(.not (.call 0 [(.v 1), (.c (.int 0)), (.fld (.v 0) "signs")])), (.not (.call 0 [(.v 2), (.c (.int 0)), (.bin .Sub (.fld (.v 0) "signs") (.v 1))]))]) [.never] [],
  .asg 3 (.lst []),
  .asg 4 (.bin .Sub (.call 1 [(.fld (.v 0) "begins"), (.v 1)]) (.c (.int 1))),
  .asg 5 (.bin .Add (.v 1) (.v 2)),
  .whl (.cmp .Lt (.v 1) (.v 5)) [.asg 6 (.bin .Sub (.v 1) (.ix (.fld (.v 0) "begins") (.v 4))),
    .asg 7 (.sl (.ix (.fld (.v 0) "texts") (.v 4)) (some (.v 6)) (some (.bin .Sub (.bin .Add (.v 6) (.v 5)) (.v 1)))),
    .drop (.mth .append (.v 3) [(.v 7)]),
    .asg 1 (.bin .Add (.v 1) (.blt .len [(.v 7)])),
    .asg 4 (.bin .Add (.v 4) (.c (.int 1)))],
  .ret (.mth .join (.c (.str "")) [(.v 3)])]
theorem sc_Stock_read : FnScope N_Stock_read P_Stock_read (defScope s_Stock_read) := ⟨by kernel_rfl, by kernel_rfl, by kernel_rfl, by decide +kernel, by kernel_rfl, by decide +kernel, by decide +kernel⟩
def f_Stock_read : List Str := ["is_between", "many_upto"]
def g_Stock_read : List Str := []
def l_Stock_read : List Str := ["len"]
def mn_Stock_read : List Str := []
def kn_Stock_read : List Str := []
theorem m_Stock_read {CX : CXT} {Γ : RCx} {X : Cx} (G : GoodS CX (scx N_Stock_read (defScope s_Stock_read) f_Stock_read g_Stock_read l_Stock_read mn_Stock_read kn_Stock_read) Γ X) : PSs X (defBody s_Stock_read) (rdSs Γ b_Stock_read) := by
  have g := G.toGood
  exact (s_cons (s_ite (PW.pt (t_or (t_not (t_call g (d_call g (by kernel_rfl) (by kernel_rfl) (d_cons (by kernel_rfl) (d_v g (by kernel_rfl)) (d_cons (by kernel_rfl) d_ci (d_cons (by kernel_rfl) (d_fld g (by kernel_rfl) (d_v g (by kernel_rfl))) d_nil)))))) (t_or1 (t_not (t_call g (d_call g (by kernel_rfl) (by kernel_rfl) (d_cons (by kernel_rfl) (d_v g (by kernel_rfl)) (d_cons (by kernel_rfl) d_ci (d_cons (by kernel_rfl) (d_bin g (d_fld g (by kernel_rfl) (d_v g (by kernel_rfl))) (d_v g (by kernel_rfl))) d_nil))))))))) (s_cons s_never s_nil) s_nil) (s_cons (s_asg G (by kernel_rfl) (by kernel_rfl) (d_lst d_nil)) (s_cons (s_asg G (by kernel_rfl) (by kernel_rfl) (d_bin g (d_call g (by kernel_rfl) (by kernel_rfl) (d_cons (by kernel_rfl) (d_fld g (by kernel_rfl) (d_v g (by kernel_rfl))) (d_cons (by kernel_rfl) (d_v g (by kernel_rfl)) d_nil))) d_ci)) (s_cons (s_asg G (by kernel_rfl) (by kernel_rfl) (d_bin g (d_v g (by kernel_rfl)) (d_v g (by kernel_rfl)))) (s_cons (s_whl G (t_cmp g (by kernel_rfl) (d_v g (by kernel_rfl)) (d_v g (by kernel_rfl))) (s_cons (s_asg G (by kernel_rfl) (by kernel_rfl) (d_bin g (d_v g (by kernel_rfl)) (d_ix g (by kernel_rfl) (d_fld g (by kernel_rfl) (d_v g (by kernel_rfl))) (d_v g (by kernel_rfl))))) (s_cons (s_asg G (by kernel_rfl) (by kernel_rfl) (d_sl g (d_ix g (by kernel_rfl) (d_fld g (by kernel_rfl) (d_v g (by kernel_rfl))) (d_v g (by kernel_rfl))) (d_some (d_v g (by kernel_rfl))) (d_some (d_bin g (d_bin g (d_v g (by kernel_rfl)) (d_v g (by kernel_rfl))) (d_v g (by kernel_rfl)))))) (s_cons (s_drop (by kernel_rfl) (d_mth g (by kernel_rfl) (by kernel_rfl) (d_v g (by kernel_rfl)) (d_cons (by kernel_rfl) (d_v g (by kernel_rfl)) d_nil))) (s_cons (s_asg G (by kernel_rfl) (by kernel_rfl) (d_bin g (d_v g (by kernel_rfl)) (d_blt g (by kernel_rfl) (by kernel_rfl) (d_cons (by kernel_rfl) (d_v g (by kernel_rfl)) d_nil)))) (s_cons (s_asg G (by kernel_rfl) (by kernel_rfl) (d_bin g (d_v g (by kernel_rfl)) d_ci)) s_nil)))))) (s_cons (s_ret (d_mth g (by kernel_rfl) (by kernel_rfl) d_cs (d_cons (by kernel_rfl) (d_v g (by kernel_rfl)) d_nil))) s_nil))))))

/-! ### Stock_many -/
def s_Stock_many : Stmt := inClass (stAt 27) 3
def N_Stock_many : List Str := ["self"]
def P_Stock_many : List Str := ["self"]
def b_Stock_many : List RS :=
  [.ret (.fld (.v 0) "signs")]
theorem sc_Stock_many : FnScope N_Stock_many P_Stock_many (defScope s_Stock_many) := ⟨by kernel_rfl, by kernel_rfl, by kernel_rfl, by decide +kernel, by kernel_rfl, by decide +kernel, by decide +kernel⟩
def f_Stock_many : List Str := []
def g_Stock_many : List Str := []
def l_Stock_many : List Str := []
def mn_Stock_many : List Str := []
def kn_Stock_many : List Str := []
theorem m_Stock_many {CX : CXT} {Γ : RCx} {X : Cx} (G : GoodS CX (scx N_Stock_many (defScope s_Stock_many) f_Stock_many g_Stock_many l_Stock_many mn_Stock_many kn_Stock_many) Γ X) : PSs X (defBody s_Stock_many) (rdSs Γ b_Stock_many) := by
  have g := G.toGood
  exact (s_cons (s_ret (d_fld g (by kernel_rfl) (d_v g (by kernel_rfl)))) s_nil)

/-! ### Stock_ends_ahead -/
def s_Stock_ends_ahead : Stmt := inClass (stAt 27) 4
def N_Stock_ends_ahead : List Str := ["self", "place"]
def P_Stock_ends_ahead : List Str := ["self", "place"]
def b_Stock_ends_ahead : List RS :=
  [.ret (.call 0 [(.fld (.v 0) "feeds"), (.bin .Sub (.v 1) (.c (.int 1)))])]
theorem sc_Stock_ends_ahead : FnScope N_Stock_ends_ahead P_Stock_ends_ahead (defScope s_Stock_ends_ahead) := ⟨by kernel_rfl, by kernel_rfl, by kernel_rfl, by decide +kernel, by kernel_rfl, by decide +kernel, by decide +kernel⟩
def f_Stock_ends_ahead : List Str := ["many_upto"]
def g_Stock_ends_ahead : List Str := []
def l_Stock_ends_ahead : List Str := []
def mn_Stock_ends_ahead : List Str := []
def kn_Stock_ends_ahead : List Str := []
theorem m_Stock_ends_ahead {CX : CXT} {Γ : RCx} {X : Cx} (G : GoodS CX (scx N_Stock_ends_ahead (defScope s_Stock_ends_ahead) f_Stock_ends_ahead g_Stock_ends_ahead l_Stock_ends_ahead mn_Stock_ends_ahead kn_Stock_ends_ahead) Γ X) : PSs X (defBody s_Stock_ends_ahead) (rdSs Γ b_Stock_ends_ahead) := by
  have g := G.toGood
  exact (s_cons (s_ret (d_call g (by kernel_rfl) (by kernel_rfl) (d_cons (by kernel_rfl) (d_fld g (by kernel_rfl) (d_v g (by kernel_rfl))) (d_cons (by kernel_rfl) (d_bin g (d_v g (by kernel_rfl)) d_ci) d_nil)))) s_nil)

/-! ### cell_atL -/
def s_cell_atL : Stmt := stAt 29
def N_cell_atL : List Str := ["_law_script", "_law_k"]
def P_cell_atL : List Str := ["_law_script", "_law_k"]
def b_cell_atL : List RS :=
  [.ite (.cmp .Lt (.v 1) (.blt .len [(.v 0)])) [.ret (.ix (.v 0) (.v 1))] [],
  .ret (.c (.int 0))]
theorem sc_cell_atL : FnScope N_cell_atL P_cell_atL (defScope s_cell_atL) := ⟨by kernel_rfl, by kernel_rfl, by kernel_rfl, by decide +kernel, by kernel_rfl, by decide +kernel, by decide +kernel⟩
def f_cell_atL : List Str := []
def g_cell_atL : List Str := []
def l_cell_atL : List Str := ["len"]
def mn_cell_atL : List Str := []
def kn_cell_atL : List Str := []
theorem m_cell_atL {CX : CXT} {Γ : RCx} {X : Cx} (G : GoodS CX (scx N_cell_atL (defScope s_cell_atL) f_cell_atL g_cell_atL l_cell_atL mn_cell_atL kn_cell_atL) Γ X) : PSs X (defBody s_cell_atL) (rdSs Γ b_cell_atL) := by
  have g := G.toGood
  exact (s_cons (s_ite (t_cmp g (by kernel_rfl) (d_v g (by kernel_rfl)) (d_blt g (by kernel_rfl) (by kernel_rfl) (d_cons (by kernel_rfl) (d_v g (by kernel_rfl)) d_nil))) (s_cons (s_ret (d_ix g (by kernel_rfl) (d_v g (by kernel_rfl)) (d_v g (by kernel_rfl)))) s_nil) s_nil) (s_cons (s_ret d_ci) s_nil))

/-! ### wholeL -/
def s_wholeL : Stmt := stAt 30
def N_wholeL : List Str := ["_law_found"]
def P_wholeL : List Str := ["_law_found"]
def b_wholeL : List RS :=
  [.ret (.and [(.isi .int (.v 0)), (.not (.isi .bool (.v 0)))])]
theorem sc_wholeL : FnScope N_wholeL P_wholeL (defScope s_wholeL) := ⟨by kernel_rfl, by kernel_rfl, by kernel_rfl, by decide +kernel, by kernel_rfl, by decide +kernel, by decide +kernel⟩
def f_wholeL : List Str := []
def g_wholeL : List Str := []
def l_wholeL : List Str := ["isinstance", "int", "bool"]
def mn_wholeL : List Str := []
def kn_wholeL : List Str := []
theorem m_wholeL {CX : CXT} {Γ : RCx} {X : Cx} (G : GoodS CX (scx N_wholeL (defScope s_wholeL) f_wholeL g_wholeL l_wholeL mn_wholeL kn_wholeL) Γ X) : PSs X (defBody s_wholeL) (rdSs Γ b_wholeL) := by
  have g := G.toGood
  exact (s_cons (s_ret (d_and (d_isi g (by kernel_rfl) (by kernel_rfl) (by kernel_rfl) (d_v g (by kernel_rfl))) (d_and1 (d_not g (d_isi g (by kernel_rfl) (by kernel_rfl) (by kernel_rfl) (d_v g (by kernel_rfl))))))) s_nil)

/-! ### mixedL -/
def s_mixedL : Stmt := stAt 31
def N_mixedL : List Str := ["_law_cell", "_law_k", "_law_number"]
def P_mixedL : List Str := ["_law_cell", "_law_k"]
def b_mixedL : List RS :=
  [.asg 2 (.bin .Mod (.bin .Add (.bin .Add (.bin .Mult (.v 0) (.c (.int 48271))) (.bin .Mult (.c (.int 7919)) (.v 1))) (.c (.int 12345))) (.c (.int 2147483647))),
  .ret (.bin .Mod (.bin .Mult (.bin .Mod (.bin .Mult (.v 2) (.v 2)) (.c (.int 2147483647))) (.v 2)) (.c (.int 2147483647)))]
theorem sc_mixedL : FnScope N_mixedL P_mixedL (defScope s_mixedL) := ⟨by kernel_rfl, by kernel_rfl, by kernel_rfl, by decide +kernel, by kernel_rfl, by decide +kernel, by decide +kernel⟩
def f_mixedL : List Str := []
def g_mixedL : List Str := []
def l_mixedL : List Str := []
def mn_mixedL : List Str := []
def kn_mixedL : List Str := []
theorem m_mixedL {CX : CXT} {Γ : RCx} {X : Cx} (G : GoodS CX (scx N_mixedL (defScope s_mixedL) f_mixedL g_mixedL l_mixedL mn_mixedL kn_mixedL) Γ X) : PSs X (defBody s_mixedL) (rdSs Γ b_mixedL) := by
  have g := G.toGood
  exact (s_cons (s_asg G (by kernel_rfl) (by kernel_rfl) (d_bin g (d_bin g (d_bin g (d_bin g (d_v g (by kernel_rfl)) d_ci) (d_bin g d_ci (d_v g (by kernel_rfl)))) d_ci) d_ci)) (s_cons (s_ret (d_bin g (d_bin g (d_bin g (d_bin g (d_v g (by kernel_rfl)) (d_v g (by kernel_rfl))) d_ci) (d_v g (by kernel_rfl))) d_ci)) s_nil))

/-! ### text_byL -/
def s_text_byL : Stmt := stAt 32
def N_text_byL : List Str := ["_law_cell", "_law_many", "_law_some", "_law_text", "_law_k", "_law_number"]
def P_text_byL : List Str := ["_law_cell", "_law_many"]
def b_text_byL : List RS :=
  [.asg 2 (.c (.str " !\"#$&'()*+,-./0123456789:;<=>?@ABCDEFGHIJKLMNOPQRSTUVWXYZ[\\]^_`")),
  .asg 2 (.bin .Add (.v 2) (.c (.str "abcdefghijklmnopqrstuvwxyz{|}~"))),
  .asg 3 (.c (.str "")),
  .for1 4 .rng [(.v 1)] [.asg 5 (.call 0 [(.v 0), (.v 4)]),
    .asg 3 (.bin .Add (.v 3) (.ix (.lst [(.c (.str "\n")), (.ix (.c (.str "ab")) (.bin .Mod (.bin .FloorDiv (.v 5) (.c (.int 8))) (.c (.int 2)))), (.ix (.v 2) (.bin .Mod (.bin .FloorDiv (.v 5) (.c (.int 8))) (.c (.int 94)))), (.ix (.v 2) (.bin .Mod (.bin .FloorDiv (.v 5) (.c (.int 8))) (.c (.int 94))))]) (.bin .Mod (.v 5) (.c (.int 4)))))],
  .ret (.v 3)]
theorem sc_text_byL : FnScope N_text_byL P_text_byL (defScope s_text_byL) := ⟨by kernel_rfl, by kernel_rfl, by kernel_rfl, by decide +kernel, by kernel_rfl, by decide +kernel, by decide +kernel⟩
def f_text_byL : List Str := ["_law_mixed"]
def g_text_byL : List Str := []
def l_text_byL : List Str := ["range"]
def mn_text_byL : List Str := []
def kn_text_byL : List Str := []
theorem m_text_byL {CX : CXT} {Γ : RCx} {X : Cx} (G : GoodS CX (scx N_text_byL (defScope s_text_byL) f_text_byL g_text_byL l_text_byL mn_text_byL kn_text_byL) Γ X) : PSs X (defBody s_text_byL) (rdSs Γ b_text_byL) := by
  have g := G.toGood
  exact (s_cons (s_asg G (by kernel_rfl) (by kernel_rfl) d_cs) (s_cons (s_asg G (by kernel_rfl) (by kernel_rfl) (d_bin g (d_v g (by kernel_rfl)) d_cs)) (s_cons (s_asg G (by kernel_rfl) (by kernel_rfl) d_cs) (s_cons (s_for1 G (by kernel_rfl) (by kernel_rfl) (i_rng g (by kernel_rfl) (by kernel_rfl) (d_v g (by kernel_rfl))) (s_cons (s_asg G (by kernel_rfl) (by kernel_rfl) (d_call g (by kernel_rfl) (by kernel_rfl) (d_cons (by kernel_rfl) (d_v g (by kernel_rfl)) (d_cons (by kernel_rfl) (d_v g (by kernel_rfl)) d_nil)))) (s_cons (s_asg G (by kernel_rfl) (by kernel_rfl) (d_bin g (d_v g (by kernel_rfl)) (d_ix g (by kernel_rfl) (d_lst (d_cons (by kernel_rfl) d_cs (d_cons (by kernel_rfl) (d_ix g (by kernel_rfl) d_cs (d_bin g (d_bin g (d_v g (by kernel_rfl)) d_ci) d_ci)) (d_cons (by kernel_rfl) (d_ix g (by kernel_rfl) (d_v g (by kernel_rfl)) (d_bin g (d_bin g (d_v g (by kernel_rfl)) d_ci) d_ci)) (d_cons (by kernel_rfl) (d_ix g (by kernel_rfl) (d_v g (by kernel_rfl)) (d_bin g (d_bin g (d_v g (by kernel_rfl)) d_ci) d_ci)) d_nil))))) (d_bin g (d_v g (by kernel_rfl)) d_ci)))) s_nil))) (s_cons (s_ret (d_v g (by kernel_rfl))) s_nil)))))

/-! ### goodL -/
def s_goodL : Stmt := stAt 33
def N_goodL : List Str := ["_law_node_here", "_law_left", "_law_right", "_law_size", "_law_due_here"]
def P_goodL : List Str := ["_law_node_here"]
def b_goodL : List RS :=
  [.ite (.cmp .Is (.v 0) (.c .non)) [.ret (.tup [(.c (.int 0)), (.c (.int 0)), (.c (.int 0))])] [],
  .ite (.or [(.not (.isi .tuple (.v 0))), (.cmp .NotEq (.blt .len [(.v 0)]) (.c (.int 6))), (.not (.isi .tuple (.ix (.v 0) (.c (.int 1))))), (.cmp .NotEq (.blt .len [(.ix (.v 0) (.c (.int 1)))]) (.c (.int 3)))]) [.ret (.c .non)] [],
  .asg 1 (.call 0 [(.ix (.v 0) (.c (.int 0)))]),
  .asg 2 (.call 0 [(.ix (.v 0) (.c (.int 2)))]),
  .ite (.or [(.cmp .Is (.v 1) (.c .non)), (.cmp .Is (.v 2) (.c .non)), (.cmp .Gt (.blt .abs [(.bin .Sub (.ix (.v 1) (.c (.int 0))) (.ix (.v 2) (.c (.int 0))))]) (.c (.int 1)))]) [.ret (.c .non)] [],
  .asg 3 (.bin .Add (.bin .Add (.ix (.v 1) (.c (.int 1))) (.ix (.ix (.v 0) (.c (.int 1))) (.c (.int 1)))) (.ix (.v 2) (.c (.int 1)))),
  .asg 4 (.tup [(.bin .Add (.c (.int 1)) (.blt .max [(.ix (.v 1) (.c (.int 0))), (.ix (.v 2) (.c (.int 0)))])), (.v 3), (.bin .Add (.bin .Add (.ix (.v 1) (.c (.int 2))) (.ix (.ix (.v 0) (.c (.int 1))) (.c (.int 2)))) (.ix (.v 2) (.c (.int 2))))]),
  .ite (.or [(.cmp .NotEq (.sl (.v 0) (some (.c (.int 3))) none) (.v 4)), (.cmp .NotEq (.comp none [] .tup [(.bin .Add (.ix (.v 0) (.c (.int 1))) (.sl (.v 0) (some (.c (.int 3))) none))] (some (.not (.call 1 [(.v 0)]))) (.v 0)) (.lst []))]) [.ret (.c .non)] [],
  .ret (.v 4)]
theorem sc_goodL : FnScope N_goodL P_goodL (defScope s_goodL) := ⟨by kernel_rfl, by kernel_rfl, by kernel_rfl, by decide +kernel, by kernel_rfl, by decide +kernel, by decide +kernel⟩
def f_goodL : List Str := ["_law_good", "_law_whole"]
def g_goodL : List Str := []
def l_goodL : List Str := ["isinstance", "tuple", "len", "abs", "max"]
def mn_goodL : List Str := []
def kn_goodL : List Str := []
theorem m_goodL {CX : CXT} {Γ : RCx} {X : Cx} (G : GoodS CX (scx N_goodL (defScope s_goodL) f_goodL g_goodL l_goodL mn_goodL kn_goodL) Γ X) : PSs X (defBody s_goodL) (rdSs Γ b_goodL) := by
  have g := G.toGood
  exact (s_cons (s_ite (t_cmp g (by kernel_rfl) (d_v g (by kernel_rfl)) d_cn) (s_cons (s_ret (d_tup (d_cons (by kernel_rfl) d_ci (d_cons (by kernel_rfl) d_ci (d_cons (by kernel_rfl) d_ci d_nil))))) s_nil) s_nil) (s_cons (s_ite (PW.pt (t_or (t_not (t_isi g (d_isi g (by kernel_rfl) (by kernel_rfl) (by kernel_rfl) (d_v g (by kernel_rfl))))) (t_or (t_cmp g (by kernel_rfl) (d_blt g (by kernel_rfl) (by kernel_rfl) (d_cons (by kernel_rfl) (d_v g (by kernel_rfl)) d_nil)) d_ci) (t_or (t_not (t_isi g (d_isi g (by kernel_rfl) (by kernel_rfl) (by kernel_rfl) (d_ix g (by kernel_rfl) (d_v g (by kernel_rfl)) d_ci)))) (t_or1 (t_cmp g (by kernel_rfl) (d_blt g (by kernel_rfl) (by kernel_rfl) (d_cons (by kernel_rfl) (d_ix g (by kernel_rfl) (d_v g (by kernel_rfl)) d_ci) d_nil)) d_ci)))))) (s_cons (s_ret d_cn) s_nil) s_nil) (s_cons (s_asg G (by kernel_rfl) (by kernel_rfl) (d_call g (by kernel_rfl) (by kernel_rfl) (d_cons (by kernel_rfl) (d_ix g (by kernel_rfl) (d_v g (by kernel_rfl)) d_ci) d_nil))) (s_cons (s_asg G (by kernel_rfl) (by kernel_rfl) (d_call g (by kernel_rfl) (by kernel_rfl) (d_cons (by kernel_rfl) (d_ix g (by kernel_rfl) (d_v g (by kernel_rfl)) d_ci) d_nil))) (s_cons (s_ite (PW.pt (t_or (t_cmp g (by kernel_rfl) (d_v g (by kernel_rfl)) d_cn) (t_or (t_cmp g (by kernel_rfl) (d_v g (by kernel_rfl)) d_cn) (t_or1 (t_cmp g (by kernel_rfl) (d_blt g (by kernel_rfl) (by kernel_rfl) (d_cons (by kernel_rfl) (d_bin g (d_ix g (by kernel_rfl) (d_v g (by kernel_rfl)) d_ci) (d_ix g (by kernel_rfl) (d_v g (by kernel_rfl)) d_ci)) d_nil)) d_ci))))) (s_cons (s_ret d_cn) s_nil) s_nil) (s_cons (s_asg G (by kernel_rfl) (by kernel_rfl) (d_bin g (d_bin g (d_ix g (by kernel_rfl) (d_v g (by kernel_rfl)) d_ci) (d_ix g (by kernel_rfl) (d_ix g (by kernel_rfl) (d_v g (by kernel_rfl)) d_ci) d_ci)) (d_ix g (by kernel_rfl) (d_v g (by kernel_rfl)) d_ci))) (s_cons (s_asg G (by kernel_rfl) (by kernel_rfl) (d_tup (d_cons (by kernel_rfl) (d_bin g d_ci (d_blt g (by kernel_rfl) (by kernel_rfl) (d_cons (by kernel_rfl) (d_ix g (by kernel_rfl) (d_v g (by kernel_rfl)) d_ci) (d_cons (by kernel_rfl) (d_ix g (by kernel_rfl) (d_v g (by kernel_rfl)) d_ci) d_nil)))) (d_cons (by kernel_rfl) (d_v g (by kernel_rfl)) (d_cons (by kernel_rfl) (d_bin g (d_bin g (d_ix g (by kernel_rfl) (d_v g (by kernel_rfl)) d_ci) (d_ix g (by kernel_rfl) (d_ix g (by kernel_rfl) (d_v g (by kernel_rfl)) d_ci) d_ci)) (d_ix g (by kernel_rfl) (d_v g (by kernel_rfl)) d_ci)) d_nil))))) (s_cons (s_ite (PW.pt (t_or (t_cmp g (by kernel_rfl) (d_sl g (d_v g (by kernel_rfl)) (d_some d_ci) d_no) (d_v g (by kernel_rfl))) (t_or1 (t_cmp g (by kernel_rfl) (d_comp (ln := ["_law_one"]) g (by kernel_rfl) (i_tup g (d_bin g (d_ix g (by kernel_rfl) (d_v g (by kernel_rfl)) d_ci) (d_sl g (d_v g (by kernel_rfl)) (d_some d_ci) d_no))) (d_if1 fun _ g => (t_not (t_call g (d_call g (by kernel_rfl) (by kernel_rfl) (d_cons (by kernel_rfl) (d_v g (by kernel_rfl)) d_nil))))) (fun _ g => (d_v g (by kernel_rfl)))) (d_lst d_nil))))) (s_cons (s_ret d_cn) s_nil) s_nil) (s_cons (s_ret (d_v g (by kernel_rfl))) s_nil)))))))))

/-! ### piecesL -/
def s_piecesL : Stmt := stAt 34
def N_piecesL : List Str := ["_law_node_here"]
def P_piecesL : List Str := ["_law_node_here"]
def b_piecesL : List RS :=
  [.ite (.cmp .Is (.v 0) (.c .non)) [.ret (.lst [])] [],
  .ret (.bin .Add (.bin .Add (.call 0 [(.ix (.v 0) (.c (.int 0)))]) (.lst [(.ix (.v 0) (.c (.int 1)))])) (.call 0 [(.ix (.v 0) (.c (.int 2)))]))]
theorem sc_piecesL : FnScope N_piecesL P_piecesL (defScope s_piecesL) := ⟨by kernel_rfl, by kernel_rfl, by kernel_rfl, by decide +kernel, by kernel_rfl, by decide +kernel, by decide +kernel⟩
def f_piecesL : List Str := ["_law_pieces"]
def g_piecesL : List Str := []
def l_piecesL : List Str := []
def mn_piecesL : List Str := []
def kn_piecesL : List Str := []
theorem m_piecesL {CX : CXT} {Γ : RCx} {X : Cx} (G : GoodS CX (scx N_piecesL (defScope s_piecesL) f_piecesL g_piecesL l_piecesL mn_piecesL kn_piecesL) Γ X) : PSs X (defBody s_piecesL) (rdSs Γ b_piecesL) := by
  have g := G.toGood
  exact (s_cons (s_ite (t_cmp g (by kernel_rfl) (d_v g (by kernel_rfl)) d_cn) (s_cons (s_ret (d_lst d_nil)) s_nil) s_nil) (s_cons (s_ret (d_bin g (d_bin g (d_call g (by kernel_rfl) (by kernel_rfl) (d_cons (by kernel_rfl) (d_ix g (by kernel_rfl) (d_v g (by kernel_rfl)) d_ci) d_nil)) (d_lst (d_cons (by kernel_rfl) (d_ix g (by kernel_rfl) (d_v g (by kernel_rfl)) d_ci) d_nil))) (d_call g (by kernel_rfl) (by kernel_rfl) (d_cons (by kernel_rfl) (d_ix g (by kernel_rfl) (d_v g (by kernel_rfl)) d_ci) d_nil)))) s_nil))

/-! ### rowsL -/
def s_rowsL : Stmt := stAt 35
def N_rowsL : List Str := ["_law_script", "_law_signs", "_law_cell", "_law_many", "_law_rows_here", "_law_k", "_law_number", "_law_begin", "_law_size"]
def P_rowsL : List Str := ["_law_script", "_law_signs"]
def b_rowsL : List RS :=
  [.asg 2 (.call 0 [(.v 0), (.c (.int 1))]),
  .asg 3 (.bin .Mod (.v 2) (.c (.int 11))),
  .ite (.cmp .Eq (.bin .Mod (.bin .FloorDiv (.v 2) (.c (.int 11))) (.c (.int 6))) (.c (.int 1))) [.asg 3 (.bin .Add (.c (.int 11)) (.bin .Mod (.bin .FloorDiv (.v 2) (.c (.int 66))) (.c (.int 30))))] [],
  .asg 4 (.lst []),
  .for1 5 .rng [(.v 3)] [.asg 6 (.call 1 [(.call 0 [(.v 0), (.bin .Add (.c (.int 2)) (.bin .Mod (.v 5) (.c (.int 10))))]), (.bin .Add (.c (.int 50)) (.v 5))]),
    .asg 7 (.bin .Mod (.v 6) (.blt .len [(.v 1)])),
    .asg 8 (.blt .min [(.bin .Add (.c (.int 1)) (.bin .Mod (.bin .FloorDiv (.v 6) (.c (.int 100))) (.c (.int 9)))), (.bin .Sub (.blt .len [(.v 1)]) (.v 7))]),
    .drop (.mth .append (.v 4) [(.tup [(.v 7), (.v 8), (.mth .count (.sl (.v 1) (some (.v 7)) (some (.bin .Add (.v 7) (.v 8)))) [(.c (.str "\n"))])])])],
  .ret (.v 4)]
theorem sc_rowsL : FnScope N_rowsL P_rowsL (defScope s_rowsL) := ⟨by kernel_rfl, by kernel_rfl, by kernel_rfl, by decide +kernel, by kernel_rfl, by decide +kernel, by decide +kernel⟩
def f_rowsL : List Str := ["_law_cell_at", "_law_mixed"]
def g_rowsL : List Str := []
def l_rowsL : List Str := ["range", "len", "min"]
def mn_rowsL : List Str := []
def kn_rowsL : List Str := []
theorem m_rowsL {CX : CXT} {Γ : RCx} {X : Cx} (G : GoodS CX (scx N_rowsL (defScope s_rowsL) f_rowsL g_rowsL l_rowsL mn_rowsL kn_rowsL) Γ X) : PSs X (defBody s_rowsL) (rdSs Γ b_rowsL) := by
  have g := G.toGood
  exact (s_cons (s_asg G (by kernel_rfl) (by kernel_rfl) (d_call g (by kernel_rfl) (by kernel_rfl) (d_cons (by kernel_rfl) (d_v g (by kernel_rfl)) (d_cons (by kernel_rfl) d_ci d_nil)))) (s_cons (s_asg G (by kernel_rfl) (by kernel_rfl) (d_bin g (d_v g (by kernel_rfl)) d_ci)) (s_cons (s_ite (t_cmp g (by kernel_rfl) (d_bin g (d_bin g (d_v g (by kernel_rfl)) d_ci) d_ci) d_ci) (s_cons (s_asg G (by kernel_rfl) (by kernel_rfl) (d_bin g d_ci (d_bin g (d_bin g (d_v g (by kernel_rfl)) d_ci) d_ci))) s_nil) s_nil) (s_cons (s_asg G (by kernel_rfl) (by kernel_rfl) (d_lst d_nil)) (s_cons (s_for1 G (by kernel_rfl) (by kernel_rfl) (i_rng g (by kernel_rfl) (by kernel_rfl) (d_v g (by kernel_rfl))) (s_cons (s_asg G (by kernel_rfl) (by kernel_rfl) (d_call g (by kernel_rfl) (by kernel_rfl) (d_cons (by kernel_rfl) (d_call g (by kernel_rfl) (by kernel_rfl) (d_cons (by kernel_rfl) (d_v g (by kernel_rfl)) (d_cons (by kernel_rfl) (d_bin g d_ci (d_bin g (d_v g (by kernel_rfl)) d_ci)) d_nil))) (d_cons (by kernel_rfl) (d_bin g d_ci (d_v g (by kernel_rfl))) d_nil)))) (s_cons (s_asg G (by kernel_rfl) (by kernel_rfl) (d_bin g (d_v g (by kernel_rfl)) (d_blt g (by kernel_rfl) (by kernel_rfl) (d_cons (by kernel_rfl) (d_v g (by kernel_rfl)) d_nil)))) (s_cons (s_asg G (by kernel_rfl) (by kernel_rfl) (d_blt g (by kernel_rfl) (by kernel_rfl) (d_cons (by kernel_rfl) (d_bin g d_ci (d_bin g (d_bin g (d_v g (by kernel_rfl)) d_ci) d_ci)) (d_cons (by kernel_rfl) (d_bin g (d_blt g (by kernel_rfl) (by kernel_rfl) (d_cons (by kernel_rfl) (d_v g (by kernel_rfl)) d_nil)) (d_v g (by kernel_rfl))) d_nil)))) (s_cons (s_drop (by kernel_rfl) (d_mth g (by kernel_rfl) (by kernel_rfl) (d_v g (by kernel_rfl)) (d_cons (by kernel_rfl) (d_tup (d_cons (by kernel_rfl) (d_v g (by kernel_rfl)) (d_cons (by kernel_rfl) (d_v g (by kernel_rfl)) (d_cons (by kernel_rfl) (d_mth g (by kernel_rfl) (by kernel_rfl) (d_sl g (d_v g (by kernel_rfl)) (d_some (d_v g (by kernel_rfl))) (d_some (d_bin g (d_v g (by kernel_rfl)) (d_v g (by kernel_rfl))))) (d_cons (by kernel_rfl) d_cs d_nil)) d_nil)))) d_nil))) s_nil))))) (s_cons (s_ret (d_v g (by kernel_rfl))) s_nil))))))

/-! ### nodeL -/
def s_nodeL : Stmt := stAt 36
def N_nodeL : List Str := ["_law_rows_here", "_law_halves", "_law_node_here", "_law_row", "_law_middle"]
def P_nodeL : List Str := ["_law_rows_here", "_law_halves"]
def b_nodeL : List RS :=
  [.ite (.cmp .Eq (.v 0) (.lst [])) [.ret (.c .non)] [],
  .ite (.not (.v 1)) [.asg 2 (.c .non),
    .for1 3 .list [(.v 0)] [.asg 2 (.call 0 [(.v 2), (.v 3), (.c .non)])],
    .ret (.v 2)] [],
  .asg 4 (.bin .FloorDiv (.blt .len [(.v 0)]) (.c (.int 2))),
  .ret (.call 0 [(.call 1 [(.sl (.v 0) none (some (.v 4))), (.v 1)]), (.ix (.v 0) (.v 4)), (.call 1 [(.sl (.v 0) (some (.bin .Add (.v 4) (.c (.int 1)))) none), (.v 1)])])]
theorem sc_nodeL : FnScope N_nodeL P_nodeL (defScope s_nodeL) := ⟨by kernel_rfl, by kernel_rfl, by kernel_rfl, by decide +kernel, by kernel_rfl, by decide +kernel, by decide +kernel⟩
def f_nodeL : List Str := ["joined", "_law_node"]
def g_nodeL : List Str := []
def l_nodeL : List Str := ["len"]
def mn_nodeL : List Str := []
def kn_nodeL : List Str := []
theorem m_nodeL {CX : CXT} {Γ : RCx} {X : Cx} (G : GoodS CX (scx N_nodeL (defScope s_nodeL) f_nodeL g_nodeL l_nodeL mn_nodeL kn_nodeL) Γ X) : PSs X (defBody s_nodeL) (rdSs Γ b_nodeL) := by
  have g := G.toGood
  exact (s_cons (s_ite (t_cmp g (by kernel_rfl) (d_v g (by kernel_rfl)) (d_lst d_nil)) (s_cons (s_ret d_cn) s_nil) s_nil) (s_cons (s_ite (t_not (t_v g (d_v g (by kernel_rfl)))) (s_cons (s_asg G (by kernel_rfl) (by kernel_rfl) d_cn) (s_cons (s_for1 G (by kernel_rfl) (by kernel_rfl) (i_list g (d_v g (by kernel_rfl))) (s_cons (s_asg G (by kernel_rfl) (by kernel_rfl) (d_call g (by kernel_rfl) (by kernel_rfl) (d_cons (by kernel_rfl) (d_v g (by kernel_rfl)) (d_cons (by kernel_rfl) (d_v g (by kernel_rfl)) (d_cons (by kernel_rfl) d_cn d_nil))))) s_nil)) (s_cons (s_ret (d_v g (by kernel_rfl))) s_nil))) s_nil) (s_cons (s_asg G (by kernel_rfl) (by kernel_rfl) (d_bin g (d_blt g (by kernel_rfl) (by kernel_rfl) (d_cons (by kernel_rfl) (d_v g (by kernel_rfl)) d_nil)) d_ci)) (s_cons (s_ret (d_call g (by kernel_rfl) (by kernel_rfl) (d_cons (by kernel_rfl) (d_call g (by kernel_rfl) (by kernel_rfl) (d_cons (by kernel_rfl) (d_sl g (d_v g (by kernel_rfl)) d_no (d_some (d_v g (by kernel_rfl)))) (d_cons (by kernel_rfl) (d_v g (by kernel_rfl)) d_nil))) (d_cons (by kernel_rfl) (d_ix g (by kernel_rfl) (d_v g (by kernel_rfl)) (d_v g (by kernel_rfl))) (d_cons (by kernel_rfl) (d_call g (by kernel_rfl) (by kernel_rfl) (d_cons (by kernel_rfl) (d_sl g (d_v g (by kernel_rfl)) (d_some (d_bin g (d_v g (by kernel_rfl)) d_ci)) d_no) (d_cons (by kernel_rfl) (d_v g (by kernel_rfl)) d_nil))) d_nil))))) s_nil))))

/-! ### dueL -/
def s_dueL : Stmt := stAt 37
def N_dueL : List Str := ["_law_rows_here", "_law_place", "_law_signs", "_law_one", "_law_other", "_law_at", "_law_begin", "_law_size", "_law_ends", "_law_first"]
def P_dueL : List Str := ["_law_rows_here", "_law_place", "_law_signs"]
def b_dueL : List RS :=
  [.asg 3 (.lst []),
  .asg 4 (.lst []),
  .asg 5 (.c (.int 0)),
  .forT [6, 7, 8] .list [(.v 0)] [.asg 9 (.blt .max [(.c (.int 0)), (.blt .min [(.v 7), (.bin .Sub (.v 1) (.v 5))])]),
    .ite (.cmp .Gt (.v 9) (.c (.int 0))) [.drop (.mth .append (.v 3) [(.tup [(.v 6), (.v 9), (.mth .count (.sl (.v 2) (some (.v 6)) (some (.bin .Add (.v 6) (.v 9)))) [(.c (.str "\n"))])])])] [],
    .ite (.cmp .Lt (.v 9) (.v 7)) [.drop (.mth .append (.v 4) [(.tup [(.bin .Add (.v 6) (.v 9)), (.bin .Sub (.v 7) (.v 9)), (.mth .count (.sl (.v 2) (some (.bin .Add (.v 6) (.v 9))) (some (.bin .Add (.v 6) (.v 7)))) [(.c (.str "\n"))])])])] [],
    .asg 5 (.bin .Add (.v 5) (.v 7))],
  .ret (.tup [(.v 3), (.v 4)])]
theorem sc_dueL : FnScope N_dueL P_dueL (defScope s_dueL) := ⟨by kernel_rfl, by kernel_rfl, by kernel_rfl, by decide +kernel, by kernel_rfl, by decide +kernel, by decide +kernel⟩
def f_dueL : List Str := []
def g_dueL : List Str := []
def l_dueL : List Str := ["max", "min"]
def mn_dueL : List Str := []
def kn_dueL : List Str := []
theorem m_dueL {CX : CXT} {Γ : RCx} {X : Cx} (G : GoodS CX (scx N_dueL (defScope s_dueL) f_dueL g_dueL l_dueL mn_dueL kn_dueL) Γ X) : PSs X (defBody s_dueL) (rdSs Γ b_dueL) := by
  have g := G.toGood
  exact (s_cons (s_asg G (by kernel_rfl) (by kernel_rfl) (d_lst d_nil)) (s_cons (s_asg G (by kernel_rfl) (by kernel_rfl) (d_lst d_nil)) (s_cons (s_asg G (by kernel_rfl) (by kernel_rfl) d_ci) (s_cons (s_forT [(_, _), (_, _), (_, _)] G (by kernel_rfl) (by kernel_rfl) (i_list g (d_v g (by kernel_rfl))) (s_cons (s_asg G (by kernel_rfl) (by kernel_rfl) (d_blt g (by kernel_rfl) (by kernel_rfl) (d_cons (by kernel_rfl) d_ci (d_cons (by kernel_rfl) (d_blt g (by kernel_rfl) (by kernel_rfl) (d_cons (by kernel_rfl) (d_v g (by kernel_rfl)) (d_cons (by kernel_rfl) (d_bin g (d_v g (by kernel_rfl)) (d_v g (by kernel_rfl))) d_nil))) d_nil)))) (s_cons (s_ite (t_cmp g (by kernel_rfl) (d_v g (by kernel_rfl)) d_ci) (s_cons (s_drop (by kernel_rfl) (d_mth g (by kernel_rfl) (by kernel_rfl) (d_v g (by kernel_rfl)) (d_cons (by kernel_rfl) (d_tup (d_cons (by kernel_rfl) (d_v g (by kernel_rfl)) (d_cons (by kernel_rfl) (d_v g (by kernel_rfl)) (d_cons (by kernel_rfl) (d_mth g (by kernel_rfl) (by kernel_rfl) (d_sl g (d_v g (by kernel_rfl)) (d_some (d_v g (by kernel_rfl))) (d_some (d_bin g (d_v g (by kernel_rfl)) (d_v g (by kernel_rfl))))) (d_cons (by kernel_rfl) d_cs d_nil)) d_nil)))) d_nil))) s_nil) s_nil) (s_cons (s_ite (t_cmp g (by kernel_rfl) (d_v g (by kernel_rfl)) (d_v g (by kernel_rfl))) (s_cons (s_drop (by kernel_rfl) (d_mth g (by kernel_rfl) (by kernel_rfl) (d_v g (by kernel_rfl)) (d_cons (by kernel_rfl) (d_tup (d_cons (by kernel_rfl) (d_bin g (d_v g (by kernel_rfl)) (d_v g (by kernel_rfl))) (d_cons (by kernel_rfl) (d_bin g (d_v g (by kernel_rfl)) (d_v g (by kernel_rfl))) (d_cons (by kernel_rfl) (d_mth g (by kernel_rfl) (by kernel_rfl) (d_sl g (d_v g (by kernel_rfl)) (d_some (d_bin g (d_v g (by kernel_rfl)) (d_v g (by kernel_rfl)))) (d_some (d_bin g (d_v g (by kernel_rfl)) (d_v g (by kernel_rfl))))) (d_cons (by kernel_rfl) d_cs d_nil)) d_nil)))) d_nil))) s_nil) s_nil) (s_cons (s_asg G (by kernel_rfl) (by kernel_rfl) (d_bin g (d_v g (by kernel_rfl)) (d_v g (by kernel_rfl)))) s_nil))))) (s_cons (s_ret (d_tup (d_cons (by kernel_rfl) (d_v g (by kernel_rfl)) (d_cons (by kernel_rfl) (d_v g (by kernel_rfl)) d_nil)))) s_nil)))))

/-! ### law -/
def s_law : Stmt := stAt 38
def N_law : List Str := ["_law_script", "_law_signs", "_law_stock", "_law_rows_here", "_law_node_here", "_law_whole_here", "_law_k", "_law_cell", "_law_place", "_law_found", "_law_both"]
def P_law : List Str := ["_law_script"]
def b_law : List RS :=
  [.asg 1 (.call 0 [(.call 1 [(.v 0), (.c (.int 0))]), (.bin .Add (.c (.int 20)) (.bin .Mod (.call 1 [(.v 0), (.c (.int 0))]) (.c (.int 40))))]),
  .asg 2 (.make 0 []),
  .drop (.meth 0 "put" (.v 2) [(.v 1)]),
  .asg 3 (.call 2 [(.v 0), (.v 1)]),
  .asg 4 (.call 3 [(.v 3), (.cmp .Eq (.bin .Mod (.call 1 [(.v 0), (.c (.int 1))]) (.c (.int 2))) (.c (.int 1)))]),
  .asg 5 (.call 4 [(.v 4)]),
  .ite (.or [(.cmp .Is (.v 5) (.c .non)), (.cmp .NotEq (.ix (.v 5) (.c (.int 1))) (.blt .sum [(.comp none [] .list [(.v 3)] none (.ix (.v 0) (.c (.int 1))))]))]) [.ret (.c (.bl false))] [],
  .for1 6 .rng [(.c (.int 4))] [.asg 7 (.call 1 [(.v 0), (.bin .Add (.c (.int 12)) (.v 6))]),
    .asg 8 (.ix (.lst [(.c (.int 0)), (.ix (.v 5) (.c (.int 1))), (.bin .Mod (.bin .FloorDiv (.v 7) (.c (.int 5))) (.bin .Add (.ix (.v 5) (.c (.int 1))) (.c (.int 1)))), (.bin .Mod (.bin .FloorDiv (.v 7) (.c (.int 5))) (.bin .Add (.ix (.v 5) (.c (.int 1))) (.c (.int 1)))), (.bin .FloorDiv (.ix (.v 5) (.c (.int 1))) (.c (.int 2)))]) (.bin .Mod (.v 7) (.c (.int 5)))),
    .asg 9 (.call 5 [(.v 4), (.v 8), (.v 2)]),
    .ite (.or [(.not (.isi .tuple (.v 9))), (.cmp .NotEq (.blt .len [(.v 9)]) (.c (.int 2)))]) [.ret (.c (.bl false))] [],
    .ite (.or [(.cmp .Is (.call 4 [(.ix (.v 9) (.c (.int 0)))]) (.c .non)), (.cmp .Is (.call 4 [(.ix (.v 9) (.c (.int 1)))]) (.c .non)), (.cmp .NotEq (.call 6 [(.ix (.v 9) (.c (.int 0)))]) (.v 8))]) [.ret (.c (.bl false))] [],
    .ite (.cmp .NotEq (.tup [(.call 7 [(.ix (.v 9) (.c (.int 0)))]), (.call 7 [(.ix (.v 9) (.c (.int 1)))])]) (.call 8 [(.v 3), (.v 8), (.v 1)])) [.ret (.c (.bl false))] [],
    .asg 10 (.call 9 [(.ix (.v 9) (.c (.int 0))), (.ix (.v 9) (.c (.int 1)))]),
    .ite (.or [(.cmp .Is (.call 4 [(.v 10)]) (.c .non)), (.cmp .NotEq (.call 6 [(.v 10)]) (.ix (.v 5) (.c (.int 1))))]) [.ret (.c (.bl false))] [],
    .ite (.cmp .NotEq (.call 7 [(.v 10)]) (.bin .Add (.ix (.call 8 [(.v 3), (.v 8), (.v 1)]) (.c (.int 0))) (.ix (.call 8 [(.v 3), (.v 8), (.v 1)]) (.c (.int 1))))) [.ret (.c (.bl false))] []],
  .ret (.and [(.cmp .Eq (.call 7 [(.v 4)]) (.v 3)), (.cmp .Eq (.meth 1 "many" (.v 2) []) (.blt .len [(.v 1)])), (.cmp .Eq (.meth 2 "read" (.v 2) [(.c (.int 0)), (.blt .len [(.v 1)])]) (.v 1))])]
theorem sc_law : FnScope N_law P_law (defScope s_law) := ⟨by kernel_rfl, by kernel_rfl, by kernel_rfl, by decide +kernel, by kernel_rfl, by decide +kernel, by decide +kernel⟩
def f_law : List Str := ["_law_text_by", "_law_cell_at", "_law_rows", "_law_node", "_law_good", "parted", "size_of", "_law_pieces", "_law_due", "met"]
def g_law : List Str := []
def l_law : List Str := ["sum", "range", "isinstance", "tuple", "len"]
def mn_law : List Str := ["put", "many", "read"]
def kn_law : List Str := ["Stock"]
theorem m_law {CX : CXT} {Γ : RCx} {X : Cx} (G : GoodS CX (scx N_law (defScope s_law) f_law g_law l_law mn_law kn_law) Γ X) : PSs X (defBody s_law) (rdSs Γ b_law) := by
  have g := G.toGood
  exact (s_cons (s_asg G (by kernel_rfl) (by kernel_rfl) (d_call g (by kernel_rfl) (by kernel_rfl) (d_cons (by kernel_rfl) (d_call g (by kernel_rfl) (by kernel_rfl) (d_cons (by kernel_rfl) (d_v g (by kernel_rfl)) (d_cons (by kernel_rfl) d_ci d_nil))) (d_cons (by kernel_rfl) (d_bin g d_ci (d_bin g (d_call g (by kernel_rfl) (by kernel_rfl) (d_cons (by kernel_rfl) (d_v g (by kernel_rfl)) (d_cons (by kernel_rfl) d_ci d_nil))) d_ci)) d_nil)))) (s_cons (s_asg G (by kernel_rfl) (by kernel_rfl) (d_make0 g (by kernel_rfl))) (s_cons (s_drop (by kernel_rfl) (d_meth g (by kernel_rfl) (by kernel_rfl) (d_v g (by kernel_rfl)) (d_cons (by kernel_rfl) (d_v g (by kernel_rfl)) d_nil))) (s_cons (s_asg G (by kernel_rfl) (by kernel_rfl) (d_call g (by kernel_rfl) (by kernel_rfl) (d_cons (by kernel_rfl) (d_v g (by kernel_rfl)) (d_cons (by kernel_rfl) (d_v g (by kernel_rfl)) d_nil)))) (s_cons (s_asg G (by kernel_rfl) (by kernel_rfl) (d_call g (by kernel_rfl) (by kernel_rfl) (d_cons (by kernel_rfl) (d_v g (by kernel_rfl)) (d_cons (by kernel_rfl) (d_cmp g (by kernel_rfl) (d_bin g (d_call g (by kernel_rfl) (by kernel_rfl) (d_cons (by kernel_rfl) (d_v g (by kernel_rfl)) (d_cons (by kernel_rfl) d_ci d_nil))) d_ci) d_ci) d_nil)))) (s_cons (s_asg G (by kernel_rfl) (by kernel_rfl) (d_call g (by kernel_rfl) (by kernel_rfl) (d_cons (by kernel_rfl) (d_v g (by kernel_rfl)) d_nil))) (s_cons (s_ite (PW.pt (t_or (t_cmp g (by kernel_rfl) (d_v g (by kernel_rfl)) d_cn) (t_or1 (t_cmp g (by kernel_rfl) (d_ix g (by kernel_rfl) (d_v g (by kernel_rfl)) d_ci) (d_blt g (by kernel_rfl) (by kernel_rfl) (d_cons (by kernel_rfl) (d_comp (ln := ["_law_row"]) g (by kernel_rfl) (i_list g (d_v g (by kernel_rfl))) d_if0 (fun _ g => (d_ix g (by kernel_rfl) (d_v g (by kernel_rfl)) d_ci))) d_nil)))))) (s_cons (s_ret d_cb) s_nil) s_nil) (s_cons (s_for1 G (by kernel_rfl) (by kernel_rfl) (i_rng g (by kernel_rfl) (by kernel_rfl) d_ci) (s_cons (s_asg G (by kernel_rfl) (by kernel_rfl) (d_call g (by kernel_rfl) (by kernel_rfl) (d_cons (by kernel_rfl) (d_v g (by kernel_rfl)) (d_cons (by kernel_rfl) (d_bin g d_ci (d_v g (by kernel_rfl))) d_nil)))) (s_cons (s_asg G (by kernel_rfl) (by kernel_rfl) (d_ix g (by kernel_rfl) (d_lst (d_cons (by kernel_rfl) d_ci (d_cons (by kernel_rfl) (d_ix g (by kernel_rfl) (d_v g (by kernel_rfl)) d_ci) (d_cons (by kernel_rfl) (d_bin g (d_bin g (d_v g (by kernel_rfl)) d_ci) (d_bin g (d_ix g (by kernel_rfl) (d_v g (by kernel_rfl)) d_ci) d_ci)) (d_cons (by kernel_rfl) (d_bin g (d_bin g (d_v g (by kernel_rfl)) d_ci) (d_bin g (d_ix g (by kernel_rfl) (d_v g (by kernel_rfl)) d_ci) d_ci)) (d_cons (by kernel_rfl) (d_bin g (d_ix g (by kernel_rfl) (d_v g (by kernel_rfl)) d_ci) d_ci) d_nil)))))) (d_bin g (d_v g (by kernel_rfl)) d_ci))) (s_cons (s_asg G (by kernel_rfl) (by kernel_rfl) (d_call g (by kernel_rfl) (by kernel_rfl) (d_cons (by kernel_rfl) (d_v g (by kernel_rfl)) (d_cons (by kernel_rfl) (d_v g (by kernel_rfl)) (d_cons (by kernel_rfl) (d_v g (by kernel_rfl)) d_nil))))) (s_cons (s_ite (PW.pt (t_or (t_not (t_isi g (d_isi g (by kernel_rfl) (by kernel_rfl) (by kernel_rfl) (d_v g (by kernel_rfl))))) (t_or1 (t_cmp g (by kernel_rfl) (d_blt g (by kernel_rfl) (by kernel_rfl) (d_cons (by kernel_rfl) (d_v g (by kernel_rfl)) d_nil)) d_ci)))) (s_cons (s_ret d_cb) s_nil) s_nil) (s_cons (s_ite (PW.pt (t_or (t_cmp g (by kernel_rfl) (d_call g (by kernel_rfl) (by kernel_rfl) (d_cons (by kernel_rfl) (d_ix g (by kernel_rfl) (d_v g (by kernel_rfl)) d_ci) d_nil)) d_cn) (t_or (t_cmp g (by kernel_rfl) (d_call g (by kernel_rfl) (by kernel_rfl) (d_cons (by kernel_rfl) (d_ix g (by kernel_rfl) (d_v g (by kernel_rfl)) d_ci) d_nil)) d_cn) (t_or1 (t_cmp g (by kernel_rfl) (d_call g (by kernel_rfl) (by kernel_rfl) (d_cons (by kernel_rfl) (d_ix g (by kernel_rfl) (d_v g (by kernel_rfl)) d_ci) d_nil)) (d_v g (by kernel_rfl))))))) (s_cons (s_ret d_cb) s_nil) s_nil) (s_cons (s_ite (t_cmp g (by kernel_rfl) (d_tup (d_cons (by kernel_rfl) (d_call g (by kernel_rfl) (by kernel_rfl) (d_cons (by kernel_rfl) (d_ix g (by kernel_rfl) (d_v g (by kernel_rfl)) d_ci) d_nil)) (d_cons (by kernel_rfl) (d_call g (by kernel_rfl) (by kernel_rfl) (d_cons (by kernel_rfl) (d_ix g (by kernel_rfl) (d_v g (by kernel_rfl)) d_ci) d_nil)) d_nil))) (d_call g (by kernel_rfl) (by kernel_rfl) (d_cons (by kernel_rfl) (d_v g (by kernel_rfl)) (d_cons (by kernel_rfl) (d_v g (by kernel_rfl)) (d_cons (by kernel_rfl) (d_v g (by kernel_rfl)) d_nil))))) (s_cons (s_ret d_cb) s_nil) s_nil) (s_cons (s_asg G (by kernel_rfl) (by kernel_rfl) (d_call g (by kernel_rfl) (by kernel_rfl) (d_cons (by kernel_rfl) (d_ix g (by kernel_rfl) (d_v g (by kernel_rfl)) d_ci) (d_cons (by kernel_rfl) (d_ix g (by kernel_rfl) (d_v g (by kernel_rfl)) d_ci) d_nil)))) (s_cons (s_ite (PW.pt (t_or (t_cmp g (by kernel_rfl) (d_call g (by kernel_rfl) (by kernel_rfl) (d_cons (by kernel_rfl) (d_v g (by kernel_rfl)) d_nil)) d_cn) (t_or1 (t_cmp g (by kernel_rfl) (d_call g (by kernel_rfl) (by kernel_rfl) (d_cons (by kernel_rfl) (d_v g (by kernel_rfl)) d_nil)) (d_ix g (by kernel_rfl) (d_v g (by kernel_rfl)) d_ci))))) (s_cons (s_ret d_cb) s_nil) s_nil) (s_cons (s_ite (t_cmp g (by kernel_rfl) (d_call g (by kernel_rfl) (by kernel_rfl) (d_cons (by kernel_rfl) (d_v g (by kernel_rfl)) d_nil)) (d_bin g (d_ix g (by kernel_rfl) (d_call g (by kernel_rfl) (by kernel_rfl) (d_cons (by kernel_rfl) (d_v g (by kernel_rfl)) (d_cons (by kernel_rfl) (d_v g (by kernel_rfl)) (d_cons (by kernel_rfl) (d_v g (by kernel_rfl)) d_nil)))) d_ci) (d_ix g (by kernel_rfl) (d_call g (by kernel_rfl) (by kernel_rfl) (d_cons (by kernel_rfl) (d_v g (by kernel_rfl)) (d_cons (by kernel_rfl) (d_v g (by kernel_rfl)) (d_cons (by kernel_rfl) (d_v g (by kernel_rfl)) d_nil)))) d_ci))) (s_cons (s_ret d_cb) s_nil) s_nil) s_nil)))))))))) (s_cons (s_ret (d_and (d_cmp g (by kernel_rfl) (d_call g (by kernel_rfl) (by kernel_rfl) (d_cons (by kernel_rfl) (d_v g (by kernel_rfl)) d_nil)) (d_v g (by kernel_rfl))) (d_and (d_cmp g (by kernel_rfl) (d_meth0 g (by kernel_rfl) (d_v g (by kernel_rfl))) (d_blt g (by kernel_rfl) (by kernel_rfl) (d_cons (by kernel_rfl) (d_v g (by kernel_rfl)) d_nil))) (d_and1 (d_cmp g (by kernel_rfl) (d_meth g (by kernel_rfl) (by kernel_rfl) (d_v g (by kernel_rfl)) (d_cons (by kernel_rfl) d_ci (d_cons (by kernel_rfl) (d_blt g (by kernel_rfl) (by kernel_rfl) (d_cons (by kernel_rfl) (d_v g (by kernel_rfl)) d_nil)) d_nil))) (d_v g (by kernel_rfl))))))) s_nil)))))))))
end L2.K14

namespace L2.K13
inductive Tr where
  | nil | node (l : Tr) (a b c : Int) (r : Tr)
namespace Tr
def h : Tr → Int
  | nil => 0
  | node l _ _ _ r => 1 + (if r.h > l.h then r.h else l.h)
def sz : Tr → Int
  | nil => 0
  | node l _ b _ r => l.sz + b + r.sz
def en : Tr → Int
  | nil => 0
  | node l _ _ c r => l.en + c + r.en
def pcs : Tr → List (Int × Int × Int)
  | nil => []
  | node l a b c r => l.pcs ++ (a, b, c) :: r.pcs
def ok : Tr → Prop
  | nil => True
  | node l _ _ _ r => l.ok ∧ r.ok ∧ l.h ≤ r.h + 1 ∧ r.h ≤ l.h + 1
theorem h0 : ∀ t : Tr, 0 ≤ t.h
  | nil => Int.le_refl _
  | node l _ _ _ r => by
    have := h0 l
    have := h0 r
    show 0 ≤ 1 + (if r.h > l.h then r.h else l.h)
    split <;> omega
theorem h_pos : ∀ {t : Tr}, 0 < t.h → ∃ l a b c r, t = node l a b c r
  | nil, h => absurd h (by decide)
  | node l a b c r, _ => ⟨l, a, b, c, r, rfl⟩
theorem h_node (l : Tr) (a b c : Int) (r : Tr) : (node l a b c r).h = 1 + (if r.h > l.h then r.h else l.h) := rfl
theorem pcs_len : ∀ {t : Tr} (n : Nat), t.ok → (n : Int) ≤ t.h → 2 ^ (n / 2) ≤ t.pcs.length + 1
  | nil, n, _, hn => by
    have : n = 0 := by
      have : (n : Int) ≤ 0 := hn
      omega
    subst this; decide
  | node l a b c r, n, ho, hn => by
    obtain ⟨o1, o2, o3, o4⟩ := ho
    rw [h_node] at hn
    simp only [pcs, List.length_append, List.length_cons]
    match n with
    | 0 => simp
    | 1 => simp
    | n + 2 =>
      have e : (n + 2) / 2 = n / 2 + 1 := by omega
      rw [e, Nat.pow_succ]
      have k1 : (n : Int) ≤ l.h := by split at hn <;> omega
      have k2 : (n : Int) ≤ r.h := by split at hn <;> omega
      have i1 := pcs_len n o1 k1
      have i2 := pcs_len n o2 k2
      omega
theorem h_small {t : Tr} (ho : t.ok) (hn : t.pcs.length ≤ 200) : t.h ≤ 15 := by
  by_cases hh : t.h ≤ 15
  · exact hh
  · have := pcs_len 16 ho (by omega)
    omega

/-- what a turn gives -/
structure Lev (l : Tr) (a b c : Int) (r t : Tr) : Prop where
  ok : t.ok
  pcs : t.pcs = l.pcs ++ (a, b, c) :: r.pcs
  near : l.h ≤ r.h + 1 → r.h ≤ l.h + 1 → t.h = 1 + (if r.h > l.h then r.h else l.h)
  lo : l.h ≤ t.h ∧ r.h ≤ t.h
  hi : t.h ≤ l.h + 1 ∨ t.h ≤ r.h + 1
theorem lev_made {l r : Tr} {a b c : Int} (o1 : l.ok) (o2 : r.ok) (h1 : l.h ≤ r.h + 1) (h2 : r.h ≤ l.h + 1) : Lev l a b c r (node l a b c r) := by
  refine ⟨⟨o1, o2, h1, h2⟩, rfl, fun _ _ => rfl, ?_, ?_⟩
  all_goals rw [h_node]; split <;> omega
theorem lev_r1 {ll lr r : Tr} {a b c a' b' c' : Int} (o1 : (node ll a b c lr).ok) (o2 : r.ok) (h1 : (node ll a b c lr).h = r.h + 2) (hh : lr.h ≤ ll.h) :
    Lev (node ll a b c lr) a' b' c' r (node ll a b c (node lr a' b' c' r)) := by
  obtain ⟨p1, p2, p3, p4⟩ := o1
  have e1 := h_node ll a b c lr
  have e2 := h_node lr a' b' c' r
  have e3 := h_node ll a b c (node lr a' b' c' r)
  rw [h1] at e1
  have k : r.h + 1 = ll.h := by rw [if_neg (by omega)] at e1; omega
  refine ⟨⟨p1, ⟨p2, o2, by omega, by omega⟩, ?_, ?_⟩, by simp [pcs], fun q1 q2 => absurd h1 (by omega), ?_, ?_⟩
  · rw [e2]; split <;> omega
  · rw [e2]; split <;> omega
  · rw [e3, e2, h1]; constructor <;> ((repeat' split) <;> omega)
  · rw [e3, e2, h1]; left; (split <;> split <;> omega)
theorem lev_r2 {ll il ir r : Tr} {a b c a' b' c' x y z : Int} (o1 : (node ll a b c (node il x y z ir)).ok) (o2 : r.ok) (h1 : (node ll a b c (node il x y z ir)).h = r.h + 2) (hh : ll.h < (node il x y z ir).h) :
    Lev (node ll a b c (node il x y z ir)) a' b' c' r (node (node ll a b c il) x y z (node ir a' b' c' r)) := by
  obtain ⟨p1, ⟨p5, p6, p7, p8⟩, p3, p4⟩ := o1
  have e1 := h_node ll a b c (node il x y z ir)
  have e2 := h_node il x y z ir
  have e3 := h_node ll a b c il
  have e4 := h_node ir a' b' c' r
  have e5 := h_node (node ll a b c il) x y z (node ir a' b' c' r)
  rw [h1, if_pos (by omega)] at e1
  have k1 : ll.h = r.h := by omega
  have k2 : il.h ≤ r.h ∧ ir.h ≤ r.h := by rw [e2] at e1; split at e1 <;> omega
  have k3 : r.h - 1 ≤ il.h ∧ r.h - 1 ≤ ir.h := by rw [e2] at e1; split at e1 <;> omega
  have f3 : (node ll a b c il).h = r.h + 1 := by rw [e3]; split <;> omega
  have f4 : (node ir a' b' c' r).h = r.h + 1 := by rw [e4]; split <;> omega
  have f5 : (node (node ll a b c il) x y z (node ir a' b' c' r)).h = r.h + 2 := by rw [e5, f3, f4]; split <;> omega
  refine ⟨⟨⟨p1, p5, by omega, by omega⟩, ⟨p6, o2, by omega, by omega⟩, by omega, by omega⟩, by simp [pcs], fun q1 q2 => absurd h1 (by omega), by omega, by omega⟩
theorem lev_l1 {l rl rr : Tr} {a b c a' b' c' : Int} (o1 : l.ok) (o2 : (node rl a' b' c' rr).ok) (h1 : (node rl a' b' c' rr).h = l.h + 2) (hh : rl.h ≤ rr.h) :
    Lev l a b c (node rl a' b' c' rr) (node (node l a b c rl) a' b' c' rr) := by
  obtain ⟨p1, p2, p3, p4⟩ := o2
  have e1 := h_node rl a' b' c' rr
  have e2 := h_node l a b c rl
  have e3 := h_node (node l a b c rl) a' b' c' rr
  rw [h1] at e1
  have k : l.h + 1 = rr.h := by split at e1 <;> omega
  refine ⟨⟨⟨o1, p1, by omega, by omega⟩, p2, ?_, ?_⟩, by simp [pcs], fun q1 q2 => absurd h1 (by omega), ?_, ?_⟩
  · rw [e2]; split <;> omega
  · rw [e2]; split <;> omega
  · rw [e3, e2, h1]; constructor <;> ((repeat' split) <;> omega)
  · rw [e3, e2, h1]; right; (split <;> split <;> omega)
theorem lev_l2 {l il ir rr : Tr} {a b c a' b' c' x y z : Int} (o1 : l.ok) (o2 : (node (node il x y z ir) a' b' c' rr).ok) (h1 : (node (node il x y z ir) a' b' c' rr).h = l.h + 2) (hh : rr.h < (node il x y z ir).h) :
    Lev l a b c (node (node il x y z ir) a' b' c' rr) (node (node l a b c il) x y z (node ir a' b' c' rr)) := by
  obtain ⟨⟨p5, p6, p7, p8⟩, p2, p3, p4⟩ := o2
  have e1 := h_node (node il x y z ir) a' b' c' rr
  have e2 := h_node il x y z ir
  have e3 := h_node l a b c il
  have e4 := h_node ir a' b' c' rr
  have e5 := h_node (node l a b c il) x y z (node ir a' b' c' rr)
  rw [h1, if_neg (by omega)] at e1
  have k1 : l.h = rr.h := by omega
  have k2 : il.h ≤ l.h ∧ ir.h ≤ l.h := by rw [e2] at e1; split at e1 <;> omega
  have k3 : l.h - 1 ≤ il.h ∧ l.h - 1 ≤ ir.h := by rw [e2] at e1; split at e1 <;> omega
  have f3 : (node l a b c il).h = l.h + 1 := by rw [e3]; split <;> omega
  have f4 : (node ir a' b' c' rr).h = l.h + 1 := by rw [e4]; split <;> omega
  have f5 : (node (node l a b c il) x y z (node ir a' b' c' rr)).h = l.h + 2 := by rw [e5, f3, f4]; split <;> omega
  refine ⟨⟨⟨o1, p5, by omega, by omega⟩, ⟨p6, p2, by omega, by omega⟩, by omega, by omega⟩, by simp [pcs], fun q1 q2 => absurd h1 (by omega), by omega, by omega⟩

/-- what joining gives -/
structure Jn (l : Tr) (a b c : Int) (r t : Tr) : Prop where
  ok : t.ok
  pcs : t.pcs = l.pcs ++ (a, b, c) :: r.pcs
  lo : l.h ≤ t.h ∧ r.h ≤ t.h
  hi : t.h ≤ l.h + 1 ∨ t.h ≤ r.h + 1
theorem jn_made {l r : Tr} {a b c : Int} (o1 : l.ok) (o2 : r.ok) (h1 : l.h ≤ r.h + 1) (h2 : r.h ≤ l.h + 1) : Jn l a b c r (node l a b c r) :=
  let L := lev_made (a := a) (b := b) (c := c) o1 o2 h1 h2
  ⟨L.ok, L.pcs, L.lo, L.hi⟩
/-- the left one is higher -/
theorem jn_l {ll lr r j t : Tr} {a b c a' b' c' : Int} (o1 : (node ll a b c lr).ok) (hh : r.h + 1 < (node ll a b c lr).h) (J : Jn lr a' b' c' r j) (L : Lev ll a b c j t) :
    Jn (node ll a b c lr) a' b' c' r t := by
  obtain ⟨p1, p2, p3, p4⟩ := o1
  have e1 := h_node ll a b c lr
  have j1 := J.lo
  have j2 := J.hi
  have l1 := L.lo
  have l2 := L.hi
  have l3 := L.near
  have hlr : r.h ≤ lr.h := by rw [e1] at hh; split at hh <;> omega
  have hj : j.h = lr.h ∨ j.h = lr.h + 1 := by omega
  refine ⟨L.ok, by rw [L.pcs, J.pcs]; simp [pcs], ?_, ?_⟩
  · rw [e1]
    by_cases q : ll.h ≤ j.h + 1 ∧ j.h ≤ ll.h + 1
    · have := l3 q.1 q.2
      rw [this]
      constructor <;> ((repeat' split) <;> omega)
    · constructor <;> ((repeat' split) <;> omega)
  · rw [e1]
    left
    by_cases q : ll.h ≤ j.h + 1 ∧ j.h ≤ ll.h + 1
    · have := l3 q.1 q.2
      rw [this]
      split <;> split <;> omega
    · split <;> omega
/-- the right one is higher -/
theorem jn_r {l rl rr j t : Tr} {a b c a' b' c' : Int} (o2 : (node rl a' b' c' rr).ok) (hh : l.h + 1 < (node rl a' b' c' rr).h) (J : Jn l a b c rl j) (L : Lev j a' b' c' rr t) :
    Jn l a b c (node rl a' b' c' rr) t := by
  obtain ⟨p1, p2, p3, p4⟩ := o2
  have e1 := h_node rl a' b' c' rr
  have j1 := J.lo
  have j2 := J.hi
  have l1 := L.lo
  have l2 := L.hi
  have l3 := L.near
  have hlr : l.h ≤ rl.h := by rw [e1] at hh; split at hh <;> omega
  have hj : j.h = rl.h ∨ j.h = rl.h + 1 := by omega
  refine ⟨L.ok, by rw [L.pcs, J.pcs]; simp [pcs], ?_, ?_⟩
  · rw [e1]
    by_cases q : j.h ≤ rr.h + 1 ∧ rr.h ≤ j.h + 1
    · have := l3 q.1 q.2
      rw [this]
      constructor <;> ((repeat' split) <;> omega)
    · constructor <;> ((repeat' split) <;> omega)
  · rw [e1]
    right
    by_cases q : j.h ≤ rr.h + 1 ∧ rr.h ≤ j.h + 1
    · have := l3 q.1 q.2
      rw [this]
      split <;> split <;> omega
    · split <;> omega
theorem near2_l {ll lr r j : Tr} {a b c a' b' c' : Int} (o1 : (node ll a b c lr).ok) (hh : r.h + 1 < (node ll a b c lr).h) (J : Jn lr a' b' c' r j) : ll.h ≤ j.h + 2 ∧ j.h ≤ ll.h + 2 := by
  obtain ⟨p1, p2, p3, p4⟩ := o1
  have e1 := h_node ll a b c lr
  have j1 := J.lo
  have j2 := J.hi
  have hlr : r.h ≤ lr.h := by rw [e1] at hh; split at hh <;> omega
  omega
theorem near2_r {l rl rr j : Tr} {a b c a' b' c' : Int} (o2 : (node rl a' b' c' rr).ok) (hh : l.h + 1 < (node rl a' b' c' rr).h) (J : Jn l a b c rl j) : j.h ≤ rr.h + 2 ∧ rr.h ≤ j.h + 2 := by
  obtain ⟨p1, p2, p3, p4⟩ := o2
  have e1 := h_node rl a' b' c' rr
  have j1 := J.lo
  have j2 := J.hi
  have hlr : l.h ≤ rl.h := by rw [e1] at hh; split at hh <;> omega
  omega
end Tr
end L2.K13

namespace L2.K14
abbrev P3 := Int × Int × Int
def psz (ps : List P3) : Int := (ps.map fun p => p.2.1).sum
def cutL (F : Int → Int) : List P3 → Int → List P3
  | [], _ => []
  | p :: ps, n => if n ≤ 0 then [] else if p.2.1 ≤ n then p :: cutL F ps (n - p.2.1) else [(p.1, n, F (p.1 + n) - F p.1)]
def cutR (F : Int → Int) : List P3 → Int → List P3
  | [], _ => []
  | p :: ps, n => if n ≤ 0 then p :: ps else if p.2.1 ≤ n then cutR F ps (n - p.2.1) else (p.1 + n, p.2.1 - n, p.2.2 - (F (p.1 + n) - F p.1)) :: ps
theorem psz_nil : psz [] = 0 := rfl
theorem psz_cons (p : P3) (ps : List P3) : psz (p :: ps) = p.2.1 + psz ps := by simp [psz]
theorem psz_app (a b : List P3) : psz (a ++ b) = psz a + psz b := by simp [psz]
theorem cut0 (F : Int → Int) {n : Int} (h : n ≤ 0) : ∀ ps : List P3, cutL F ps n = [] ∧ cutR F ps n = ps
  | [] => ⟨rfl, rfl⟩
  | p :: ps => by simp [cutL, cutR, h]
theorem psz_pos : ∀ {ps : List P3}, (∀ p ∈ ps, 1 ≤ p.2.1) → 0 ≤ psz ps
  | [], _ => Int.le_refl _
  | p :: ps, h => by
    have := psz_pos (ps := ps) fun q hq => h q (List.mem_cons_of_mem _ hq)
    have := h p List.mem_cons_self
    rw [psz_cons]; omega
theorem cut_le (F : Int → Int) (ys : List P3) : ∀ (xs : List P3) (n : Int), (∀ p ∈ xs, 1 ≤ p.2.1) → n ≤ psz xs → cutL F (xs ++ ys) n = cutL F xs n ∧ cutR F (xs ++ ys) n = cutR F xs n ++ ys
  | [], n, _, h => by
    have h : n ≤ 0 := h
    obtain ⟨a, b⟩ := cut0 F h ys
    exact ⟨a, b⟩
  | p :: xs, n, hp, h => by
    rw [psz_cons] at h
    have ih := cut_le F ys xs (n - p.2.1) (fun q hq => hp q (List.mem_cons_of_mem _ hq)) (by omega)
    simp only [List.cons_append, cutL, cutR]
    rw [ih.1, ih.2]
    constructor
    · rfl
    · split
      · rfl
      · split <;> rfl
theorem cut_ge (F : Int → Int) (ys : List P3) : ∀ (xs : List P3) (n : Int), (∀ p ∈ xs, 1 ≤ p.2.1) → psz xs ≤ n → cutL F (xs ++ ys) n = xs ++ cutL F ys (n - psz xs) ∧ cutR F (xs ++ ys) n = cutR F ys (n - psz xs)
  | [], n, _, h => by rw [psz_nil, Int.sub_zero]; exact ⟨rfl, rfl⟩
  | p :: xs, n, hp, h => by
    have h1 := hp p List.mem_cons_self
    have h2 := psz_pos fun q hq => hp q (List.mem_cons_of_mem _ hq)
    rw [psz_cons] at h ⊢
    have ih := cut_ge F ys xs (n - p.2.1) (fun q hq => hp q (List.mem_cons_of_mem _ hq)) (by omega)
    have e : n - p.2.1 - psz xs = n - (p.2.1 + psz xs) := by omega
    rw [e] at ih
    simp only [List.cons_append, cutL, cutR]
    rw [if_neg (by omega), if_pos (by omega), if_neg (by omega), if_pos (by omega), ih.1, ih.2]
    exact ⟨rfl, rfl⟩
theorem cut_sz (F : Int → Int) : ∀ (xs : List P3) (n : Int), (∀ p ∈ xs, 1 ≤ p.2.1) → 0 ≤ n → n ≤ psz xs → psz (cutL F xs n) = n ∧ psz (cutR F xs n) = psz xs - n ∧ (∀ p ∈ cutL F xs n, 1 ≤ p.2.1) ∧ (∀ p ∈ cutR F xs n, 1 ≤ p.2.1)
  | [], n, _, h0, h => by
    have h : n ≤ 0 := h
    obtain rfl : n = 0 := by omega
    exact ⟨rfl, rfl, by simp [cutL], by simp [cutR]⟩
  | p :: xs, n, hp, h0, h => by
    have h1 := hp p List.mem_cons_self
    have hx := fun q hq => hp q (List.mem_cons_of_mem _ hq)
    rw [psz_cons] at h
    simp only [cutL, cutR]
    by_cases c : n ≤ 0
    · rw [if_pos c, if_pos c]
      exact ⟨by rw [psz_nil]; omega, by omega, by simp, hp⟩
    · rw [if_neg c, if_neg c]
      by_cases d : p.2.1 ≤ n
      · rw [if_pos d, if_pos d]
        obtain ⟨i1, i2, i3, i4⟩ := cut_sz F xs (n - p.2.1) hx (by omega) (by omega)
        refine ⟨by rw [psz_cons, i1]; omega, by rw [psz_cons, i2]; omega, fun q hq => ?_, i4⟩
        rcases List.mem_cons.mp hq with rfl | z
        · exact h1
        · exact i3 q z
      · rw [if_neg d, if_neg d]
        refine ⟨by simp [psz], by rw [psz_cons, psz_cons]; simp; omega, fun q hq => ?_, fun q hq => ?_⟩
        · rw [List.mem_singleton] at hq
          subst hq
          show 1 ≤ n
          omega
        · rcases List.mem_cons.mp hq with rfl | z
          · show 1 ≤ p.2.1 - n
            omega
          · exact hx q z
theorem cut_len (F : Int → Int) : ∀ (xs : List P3) (n : Int), (cutL F xs n).length ≤ xs.length ∧ (cutR F xs n).length ≤ xs.length
  | [], n => ⟨Nat.le_refl _, Nat.le_refl _⟩
  | p :: xs, n => by
    obtain ⟨a, b⟩ := cut_len F xs (n - p.2.1)
    simp only [cutL, cutR]
    split
    · exact ⟨Nat.zero_le _, Nat.le_refl _⟩
    · split <;> simp <;> omega
end L2.K14

namespace L2.K14
def frst (b n : Int) : Int := if (if n < b then n else b) > 0 then (if n < b then n else b) else 0
theorem due_step (F : Int → Int) {xs : List P3} {a b c pl : Int} (hx : ∀ p ∈ xs, 1 ≤ p.2.1) (hb : 1 ≤ b) (hc : c = F (a + b) - F a) :
    cutL F (xs ++ [(a, b, c)]) pl = (if 0 < frst b (pl - psz xs) then cutL F xs pl ++ [(a, frst b (pl - psz xs), F (a + frst b (pl - psz xs)) - F a)] else cutL F xs pl) ∧
    cutR F (xs ++ [(a, b, c)]) pl = (if frst b (pl - psz xs) < b then cutR F xs pl ++ [(a + frst b (pl - psz xs), b - frst b (pl - psz xs), F (a + b) - F (a + frst b (pl - psz xs)))] else cutR F xs pl) := by
  subst hc
  by_cases h : pl ≤ psz xs
  · obtain ⟨x1, x2⟩ := cut_le F [(a, b, F (a + b) - F a)] xs pl hx h
    have ef : frst b (pl - psz xs) = 0 := by
      unfold frst
      (repeat' split) <;> omega
    rw [ef, if_neg (by omega), if_pos (by omega), x1, x2]
    refine ⟨rfl, ?_⟩
    rw [Int.add_zero, Int.sub_zero]
  · obtain ⟨x1, x2⟩ := cut_ge F [(a, b, F (a + b) - F a)] xs pl hx (by omega)
    obtain ⟨y1, y2⟩ := cut_ge F [] xs pl hx (by omega)
    rw [List.append_nil] at y1 y2
    have y1' : cutL F xs pl = xs := by rw [y1]; simp [cutL]
    have y2' : cutR F xs pl = [] := by rw [y2]; simp [cutR]
    rw [x1, x2, y1', y2']
    simp only [cutL, cutR]
    have hn : ¬ pl - psz xs ≤ 0 := by omega
    rw [if_neg hn, if_neg hn]
    by_cases q : b ≤ pl - psz xs
    · have ef : frst b (pl - psz xs) = b := by
        unfold frst
        (repeat' split) <;> omega
      rw [ef, if_pos q, if_pos q, if_pos (by omega), if_neg (by omega)]
      exact ⟨rfl, rfl⟩
    · have ef : frst b (pl - psz xs) = pl - psz xs := by
        unfold frst
        (repeat' split) <;> omega
      rw [ef, if_neg q, if_neg q, if_pos (by omega), if_pos (by omega)]
      refine ⟨rfl, ?_⟩
      rw [List.nil_append]
      congr 3
      omega
theorem frst_ok {b n : Int} (hb : 1 ≤ b) : 0 ≤ frst b n ∧ frst b n ≤ b := by
  unfold frst
  (repeat' split) <;> omega
end L2.K14

namespace L2.K14
/-! ### rising rows -/
def cnt (xs : List Int) (most : Int) : Nat := (xs.filter fun x => decide (x ≤ most)).length
def Rise (xs : List Int) : Prop := xs.Pairwise (· ≤ ·)
theorem cnt_le (xs : List Int) (most : Int) : cnt xs most ≤ xs.length := List.length_filter_le _ _
theorem cnt_app (a b : List Int) (most : Int) : cnt (a ++ b) most = cnt a most + cnt b most := by simp [cnt]
theorem cnt_all {xs : List Int} {most : Int} (h : ∀ x ∈ xs, x ≤ most) : cnt xs most = xs.length := by
  unfold cnt
  rw [List.filter_eq_self.mpr fun x hx => by simpa using h x hx]
theorem cnt_no {xs : List Int} {most : Int} (h : ∀ x ∈ xs, most < x) : cnt xs most = 0 := by
  unfold cnt
  rw [List.length_eq_zero_iff, List.filter_eq_nil_iff]
  intro x hx
  have := h x hx
  simp; omega
theorem cnt_lo {xs : List Int} {most x : Int} {m : Nat} (h : Rise xs) (g : xs[m]? = some x) (hx : x ≤ most) : m + 1 ≤ cnt xs most := by
  have hm := (List.getElem?_eq_some_iff.mp g).1
  have e : xs = xs.take (m + 1) ++ xs.drop (m + 1) := (List.take_append_drop _ _).symm
  have a : ∀ y ∈ xs.take (m + 1), y ≤ most := by
    intro y hy
    obtain ⟨j, hj, rfl⟩ := List.getElem_of_mem hy
    rw [List.length_take] at hj
    rw [List.getElem_take]
    have e2 : xs[m] = x := (List.getElem?_eq_some_iff.mp g).2
    by_cases q : j = m
    · subst q; omega
    · have := List.pairwise_iff_getElem.mp h j m (by omega) hm (by omega)
      omega
  have : cnt xs most = cnt (xs.take (m + 1)) most + cnt (xs.drop (m + 1)) most := by rw [← cnt_app, ← e]
  rw [this, cnt_all a, List.length_take]
  omega
theorem cnt_hi {xs : List Int} {most x : Int} {m : Nat} (h : Rise xs) (g : xs[m]? = some x) (hx : ¬ x ≤ most) : cnt xs most ≤ m := by
  have hm := (List.getElem?_eq_some_iff.mp g).1
  have e : xs = xs.take m ++ xs.drop m := (List.take_append_drop _ _).symm
  have a : ∀ y ∈ xs.drop m, most < y := by
    intro y hy
    obtain ⟨j, hj, rfl⟩ := List.getElem_of_mem hy
    rw [List.length_drop] at hj
    rw [List.getElem_drop]
    have e2 : xs[m] = x := (List.getElem?_eq_some_iff.mp g).2
    by_cases q : j = 0
    · subst q; simp; omega
    · have := List.pairwise_iff_getElem.mp h m (m + j) hm (by omega) (by omega)
      omega
  have : cnt xs most = cnt (xs.take m) most + cnt (xs.drop m) most := by rw [← cnt_app, ← e]
  have l := cnt_le (xs.take m) most
  rw [this, cnt_no a]
  rw [List.length_take] at l
  omega
/-! ### places of a sign -/
def pos (c : Nat) : List Nat → Nat → List Nat
  | [], _ => []
  | d :: r, k => if d = c then k :: pos c r (k + 1) else pos c r (k + 1)
theorem pos_app (c : Nat) : ∀ (a b : List Nat) (k : Nat), pos c (a ++ b) k = pos c a k ++ pos c b (k + a.length)
  | [], b, k => by simp [pos]
  | d :: r, b, k => by
    have ih := pos_app c r b (k + 1)
    rw [show k + 1 + r.length = k + (d :: r).length by simp; omega] at ih
    simp only [List.cons_append, pos]
    split
    · rw [ih]; rfl
    · rw [ih]
theorem pos_len (c : Nat) : ∀ (a : List Nat) (k : Nat), (pos c a k).length = a.count c
  | [], k => rfl
  | d :: r, k => by
    simp only [pos]
    rw [List.count_cons]
    split
    · rename_i h; subst h; simp [pos_len d r (k + 1)]
    · rename_i h
      have : (d == c) = false := by simpa using h
      rw [pos_len c r (k + 1), this]; simp
theorem pos_ge (c : Nat) : ∀ (a : List Nat) (k i : Nat), i ∈ pos c a k → k ≤ i ∧ i < k + a.length
  | [], k, i, h => by simp [pos] at h
  | d :: r, k, i, h => by
    simp only [pos] at h
    have go : i ∈ pos c r (k + 1) → k ≤ i ∧ i < k + (d :: r).length := fun z => by
      have := pos_ge c r (k + 1) i z
      simp; omega
    split at h
    · rcases List.mem_cons.mp h with rfl | z
      · simp
      · exact go z
    · exact go h
theorem pos_rise (c : Nat) : ∀ (a : List Nat) (k : Nat), (pos c a k).Pairwise (· < ·)
  | [], k => by simp [pos]
  | d :: r, k => by
    simp only [pos]
    split
    · rw [List.pairwise_cons]
      exact ⟨fun i hi => by have := pos_ge c r (k + 1) i hi; omega, pos_rise c r (k + 1)⟩
    · exact pos_rise c r (k + 1)
def posI (c : Nat) (a : List Nat) : List Int := (pos c a 0).map fun (i : Nat) => (i : Int)
theorem posI_rise (c : Nat) (a : List Nat) : Rise (posI c a) := by
  unfold Rise posI
  rw [List.pairwise_map]
  exact (pos_rise c a 0).imp fun h => by omega
theorem cnt_pos (c : Nat) (a : List Nat) (n : Nat) : cnt (posI c a) ((n : Int) - 1) = (a.take n).count c := by
  have e : a = a.take n ++ a.drop n := (List.take_append_drop _ _).symm
  have e1 : posI c a = posI c (a.take n) ++ ((pos c (a.drop n) (a.take n).length).map fun (i : Nat) => (i : Int)) := by
    unfold posI
    conv => lhs; rw [e]
    rw [pos_app, List.map_append, Nat.zero_add]
  rw [e1, cnt_app, cnt_all, cnt_no]
  · unfold posI
    rw [List.length_map, pos_len]; simp
  · intro x hx
    obtain ⟨i, hi, rfl⟩ := List.mem_map.mp hx
    have h := pos_ge _ _ _ _ hi
    rw [List.length_take, List.length_drop] at h
    omega
  · intro x hx
    obtain ⟨i, hi, rfl⟩ := List.mem_map.mp hx
    have h := pos_ge _ _ _ _ hi
    rw [List.length_take] at h
    omega
end L2.K14
namespace L2.K14
theorem pos_next (c : Nat) : ∀ (l : List Nat) (k i : Nat) (done rest : List Nat), pos c l k = done ++ i :: rest → pos c (l.drop (i + 1 - k)) (i + 1) = rest
  | [], k, i, done, rest, h => by
    simp [pos] at h
  | d :: r, k, i, done, rest, h => by
    have hi := pos_ge c (d :: r) k i (by rw [h]; simp)
    simp only [pos] at h
    have go : ∀ dn, pos c r (k + 1) = dn ++ i :: rest → pos c ((d :: r).drop (i + 1 - k)) (i + 1) = rest := fun dn hd => by
      have h2 := pos_ge c r (k + 1) i (by rw [hd]; simp)
      have ih := pos_next c r (k + 1) i dn rest hd
      rw [show i + 1 - k = (i + 1 - (k + 1)) + 1 by omega, List.drop_succ_cons]
      exact ih
    split at h
    · cases done with
      | nil =>
        simp only [List.nil_append, List.cons.injEq] at h
        obtain ⟨rfl, h⟩ := h
        rw [show k + 1 - k = 1 by omega, List.drop_succ_cons, List.drop_zero]
        exact h
      | cons e dn =>
        simp only [List.cons_append, List.cons.injEq] at h
        exact go dn h.2
    · exact go done h
theorem pos_shift (c : Nat) : ∀ (l : List Nat) (k j : Nat), pos c l (k + j) = (pos c l j).map (k + ·)
  | [], k, j => rfl
  | d :: r, k, j => by
    have ih := pos_shift c r k (j + 1)
    rw [← Nat.add_assoc] at ih
    simp only [pos]
    split
    · rw [ih]; rfl
    · exact ih
theorem posI_app (c : Nat) (a b : List Nat) : posI c (a ++ b) = posI c a ++ ((pos c b 0).map fun (i : Nat) => ((a.length : Nat) : Int) + (i : Int)) := by
  unfold posI
  rw [pos_app, List.map_append, Nat.zero_add]
  congr 1
  have := pos_shift c b a.length 0
  rw [Nat.add_zero] at this
  rw [this, List.map_map]
  apply List.map_congr_left
  intro i _
  show ((a.length + i : Nat) : Int) = _
  omega
end L2.K14

namespace L2.K14
open PySem PySem.StrLaws
/-! ### one sign, where it stands -/
theorem occ1 (x y : Str) (hy : y.length = 1) (hi lim : Nat) : ∀ (n lo : Nat) (acc : Array Nat) (free : Nat), free ≤ lo →
    ((forIn (List.range' lo n) (acc, free) (occBody x y hi lim)).run.fst.toList = acc.toList ++ ((List.range' lo n).filter fun i => decide (i + 1 ≤ hi) && Builtin.Str.subAt x y i).take (lim - acc.size))
  | 0, lo, acc, free, hf => by simp
  | n + 1, lo, acc, free, hf => by
    rw [List.range'_succ, List.forIn_cons]
    unfold occBody
    rw [hy]
    by_cases hp : lo + 1 ≤ hi ∧ Builtin.Str.subAt x y lo = true
    · have e : (decide (lo + 1 ≤ hi) && Builtin.Str.subAt x y lo) = true := by simp [hp.1, hp.2]
      by_cases hs : acc.size < lim
      · rw [if_pos ⟨⟨⟨hs, hf⟩, hp.1⟩, hp.2⟩]
        have ih := occ1 x y hy hi lim n (lo + 1) (acc.push lo) (lo + 1) (Nat.le_refl _)
        unfold occBody at ih
        rw [hy] at ih
        refine Eq.trans ih ?_
        rw [List.filter_cons_of_pos (by exact e)]
        have e2 : lim - acc.size = (lim - (acc.push lo).size) + 1 := by rw [Array.size_push]; omega
        rw [e2, List.take_succ_cons]
        simp
      · rw [if_neg (fun z => hs z.1.1.1)]
        have ih := occ1 x y hy hi lim n (lo + 1) acc free (by omega)
        unfold occBody at ih
        rw [hy] at ih
        refine Eq.trans ih ?_
        have e2 : lim - acc.size = 0 := by omega
        rw [e2]; simp
    · rw [if_neg (fun z => hp ⟨z.1.2, z.2⟩)]
      have e : ¬ (decide (lo + 1 ≤ hi) && Builtin.Str.subAt x y lo) = true := by
        intro z
        simp only [Bool.and_eq_true, decide_eq_true_eq] at z
        exact hp z
      have ih := occ1 x y hy hi lim n (lo + 1) acc free (by omega)
      unfold occBody at ih
      rw [hy] at ih
      refine Eq.trans ih ?_
      rw [List.filter_cons_of_neg (by exact e)]
theorem sub1 (x : Str) (c i : Nat) : Builtin.Str.subAt x ⟨#[c]⟩ i = decide (x.cps[i]? = some c) := by
  unfold Builtin.Str.subAt
  have e : (⟨#[c]⟩ : Str).length = 1 := rfl
  rw [e, show (⟨#[c]⟩ : Str).cps = #[c] from rfl]
  by_cases h : i < x.cps.size
  · have e2 : x.cps.extract i (i + 1) = #[x.cps[i]] := by
      apply Array.ext
      · simp; omega
      · intro j h1 h2
        simp at h1 h2 ⊢
        have : j = 0 := by omega
        subst this; rfl
    rw [e2, Array.getElem?_eq_getElem h]
    by_cases q : x.cps[i] = c
    · subst q; simp
    · have : ¬ (#[x.cps[i]] = #[c]) := fun z => q (by injection z with z; injection z)
      simp [q]
  · have e2 : x.cps.extract i (i + 1) = #[] := by
      apply Array.eq_empty_of_size_eq_zero
      simp; omega
    rw [e2, Array.getElem?_eq_none (by omega)]
    simp
theorem filter_pos (c : Nat) : ∀ (l : List Nat) (k : Nat) (p : Nat → Bool), (∀ i, i < l.length → p (k + i) = decide (l[i]? = some c)) → (List.range' k l.length).filter p = pos c l k
  | [], k, p, h => rfl
  | d :: r, k, p, h => by
    rw [List.length_cons, List.range'_succ]
    have h0 : p k = decide (d = c) := by
      have := h 0 (Nat.zero_lt_succ _)
      simpa using this
    have ih := filter_pos c r (k + 1) p fun i hi => by
      have := h (i + 1) (Nat.succ_lt_succ hi)
      rw [show k + 1 + i = k + (i + 1) by omega, this]; simp
    by_cases e : d = c
    · rw [List.filter_cons_of_pos (by rw [h0]; simpa using e), ih, pos, if_pos e]
    · rw [List.filter_cons_of_neg (by rw [h0]; simpa using e), ih, pos, if_neg e]
theorem occ_pos (x : Str) (c lo lim : Nat) (hl : lo ≤ x.length) : Builtin.Str.occurrences x ⟨#[c]⟩ lo x.length lim = (pos c (x.cps.toList.drop lo) lo).take lim := by
  have hx : x.cps.toList.length = x.length := by simp [Str.length]
  rw [occ_eq, occ1 x _ rfl x.length lim _ lo #[] lo (Nat.le_refl _)]
  simp only [List.nil_append, Array.size_empty, Nat.sub_zero]
  congr 1
  have e : x.length + 1 - lo = (x.cps.toList.drop lo).length + 1 := by rw [List.length_drop, hx]; omega
  rw [e, List.range'_concat, List.filter_append]
  rw [filter_pos c (x.cps.toList.drop lo) lo]
  · have : ¬ (lo + 1 * (x.cps.toList.drop lo).length + 1 ≤ x.length) := by rw [List.length_drop, hx]; omega
    rw [List.filter_cons_of_neg (by rw [decide_eq_false this]; simp)]
    simp
  · intro i hi
    rw [sub1]
    rw [List.length_drop, hx] at hi
    rw [decide_eq_true (show lo + i + 1 ≤ x.length by omega), Bool.true_and, List.getElem?_drop, Array.getElem?_toList]
end L2.K14

set_option maxRecDepth 100000
set_option maxHeartbeats 4000000
namespace L2.K14
open L2.K13 PySem PySem.Spec PyProof.Rows

/-! ### heaps -/
def Tups (H H' : Hp) : Prop := ∀ b xs, H b = some (.tup xs) → H' b = some (.tup xs)
theorem tupsOf {H H' : Hp} (h : Same H H') : Tups H H' := fun b xs e => h b _ e
theorem sameNew {H : Hp} {p : Addr} {o : HO} (h : H p = none) : Same H (upd H p o) := fun b u e => by rw [upd_ne (ne_of_none e h)]; exact e
/-- all but the object at c is as it was -/
def But (c : Addr) (H H' : Hp) : Prop := ∀ b o, H b = some o → b ≠ c → H' b = some o
theorem But.upd {H : Hp} {c : Addr} {o : HO} : But c H (upd H c o) := fun b u e n => by rw [upd_ne n]; exact e
theorem But.trans {c : Addr} {H H1 H2 : Hp} (a : But c H H1) (b : But c H1 H2) : But c H H2 := fun d o e n => b d o (a d o e n) n
theorem sameBut {c : Addr} {H H1 H2 : Hp} (a : Same H H1) (b : But c H1 H2) : But c H H2 := fun d o e n => b d o (a d o e) n
theorem sameBut' {c : Addr} {H H1 H2 : Hp} (a : Same H H1) (hc : H c = none) (b : But c H1 H2) : Same H H2 := fun d o e => b d o (a d o e) (ne_of_none e hc)
theorem But.tups {c : Addr} {H H' : Hp} {xs : List V} (h : But c H H') (hc : H c = some (.lst xs)) : Tups H H' := fun b ys e => h b _ e (fun z => by rw [z, hc] at e; cases e)
theorem iF {c : Bool} {A B : Prop} (q : B) (h : c = false := by first | rfl | decide) : if c = true then A else B := by
  rw [h]; exact iteF q
theorem iT {c : Bool} {A B : Prop} (q : A) (h : c = true := by first | rfl | decide) : if c = true then A else B := by
  rw [h]; exact iteT q
theorem le_line {n : Nat} (h : n ≤ 1000000) : n ≤ sizeLine := Nat.le_trans h (by decide)
theorem lt_line {n : Nat} (h : n ≤ 1000000) : n < sizeLine := Nat.lt_of_le_of_lt h (by decide)
/-- t[i] -/
theorem ixt {K : PySem.W.Frag} {sd : Addr → List (Key × V) → Prop} {H : Hp} {a : Addr} {xs : List V} {i : Int} {v : V} {Q : VK} (h : H a = some (.tup xs)) (e : atI xs i = some v) (q : Q v H) : rIx2 K sd (.ref a) (.int i) H Q :=
  .inr (.inl ⟨_, _, _, _, rfl, rfl, SqT.of h, e, q⟩)
/-- l[i] -/
theorem ixl {K : PySem.W.Frag} {sd : Addr → List (Key × V) → Prop} {H : Hp} {a : Addr} {xs : List V} {i : Int} {v : V} {Q : VK} (h : H a = some (.lst xs)) (e : atI xs i = some v) (q : Q v H) : rIx2 K sd (.ref a) (.int i) H Q :=
  .inl ⟨_, _, _, _, rfl, rfl, SqL.of h, e, q⟩

/-! ### nodes and pieces in the heap -/
abbrev tp (p : P3) : HO := .tup [.int p.1, .int p.2.1, .int p.2.2]
def Pc (H : Hp) (v : V) (p : P3) : Prop := ∃ q, v = .ref q ∧ H q = some (tp p)
abbrev Pcs (H : Hp) : List V → List P3 → Prop := Paired (Pc H)
theorem Pc.mono {H H' : Hp} {v : V} {p : P3} (t : Tups H H') (h : Pc H v p) : Pc H' v p := by
  obtain ⟨a, e, h⟩ := h
  exact ⟨a, e, t _ _ h⟩
theorem Pcs.mono {H H' : Hp} (t : Tups H H') : ∀ {vs : List V} {ps : List P3}, Pcs H vs ps → Pcs H' vs ps
  | _, _, .nil => .nil
  | _, _, .cons h r => .cons (h.mono t) (Pcs.mono t r)
theorem Pcs.app {H : Hp} : ∀ {vs ws : List V} {ps qs : List P3}, Pcs H vs ps → Pcs H ws qs → Pcs H (vs ++ ws) (ps ++ qs)
  | _, _, _, _, .nil, b => b
  | _, _, _, _, .cons h r, b => .cons h (Pcs.app r b)
def Nd (H : Hp) : Tr → V → Prop
  | .nil, v => v = .non
  | .node l a b c r, v => ∃ p q vl vr, v = .ref p ∧ H p = some (.tup [vl, .ref q, vr, .int (Tr.node l a b c r).h, .int (Tr.node l a b c r).sz, .int (Tr.node l a b c r).en]) ∧ H q = some (tp (a, b, c)) ∧ Nd H l vl ∧ Nd H r vr
theorem Nd.mono {H H' : Hp} (t : Tups H H') : ∀ {x : Tr} {v : V}, Nd H x v → Nd H' x v
  | .nil, _, h => h
  | .node l a b c r, _, ⟨p, q, vl, vr, e, h1, h2, h3, h4⟩ => ⟨p, q, vl, vr, e, t _ _ h1, t _ _ h2, h3.mono t, h4.mono t⟩

/-! ### height_of, size_of, ends_of, made -/
def spHeight : Sp := fun vs H Q E => ∃ v t, vs = [v] ∧ Nd H t v ∧ Q (.int t.h) H
def spSizeO : Sp := fun vs H Q E => ∃ v t, vs = [v] ∧ Nd H t v ∧ Q (.int t.sz) H
def spEnds : Sp := fun vs H Q E => ∃ v t, vs = [v] ∧ Nd H t v ∧ Q (.int t.en) H
theorem rd_height {K : PySem.W.Frag} (vs : List V) (H : Hp) (Q : VK) (E : XK) (h : spHeight vs H Q E) : rdSs (rcx K [] []) b_height_of { nx := fun _ H' => Q .non H', rt := Q } (start N_height_of vs) H := by
  obtain ⟨v, t, rfl, hn, q⟩ := h
  refine ⟨_, rfl, rfl, _, rfl, ?_⟩
  cases t with
  | nil => cases hn; exact iT q
  | node l a b c r =>
    obtain ⟨p, qq, vl, vr, rfl, h1, -⟩ := hn
    exact iF ⟨_, rfl, ixt h1 rfl q⟩
theorem rd_sizeO {K : PySem.W.Frag} (vs : List V) (H : Hp) (Q : VK) (E : XK) (h : spSizeO vs H Q E) : rdSs (rcx K [] []) b_size_of { nx := fun _ H' => Q .non H', rt := Q } (start N_size_of vs) H := by
  obtain ⟨v, t, rfl, hn, q⟩ := h
  refine ⟨_, rfl, rfl, _, rfl, ?_⟩
  cases t with
  | nil => cases hn; exact iT q
  | node l a b c r =>
    obtain ⟨p, qq, vl, vr, rfl, h1, -⟩ := hn
    exact iF ⟨_, rfl, ixt h1 rfl q⟩
theorem rd_ends {K : PySem.W.Frag} (vs : List V) (H : Hp) (Q : VK) (E : XK) (h : spEnds vs H Q E) : rdSs (rcx K [] []) b_ends_of { nx := fun _ H' => Q .non H', rt := Q } (start N_ends_of vs) H := by
  obtain ⟨v, t, rfl, hn, q⟩ := h
  refine ⟨_, rfl, rfl, _, rfl, ?_⟩
  cases t with
  | nil => cases hn; exact iT q
  | node l a b c r =>
    obtain ⟨p, qq, vl, vr, rfl, h1, -⟩ := hn
    exact iF ⟨_, rfl, ixt h1 rfl q⟩
abbrev tMade0 : List (Str × Sp) := [("height_of", spHeight), ("size_of", spSizeO), ("ends_of", spEnds)]
def spMade : Sp := fun vs H Q E => ∃ vl q vr l r a b c, vs = [vl, .ref q, vr] ∧ Nd H l vl ∧ Nd H r vr ∧ H q = some (tp (a, b, c)) ∧ ∀ v H', Same H H' → Nd H' (.node l a b c r) v → Q v H'
theorem rd_made {K : PySem.W.Frag} (vs : List V) (H : Hp) (Q : VK) (E : XK) (h : spMade vs H Q E) : rdSs (rcx K tMade0 []) b_made { nx := fun _ H' => Q .non H', rt := Q } (start N_made vs) H := by
  obtain ⟨vl, q, vr, l, r, a, b, c, rfl, hl, hr, hq, k⟩ := h
  refine ⟨_, rfl, vl, l, rfl, hl, _, rfl, vr, r, rfl, hr, ?_⟩
  refine ⟨_, rfl, vl, l, rfl, hl, _, rfl, ixt hq rfl ⟨_, rfl, vr, r, rfl, hr, ?_⟩⟩
  refine ⟨_, rfl, _, rfl, _, rfl, _, rfl, _, rfl, _, rfl, vl, l, rfl, hl, _, rfl, ixt hq rfl ⟨_, rfl, vr, r, rfl, hr, (by show 6 ≤ sizeLine; decide), fun t ht => ?_⟩⟩
  have s := sameNew (o := .tup [vl, .ref q, vr, .int (1 + (if r.h > l.h then r.h else l.h)), .int (l.sz + b + r.sz), .int (l.en + c + r.en)]) ht
  exact k _ _ s ⟨t, q, vl, vr, rfl, upd_same, s _ _ hq, hl.mono (tupsOf s), hr.mono (tupsOf s)⟩

/-! ### turned_right, turned_left, leveled -/
abbrev tTurn0 : List (Str × Sp) := [("height_of", spHeight), ("made", spMade)]
def spTurnR : Sp := fun vs H Q E => ∃ vl q vr l r a b c, vs = [vl, .ref q, vr] ∧ Nd H l vl ∧ Nd H r vr ∧ H q = some (tp (a, b, c)) ∧ l.ok ∧ r.ok ∧ l.h = r.h + 2 ∧ ∀ v H' t, Same H H' → Nd H' t v → Tr.Lev l a b c r t → Q v H'
def spTurnL : Sp := fun vs H Q E => ∃ vl q vr l r a b c, vs = [vl, .ref q, vr] ∧ Nd H l vl ∧ Nd H r vr ∧ H q = some (tp (a, b, c)) ∧ l.ok ∧ r.ok ∧ r.h = l.h + 2 ∧ ∀ v H' t, Same H H' → Nd H' t v → Tr.Lev l a b c r t → Q v H'
theorem rd_turnR {K : PySem.W.Frag} (vs : List V) (H : Hp) (Q : VK) (E : XK) (h : spTurnR vs H Q E) : rdSs (rcx K tTurn0 []) b_turned_right { nx := fun _ H' => Q .non H', rt := Q } (start N_turned_right vs) H := by
  obtain ⟨vl, q, vr, l, r, a', b', c', rfl, hl, hr, hq, o1, o2, hh, k⟩ := h
  have r0 := Tr.h0 r
  obtain ⟨ll, a, b, c, lr, rfl⟩ := Tr.h_pos (t := l) (by omega)
  obtain ⟨p, ql, vll, vlr, rfl, hp, hql, hll, hlr⟩ := hl
  refine ⟨_, rfl, ixt hp rfl ?_⟩
  refine ⟨_, rfl, ixt hp rfl ⟨vll, ll, rfl, hll, _, rfl, vlr, lr, rfl, hlr, trivial, _, rfl, ?_⟩⟩
  refine ite2 (fun h => ?_) (fun h => ?_)
  · have hge : lr.h ≤ ll.h := of_decide_eq_true h
    refine ⟨_, rfl, ixt hp rfl ⟨_, rfl, ixt hp rfl ⟨_, rfl, _, rfl, _, rfl, vlr, q, vr, lr, r, a', b', c', rfl, hlr, hr, hq, fun v H1 s1 n1 => ?_⟩⟩⟩
    refine ⟨vll, ql, v, ll, _, a, b, c, rfl, hll.mono (tupsOf s1), n1, s1 _ _ hql, fun v2 H2 s2 n2 => ?_⟩
    exact k _ _ _ (s1.trans s2) n2 (Tr.lev_r1 o1 o2 hh hge)
  · have hlt : ll.h < lr.h := by
      have : ¬ lr.h ≤ ll.h := fun z => h (decide_eq_true z)
      omega
    have l0 := Tr.h0 ll
    obtain ⟨il, x, y, z, ir, rfl⟩ := Tr.h_pos (t := lr) (by omega)
    obtain ⟨pi, qi, vil, vir, rfl, hpi, hqi, hil, hir⟩ := hlr
    refine ⟨_, rfl, ixt hp rfl ⟨_, rfl, ixt hp rfl ⟨_, rfl, ixt hpi rfl ⟨vll, ql, vil, ll, il, a, b, c, rfl, hll, hil, hql, fun v H1 s1 n1 => ?_⟩⟩⟩⟩
    refine ⟨_, rfl, ixt (s1 _ _ hpi) rfl ⟨_, rfl, ixt (s1 _ _ hpi) rfl ⟨_, rfl, _, rfl, vir, q, vr, ir, r, a', b', c', rfl, hir.mono (tupsOf s1), hr.mono (tupsOf s1), s1 _ _ hq, fun v2 H2 s2 n2 => ?_⟩⟩⟩
    refine ⟨v, qi, v2, _, _, x, y, z, rfl, n1.mono (tupsOf s2), n2, s2 _ _ (s1 _ _ hqi), fun v3 H3 s3 n3 => ?_⟩
    exact k _ _ _ (s1.trans (s2.trans s3)) n3 (Tr.lev_r2 o1 o2 hh hlt)
theorem rd_turnL {K : PySem.W.Frag} (vs : List V) (H : Hp) (Q : VK) (E : XK) (h : spTurnL vs H Q E) : rdSs (rcx K tTurn0 []) b_turned_left { nx := fun _ H' => Q .non H', rt := Q } (start N_turned_left vs) H := by
  obtain ⟨vl, q, vr, l, r, a, b, c, rfl, hl, hr, hq, o1, o2, hh, k⟩ := h
  have r0 := Tr.h0 l
  obtain ⟨rl, a', b', c', rr, rfl⟩ := Tr.h_pos (t := r) (by omega)
  obtain ⟨p, qr, vrl, vrr, rfl, hp, hqr, hrl, hrr⟩ := hr
  refine ⟨_, rfl, ixt hp rfl ?_⟩
  refine ⟨_, rfl, ixt hp rfl ⟨vrr, rr, rfl, hrr, _, rfl, vrl, rl, rfl, hrl, trivial, _, rfl, ?_⟩⟩
  refine ite2 (fun h => ?_) (fun h => ?_)
  · have hge : rl.h ≤ rr.h := of_decide_eq_true h
    refine ⟨_, rfl, _, rfl, _, rfl, vl, q, vrl, l, rl, a, b, c, rfl, hl, hrl, hq, fun v H1 s1 n1 => ?_⟩
    refine ⟨_, rfl, ixt (s1 _ _ hp) rfl ⟨_, rfl, ixt (s1 _ _ hp) rfl ⟨v, qr, vrr, _, rr, a', b', c', rfl, n1, hrr.mono (tupsOf s1), s1 _ _ hqr, fun v2 H2 s2 n2 => ?_⟩⟩⟩
    exact k _ _ _ (s1.trans s2) n2 (Tr.lev_l1 o1 o2 hh hge)
  · have hlt : rr.h < rl.h := by
      have : ¬ rl.h ≤ rr.h := fun z => h (decide_eq_true z)
      omega
    have l0 := Tr.h0 rr
    obtain ⟨il, x, y, z, ir, rfl⟩ := Tr.h_pos (t := rl) (by omega)
    obtain ⟨pi, qi, vil, vir, rfl, hpi, hqi, hil, hir⟩ := hrl
    refine ⟨_, rfl, _, rfl, _, rfl, ixt hpi rfl ⟨vl, q, vil, l, il, a, b, c, rfl, hl, hil, hq, fun v H1 s1 n1 => ?_⟩⟩
    refine ⟨_, rfl, ixt (s1 _ _ hpi) rfl ⟨_, rfl, ixt (s1 _ _ hpi) rfl ⟨_, rfl, ixt (s1 _ _ hp) rfl ⟨_, rfl, ixt (s1 _ _ hp) rfl ⟨vir, qr, vrr, ir, rr, a', b', c', rfl, hir.mono (tupsOf s1), hrr.mono (tupsOf s1), s1 _ _ hqr, fun v2 H2 s2 n2 => ?_⟩⟩⟩⟩⟩
    refine ⟨v, qi, v2, _, _, x, y, z, rfl, n1.mono (tupsOf s2), n2, s2 _ _ (s1 _ _ hqi), fun v3 H3 s3 n3 => ?_⟩
    exact k _ _ _ (s1.trans (s2.trans s3)) n3 (Tr.lev_l2 o1 o2 hh hlt)
abbrev tLev0 : List (Str × Sp) := [("height_of", spHeight), ("turned_right", spTurnR), ("turned_left", spTurnL), ("made", spMade)]
def spLeveled : Sp := fun vs H Q E => ∃ vl q vr l r a b c, vs = [vl, .ref q, vr] ∧ Nd H l vl ∧ Nd H r vr ∧ H q = some (tp (a, b, c)) ∧ l.ok ∧ r.ok ∧ l.h ≤ r.h + 2 ∧ r.h ≤ l.h + 2 ∧ ∀ v H' t, Same H H' → Nd H' t v → Tr.Lev l a b c r t → Q v H'
theorem rd_leveled {K : PySem.W.Frag} (vs : List V) (H : Hp) (Q : VK) (E : XK) (h : spLeveled vs H Q E) : rdSs (rcx K tLev0 []) b_leveled { nx := fun _ H' => Q .non H', rt := Q } (start N_leveled vs) H := by
  obtain ⟨vl, q, vr, l, r, a, b, c, rfl, hl, hr, hq, o1, o2, hh1, hh2, k⟩ := h
  refine ⟨_, rfl, vl, l, rfl, hl, _, rfl, vr, r, rfl, hr, trivial, _, rfl, ?_⟩
  refine ite2 (fun h => ?_) (fun h => ?_)
  · have g : r.h + 1 < l.h := of_decide_eq_true h
    exact ⟨_, rfl, _, rfl, _, rfl, vl, q, vr, l, r, a, b, c, rfl, hl, hr, hq, o1, o2, by omega, k⟩
  · have g : ¬ r.h + 1 < l.h := fun z => h (decide_eq_true z)
    refine ⟨_, rfl, vr, r, rfl, hr, _, rfl, vl, l, rfl, hl, trivial, _, rfl, ?_⟩
    refine ite2 (fun h => ?_) (fun h => ?_)
    · have g2 : l.h + 1 < r.h := of_decide_eq_true h
      exact ⟨_, rfl, _, rfl, _, rfl, vl, q, vr, l, r, a, b, c, rfl, hl, hr, hq, o1, o2, by omega, k⟩
    · have g2 : ¬ l.h + 1 < r.h := fun z => h (decide_eq_true z)
      exact ⟨_, rfl, _, rfl, _, rfl, vl, q, vr, l, r, a, b, c, rfl, hl, hr, hq, fun v H' s n => k _ _ _ s n (Tr.lev_made o1 o2 (by omega) (by omega))⟩

/-! ### joined -/
def spJoined (n : Nat) : Sp := fun vs H Q E => ∃ vl q vr l r a b c, vs = [vl, .ref q, vr] ∧ Nd H l vl ∧ Nd H r vr ∧ H q = some (tp (a, b, c)) ∧ l.ok ∧ r.ok ∧ l.h + r.h < n ∧ ∀ v H' t, Same H H' → Nd H' t v → Tr.Jn l a b c r t → Q v H'
theorem no_joined (vs : List V) (H : Hp) (Q : VK) (E : XK) : ¬ spJoined 0 vs H Q E := by
  rintro ⟨vl, q, vr, l, r, a, b, c, -, -, -, -, -, -, h, -⟩
  have := Tr.h0 l
  have := Tr.h0 r
  omega
abbrev tJoin0 (n : Nat) : List (Str × Sp) := [("height_of", spHeight), ("leveled", spLeveled), ("joined", spJoined n), ("made", spMade)]
theorem rd_joined {K : PySem.W.Frag} (n : Nat) (vs : List V) (H : Hp) (Q : VK) (E : XK) (h : spJoined (n + 1) vs H Q E) : rdSs (rcx K (tJoin0 n) []) b_joined { nx := fun _ H' => Q .non H', rt := Q } (start N_joined vs) H := by
  obtain ⟨vl, q, vr, l, r, a, b, c, rfl, hl, hr, hq, o1, o2, hh, k⟩ := h
  have r0 := Tr.h0 r
  have l0 := Tr.h0 l
  refine ⟨_, rfl, vl, l, rfl, hl, _, rfl, vr, r, rfl, hr, trivial, _, rfl, ?_⟩
  refine ite2 (fun h => ?_) (fun h => ?_)
  · have g : r.h + 1 < l.h := of_decide_eq_true h
    obtain ⟨ll, a1, b1, c1, lr, rfl⟩ := Tr.h_pos (t := l) (by omega)
    obtain ⟨p, ql, vll, vlr, rfl, hp, hql, hll, hlr⟩ := hl
    have e1 := Tr.h_node ll a1 b1 c1 lr
    have hlt : lr.h + r.h < n := by
      have : lr.h < (Tr.node ll a1 b1 c1 lr).h := by rw [e1]; split <;> omega
      omega
    refine ⟨_, rfl, ixt hp rfl ⟨_, rfl, ixt hp rfl ⟨_, rfl, ixt hp rfl ⟨_, rfl, _, rfl, vlr, q, vr, lr, r, a, b, c, rfl, hlr, hr, hq, o1.2.1, o2, hlt, fun v H1 t s1 n1 J => ?_⟩⟩⟩⟩
    obtain ⟨g1, g2⟩ := Tr.near2_l o1 g J
    refine ⟨vll, ql, v, ll, t, a1, b1, c1, rfl, hll.mono (tupsOf s1), n1, s1 _ _ hql, o1.1, J.ok, g1, g2, fun v2 H2 t2 s2 n2 L => ?_⟩
    exact k _ _ _ (s1.trans s2) n2 (Tr.jn_l o1 g J L)
  · have g : ¬ r.h + 1 < l.h := fun z => h (decide_eq_true z)
    refine ⟨_, rfl, vr, r, rfl, hr, _, rfl, vl, l, rfl, hl, trivial, _, rfl, ?_⟩
    refine ite2 (fun h => ?_) (fun h => ?_)
    · have g2 : l.h + 1 < r.h := of_decide_eq_true h
      obtain ⟨rl, a1, b1, c1, rr, rfl⟩ := Tr.h_pos (t := r) (by omega)
      obtain ⟨p, qr, vrl, vrr, rfl, hp, hqr, hrl, hrr⟩ := hr
      have e1 := Tr.h_node rl a1 b1 c1 rr
      have hlt : l.h + rl.h < n := by
        have : rl.h < (Tr.node rl a1 b1 c1 rr).h := by rw [e1]; split <;> omega
        omega
      refine ⟨_, rfl, _, rfl, _, rfl, ixt hp rfl ⟨vl, q, vrl, l, rl, a, b, c, rfl, hl, hrl, hq, o1, o2.1, hlt, fun v H1 t s1 n1 J => ?_⟩⟩
      obtain ⟨k1, k2⟩ := Tr.near2_r o2 g2 J
      refine ⟨_, rfl, ixt (s1 _ _ hp) rfl ⟨_, rfl, ixt (s1 _ _ hp) rfl ⟨v, qr, vrr, t, rr, a1, b1, c1, rfl, n1, hrr.mono (tupsOf s1), s1 _ _ hqr, J.ok, o2.2.1, k1, k2, fun v2 H2 t2 s2 n2 L => ?_⟩⟩⟩
      exact k _ _ _ (s1.trans s2) n2 (Tr.jn_r o2 g2 J L)
    · have g2 : ¬ l.h + 1 < r.h := fun z => h (decide_eq_true z)
      exact ⟨_, rfl, _, rfl, _, rfl, vl, q, vr, l, r, a, b, c, rfl, hl, hr, hq, fun v H' s n => k _ _ _ s n (Tr.jn_made o1 o2 (by omega) (by omega))⟩

/-! ### last_out, met -/
def spLast (n : Nat) : Sp := fun vs H Q E => ∃ v l a b c r, vs = [v] ∧ Nd H (.node l a b c r) v ∧ (Tr.node l a b c r).ok ∧ (Tr.node l a b c r).h < n ∧ (Tr.node l a b c r).h ≤ 30 ∧
  ∀ w H' q vt t a' b' c', Same H H' → H' w = some (.tup [vt, .ref q]) → Nd H' t vt → H' q = some (tp (a', b', c')) → t.ok → (Tr.node l a b c r).pcs = t.pcs ++ [(a', b', c')] → t.h ≤ (Tr.node l a b c r).h → Q (.ref w) H'
theorem no_last (vs : List V) (H : Hp) (Q : VK) (E : XK) : ¬ spLast 0 vs H Q E := by
  rintro ⟨v, l, a, b, c, r, -, -, -, h, -⟩
  have := Tr.h0 (.node l a b c r)
  omega
abbrev tLast0 (n : Nat) : List (Str × Sp) := [("last_out", spLast n), ("joined", spJoined 64)]
theorem rd_last {K : PySem.W.Frag} (n : Nat) (vs : List V) (H : Hp) (Q : VK) (E : XK) (h : spLast (n + 1) vs H Q E) : rdSs (rcx K (tLast0 n) []) b_last_out { nx := fun _ H' => Q .non H', rt := Q } (start N_last_out vs) H := by
  obtain ⟨v, l, a, b, c, r, rfl, ⟨p, q, vl, vr, rfl, hp, hq, hl, hr⟩, ho, hh, h30, k⟩ := h
  have e1 := Tr.h_node l a b c r
  have l0 := Tr.h0 l
  refine ⟨_, rfl, ixt hp rfl ⟨rfl, _, rfl, ?_⟩⟩
  cases r with
  | nil =>
    cases hr
    refine iT ⟨_, rfl, ixt hp rfl ⟨_, rfl, ixt hp rfl ⟨(by show 2 ≤ sizeLine; decide), fun w hw => ?_⟩⟩⟩
    have s := sameNew (o := .tup [vl, .ref q]) hw
    exact k w _ q vl l a b c s upd_same (hl.mono (tupsOf s)) (s _ _ hq) ho.1 rfl (by rw [e1]; split <;> omega)
  | node rl a1 b1 c1 rr =>
    obtain ⟨p2, q2, vrl, vrr, rfl, hp2, hq2, hrl, hrr⟩ := hr
    have hlt : (Tr.node rl a1 b1 c1 rr).h < (Tr.node l a b c (.node rl a1 b1 c1 rr)).h := by rw [e1]; split <;> omega
    have hle : l.h < (Tr.node l a b c (.node rl a1 b1 c1 rr)).h := by rw [e1]; split <;> omega
    refine iF ⟨_, rfl, ixt hp rfl ⟨.ref p2, rl, a1, b1, c1, rr, rfl, ⟨p2, q2, vrl, vrr, rfl, hp2, hq2, hrl, hrr⟩, ho.2.1, by omega, by omega, fun w H1 q3 vt t a2 b2 c2 s1 hw ht hq3 to tp' th => ?_⟩⟩
    refine ⟨_, rfl, ixt (s1 _ _ hp) rfl ⟨_, rfl, ixt (s1 _ _ hp) rfl ⟨_, rfl, ixt hw rfl ⟨vl, q, vt, l, t, a, b, c, rfl, hl.mono (tupsOf s1), ht, s1 _ _ hq, ho.1, to, (by show l.h + t.h < (64 : Nat); omega), fun v2 H2 t2 s2 n2 J => ?_⟩⟩⟩⟩
    refine ⟨_, rfl, ixt (s2 _ _ hw) rfl ⟨(by show 2 ≤ sizeLine; decide), fun w2 hw2 => ?_⟩⟩
    have s3 := sameNew (o := .tup [v2, .ref q3]) hw2
    have jh := J.hi
    refine k w2 _ q3 v2 t2 a2 b2 c2 (s1.trans (s2.trans s3)) upd_same (n2.mono (tupsOf s3)) (s3 _ _ (s2 _ _ hq3)) J.ok ?_ ?_
    · rw [J.pcs, Tr.pcs, tp']; simp
    · have := J.hi; omega
abbrev tMet0 : List (Str × Sp) := [("last_out", spLast 32), ("joined", spJoined 64)]
def spMet : Sp := fun vs H Q E => ∃ vl vr l r, vs = [vl, vr] ∧ Nd H l vl ∧ Nd H r vr ∧ l.ok ∧ r.ok ∧ l.h ≤ 20 ∧ r.h ≤ 20 ∧ ∀ v H' t, Same H H' → Nd H' t v → t.ok → t.pcs = l.pcs ++ r.pcs → (l = .nil → r = .nil → v = .non) → Q v H'
theorem rd_met {K : PySem.W.Frag} (vs : List V) (H : Hp) (Q : VK) (E : XK) (h : spMet vs H Q E) : rdSs (rcx K tMet0 []) b_met { nx := fun _ H' => Q .non H', rt := Q } (start N_met vs) H := by
  obtain ⟨vl, vr, l, r, rfl, hl, hr, o1, o2, h1, h2, k⟩ := h
  refine ⟨_, rfl, rfl, _, rfl, ?_⟩
  cases l with
  | nil =>
    cases hl
    exact iT ⟨_, rfl, k _ _ r (Same.refl _) hr o2 rfl fun _ e => by subst e; exact hr⟩
  | node ll a b c lr =>
    obtain ⟨p, q, vll, vlr, rfl, hp, hq, hll, hlr⟩ := hl
    refine iF ⟨_, rfl, .ref p, ll, a, b, c, lr, rfl, ⟨p, q, vll, vlr, rfl, hp, hq, hll, hlr⟩, o1, (by show _ < ((32 : Nat) : Int); omega), by omega, fun w H1 q3 vt t a2 b2 c2 s1 hw ht hq3 to tp' th => ?_⟩
    refine ⟨_, rfl, ixt hw rfl ⟨_, rfl, ixt hw rfl ⟨_, rfl, vt, q3, vr, t, r, a2, b2, c2, rfl, ht, hr.mono (tupsOf s1), hq3, to, o2, (by show _ < ((64 : Nat) : Int); omega), fun v2 H2 t2 s2 n2 J => ?_⟩⟩⟩
    exact k _ _ t2 (s1.trans s2) n2 J.ok (by rw [J.pcs, tp']; simp) fun e => by cases e
end L2.K14

set_option maxRecDepth 100000
set_option maxHeartbeats 4000000
namespace L2.K14
open L2.K13 PySem PySem.Spec PyProof.Rows

/-! ### pieces_of -/
def spPieces (n : Nat) : Sp := fun vs H Q E => ∃ v t, vs = [v] ∧ Nd H t v ∧ t.h < n ∧ t.pcs.length ≤ 1000 ∧ ∀ w H' xs, Same H H' → H w = none → H' w = some (.lst xs) → Pcs H' xs t.pcs → Q (.ref w) H'
theorem no_pieces (vs : List V) (H : Hp) (Q : VK) (E : XK) : ¬ spPieces 0 vs H Q E := by
  rintro ⟨v, t, -, -, h, -⟩
  have := Tr.h0 t
  omega
theorem pcs_l {l r : Tr} {a b c : Int} {n : Nat} (h : (Tr.node l a b c r).pcs.length ≤ n) : l.pcs.length + r.pcs.length + 1 ≤ n := by
  simp only [Tr.pcs, List.length_append, List.length_cons] at h; omega
theorem h_l (l r : Tr) (a b c : Int) : l.h < (Tr.node l a b c r).h ∧ r.h < (Tr.node l a b c r).h := by
  rw [Tr.h_node]; split <;> omega
/-! ### what is alike -/
def pD (p : P3) : PyData := .tuple [.int p.1, .int p.2.1, .int p.2.2]
def rD (ps : List P3) : PyData := .list (ps.map pD)
theorem pD_ok (p : P3) : (pD p).canLay0 = true ∧ (pD p).depth = 1 := ⟨rfl, rfl⟩
theorem rD_ok : ∀ ps : List P3, PyData.canLayAll0 (ps.map pD) = true ∧ PyData.depthAll (ps.map pD) ≤ 1
  | [] => ⟨rfl, Nat.zero_le _⟩
  | p :: r => by
    obtain ⟨a, b⟩ := pD_ok p
    obtain ⟨c, d⟩ := rD_ok r
    refine ⟨?_, ?_⟩
    · show ((pD p).canLay0 && PyData.canLayAll0 (r.map pD)) = true
      rw [a, c]; rfl
    · show max (pD p).depth (PyData.depthAll (r.map pD)) ≤ 1
      rw [b]; omega
theorem shaped_r (ps : List P3) : SeqAt.shaped (rD ps) = true := by
  obtain ⟨c, d⟩ := rD_ok ps
  unfold SeqAt.shaped
  have e : (rD ps).canLay0 = true := c
  have e2 : (rD ps).depth ≤ 64 := by show PyData.depthAll (ps.map pD) + 1 ≤ 64; omega
  rw [e, decide_eq_true e2]; rfl
theorem shaped_p (p : P3) : SeqAt.shaped (pD p) = true := by
  obtain ⟨c, d⟩ := pD_ok p
  unfold SeqAt.shaped
  rw [c, d]; rfl
theorem isP {H : Hp} {v : V} {p : P3} (h : Pc H v p) : Is H (pD p) v := by
  obtain ⟨q, e, h⟩ := h
  exact ⟨q, _, e, h, _, _, rfl, rfl, _, _, rfl, rfl, _, _, rfl, rfl, rfl⟩
theorem isPs {H : Hp} : ∀ {vs : List V} {ps : List P3}, Pcs H vs ps → IsL H (ps.map pD) vs
  | _, _, .nil => rfl
  | _, _, .cons h r => ⟨_, _, rfl, isP h, isPs r⟩
/-- a list of pieces -/
def Row (H : Hp) (v : V) (ps : List P3) : Prop := ∃ a xs, v = .ref a ∧ H a = some (.lst xs) ∧ Pcs H xs ps
theorem isR {H : Hp} {v : V} {ps : List P3} (h : Row H v ps) : Is H (rD ps) v := by
  obtain ⟨a, xs, e, h, p⟩ := h
  exact ⟨a, xs, e, h, isPs p⟩
theorem ne_data {K : PySem.W.Frag} {H : Hp} {a b : Addr} {d : PyData} {Q : VK} (h1 : Is H d (.ref a)) (h2 : Is H d (.ref b)) (sh : SeqAt.shaped d = true) (q : Q (.bl false) H) : rCmp K .NotEq (.ref a) (.ref b) H Q := by
  refine ⟨d, d, h1, h2, sh, sh, ?_⟩
  rw [SeqAt.eqv_refl _ (SeqAt.canLay_of_shaped sh)]
  exact q
theorem eq_data {K : PySem.W.Frag} {H : Hp} {a b : Addr} {d : PyData} {Q : VK} (h1 : Is H d (.ref a)) (h2 : Is H d (.ref b)) (sh : SeqAt.shaped d = true) (q : Q (.bl true) H) : rCmp K .Eq (.ref a) (.ref b) H Q := by
  refine ⟨d, d, h1, h2, sh, sh, ?_⟩
  rw [SeqAt.eqv_refl _ (SeqAt.canLay_of_shaped sh)]
  exact q

/-! ### the law's own: pieces, good -/
theorem isi_tup {H : Hp} {a : Addr} {xs : List V} {T : Ty} {k : Bool → Prop} (h : H a = some (.tup xs)) (q : k (T == .tuple)) : isiV T (.ref a) H k := by
  show (match H a with | some (.lst _) => k (T == .list) | some (.frz _ (.lst _)) => k (T == .list) | some (.tup _) => k (T == .tuple) | some (.dK _) => k (T == .dict) | some (.dT _) => k (T == .dict) | _ => False)
  rw [h]; exact q
theorem rd_piecesL {K : PySem.W.Frag} (n : Nat) (vs : List V) (H : Hp) (Q : VK) (E : XK) (h : spPieces (n + 1) vs H Q E) : rdSs (rcx K [("_law_pieces", spPieces n)] []) b_piecesL { nx := fun _ H' => Q .non H', rt := Q } (start N_piecesL vs) H := by
  obtain ⟨v, t, rfl, hn, hh, hl, k⟩ := h
  refine ⟨_, rfl, rfl, _, rfl, ?_⟩
  cases t with
  | nil =>
    cases hn
    exact iT ⟨Nat.zero_le _, fun w hw => k w _ [] (sameNew hw) hw upd_same .nil⟩
  | node l a b c r =>
    obtain ⟨p, q, vl, vr, rfl, hp, hq, hnl, hnr⟩ := hn
    have e1 := pcs_l hl
    obtain ⟨e2, e3⟩ := h_l l r a b c
    refine iF ⟨_, rfl, ixt hp rfl ⟨vl, l, rfl, hnl, by omega, by omega, fun w H1 xs s1 fw hw px => ?_⟩⟩
    have lx := Paired.length px
    refine ⟨_, rfl, ixt (s1 _ _ hp) rfl ⟨(by show 1 ≤ sizeLine; decide), fun w1 fw1 => ?_⟩⟩
    have s2 := sameNew (o := .lst [V.ref q]) fw1
    refine .inl ⟨w, w1, _, _, rfl, rfl, s2 _ _ hw, upd_same, le_line (by simp; omega), fun w2 fw2 => ?_⟩
    have s3 := s2.trans (sameNew (o := .lst (xs ++ [V.ref q])) fw2)
    generalize hH3 : upd (upd H1 w1 (.lst [V.ref q])) w2 (.lst (xs ++ [V.ref q])) = H3 at s3
    have h3 : H3 w2 = some (.lst (xs ++ [V.ref q])) := by rw [← hH3, upd_same]
    have s13 := s1.trans s3
    refine ⟨_, rfl, ixt (s13 _ _ hp) rfl ⟨vr, r, rfl, hnr.mono (tupsOf s13), by omega, by omega, fun w3 H4 ys s4 fw3 hw3 py => ?_⟩⟩
    have ly := Paired.length py
    refine .inl ⟨w2, w3, _, _, rfl, rfl, s4 _ _ h3, hw3, le_line (by simp; omega), fun w4 fw4 => ?_⟩
    have s5 := sameNew (o := .lst (xs ++ [V.ref q] ++ ys)) fw4
    have s45 := s4.trans s5
    have sAll := s13.trans s45
    refine k w4 _ (xs ++ [V.ref q] ++ ys) sAll ((s13.trans s4).free fw4) upd_same ?_
    have e : (Tr.node l a b c r).pcs = l.pcs ++ [(a, b, c)] ++ r.pcs := by simp [Tr.pcs]
    rw [e]
    exact ((px.mono (tupsOf (s3.trans s45))).app (.cons ⟨q, rfl, sAll _ _ hq⟩ .nil)).app (py.mono (tupsOf s5))

def spWhole : Sp := fun vs H Q E => ∃ i, vs = [.int i] ∧ Q (.bl true) H
theorem rd_wholeL {K : PySem.W.Frag} (vs : List V) (H : Hp) (Q : VK) (E : XK) (h : spWhole vs H Q E) : rdSs (rcx K [] []) b_wholeL { nx := fun _ H' => Q .non H', rt := Q } (start N_wholeL vs) H := by
  obtain ⟨i, rfl, q⟩ := h
  exact ⟨_, rfl, rfl, _, rfl, iteT ⟨_, rfl, rfl, q⟩⟩
def spGood (n : Nat) : Sp := fun vs H Q E => ∃ v t, vs = [v] ∧ Nd H t v ∧ t.ok ∧ t.h < n ∧ ∀ w H', Same H H' → H' w = some (tp (t.h, t.sz, t.en)) → Q (.ref w) H'
theorem no_good (vs : List V) (H : Hp) (Q : VK) (E : XK) : ¬ spGood 0 vs H Q E := by
  rintro ⟨v, t, -, -, -, h, -⟩
  have := Tr.h0 t
  omega
abbrev tGood0 (n : Nat) : List (Str × Sp) := [("_law_good", spGood n), ("_law_whole", spWhole)]
theorem rd_good {K : PySem.W.Frag} (n : Nat) (vs : List V) (H : Hp) (Q : VK) (E : XK) (h : spGood (n + 1) vs H Q E) : rdSs (rcx K (tGood0 n) []) b_goodL { nx := fun _ H' => Q .non H', rt := Q } (start N_goodL vs) H := by
  obtain ⟨v, t, rfl, hn, ho, hh, k⟩ := h
  refine ⟨_, rfl, rfl, _, rfl, ?_⟩
  cases t with
  | nil =>
    cases hn
    exact iT ⟨(by show 3 ≤ sizeLine; decide), fun w hw => k w _ (sameNew hw) upd_same⟩
  | node l a b c r =>
    obtain ⟨p, q, vl, vr, rfl, hp, hq, hnl, hnr⟩ := hn
    obtain ⟨e2, e3⟩ := h_l l r a b c
    refine iF ⟨_, rfl, rfl, isi_tup hp ⟨_, rfl, .inr ⟨_, SqT.of hp, _, rfl, ?_⟩⟩⟩
    refine ⟨_, rfl, ixt hp rfl ⟨rfl, isi_tup hq ⟨_, rfl, ixt hp rfl (.inr ⟨_, SqT.of hq, _, rfl, ?_⟩)⟩⟩⟩
    refine ⟨_, rfl, ixt hp rfl ⟨vl, l, rfl, hnl, ho.1, by omega, fun w1 H1 s1 hw1 => ?_⟩⟩
    refine ⟨_, rfl, ixt (s1 _ _ hp) rfl ⟨vr, r, rfl, hnr.mono (tupsOf s1), ho.2.1, by omega, fun w2 H2 s2 hw2 => ?_⟩⟩
    have s12 := s1.trans s2
    have hw1' := s2 _ _ hw1
    refine ⟨_, rfl, rfl, _, rfl, ?_⟩
    refine ⟨_, rfl, rfl, _, rfl, ?_⟩
    refine ⟨_, rfl, ixt hw1' rfl ⟨_, rfl, ixt hw2 rfl ⟨trivial, trivial, _, rfl, ?_⟩⟩⟩
    have ha : (decide ((1 : Int) < (if l.h - r.h < 0 then -(l.h - r.h) else l.h - r.h))) = false := by
      have := ho.2.2.1
      have := ho.2.2.2
      apply decide_eq_false
      split <;> omega
    refine iF ?_ ha
    have hp2 := s12 _ _ hp
    have hq2 := s12 _ _ hq
    refine ⟨_, rfl, ixt hw1' rfl ⟨_, rfl, ixt hp2 rfl (ixt hq2 rfl ⟨_, rfl, ixt hw2 rfl ?_⟩)⟩⟩
    refine ⟨_, rfl, ixt hw1' rfl ⟨_, rfl, ixt hw2 rfl ⟨_, rfl, _, rfl, ixt hw1' rfl ⟨_, rfl, ixt hp2 rfl (ixt hq2 rfl ⟨_, rfl, ixt hw2 rfl ⟨(by show 3 ≤ sizeLine; decide), fun w3 fw3 => ?_⟩⟩)⟩⟩⟩⟩
    have s3 := sameNew (o := tp ((Tr.node l a b c r).h, (Tr.node l a b c r).sz, (Tr.node l a b c r).en)) fw3
    have e0 : upd H2 w3 (HO.tup [V.int (1 + (if r.h > l.h then r.h else l.h)), V.int (l.sz + b + r.sz), V.int (l.en + c + r.en)]) = upd H2 w3 (tp ((Tr.node l a b c r).h, (Tr.node l a b c r).sz, (Tr.node l a b c r).en)) := rfl
    generalize hH3 : upd H2 w3 (tp ((Tr.node l a b c r).h, (Tr.node l a b c r).sz, (Tr.node l a b c r).en)) = H3 at s3
    have h3 : H3 w3 = some (tp ((Tr.node l a b c r).h, (Tr.node l a b c r).sz, (Tr.node l a b c r).en)) := by rw [← hH3, upd_same]
    show rdSs (rcx K (tGood0 n) []) (b_goodL.drop 7) _ _ (upd H2 w3 (tp ((Tr.node l a b c r).h, (Tr.node l a b c r).sz, (Tr.node l a b c r).en)))
    rw [hH3]
    have s13 := s12.trans s3
    have hp3 := s13 _ _ hp
    have hq3 := s13 _ _ hq
    have cut : cutV [vl, V.ref q, vr, V.int (Tr.node l a b c r).h, V.int (Tr.node l a b c r).sz, V.int (Tr.node l a b c r).en] (some 3) none = [V.int (Tr.node l a b c r).h, V.int (Tr.node l a b c r).sz, V.int (Tr.node l a b c r).en] := rfl
    have nw : ¬ (HT.sIx 6 0 (some (3 : Int)) = 0 ∧ HT.sIx 6 6 (none : Option Int) = 6) := by decide
    refine ⟨_, rfl, _, rfl, .inr ⟨_, SqT.of hp3, nw, fun w4 fw4 => ?_⟩⟩
    rw [cut]
    have s4 := sameNew (o := tp ((Tr.node l a b c r).h, (Tr.node l a b c r).sz, (Tr.node l a b c r).en)) fw4
    refine ⟨_, rfl, ne_data (isP ⟨w4, rfl, upd_same⟩) (isP ⟨w3, rfl, s4 _ _ h3⟩) (shaped_p _) ⟨_, rfl, ?_⟩⟩
    have hp4 := s4 _ _ hp3
    have hq4 := s4 _ _ hq3
    refine ⟨_, rfl, ixt hp4 rfl ⟨_, rfl, _, rfl, .inr ⟨_, SqT.of hp4, nw, fun w5 fw5 => ?_⟩⟩⟩
    rw [cut]
    have s5 := sameNew (o := tp ((Tr.node l a b c r).h, (Tr.node l a b c r).sz, (Tr.node l a b c r).en)) fw5
    refine .inr ⟨q, w5, _, _, rfl, rfl, SqT.of (s5 _ _ hq4), SqT.of upd_same, (fun z => nomatch z), (by show 6 ≤ sizeLine; decide), (fun z => nomatch z), fun _ w6 fw6 => ?_⟩
    have s6 := sameNew (o := .tup [V.int a, V.int b, V.int c, V.int (Tr.node l a b c r).h, V.int (Tr.node l a b c r).sz, V.int (Tr.node l a b c r).en]) fw6
    generalize hH6 : upd (upd (upd H3 w4 (HO.tup [V.int (Tr.node l a b c r).h, V.int (Tr.node l a b c r).sz, V.int (Tr.node l a b c r).en])) w5 (HO.tup [V.int (Tr.node l a b c r).h, V.int (Tr.node l a b c r).sz, V.int (Tr.node l a b c r).en])) w6 (HO.tup ([V.int a, V.int b, V.int c] ++ [V.int (Tr.node l a b c r).h, V.int (Tr.node l a b c r).sz, V.int (Tr.node l a b c r).en])) = H6
    have s36 : Same H3 H6 := by
      rw [← hH6]
      exact s4.trans (s5.trans s6)
    have h6 : H6 w6 = some (.tup ([a, b, c, (Tr.node l a b c r).h, (Tr.node l a b c r).sz, (Tr.node l a b c r).en].map V.int)) := by rw [← hH6, upd_same]; rfl
    generalize hns : [a, b, c, (Tr.node l a b c r).h, (Tr.node l a b c r).sz, (Tr.node l a b c r).en] = ns at h6
    refine ⟨w6, rfl, ⟨_, SqT.of h6⟩, fun i m ys H7 => m = ns.length - i ∧ i ≤ ns.length ∧ ys = [] ∧ H7 = H6, ⟨_, rfl, Nat.zero_le _, rfl, rfl⟩, ?_⟩
    rintro i m ys H7 ⟨rfl, hi, rfl, rfl⟩
    by_cases hlt : i < ns.length
    · refine .inr ⟨⟨_, V.int ns[i], SqT.of h6, by simp [hlt]⟩, ?_⟩
      rintro x H8 ⟨rfl, hx⟩
      have hx' := hx _ (SqT.of h6)
      have ex : x = V.int ns[i] := by
        rw [List.getElem?_map, List.getElem?_eq_getElem hlt] at hx'
        exact (Option.some.inj hx').symm
      subst ex
      refine ⟨_, rfl, _, rfl, ?_⟩
      exact ⟨ns.length - (i + 1), by omega, rfl, hlt, rfl, rfl⟩
    · have hie : i = ns.length := by omega
      subst hie
      refine .inl ⟨⟨_, SqT.of h6, by simp⟩, fun w7 fw7 => ?_⟩
      refine ⟨Nat.zero_le _, fun w8 fw8 => ?_⟩
      have s7 := sameNew (o := .lst []) fw7
      have s8 := sameNew (o := .lst []) fw8
      refine ne_data (isR (ps := []) ⟨w7, [], rfl, s8 _ _ upd_same, .nil⟩) (isR (ps := []) ⟨w8, [], rfl, upd_same, .nil⟩) (shaped_r []) ⟨_, rfl, ?_⟩
      have s68 := s36.trans (s7.trans s8)
      exact iF ⟨_, rfl, k w3 _ (s13.trans s68) (s68 _ _ h3)⟩
end L2.K14

set_option maxRecDepth 100000
set_option maxHeartbeats 4000000
namespace L2.K14
open PySem PySem.Spec PyProof.Rows

/-! ### many_upto -/
def spUpto : Sp := fun vs H Q E => ∃ (a : Addr) (xs : List Int) (most : Int), vs = [.ref a, .int most] ∧ H a = some (.lst (xs.map V.int)) ∧ Rise xs ∧ Q (.int (cnt xs most)) H
theorem rd_upto {K : PySem.W.Frag} (vs : List V) (H : Hp) (Q : VK) (E : XK) (h : spUpto vs H Q E) : rdSs (rcx K [] []) b_many_upto { nx := fun _ H' => Q .non H', rt := Q } (start N_many_upto vs) H := by
  obtain ⟨a, xs, most, rfl, ha, hr, q⟩ := h
  have hc := cnt_le xs most
  refine ⟨_, rfl, .inl ⟨_, SqL.of ha, ?_⟩⟩
  rw [List.length_map]
  refine ⟨fun m σ H' => ∃ (lo hi : Nat) (w : Option V), m = hi - lo ∧ σ = [some (.ref a), some (.int most), some (.int lo), some (.int hi), w] ∧ lo ≤ cnt xs most ∧ cnt xs most ≤ hi ∧ hi ≤ xs.length ∧ H' = H,
    ⟨_, 0, xs.length, none, rfl, rfl, Nat.zero_le _, hc, Nat.le_refl _, rfl⟩, ?_⟩
  rintro m σ H' ⟨lo, hi, w, rfl, rfl, h1, h2, h3, rfl⟩
  refine ⟨_, rfl, _, rfl, trivial, _, rfl, ?_⟩
  refine ite2 (fun h => ?_) (fun h => ?_)
  · have hlt : (lo : Int) < (hi : Int) := of_decide_eq_true h
    refine ⟨_, fun σ' H'' q => q, ?_⟩
    refine ⟨_, rfl, _, rfl, ⟨by decide, by decide⟩, ?_⟩
    have hk : (lo + hi) / 2 < xs.length := by omega
    generalize hkk : (lo + hi) / 2 = k at hk
    have hm : ((lo : Int) + (hi : Int)) / 2 = (k : Int) := by omega
    show rdSs _ _ _ [some (V.ref a), some (V.int most), some (V.int lo), some (V.int hi), some (V.int (((lo : Int) + (hi : Int)) / 2))] _
    rw [hm]
    have gk : xs[k]? = some xs[k] := List.getElem?_eq_getElem hk
    have ik : atI (xs.map V.int) (k : Int) = some (.int xs[k]) := atI_nat (by rw [List.getElem?_map, gk]; rfl)
    refine ⟨_, rfl, _, rfl, ixl ha ik ⟨_, rfl, trivial, _, rfl, ?_⟩⟩
    refine ite2 (fun g => ?_) (fun g => ?_)
    · have hle : xs[k] ≤ most := of_decide_eq_true g
      exact ⟨_, rfl, hi - (k + 1), by omega, k + 1, hi, some (V.int k), rfl, rfl, cnt_lo hr gk hle, h2, h3, rfl⟩
    · have hle : ¬ xs[k] ≤ most := fun z => g (decide_eq_true z)
      exact ⟨_, rfl, k - lo, by omega, lo, k, some (V.int k), rfl, rfl, h1, cnt_hi hr gk hle, by omega, rfl⟩
  · have hle : ¬ (lo : Int) < (hi : Int) := fun z => h (decide_eq_true z)
    have e : cnt xs most = lo := by omega
    rw [e] at q
    exact ⟨_, rfl, q⟩

end L2.K14

set_option maxRecDepth 100000
set_option maxHeartbeats 4000000
namespace L2.K14
open PySem PySem.Spec PyProof.Rows

/-! ### fields -/
theorem lk_eq {k : Str} {v : V} {r : List (Str × V)} : ((k, v) :: r).lookup k = some v := by simp [List.lookup]
theorem lk_ne {k j : Str} {v : V} {r : List (Str × V)} (h : ¬ k = j) : ((j, v) :: r).lookup k = r.lookup k := by
  have : (k == j) = false := by simpa using h
  simp [List.lookup, this]
theorem pf_eq {k : Str} {v w : V} {r : List (Str × V)} : putF k v ((k, w) :: r) = (k, v) :: r := by simp [putF]
theorem pf_ne {k j : Str} {v w : V} {r : List (Str × V)} (h : ¬ j = k) : putF k v ((j, w) :: r) = (j, w) :: putF k v r := by simp [putF, h]

/-! ### a stock -/
def sflds (lt lb lf : Addr) (n : Int) : List (Str × V) := [("texts", .ref lt), ("begins", .ref lb), ("feeds", .ref lf), ("signs", .int n)]
theorem sf_texts {lt lb lf : Addr} {n : Int} : (sflds lt lb lf n).lookup ("texts" : Str) = some (V.ref lt) := lk_eq
theorem sf_begins {lt lb lf : Addr} {n : Int} : (sflds lt lb lf n).lookup ("begins" : Str) = some (V.ref lb) := (lk_ne (by decide +kernel)).trans lk_eq
theorem sf_feeds {lt lb lf : Addr} {n : Int} : (sflds lt lb lf n).lookup ("feeds" : Str) = some (V.ref lf) := (lk_ne (by decide +kernel)).trans ((lk_ne (by decide +kernel)).trans lk_eq)
theorem sf_signs {lt lb lf : Addr} {n : Int} : (sflds lt lb lf n).lookup ("signs" : Str) = some (V.int n) := (lk_ne (by decide +kernel)).trans ((lk_ne (by decide +kernel)).trans ((lk_ne (by decide +kernel)).trans lk_eq))
theorem sf_no {lt lb lf : Addr} {n : Int} {m : Str} (h1 : ¬ m = "texts") (h2 : ¬ m = "begins") (h3 : ¬ m = "feeds") (h4 : ¬ m = "signs") : (sflds lt lb lf n).lookup m = none :=
  (lk_ne h1).trans ((lk_ne h2).trans ((lk_ne h3).trans ((lk_ne h4).trans rfl)))
theorem sf_put {lt lb lf : Addr} {n k : Int} : putF "signs" (.int k) (sflds lt lb lf n) = sflds lt lb lf k := by
  unfold sflds
  rw [pf_ne (by decide +kernel), pf_ne (by decide +kernel), pf_ne (by decide +kernel), pf_eq]
theorem sf_init {lt lb lf : Addr} {n : Int} : putF "signs" (.int n) (putF "feeds" (.ref lf) (putF "begins" (.ref lb) (putF "texts" (.ref lt) []))) = sflds lt lb lf n := by
  have e1 : putF "texts" (V.ref lt) [] = [(("texts" : Str), V.ref lt)] := rfl
  have e2 : putF "begins" (V.ref lb) [] = [(("begins" : Str), V.ref lb)] := rfl
  have e3 : putF "feeds" (V.ref lf) [] = [(("feeds" : Str), V.ref lf)] := rfl
  unfold sflds
  rw [e1, pf_ne (by decide +kernel), e2, pf_ne (by decide +kernel), pf_ne (by decide +kernel), pf_ne (by decide +kernel), e3, pf_ne (by decide +kernel), pf_ne (by decide +kernel)]
  rfl
/-- all signs of a stock -/
def sgs (ts : List Str) : List Nat := (ts.map fun t => t.cps.toList).flatten
theorem sgs_app (a b : List Str) : sgs (a ++ b) = sgs a ++ sgs b := by simp [sgs]
theorem sgs_one (t : Str) : sgs [t] = t.cps.toList := by simp [sgs]
/-- where each text begins -/
def begs : List Str → Nat → List Int
  | [], _ => []
  | t :: r, k => (k : Int) :: begs r (k + t.length)
theorem begs_app : ∀ (a b : List Str) (k : Nat), begs (a ++ b) k = begs a k ++ begs b (k + (sgs a).length)
  | [], b, k => by simp [begs, sgs]
  | t :: a, b, k => by
    have ih := begs_app a b (k + t.length)
    have e : k + t.length + (sgs a).length = k + (sgs (t :: a)).length := by
      simp [sgs, Str.length]; omega
    rw [e] at ih
    simp only [List.cons_append, begs, ih]
structure StAt (C : Addr) (H : Hp) (p dx lt lb lf : Addr) (ts : List Str) : Prop where
  ob : H p = some (.ins C dx (sflds lt lb lf (sgs ts).length))
  tx : H lt = some (.lst (ts.map V.str))
  bg : H lb = some (.lst ((begs ts 0).map V.int))
  fd : H lf = some (.lst ((posI 10 (sgs ts)).map V.int))
  n1 : lt ≠ lb
  n2 : lt ≠ lf
  n3 : lb ≠ lf
/-- all but a stock -/
def ButS (p lt lb lf : Addr) (H H' : Hp) : Prop := ∀ b o, H b = some o → b ≠ p → b ≠ lt → b ≠ lb → b ≠ lf → H' b = some o
theorem StAt.same {C : Addr} {H H' : Hp} {p dx lt lb lf : Addr} {ts : List Str} (S : StAt C H p dx lt lb lf ts) (s : Same H H') : StAt C H' p dx lt lb lf ts :=
  ⟨s _ _ S.ob, s _ _ S.tx, s _ _ S.bg, s _ _ S.fd, S.n1, S.n2, S.n3⟩
def spStInit (C : Addr) : Sp := fun vs H Q E => ∃ (p dx : Addr), vs = [.ref p] ∧ H p = some (.ins C dx []) ∧ ∀ (lt lb lf : Addr) (H' : Hp), StAt C H' p dx lt lb lf [] → H lt = none → H lb = none → H lf = none → (∀ b o, H b = some o → b ≠ p → H' b = some o) → Q .non H'
theorem rd_StInit {K : PySem.W.Frag} {C : Addr} (T : Tx_Stock K C) (vs : List V) (H : Hp) (Q : VK) (E : XK) (h : spStInit C vs H Q E) : rdSs (rcx K [] []) b_Stock_init { nx := fun _ H' => Q .non H', rt := Q } (start N_Stock_init vs) H := by
  obtain ⟨p, dx, rfl, hp, k⟩ := h
  refine ⟨Nat.zero_le _, fun lt f1 => ?_⟩
  have np1 : p ≠ lt := ne_of_none hp f1
  refine ⟨_, rfl, p, C, dx, [], rfl, (by rw [upd_ne np1]; exact hp), T.cl, T.n_texts, (by show 0 < 1000; decide), ?_⟩
  refine ⟨Nat.zero_le _, fun lb f2 => ?_⟩
  have np2 : p ≠ lb := fun z => by rw [← z, upd_same] at f2; cases f2
  have n12 : lt ≠ lb := fun z => by rw [← z, upd_ne np1.symm, upd_same] at f2; cases f2
  refine ⟨_, rfl, p, C, dx, _, rfl, (by rw [upd_ne np2, upd_same]), T.cl, T.n_begins, (by show 1 < 1000; decide), ?_⟩
  refine ⟨Nat.zero_le _, fun lf f3 => ?_⟩
  have np3 : p ≠ lf := fun z => by rw [← z, upd_same] at f3; cases f3
  have n23 : lb ≠ lf := fun z => by rw [← z, upd_ne np2.symm, upd_same] at f3; cases f3
  have n13 : lt ≠ lf := fun z => by rw [← z, upd_ne np1.symm, upd_ne n12, upd_ne np1.symm, upd_same] at f3; cases f3
  refine ⟨_, rfl, p, C, dx, _, rfl, (by rw [upd_ne np3, upd_same]), T.cl, T.n_feeds, (by show 2 < 1000; decide), ?_⟩
  refine ⟨_, rfl, p, C, dx, _, rfl, upd_same, T.cl, T.n_signs, (by show 3 < 1000; decide), ?_⟩
  have fb : H lb = none := by
    rw [upd_ne np2.symm, upd_ne n12.symm] at f2; exact f2
  have ff : H lf = none := by
    rw [upd_ne np3.symm, upd_ne n23.symm, upd_ne np3.symm, upd_ne n13.symm] at f3; exact f3
  refine k lt lb lf _ ⟨?_, ?_, ?_, ?_, n12, n13, n23⟩ f1 fb ff fun b o e nb => ?_
  · rw [upd_same]
    exact congrArg (fun l => some (HO.ins C dx l)) sf_init
  · rw [upd_ne np1.symm, upd_ne np1.symm, upd_ne n13, upd_ne np1.symm, upd_ne n12, upd_ne np1.symm, upd_same]; rfl
  · rw [upd_ne np2.symm, upd_ne np2.symm, upd_ne n23, upd_ne np2.symm, upd_same]; rfl
  · rw [upd_ne np3.symm, upd_ne np3.symm, upd_same]; rfl
  · rw [upd_ne nb, upd_ne nb, upd_ne (ne_of_none e ff), upd_ne nb, upd_ne (ne_of_none e fb), upd_ne nb, upd_ne (ne_of_none e f1)]; exact e
def spMany' (C : Addr) : Sp := fun vs H Q E => ∃ (p dx lt lb lf : Addr) (ts : List Str), vs = [.ref p] ∧ StAt C H p dx lt lb lf ts ∧ Q (.int (sgs ts).length) H
theorem rd_StMany {K : PySem.W.Frag} {C : Addr} (T : Tx_Stock K C) (vs : List V) (H : Hp) (Q : VK) (E : XK) (h : spMany' C vs H Q E) : rdSs (rcx K [] []) b_Stock_many { nx := fun _ H' => Q .non H', rt := Q } (start N_Stock_many vs) H := by
  obtain ⟨p, dx, lt, lb, lf, ts, rfl, S, q⟩ := h
  exact ⟨_, rfl, p, C, dx, _, _, rfl, S.ob, T.cl, T.n_signs, sf_signs, q⟩
/-- how many line feeds stand ahead of a place -/
def ends (ts : List Str) (n : Int) : Int := (((sgs ts).take n.toNat).count 10 : Nat)
def spEndsA (C : Addr) : Sp := fun vs H Q E => ∃ (p dx lt lb lf : Addr) (ts : List Str) (n : Int), vs = [.ref p, .int n] ∧ StAt C H p dx lt lb lf ts ∧ 0 ≤ n ∧ Q (.int (ends ts n)) H
theorem rd_EndsA {K : PySem.W.Frag} {C : Addr} (T : Tx_Stock K C) (vs : List V) (H : Hp) (Q : VK) (E : XK) (h : spEndsA C vs H Q E) : rdSs (rcx K [("many_upto", spUpto)] []) b_Stock_ends_ahead { nx := fun _ H' => Q .non H', rt := Q } (start N_Stock_ends_ahead vs) H := by
  obtain ⟨p, dx, lt, lb, lf, ts, n, rfl, S, hn, q⟩ := h
  refine ⟨_, rfl, p, C, dx, _, _, rfl, S.ob, T.cl, T.n_feeds, sf_feeds, _, rfl, trivial, lf, _, _, rfl, S.fd, posI_rise _ _, ?_⟩
  obtain ⟨m, rfl⟩ := Int.eq_ofNat_of_zero_le hn
  rw [cnt_pos]
  exact q
end L2.K14

set_option maxRecDepth 100000
set_option maxHeartbeats 4000000
namespace L2.K14
open PySem PySem.Spec PyProof.Rows

/-! ### texts -/
def SG : Str := " !\"#$&'()*+,-./0123456789:;<=>?@ABCDEFGHIJKLMNOPQRSTUVWXYZ[\\]^_`abcdefghijklmnopqrstuvwxyz{|}~\n"
def good (x : Str) : Prop := x.length ≤ 1000000 ∧ ∀ c ∈ x.cps.toList, SG.cps.contains c = true
theorem takeWhile_all {α : Type} (p : α → Bool) : ∀ l : List α, (∀ c ∈ l, p c = true) → l.takeWhile p = l
  | [], _ => rfl
  | c :: l, h => by rw [List.takeWhile_cons, h c List.mem_cons_self, takeWhile_all p l fun d hd => h d (List.mem_cons_of_mem _ hd)]; rfl
theorem lstrip_all (x y : Str) (h : ∀ c ∈ x.cps.toList, y.cps.contains c = true) : Txt.lstripChars x y = "" := by
  have e0 : stripLo y.cps.contains true x = x.length := by
    unfold stripLo
    rw [if_pos rfl, takeWhile_all _ _ h]
    simp [Str.length]
  have e1 : stripHi y.cps.contains false x x.length = x.length := rfl
  unfold Txt.lstripChars Txt.stripBy stripSame stripped
  rw [e0, e1]
  split
  · rename_i hq
    simp only [Bool.and_eq_true, beq_iff_eq] at hq
    have : x.cps = #[] := Array.eq_empty_of_size_eq_zero hq.1
    obtain ⟨c⟩ := x
    have e : c = #[] := this
    subst e
    rfl
  · show (⟨x.cps.extract x.length x.length⟩ : Str) = _
    have : x.cps.extract x.length x.length = #[] := by simp [Str.length]
    rw [this]; rfl
abbrev gS : List (Str × V) := [("SIGNS", .str SG)]
def spText : Sp := fun vs H Q E => ∃ x, vs = [.str x] ∧ good x ∧ Q (.bl true) H
theorem rd_text {K : PySem.W.Frag} (vs : List V) (H : Hp) (Q : VK) (E : XK) (h : spText vs H Q E) : rdSs (rcx K [] gS) b_is_text { nx := fun _ H' => Q .non H', rt := Q } (start N_is_text vs) H := by
  obtain ⟨x, rfl, hx, q⟩ := h
  refine ⟨_, rfl, rfl, _, rfl, iteT ⟨_, rfl, rfl, le_line hx.1, ?_⟩⟩
  show Q (.bl (false ^^ decide (V.str (Txt.lstripChars x SG) = V.str ""))) H
  rw [lstrip_all x SG hx.2, decide_eq_true rfl]
  exact q
def spNeedT : Sp := fun vs H Q E => ∃ x, vs = [.str x] ∧ good x ∧ Q .non H
theorem rd_needT {K : PySem.W.Frag} (vs : List V) (H : Hp) (Q : VK) (E : XK) (h : spNeedT vs H Q E) : rdSs (rcx K [("is_text", spText)] []) b_need_text { nx := fun _ H' => Q .non H', rt := Q } (start N_need_text vs) H := by
  obtain ⟨x, rfl, hx, q⟩ := h
  exact ⟨_, rfl, x, rfl, hx, q⟩
theorem nl_eq : (Str.ofString "\n") = ⟨#[10]⟩ := by rfl
theorem len_list (x : Str) : x.length = x.cps.toList.length := by simp [Str.length]

/-! ### put -/
def hd1 (l : List Nat) : Int := match l with | i :: _ => (i : Int) | [] => -1
theorem occ_hd (x : Str) (lo : Nat) (hl : lo ≤ x.length) : (match Builtin.Str.occurrences x (Str.ofString "\n") lo x.length 1 with | i :: _ => (i : Int) | [] => -1) = hd1 (pos 10 (x.cps.toList.drop lo) lo) := by
  rw [nl_eq, occ_pos x 10 lo 1 hl]
  cases pos 10 (x.cps.toList.drop lo) lo <;> rfl
def spPut (C : Addr) : Sp := fun vs H Q E => ∃ (p dx lt lb lf : Addr) (ts : List Str) (x : Str), vs = [.ref p, .str x] ∧ StAt C H p dx lt lb lf ts ∧ good x ∧ ts.length ≤ 100000 ∧ (sgs ts).length ≤ 1000000 ∧
  ∀ H', ButS p lt lb lf H H' → StAt C H' p dx lt lb lf (ts ++ [x]) → Q (.int (sgs ts).length) H'
theorem begs_len : ∀ (ts : List Str) (k : Nat), (begs ts k).length = ts.length
  | [], _ => rfl
  | t :: r, k => by simp [begs, begs_len r]
theorem pos_le (c : Nat) (a : List Nat) (k : Nat) : (pos c a k).length ≤ a.length := by
  rw [pos_len]; exact List.count_le_length
theorem rd_put {K : PySem.W.Frag} {C : Addr} (T : Tx_Stock K C) (vs : List V) (H : Hp) (Q : VK) (E : XK) (h : spPut C vs H Q E) : rdSs (rcx K [("need_text", spNeedT)] []) b_Stock_put { nx := fun _ H' => Q .non H', rt := Q } (start N_Stock_put vs) H := by
  obtain ⟨p, dx, lt, lb, lf, ts, x, rfl, S, hx, ht, hs, k⟩ := h
  have npt : p ≠ lt := ne_of S.ob S.tx (by intro z; cases z)
  have npb : p ≠ lb := ne_of S.ob S.bg (by intro z; cases z)
  have npf : p ≠ lf := ne_of S.ob S.fd (by intro z; cases z)
  refine ⟨_, rfl, x, rfl, hx, ?_⟩
  refine ⟨_, rfl, p, C, dx, _, _, rfl, S.ob, T.cl, T.n_signs, sf_signs, ?_⟩
  refine ⟨_, rfl, p, C, dx, _, _, rfl, S.ob, T.cl, T.n_texts, sf_texts, .inl ⟨rfl, _, SqL.of S.tx⟩, _, rfl, _, S.tx, lt_line (by simp; omega), ?_⟩
  have o1 : upd H lt (.lst (ts.map V.str ++ [V.str x])) p = some (.ins C dx (sflds lt lb lf (sgs ts).length)) := by rw [upd_ne npt]; exact S.ob
  have o2 : upd H lt (.lst (ts.map V.str ++ [V.str x])) lb = some (.lst ((begs ts 0).map V.int)) := by rw [upd_ne S.n1.symm]; exact S.bg
  refine ⟨_, rfl, p, C, dx, _, _, rfl, o1, T.cl, T.n_begins, sf_begins, .inl ⟨rfl, _, SqL.of o2⟩, _, rfl, _, o2, lt_line (by rw [List.length_map, begs_len]; omega), ?_⟩
  refine ⟨_, rfl, _, rfl, le_line hx.1, _, rfl, p, C, dx, _, rfl, (by rw [upd_ne npb]; exact o1), T.cl, T.n_signs, (by show 4 < 1000; decide), ?_⟩
  generalize hH3 : upd (upd (upd H lt (.lst (ts.map V.str ++ [V.str x]))) lb (.lst ((begs ts 0).map V.int ++ [V.int ((sgs ts).length : Int)]))) p (.ins C dx (putF "signs" (.int (((sgs ts).length : Int) + (x.length : Int))) (sflds lt lb lf ((sgs ts).length : Int)))) = H3
  have b3 : ButS p lt lb lf H H3 := fun b o e n1 n2 n3 n4 => by
    rw [← hH3, upd_ne n1, upd_ne n3, upd_ne n2]; exact e
  have ob3 : H3 p = some (.ins C dx (sflds lt lb lf (((sgs ts).length : Int) + (x.length : Int)))) := by
    rw [← hH3, upd_same]
    exact congrArg (fun l => some (HO.ins C dx l)) sf_put
  have tx3 : H3 lt = some (.lst (ts.map V.str ++ [V.str x])) := by rw [← hH3, upd_ne npt.symm, upd_ne S.n1, upd_same]
  have bg3 : H3 lb = some (.lst ((begs ts 0).map V.int ++ [V.int ((sgs ts).length : Int)])) := by rw [← hH3, upd_ne npb.symm, upd_same]
  have fd3 : H3 lf = some (.lst ((posI 10 (sgs ts)).map V.int)) := by rw [← hH3, upd_ne npf.symm, upd_ne S.n3.symm, upd_ne S.n2.symm]; exact S.fd
  have hxl := len_list x
  have l0 := pos_le 10 (sgs ts) 0
  have l1 := pos_le 10 x.cps.toList 0
  refine ⟨_, rfl, rfl, ?_⟩
  show rdSs _ _ _ ((start N_Stock_put [V.ref p, V.str x]).set 2 _ |>.set 3 (some (V.int (match Builtin.Str.occurrences x (Str.ofString "\n") 0 x.length 1 with | i :: _ => (i : Int) | [] => -1)))) H3
  rw [occ_hd x 0 (Nat.zero_le _), List.drop_zero]
  refine ⟨fun m σ H' => ∃ (done rest : List Nat), m = rest.length ∧ pos 10 x.cps.toList 0 = done ++ rest ∧ σ = [some (.ref p), some (.str x), some (.int ((sgs ts).length : Int)), some (.int (hd1 rest))] ∧ But lf H3 H' ∧ H' lf = some (.lst ((posI 10 (sgs ts) ++ done.map fun (i : Nat) => ((sgs ts).length : Int) + (i : Int)).map V.int)),
    ⟨_, [], pos 10 x.cps.toList 0, rfl, rfl, rfl, fun b o e _ => e, by rw [List.map_nil, List.append_nil]; exact fd3⟩, ?_⟩
  rintro m σ H' ⟨done, rest, rfl, hd, rfl, b4, f4⟩
  have ob4 := b4 _ _ ob3 npf
  refine ⟨_, rfl, trivial, _, rfl, ?_⟩
  cases rest with
  | nil =>
    refine iF ⟨_, rfl, ?_⟩
    rw [List.append_nil] at hd
    refine k H' (fun b o e n1 n2 n3 n4 => b4 b o (b3 b o e n1 n2 n3 n4) n4) ⟨?_, ?_, ?_, ?_, S.n1, S.n2, S.n3⟩
    · rw [sgs_app, sgs_one, List.length_append, ← hxl, Int.natCast_add]; exact ob4
    · rw [List.map_append]; exact b4 _ _ tx3 S.n2
    · rw [begs_app, List.map_append, Nat.zero_add]; exact b4 _ _ bg3 S.n3
    · rw [sgs_app, sgs_one, posI_app, hd]; exact f4
  | cons i rest =>
    have hi := pos_ge 10 x.cps.toList 0 i (by rw [hd]; simp)
    have hl : done.length + (rest.length + 1) ≤ x.cps.toList.length := by
      have := congrArg List.length hd
      simp at this
      omega
    have hge : decide ((0 : Int) ≤ hd1 (i :: rest)) = true := decide_eq_true (by show (0 : Int) ≤ (i : Int); omega)
    refine iT ?_ hge
    refine ⟨_, fun σ' H'' q => q, ?_⟩
    refine ⟨_, rfl, p, C, dx, _, _, rfl, ob4, T.cl, T.n_feeds, sf_feeds, .inl ⟨rfl, _, SqL.of f4⟩, _, rfl, _, rfl, _, f4, (by have e : sizeLine = 16777216 := rfl; have := hx.1; simp [posI]; omega), ?_⟩
    refine ⟨_, rfl, rfl, _, rfl, ?_⟩
    have e1 : fromIndex x.length (hd1 (i :: rest) + 1) = i + 1 := by
      show fromIndex x.length ((i : Int) + 1) = i + 1
      unfold fromIndex
      rw [if_neg (by omega)]; omega
    have nx := pos_next 10 x.cps.toList 0 i done rest hd
    rw [Nat.sub_zero] at nx
    have e2 := occ_hd x (i + 1) (by omega)
    rw [nx] at e2
    rw [← e1] at e2
    refine ⟨rest.length, Nat.lt_succ_self _, done ++ [i], rest, rfl, by rw [hd]; simp, ?_, b4.trans But.upd, ?_⟩
    · show [_, _, _, some (V.int (match Builtin.Str.occurrences x (Str.ofString "\n") (fromIndex x.length (hd1 (i :: rest) + 1)) x.length 1 with | k :: _ => (k : Int) | [] => -1))] = _
      rw [e2]
    · rw [upd_same]
      simp [hd1]
end L2.K14

set_option maxRecDepth 100000
set_option maxHeartbeats 4000000
namespace L2.K14
open PySem PySem.Spec PyProof.Rows
/-! ### texts joined -/
def cat (ts : List Str) : Str := Txt.join "" ts
def sz (ts : List Str) : Nat := (ts.map Str.length).sum
theorem cat_list (ts : List Str) : (cat ts).cps.toList = sgs ts := by
  have e : (Str.ofString "").cps = #[] := rfl
  unfold sgs
  cases ts with
  | nil => rfl
  | cons t r =>
    show (r.foldl (fun acc p => acc ++ (Str.ofString "").cps ++ p.cps) t.cps).toList = _
    rw [e]
    have go : ∀ (r : List Str) (acc : Array Nat), (r.foldl (fun acc p => acc ++ #[] ++ p.cps) acc).toList = acc.toList ++ (r.map fun t => t.cps.toList).flatten := by
      intro r
      induction r with
      | nil => intro acc; simp
      | cons q r ih =>
        intro acc
        show (r.foldl (fun acc p => acc ++ #[] ++ p.cps) (acc ++ #[] ++ q.cps)).toList = _
        rw [ih]; simp
    rw [go]; simp
theorem str_ext {x y : Str} (h : x.cps.toList = y.cps.toList) : x = y := by
  obtain ⟨x⟩ := x
  obtain ⟨y⟩ := y
  exact congrArg Str.mk (Array.toList_inj.mp h)
theorem sgs_len (ts : List Str) : (sgs ts).length = sz ts := by
  unfold sgs sz
  rw [List.length_flatten, List.map_map]
  congr 1
theorem joinOk_of {ts : List Str} (h : sz ts ≤ 1000000) : JoinOk "" ts = true := by
  have go : ∀ (l : List Str) (n : Nat), l.foldl (· + ·.length + (Str.ofString "").length) n = n + sz l := by
    intro l
    induction l with
    | nil => intro n; rfl
    | cons t r ih =>
      intro n
      show r.foldl _ (n + t.length + 0) = _
      rw [ih]
      show n + t.length + 0 + sz r = n + (t.length + sz r)
      omega
  unfold JoinOk
  have e : ts.toArray.foldl (· + ·.length + (Str.ofString "").length) 0 = sz ts := by
    rw [List.foldl_toArray, go, Nat.zero_add]
  rw [e]
  show (!decide (sz ts > sizeLine)) = true
  rw [decide_eq_false (by have := le_line h; omega)]
  rfl

/-! ### read -/
theorem begs_get : ∀ (ts : List Str) (k j : Nat), j < ts.length → (begs ts k)[j]? = some ((k : Int) + ((sgs (ts.take j)).length : Int))
  | [], k, j, h => by simp at h
  | t :: r, k, 0, h => by simp [begs, sgs]
  | t :: r, k, j + 1, h => by
    have ih := begs_get r (k + t.length) j (by simpa using h)
    simp only [begs, List.getElem?_cons_succ, List.take_succ_cons]
    rw [ih]
    simp [sgs, Str.length]; omega
theorem begs_ge : ∀ (ts : List Str) (k : Nat), ∀ b ∈ begs ts k, (k : Int) ≤ b
  | [], k, b, h => by simp [begs] at h
  | t :: r, k, b, h => by
    simp only [begs] at h
    rcases List.mem_cons.mp h with rfl | z
    · exact Int.le_refl _
    · have := begs_ge r (k + t.length) b z
      omega
theorem begs_rise : ∀ (ts : List Str) (k : Nat), Rise (begs ts k)
  | [], k => by simp [begs, Rise]
  | t :: r, k => by
    unfold Rise
    simp only [begs]
    rw [List.pairwise_cons]
    exact ⟨fun b hb => by have := begs_ge r (k + t.length) b hb; omega, begs_rise r (k + t.length)⟩
theorem sgs_take (ts : List Str) {j : Nat} {t : Str} (h : ts[j]? = some t) : sgs (ts.take (j + 1)) = sgs (ts.take j) ++ t.cps.toList := by
  rw [List.take_add_one, h, sgs_app]
  simp [sgs]
theorem sgs_split (ts : List Str) {j : Nat} {t : Str} (h : ts[j]? = some t) : sgs ts = sgs (ts.take j) ++ (t.cps.toList ++ sgs (ts.drop (j + 1))) := by
  rw [← List.append_assoc, ← sgs_take ts h, ← sgs_app, List.take_append_drop]
theorem cut_at (z : Str) {lo hi : Nat} (h1 : lo ≤ hi) (hz : lo ≤ z.length) : (cutS z (some (lo : Int)) (some (hi : Int))).cps.toList = (z.cps.toList.drop lo).take (hi - lo) := by
  unfold cutS L2.cutL
  rw [HT.sIx_nat, HT.sIx_nat]
  have e : z.cps.toList.length = z.length := by simp [Str.length]
  rw [e, Nat.min_eq_left hz]
  show List.take (min hi z.length - lo) (List.drop lo z.cps.toList) = _
  by_cases q : hi ≤ z.length
  · rw [Nat.min_eq_left q]
  · rw [Nat.min_eq_right (by omega), List.take_of_length_le (by rw [List.length_drop, e]; omega), List.take_of_length_le (by rw [List.length_drop, e]; omega)]
theorem rd_whole {K : PySem.W.Frag} (vs : List V) (H : Hp) (Q : VK) (E : XK) (h : spWhole vs H Q E) : rdSs (rcx K [] []) b_is_whole { nx := fun _ H' => Q .non H', rt := Q } (start N_is_whole vs) H := by
  obtain ⟨i, rfl, q⟩ := h
  exact ⟨_, rfl, rfl, _, rfl, iteT ⟨_, rfl, rfl, q⟩⟩
def spBetween : Sp := fun vs H Q E => ∃ i lo hi, vs = [.int i, .int lo, .int hi] ∧ Q (.bl (decide (lo ≤ i) && decide (i ≤ hi))) H
theorem rd_between {K : PySem.W.Frag} (vs : List V) (H : Hp) (Q : VK) (E : XK) (h : spBetween vs H Q E) : rdSs (rcx K [("is_whole", spWhole)] []) b_is_between { nx := fun _ H' => Q .non H', rt := Q } (start N_is_between vs) H := by
  obtain ⟨i, lo, hi, rfl, q⟩ := h
  refine ⟨_, rfl, i, rfl, _, rfl, iteT ⟨_, rfl, _, rfl, trivial, _, rfl, ?_⟩⟩
  refine ite2 (fun h => ?_) (fun h => ?_)
  · rw [h, Bool.true_and] at q
    exact ⟨_, rfl, trivial, q⟩
  · have e : decide (lo ≤ i) = false := by simpa using h
    rw [e, Bool.false_and] at q
    exact q
abbrev tRead0 : List (Str × Sp) := [("is_between", spBetween), ("many_upto", spUpto)]
def spRead (C : Addr) : Sp := fun vs H Q E => ∃ (p dx lt lb lf : Addr) (ts : List Str) (b n : Nat), vs = [.ref p, .int b, .int n] ∧ StAt C H p dx lt lb lf ts ∧ b + n ≤ (sgs ts).length ∧ (sgs ts).length ≤ 1000000 ∧ ts.length ≤ 100000 ∧
  ∀ H', Same H H' → Q (.str ⟨(((sgs ts).drop b).take n).toArray⟩) H'
theorem rd_read {K : PySem.W.Frag} {C : Addr} (T : Tx_Stock K C) (vs : List V) (H : Hp) (Q : VK) (E : XK) (h : spRead C vs H Q E) : rdSs (rcx K tRead0 []) b_Stock_read { nx := fun _ H' => Q .non H', rt := Q } (start N_Stock_read vs) H := by
  obtain ⟨p, dx, lt, lb, lf, ts, b, n, rfl, S, hb, hs, ht, k⟩ := h
  refine ⟨_, rfl, _, rfl, p, C, dx, _, _, rfl, S.ob, T.cl, T.n_signs, sf_signs, b, 0, _, rfl, ?_⟩
  rw [decide_eq_true (show (0 : Int) ≤ (b : Int) by omega), decide_eq_true (show (b : Int) ≤ ((sgs ts).length : Int) by omega)]
  refine ⟨_, rfl, _, rfl, p, C, dx, _, _, rfl, S.ob, T.cl, T.n_signs, sf_signs, _, rfl, trivial, n, 0, _, rfl, ?_⟩
  rw [decide_eq_true (show (0 : Int) ≤ (n : Int) by omega), decide_eq_true (show (n : Int) ≤ ((sgs ts).length : Int) - (b : Int) by omega)]
  refine ⟨Nat.zero_le _, fun lp fp => ?_⟩
  have s1 := sameNew (o := .lst []) fp
  have S1 := S.same s1
  refine ⟨_, rfl, p, C, dx, _, _, rfl, S1.ob, T.cl, T.n_begins, sf_begins, _, rfl, lb, _, _, rfl, S1.bg, begs_rise _ _, trivial, ?_⟩
  refine ⟨_, rfl, _, rfl, ?_⟩
  have bl := begs_len ts 0
  have cl := cnt_le (begs ts 0) b
  have npl : p ≠ lp := ne_of_none S.ob fp
  have take1 : ∀ {j : Nat}, j < ts.length → ∃ t, ts[j]? = some t := fun {j} h => ⟨ts[j], List.getElem?_eq_getElem h⟩
  generalize hc : cnt (begs ts 0) (b : Int) = c at cl
  refine ⟨fun m σ H' => ∃ (cur : Nat) (jn : Int) (qs : List Str) (w6 w7 : Option V), m = ((ts.length : Int) - jn).toNat ∧ σ = [some (.ref p), some (.int cur), some (.int n), some (.ref lp), some (.int jn), some (.int ((b : Int) + (n : Int))), w6, w7] ∧
      Same H H' ∧ H' lp = some (.lst (qs.map V.str)) ∧ sgs qs = ((sgs ts).drop b).take (cur - b) ∧ b ≤ cur ∧ cur ≤ b + n ∧ (qs.length : Int) ≤ jn + 1 ∧ jn < (ts.length : Int) + 1 ∧
      (cur < b + n → ∃ j : Nat, jn = (j : Int) ∧ j < ts.length ∧ (sgs (ts.take j)).length ≤ cur ∧ cur ≤ (sgs (ts.take (j + 1))).length),
    ⟨_, b, (c : Int) - 1, [], none, none, rfl, rfl, s1, upd_same, by simp [sgs], Nat.le_refl _, by omega, by simp, by omega, fun hlt => ?_⟩, ?_⟩
  · have hne : 0 < ts.length := by
      cases ts with
      | nil => simp [sgs] at hb; omega
      | cons t r => simp
    have g0 := begs_get ts 0 0 hne
    have c1 : 1 ≤ c := by
      rw [← hc]
      exact cnt_lo (begs_rise ts 0) g0 (by simp [sgs])
    have hj : c - 1 < ts.length := by omega
    refine ⟨c - 1, by omega, hj, ?_, ?_⟩
    · have g := begs_get ts 0 (c - 1) hj
      refine Decidable.byContradiction fun hn => ?_
      have := cnt_hi (most := (b : Int)) (begs_rise ts 0) g (by omega)
      omega
    · rw [show c - 1 + 1 = c by omega]
      by_cases q : c < ts.length
      · have g := begs_get ts 0 c q
        refine Decidable.byContradiction fun hn => ?_
        have := cnt_lo (most := (b : Int)) (begs_rise ts 0) g (by omega)
        omega
      · rw [List.take_of_length_le (by omega)]; omega
  rintro m σ H' ⟨cur, jn, qs, w6, w7, rfl, rfl, s2, hlp, hq, h1, h2, h3, h4, h5⟩
  have S2 := S.same s2
  refine ⟨_, rfl, _, rfl, trivial, _, rfl, ?_⟩
  refine ite2 (fun h => ?_) (fun h => ?_)
  · have hlt : (cur : Int) < (b : Int) + (n : Int) := of_decide_eq_true h
    obtain ⟨j, rfl, hj, g1, g2⟩ := h5 (by omega)
    obtain ⟨t, ht'⟩ := take1 hj
    have gb := begs_get ts 0 j hj
    have ib : atI ((begs ts 0).map V.int) (j : Int) = some (.int (((sgs (ts.take j)).length : Nat) : Int)) := atI_nat (by rw [List.getElem?_map, gb]; simp)
    have it : atI (ts.map V.str) (j : Int) = some (.str t) := atI_nat (by rw [List.getElem?_map, ht']; rfl)
    have et := sgs_take ts ht'
    have es := sgs_split ts ht'
    have lt' : (sgs (ts.take (j + 1))).length = (sgs (ts.take j)).length + t.length := by rw [et, List.length_append, len_list]
    have tl : t.length ≤ 1000000 := by
      have := congrArg List.length es
      simp only [List.length_append] at this
      rw [len_list]; omega
    generalize hL : (sgs (ts.take j)).length = L at g1 ib lt'
    obtain ⟨off, rfl⟩ : ∃ off, cur = L + off := ⟨cur - L, by omega⟩
    have hoff : off ≤ t.length := by omega
    obtain ⟨r, hr⟩ : ∃ r, b + n = L + off + r := ⟨b + n - (L + off), by omega⟩
    have e6 : ((L + off : Nat) : Int) - (L : Int) = (off : Int) := by omega
    have e7 : (off : Int) + ((b : Int) + (n : Int)) - ((L + off : Nat) : Int) = ((off + r : Nat) : Int) := by omega
    refine ⟨_, fun σ' H'' q => q, ?_⟩
    refine ⟨_, rfl, _, rfl, p, C, dx, _, _, rfl, S2.ob, T.cl, T.n_begins, sf_begins, _, rfl, ixl S2.bg ib ⟨trivial, ?_⟩⟩
    show rdSs _ _ _ [some (V.ref p), some (V.int ((L + off : Nat) : Int)), some (V.int n), some (V.ref lp), some (V.int (j : Int)), some (V.int ((b : Int) + (n : Int))), some (V.int (((L + off : Nat) : Int) - (L : Int))), w7] _
    rw [e6]
    refine ⟨_, rfl, p, C, dx, _, _, rfl, S2.ob, T.cl, T.n_texts, sf_texts, _, rfl, ixl S2.tx it ⟨_, rfl, _, rfl, _, rfl, _, rfl, _, rfl, trivial, _, rfl, le_line tl, ?_⟩⟩
    show rdSs _ _ _ [some (V.ref p), some (V.int ((L + off : Nat) : Int)), some (V.int n), some (V.ref lp), some (V.int (j : Int)), some (V.int ((b : Int) + (n : Int))), some (V.int (off : Int)), some (V.str (cutS t (some (off : Int)) (some ((off : Int) + ((b : Int) + (n : Int)) - ((L + off : Nat) : Int)))))] _
    rw [e7]
    have ec := cut_at t (lo := off) (hi := off + r) (by omega) hoff
    rw [Nat.add_sub_cancel_left] at ec
    generalize hpc : cutS t (some (off : Int)) (some ((off + r : Nat) : Int)) = pc at ec
    have pl : pc.length = min r (t.length - off) := by rw [len_list, ec, List.length_take, List.length_drop, ← len_list]
    refine ⟨_, rfl, .inl ⟨rfl, _, SqL.of hlp⟩, _, rfl, _, hlp, lt_line (by rw [List.length_map]; omega), ?_⟩
    refine ⟨_, rfl, _, rfl, le_line (by omega), ?_⟩
    have fl : H lp = none := fp
    have b3 : But lp H' (upd H' lp (.lst (qs.map V.str ++ [V.str pc]))) := But.upd
    refine ⟨_, rfl, ((ts.length : Int) - ((j : Int) + 1)).toNat, by omega, L + off + pc.length, (j : Int) + 1, qs ++ [pc], some (V.int off), some (V.str pc), rfl, ?_, sameBut' s2 fl b3, (by rw [upd_same, List.map_append]; rfl), ?_, by omega, by omega, by simp; omega, by omega, fun hlt2 => ?_⟩
    · show [_, some (V.int (((L + off : Nat) : Int) + (pc.length : Int))), _, _, _, _, _, _] = _
      rw [← Int.natCast_add]
    · rw [sgs_app, sgs_one, hq, ec]
      have e1 : L + off + pc.length - b = (L + off - b) + pc.length := by omega
      rw [e1, List.take_add, List.drop_drop, show b + (L + off - b) = L + off by omega]
      congr 1
      rw [es, ← hL, ← List.drop_drop, List.drop_left, List.drop_append_of_le_length (by rw [← len_list]; exact hoff), List.take_append_of_le_length (by rw [List.length_drop, ← len_list, pl]; omega), pl]
      by_cases q : r ≤ t.length - off
      · rw [Nat.min_eq_left q]
      · rw [Nat.min_eq_right (by omega), List.take_of_length_le (by rw [List.length_drop, ← len_list]; omega), List.take_of_length_le (by rw [List.length_drop, ← len_list]; omega)]
    · have hfull : pc.length = t.length - off := by omega
      have hj2 : j + 1 < ts.length := by
        refine Decidable.byContradiction fun hn => ?_
        have e2 : ts.take (j + 1) = ts := List.take_of_length_le (by omega)
        rw [e2] at lt'
        omega
      obtain ⟨t2, ht2⟩ := take1 hj2
      have et2 := sgs_take ts ht2
      refine ⟨j + 1, rfl, hj2, by omega, ?_⟩
      rw [et2, List.length_append]
      omega
  · have hge : ¬ (cur : Int) < (b : Int) + (n : Int) := fun z => h (decide_eq_true z)
    obtain rfl : cur = b + n := by omega
    rw [Nat.add_sub_cancel_left] at hq
    have hz : sz qs ≤ 1000000 := by
      rw [← sgs_len, hq, List.length_take, List.length_drop]; omega
    refine ⟨rfl, _, rfl, qs, SqL.of hlp, joinOk_of hz, ?_⟩
    have er : Txt.join (Str.ofString "") qs = ⟨(((sgs ts).drop b).take n).toArray⟩ := str_ext (by
      show (cat qs).cps.toList = _
      rw [cat_list, hq])
    show Q (.str (Txt.join (Str.ofString "") qs)) H'
    rw [er]
    exact k H' s2
end L2.K14

set_option maxRecDepth 100000
set_option maxHeartbeats 4000000
namespace L2.K14
open L2.K13 PySem PySem.Spec PyProof.Rows

/-! ### cut_in_two, parted -/
abbrev mEnds (C : Addr) : List (Str × Addr × Sp) := [("ends_ahead", C, spEndsA C)]
theorem no_ends {lt lb lf : Addr} {n : Int} : (sflds lt lb lf n).lookup ("ends_ahead" : Str) = none := sf_no (by decide +kernel) (by decide +kernel) (by decide +kernel) (by decide +kernel)
def spCut2 (C : Addr) : Sp := fun vs H Q E => ∃ (q : Addr) (a b c n : Int) (p dx lt lb lf : Addr) (ts : List Str), vs = [.ref q, .int n, .ref p] ∧ H q = some (tp (a, b, c)) ∧ StAt C H p dx lt lb lf ts ∧ 0 ≤ a ∧ 0 ≤ n ∧
  ∀ (w q1 q2 : Addr) (H' : Hp), Same H H' → H' w = some (.tup [.ref q1, .ref q2]) → H' q1 = some (tp (a, n, ends ts (a + n) - ends ts a)) → H' q2 = some (tp (a + n, b - n, c - (ends ts (a + n) - ends ts a))) → Q (.ref w) H'
theorem rd_cut2 {K : PySem.W.Frag} {C : Addr} (vs : List V) (H : Hp) (Q : VK) (E : XK) (h : spCut2 C vs H Q E) : rdSs (rcx K [] [] [] (mEnds C)) b_cut_in_two { nx := fun _ H' => Q .non H', rt := Q } (start N_cut_in_two vs) H := by
  obtain ⟨q, a, b, c, n, p, dx, lt, lb, lf, ts, rfl, hq, S, ha, hn, k⟩ := h
  refine ⟨_, rfl, ixt hq rfl ⟨_, rfl, ?_⟩⟩
  refine ⟨_, rfl, p, dx, _, rfl, S.ob, no_ends, _, rfl, p, dx, lt, lb, lf, ts, _, rfl, S, (by show 0 ≤ a + n; omega), ?_⟩
  refine ⟨_, rfl, p, dx, _, rfl, S.ob, no_ends, _, rfl, ixt hq rfl ⟨p, dx, lt, lb, lf, ts, a, rfl, S, ha, trivial, ?_⟩⟩
  refine ⟨_, rfl, ixt hq rfl ⟨_, rfl, _, rfl, (by show 3 ≤ sizeLine; decide), fun q1 f1 => ?_⟩⟩
  have s1 := sameNew (o := tp (a, n, ends ts (a + n) - ends ts a)) f1
  refine ⟨_, rfl, _, rfl, ixt (s1 _ _ hq) rfl ⟨_, rfl, trivial, _, rfl, ixt (s1 _ _ hq) rfl ⟨_, rfl, trivial, (by show 3 ≤ sizeLine; decide), fun q2 f2 => ?_⟩⟩⟩
  have s2 := sameNew (o := tp (a + n, b - n, c - (ends ts (a + n) - ends ts a))) f2
  refine ⟨(by show 2 ≤ sizeLine; decide), fun w fw => ?_⟩
  have s3 := sameNew (o := .tup [V.ref q1, V.ref q2]) fw
  exact k w q1 q2 _ (s1.trans (s2.trans s3)) upd_same (s3 _ _ (s2 _ _ upd_same)) (s3 _ _ upd_same)
theorem sz_pcs : ∀ t : Tr, t.sz = psz t.pcs
  | .nil => rfl
  | .node l a b c r => by
    show l.sz + b + r.sz = psz (l.pcs ++ (a, b, c) :: r.pcs)
    rw [psz_app, psz_cons, sz_pcs l, sz_pcs r]
    show psz l.pcs + b + psz r.pcs = psz l.pcs + (b + psz r.pcs)
    omega
def PcP (p : P3) : Prop := 0 ≤ p.1 ∧ 1 ≤ p.2.1
def spParted (C : Addr) (n : Nat) : Sp := fun vs H Q E => ∃ (v : V) (t : Tr) (pl : Int) (p dx lt lb lf : Addr) (ts : List Str), vs = [v, .int pl, .ref p] ∧ Nd H t v ∧ t.ok ∧ StAt C H p dx lt lb lf ts ∧ (∀ q ∈ t.pcs, PcP q) ∧ t.h < n ∧ t.pcs.length ≤ 200 ∧ 0 ≤ pl ∧ pl ≤ t.sz ∧
  ∀ (w : Addr) (v1 v2 : V) (t1 t2 : Tr) (H' : Hp), Same H H' → H' w = some (.tup [v1, v2]) → Nd H' t1 v1 → Nd H' t2 v2 → t1.ok → t2.ok → t1.pcs = cutL (ends ts) t.pcs pl → t2.pcs = cutR (ends ts) t.pcs pl → Q (.ref w) H'
theorem no_parted (C : Addr) (vs : List V) (H : Hp) (Q : VK) (E : XK) : ¬ spParted C 0 vs H Q E := by
  rintro ⟨v, t, pl, p, dx, lt, lb, lf, ts, -, -, -, -, -, h, -⟩
  have := Tr.h0 t
  omega
abbrev tParted0 (C : Addr) (n : Nat) : List (Str × Sp) := [("size_of", spSizeO), ("parted", spParted C n), ("joined", spJoined 64), ("cut_in_two", spCut2 C)]
theorem rd_parted {K : PySem.W.Frag} {C : Addr} (n : Nat) (vs : List V) (H : Hp) (Q : VK) (E : XK) (h : spParted C (n + 1) vs H Q E) : rdSs (rcx K (tParted0 C n) []) b_parted { nx := fun _ H' => Q .non H', rt := Q } (start N_parted vs) H := by
  obtain ⟨v, t, pl, p, dx, lt, lb, lf, ts, rfl, hn, ho, S, hpc, hh, hlen, hp0, hp1, k⟩ := h
  refine ⟨_, rfl, rfl, _, rfl, ?_⟩
  cases t with
  | nil =>
    cases hn
    exact iT ⟨(by show 2 ≤ sizeLine; decide), fun w hw => k w .non .non .nil .nil _ (sameNew hw) upd_same rfl rfl trivial trivial rfl rfl⟩
  | node l a b c r =>
    obtain ⟨pa, q, vl, vr, rfl, hpa, hq, hl, hr⟩ := hn
    obtain ⟨o1, o2, o3, o4⟩ := ho
    obtain ⟨e2, e3⟩ := h_l l r a b c
    have e1 := pcs_l hlen
    have hsz := sz_pcs l
    have hszr := sz_pcs r
    have pl1 : ∀ x ∈ l.pcs, PcP x := fun x hx => hpc x (by simp [Tr.pcs, hx])
    have pr1 : ∀ x ∈ r.pcs, PcP x := fun x hx => hpc x (by simp [Tr.pcs, hx])
    have pm : PcP (a, b, c) := hpc _ (by simp [Tr.pcs])
    have epcs : (Tr.node l a b c r).pcs = l.pcs ++ (a, b, c) :: r.pcs := rfl
    have etot : (Tr.node l a b c r).sz = l.sz + b + r.sz := rfl
    have hl15 := Tr.h_small o1 (by omega : l.pcs.length ≤ 200)
    have hr15 := Tr.h_small o2 (by omega : r.pcs.length ≤ 200)
    refine iF ⟨_, rfl, ixt hpa rfl ?_⟩
    refine ⟨_, rfl, ixt hpa rfl ⟨vl, l, rfl, hl, ?_⟩⟩
    refine ⟨_, rfl, _, rfl, ixt hq rfl ?_⟩
    refine ⟨_, rfl, _, rfl, trivial, _, rfl, ?_⟩
    refine ite2 (fun g => ?_) (fun g => ?_)
    · have hle : pl ≤ l.sz := of_decide_eq_true g
      refine ⟨_, rfl, ixt hpa rfl ⟨_, rfl, _, rfl, vl, l, pl, p, dx, lt, lb, lf, ts, rfl, hl, o1, S, pl1, by omega, by omega, hp0, hle, fun w v1 v2 t1 t2 H1 s1 hw n1 n2 k1 k2 c1 c2 => ?_⟩⟩
      obtain ⟨x1, x2⟩ := cut_le (ends ts) ((a, b, c) :: r.pcs) l.pcs pl (fun x hx => (pl1 x hx).2) (by omega)
      have l2 := (cut_len (ends ts) l.pcs pl).2
      have h2 := Tr.h_small k2 (by rw [c2]; omega)
      refine ⟨_, rfl, ixt hw rfl ⟨_, rfl, ixt hw rfl ⟨_, rfl, _, rfl, ixt (s1 _ _ hpa) rfl ⟨v2, q, vr, t2, r, a, b, c, rfl, n2, hr.mono (tupsOf s1), s1 _ _ hq, k2, o2, (by show _ < ((64 : Nat) : Int); omega), fun v3 H2 t3 s2 n3 J => ⟨(by show 2 ≤ sizeLine; decide), fun w2 fw2 => ?_⟩⟩⟩⟩⟩
      have s3 := sameNew (o := .tup [v1, v3]) fw2
      refine k w2 v1 v3 t1 t3 _ (s1.trans (s2.trans s3)) upd_same ((n1.mono (tupsOf s2)).mono (tupsOf s3)) (n3.mono (tupsOf s3)) k1 J.ok ?_ ?_
      · rw [epcs, x1, c1]
      · rw [epcs, x2, J.pcs, c2]
    · have hgt : ¬ pl ≤ l.sz := fun z => g (decide_eq_true z)
      refine ⟨_, rfl, _, rfl, trivial, _, rfl, ?_⟩
      refine ite2 (fun g => ?_) (fun g => ?_)
      · have hge : l.sz + b ≤ pl := of_decide_eq_true g
        refine ⟨_, rfl, ixt hpa rfl ⟨_, rfl, _, rfl, trivial, _, rfl, vr, r, pl - (l.sz + b), p, dx, lt, lb, lf, ts, rfl, hr, o2, S, pr1, by omega, by omega, by omega, by omega, fun w v1 v2 t1 t2 H1 s1 hw n1 n2 k1 k2 c1 c2 => ?_⟩⟩
        have ez : psz (l.pcs ++ [(a, b, c)]) = l.sz + b := by
          rw [psz_app, psz_cons, psz_nil, hsz]
          show psz l.pcs + (b + 0) = _
          omega
        obtain ⟨x1, x2⟩ := cut_ge (ends ts) r.pcs (l.pcs ++ [(a, b, c)]) pl (fun x hx => by
          rcases List.mem_append.mp hx with z | z
          · exact (pl1 x z).2
          · rw [List.mem_singleton.mp z]; exact pm.2) (by omega)
        have l1 := (cut_len (ends ts) r.pcs (pl - (l.sz + b))).1
        have h1 := Tr.h_small k1 (by rw [c1]; omega)
        refine ⟨_, rfl, ixt (s1 _ _ hpa) rfl ⟨_, rfl, _, rfl, ixt hw rfl ⟨vl, q, v1, l, t1, a, b, c, rfl, hl.mono (tupsOf s1), n1, s1 _ _ hq, o1, k1, (by show _ < ((64 : Nat) : Int); omega), fun v3 H2 t3 s2 n3 J => ?_⟩⟩⟩
        refine ⟨_, rfl, ixt (s2 _ _ hw) rfl ⟨(by show 2 ≤ sizeLine; decide), fun w2 fw2 => ?_⟩⟩
        have s3 := sameNew (o := .tup [v3, v2]) fw2
        have e5 : (Tr.node l a b c r).pcs = (l.pcs ++ [(a, b, c)]) ++ r.pcs := by rw [epcs]; simp
        refine k w2 v3 v2 t3 t2 _ (s1.trans (s2.trans s3)) upd_same (n3.mono (tupsOf s3)) ((n2.mono (tupsOf s2)).mono (tupsOf s3)) J.ok k2 ?_ ?_
        · rw [e5, x1, ez, J.pcs, c1]; simp
        · rw [e5, x2, ez, c2]
      · have hlt : ¬ l.sz + b ≤ pl := fun z => g (decide_eq_true z)
        refine ⟨_, rfl, _, rfl, _, rfl, trivial, _, rfl, q, a, b, c, pl - l.sz, p, dx, lt, lb, lf, ts, rfl, hq, S, pm.1, by omega, fun w q1 q2 H1 s1 hw h1 h2 => ?_⟩
        obtain ⟨x1, x2⟩ := cut_ge (ends ts) ((a, b, c) :: r.pcs) l.pcs pl (fun x hx => (pl1 x hx).2) (by omega)
        rw [← hsz] at x1 x2
        refine ⟨_, rfl, ixt (s1 _ _ hpa) rfl ⟨_, rfl, ixt hw rfl ⟨vl, q1, .non, l, .nil, a, pl - l.sz, _, rfl, hl.mono (tupsOf s1), rfl, h1, o1, trivial, (by show _ < ((64 : Nat) : Int); show l.h + 0 < 64; omega), fun v3 H2 t3 s2 n3 J => ?_⟩⟩⟩
        refine ⟨_, rfl, ixt (s2 _ _ hw) rfl ⟨_, rfl, ixt (s2 _ _ (s1 _ _ hpa)) rfl ⟨.non, q2, vr, .nil, r, _, _, _, rfl, rfl, (hr.mono (tupsOf s1)).mono (tupsOf s2), s2 _ _ h2, trivial, o2, (by show _ < ((64 : Nat) : Int); show 0 + r.h < 64; omega), fun v4 H3 t4 s3 n4 J2 => ⟨(by show 2 ≤ sizeLine; decide), fun w2 fw2 => ?_⟩⟩⟩⟩
        have s4 := sameNew (o := .tup [v3, v4]) fw2
        refine k w2 v3 v4 t3 t4 _ (s1.trans (s2.trans (s3.trans s4))) upd_same ((n3.mono (tupsOf s3)).mono (tupsOf s4)) (n4.mono (tupsOf s4)) J.ok J2.ok ?_ ?_
        · rw [epcs, x1, J.pcs]
          simp only [cutL]
          rw [if_neg (by omega), if_neg (by show ¬ b ≤ pl - l.sz; omega)]
          rfl
        · rw [epcs, x2, J2.pcs]
          simp only [cutR]
          rw [if_neg (by omega), if_neg (by show ¬ b ≤ pl - l.sz; omega)]
          rfl
end L2.K14

set_option maxRecDepth 100000
set_option maxHeartbeats 4000000
namespace L2.K14
open L2.K13 PySem PySem.Spec PyProof.Rows

/-! ### _law_cell_at, _law_mixed -/
def cell (ns : List Int) (k : Nat) : Int := ns.getD k 0
def spCell (K : PySem.W.Frag) : Sp := fun vs H Q E => ∃ (a : Addr) (ns : List Int) (k : Int), vs = [.ref a, .int k] ∧ SqL K H a (ns.map V.int) ∧ 0 ≤ k ∧ Q (.int (cell ns k.toNat)) H
theorem rd_cell {K : PySem.W.Frag} (vs : List V) (H : Hp) (Q : VK) (E : XK) (h : spCell K vs H Q E) : rdSs (rcx K [] []) b_cell_atL { nx := fun _ H' => Q .non H', rt := Q } (start N_cell_atL vs) H := by
  obtain ⟨a, ns, k, rfl, ha, hk, q⟩ := h
  refine ⟨_, rfl, _, rfl, .inl ⟨_, ha, trivial, _, rfl, ?_⟩⟩
  rw [List.length_map]
  refine ite2 (fun h => ?_) (fun h => ?_)
  · have hlt : k < (ns.length : Int) := of_decide_eq_true h
    refine ⟨_, rfl, _, rfl, .inl ⟨_, _, _, _, rfl, rfl, ha, ?_, q⟩⟩
    have e := atI_nat (xs := ns.map V.int) (j := k.toNat) (v := .int (cell ns k.toNat)) (by
      have : k.toNat < ns.length := by omega
      simp [cell, this])
    rw [show ((k.toNat : Nat) : Int) = k by omega] at e
    exact e
  · have hge : ¬ k < (ns.length : Int) := fun z => h (decide_eq_true z)
    have e : cell ns k.toNat = 0 := by
      have z : ns[k.toNat]? = none := List.getElem?_eq_none_iff.mpr (by omega)
      unfold cell
      rw [List.getD_eq_getElem?_getD, z]; rfl
    rw [e] at q
    exact q
theorem pos_mod : (0 : Int) < 2147483647 := by decide
def mixed (c k : Int) : Int := let n := (c * 48271 + 7919 * k + 12345) % 2147483647; n * n % 2147483647 * n % 2147483647
def spMixed : Sp := fun vs H Q E => ∃ c k, vs = [.int c, .int k] ∧ Q (.int (mixed c k)) H
theorem rd_mixed {K : PySem.W.Frag} (vs : List V) (H : Hp) (Q : VK) (E : XK) (h : spMixed vs H Q E) : rdSs (rcx K [] []) b_mixedL { nx := fun _ H' => Q .non H', rt := Q } (start N_mixedL vs) H := by
  obtain ⟨c, k, rfl, q⟩ := h
  have h0 : ∀ z : Int, 0 ≤ z % 2147483647 ∧ z % 2147483647 < 2147483647 := fun z => ⟨Int.emod_nonneg _ (by decide), Int.emod_lt_of_pos _ (by decide)⟩
  have h1 := h0 (c * 48271 + 7919 * k + 12345)
  have h2 := h0 ((c * 48271 + 7919 * k + 12345) % 2147483647 * ((c * 48271 + 7919 * k + 12345) % 2147483647))
  refine ⟨_, rfl, .inr ⟨by decide, by decide⟩, _, rfl, .inl ⟨by decide, by decide⟩, pos_mod, ?_⟩
  refine ⟨_, rfl, _, rfl, .inl ⟨by omega, by omega⟩, pos_mod, _, rfl, .inl ⟨by omega, by omega⟩, pos_mod, ?_⟩
  exact q

/-! ### line feeds of a part -/
theorem sgs_x (x : Str) : sgs [x] = x.cps.toList := sgs_one x
theorem cnt_sl (x : Str) {a n : Int} (ha : 0 ≤ a) (hn : 0 ≤ n) (h : a + n ≤ x.length) :
    ((((Builtin.Str.occurrences (cutS x (some a) (some (a + n))) (Str.ofString "\n") 0 (cutS x (some a) (some (a + n))).length ((cutS x (some a) (some (a + n))).length + 1)).length : Nat)) : Int) = ends [x] (a + n) - ends [x] a := by
  obtain ⟨i, rfl⟩ := Int.eq_ofNat_of_zero_le ha
  obtain ⟨j, rfl⟩ := Int.eq_ofNat_of_zero_le hn
  have e : ((i : Int) + (j : Int)) = ((i + j : Nat) : Int) := by omega
  rw [e] at h ⊢
  have h' : i + j ≤ x.length := by omega
  have ec := cut_at x (lo := i) (hi := i + j) (by omega) (by omega)
  rw [Nat.add_sub_cancel_left] at ec
  generalize cutS x (some (i : Int)) (some ((i + j : Nat) : Int)) = z at ec
  rw [nl_eq, occ_pos z 10 0 _ (Nat.zero_le _), List.drop_zero]
  have l1 := pos_le 10 z.cps.toList 0
  rw [List.take_of_length_le (by rw [len_list]; omega), pos_len, ec]
  unfold ends
  rw [sgs_x]
  have e1 : ((i + j : Nat) : Int).toNat = i + j := by omega
  have e2 : ((i : Nat) : Int).toNat = i := by omega
  rw [e1, e2, List.take_add, List.count_append]
  omega

theorem cnt_rd {Γ : RCx} {σ : St} {K : PySem.W.Frag} {x : Str} {a n : Int} {H : Hp} {Q : VK} (ha : 0 ≤ a) (hn : 0 ≤ n) (h : a + n ≤ x.length) (q : Q (.int (ends [x] (a + n) - ends [x] a)) H) :
    rdA Γ [RE.c (V.str (Str.ofString "\n"))] σ H fun xs H2 => rMth K .count (.str (cutS x (some a) (some (a + n)))) xs H2 Q := by
  show Q (.int _) H
  rw [cnt_sl x ha hn h]
  exact q
/-! ### _law_text_by -/
def AL : Str := (Str.ofString " !\"#$&'()*+,-./0123456789:;<=>?@ABCDEFGHIJKLMNOPQRSTUVWXYZ[\\]^_`") ++ (Str.ofString "abcdefghijklmnopqrstuvwxyz{|}~")
theorem AL_len : AL.length = 94 := by decide +kernel
theorem AL_ok : ∀ c ∈ AL.cps.toList, SG.cps.contains c = true := by decide +kernel
theorem ab_ok : ∀ c ∈ (Str.ofString "ab").cps.toList, SG.cps.contains c = true := by decide +kernel
theorem chr_at (al : Str) (hal : ∀ c ∈ al.cps.toList, SG.cps.contains c = true) {j : Int} (h0 : 0 ≤ j) (h1 : j < al.length) : ∃ ch, atI al.cps.toList j = some ch ∧ SG.cps.contains ch = true := by
  obtain ⟨i, rfl⟩ := Int.eq_ofNat_of_zero_le h0
  have hi : i < al.cps.toList.length := by rw [← len_list]; omega
  exact ⟨al.cps.toList[i], atI_nat (List.getElem?_eq_getElem hi), hal _ (List.getElem_mem hi)⟩
theorem ixs {K : PySem.W.Frag} {sd : Addr → List (Key × V) → Prop} {H : Hp} {al : Str} {j : Int} {ch : Nat} {Q : VK} (hl : al.length ≤ 1000000) (e : atI al.cps.toList j = some ch) (q : Q (.str ⟨#[ch]⟩) H) : rIx2 K sd (.str al) (.int j) H Q :=
  .inr (.inr (.inl ⟨al, j, ch, rfl, rfl, le_line hl, e, q⟩))
theorem app_list (x y : Str) : (x ++ y).cps.toList = x.cps.toList ++ y.cps.toList := by
  show (x.cps ++ y.cps).toList = _
  simp
def spTextBy : Sp := fun vs H Q E => ∃ (c n : Int), vs = [.int c, .int n] ∧ 0 ≤ n ∧ n ≤ 1000 ∧ ∀ (x : Str) (H' : Hp), good x → (x.length : Int) = n → Same H H' → Q (.str x) H'
theorem rd_textBy {K : PySem.W.Frag} (vs : List V) (H : Hp) (Q : VK) (E : XK) (h : spTextBy vs H Q E) : rdSs (rcx K [("_law_mixed", spMixed)] []) b_text_byL { nx := fun _ H' => Q .non H', rt := Q } (start N_text_byL vs) H := by
  obtain ⟨c, n, rfl, hn0, hn1, k⟩ := h
  refine ⟨_, rfl, (by decide +kernel), ?_⟩
  show rdSs (rcx K [("_law_mixed", spMixed)] []) (b_text_byL.drop 2) _ [some (V.int c), some (V.int n), some (V.str AL), none, none, none] H
  refine ⟨_, rfl, n, rfl, by omega, by omega, for_range (lo := 0) (n := n.toNat) (fun i σ H2 => ∃ (x : Str) (u u' : Option V), σ = [some (.int c), some (.int n), some (.str AL), some (.str x), u, u'] ∧ Same H H2 ∧ x.length = i ∧ ∀ ch ∈ x.cps.toList, SG.cps.contains ch = true)
    ⟨"", none, none, rfl, Same.refl _, rfl, fun ch hc => by simp [show (Str.ofString "").cps = #[] from rfl] at hc⟩ ?_ ?_⟩
  · rintro i σ H2 hi ⟨x, u, u', rfl, s2, hl, hg⟩
    refine ⟨_, rfl, _, rfl, _, _, rfl, ?_⟩
    generalize mixed c (0 + (i : Int)) = m
    have a0 := Int.emod_nonneg (m / 8) (show (2 : Int) ≠ 0 by decide)
    have a1 := Int.emod_lt_of_pos (m / 8) (show (0 : Int) < 2 by decide)
    have b0 := Int.emod_nonneg (m / 8) (show (94 : Int) ≠ 0 by decide)
    have b1 := Int.emod_lt_of_pos (m / 8) (show (0 : Int) < 94 by decide)
    have c0 := Int.emod_nonneg m (show (4 : Int) ≠ 0 by decide)
    have c1 := Int.emod_lt_of_pos m (show (0 : Int) < 4 by decide)
    obtain ⟨h1, e1, g1⟩ := chr_at (Str.ofString "ab") ab_ok a0 (by rw [show (Str.ofString "ab").length = 2 by decide +kernel]; omega)
    obtain ⟨h2, e2, g2⟩ := chr_at AL AL_ok b0 (by rw [AL_len]; omega)
    refine ⟨_, rfl, _, rfl, ⟨by decide, by decide⟩, (by show (0 : Int) < 2; decide), ixs (by decide +kernel) e1 ?_⟩
    refine ⟨_, rfl, _, rfl, ⟨by decide, by decide⟩, (by show (0 : Int) < 94; decide), ixs (by rw [AL_len]; decide) e2 ?_⟩
    refine ⟨_, rfl, _, rfl, ⟨by decide, by decide⟩, (by show (0 : Int) < 94; decide), ixs (by rw [AL_len]; decide) e2 ?_⟩
    refine ⟨(by show 4 ≤ sizeLine; decide), fun l fl => ?_⟩
    have pick : ∃ ch : Nat, atI [V.str (Str.ofString "\n"), V.str ⟨#[h1]⟩, V.str ⟨#[h2]⟩, V.str ⟨#[h2]⟩] (m % 4) = some (.str ⟨#[ch]⟩) ∧ SG.cps.contains ch = true := by
      have : m % 4 = 0 ∨ m % 4 = 1 ∨ m % 4 = 2 ∨ m % 4 = 3 := by omega
      rcases this with e | e | e | e <;> rw [e]
      · exact ⟨10, rfl, by decide +kernel⟩
      · exact ⟨h1, rfl, g1⟩
      · exact ⟨h2, rfl, g2⟩
      · exact ⟨h2, rfl, g2⟩
    obtain ⟨ch, ep, gp⟩ := pick
    refine ⟨_, rfl, (by show (0 : Int) < 4; decide), ixl upd_same ep ⟨le_line (by rw [hl]; show i + 1 ≤ 1000000; omega), ?_⟩⟩
    refine ⟨x ++ ⟨#[ch]⟩, _, _, rfl, s2.trans (sameNew fl), ?_, fun d hd => ?_⟩
    · rw [len_list, app_list, List.length_append, ← len_list, hl]; rfl
    · rw [app_list] at hd
      rcases List.mem_append.mp hd with z | z
      · exact hg d z
      · simp at z; rw [z]; exact gp
  · rintro σ H2 ⟨x, u, u', rfl, s2, hl, hg⟩
    exact ⟨_, rfl, k x H2 ⟨by omega, hg⟩ (by omega) s2⟩

/-! ### _law_rows -/
def PcOk (x : Str) (p : P3) : Prop := 0 ≤ p.1 ∧ 1 ≤ p.2.1 ∧ p.1 + p.2.1 ≤ x.length ∧ p.2.2 = ends [x] (p.1 + p.2.1) - ends [x] p.1
theorem Pcs.snoc {H : Hp} {vs : List V} {ps : List P3} {v : V} {p : P3} (h : Pcs H vs ps) (q : Pc H v p) : Pcs H (vs ++ [v]) (ps ++ [p]) := h.app (.cons q .nil)
def spRows (K : PySem.W.Frag) : Sp := fun vs H Q E => ∃ (a : Addr) (ns : List Int) (x : Str), vs = [.ref a, .str x] ∧ SqL K H a (ns.map V.int) ∧ 1 ≤ x.length ∧ x.length ≤ 1000 ∧
  ∀ (b : Addr) (H' : Hp) (ys : List V) (ps : List P3), Same H H' → H b = none → H' b = some (.lst ys) → Pcs H' ys ps → ps.length ≤ 40 → (∀ p ∈ ps, PcOk x p) → Q (.ref b) H'
abbrev tRows0 (K : PySem.W.Frag) : List (Str × Sp) := [("_law_cell_at", spCell K), ("_law_mixed", spMixed)]
theorem rd_rows {K : PySem.W.Frag} (vs : List V) (H : Hp) (Q : VK) (E : XK) (h : spRows K vs H Q E) : rdSs (rcx K (tRows0 K) []) b_rowsL { nx := fun _ H' => Q .non H', rt := Q } (start N_rowsL vs) H := by
  obtain ⟨a, ns, x, rfl, ha, hx0, hx1, k⟩ := h
  have main : ∀ (c m : Int), 0 ≤ m → m ≤ 40 → rdSs (rcx K (tRows0 K) []) (b_rowsL.drop 3) { nx := fun _ H' => Q .non H', rt := Q } [some (V.ref a), some (V.str x), some (V.int c), some (V.int m), none, none, none, none, none] H := by
    intro c m hm0 hm1
    refine ⟨Nat.zero_le _, fun b fb => ?_⟩
    refine ⟨_, rfl, m, rfl, by omega, by omega, for_range (lo := 0) (n := m.toNat) (fun i σ H2 => ∃ (ys : List V) (ps : List P3) (u1 u2 u3 u4 : Option V), σ = [some (.ref a), some (.str x), some (.int c), some (.int m), some (.ref b), u1, u2, u3, u4] ∧ Same H H2 ∧ H2 b = some (.lst ys) ∧ Pcs H2 ys ps ∧ ps.length = i ∧ ∀ p ∈ ps, PcOk x p)
      ⟨[], [], none, none, none, none, rfl, sameNew fb, upd_same, .nil, rfl, fun p hp => by cases hp⟩ ?_ ?_⟩
    · rintro i σ H2 hi ⟨ys, ps, u1, u2, u3, u4, rfl, s2, hb, hps, hl, hok⟩
      have ly := Paired.length hps
      have t0 := Int.emod_nonneg (0 + (i : Int)) (show (10 : Int) ≠ 0 by decide)
      refine ⟨_, rfl, _, rfl, (by show (0 : Int) < 10; decide), a, ns, _, rfl, s2.seq ha, (by omega), _, rfl, _, _, rfl, ?_⟩
      generalize mixed (cell ns ((2 : Int) + (0 + (i : Int)) % 10).toNat) (50 + (0 + (i : Int))) = nm
      refine ⟨_, rfl, _, rfl, le_line (by omega), (by show (0 : Int) < (x.length : Int); omega), ?_⟩
      have g0 := Int.emod_nonneg nm (show (x.length : Int) ≠ 0 by omega)
      have g1 := Int.emod_lt_of_pos nm (show (0 : Int) < (x.length : Int) by omega)
      show rdSs (rcx K (tRows0 K) []) _ _ [some (V.ref a), some (V.str x), some (V.int c), some (V.int m), some (V.ref b), some (V.int (0 + (i : Int))), some (V.int nm), some (V.int (nm % (x.length : Int))), u4] H2
      generalize nm % (x.length : Int) = bg at g0 g1
      refine ⟨_, rfl, ⟨by decide, by decide⟩, (by show (0 : Int) < 9; decide), _, rfl, le_line (by omega), _, rfl, trivial, ?_⟩
      have z0 := Int.emod_nonneg (nm / 100) (show (9 : Int) ≠ 0 by decide)
      show rdSs (rcx K (tRows0 K) []) _ _ [some (V.ref a), some (V.str x), some (V.int c), some (V.int m), some (V.ref b), some (V.int (0 + (i : Int))), some (V.int nm), some (V.int bg), some (V.int (if (x.length : Int) - bg < 1 + nm / 100 % 9 then (x.length : Int) - bg else 1 + nm / 100 % 9))] H2
      have q0 : 1 ≤ (if (x.length : Int) - bg < 1 + nm / 100 % 9 then (x.length : Int) - bg else 1 + nm / 100 % 9) := by split <;> omega
      have q1 : bg + (if (x.length : Int) - bg < 1 + nm / 100 % 9 then (x.length : Int) - bg else 1 + nm / 100 % 9) ≤ x.length := by split <;> omega
      generalize (if (x.length : Int) - bg < 1 + nm / 100 % 9 then (x.length : Int) - bg else 1 + nm / 100 % 9) = sz' at q0 q1
      refine ⟨_, rfl, .inl ⟨rfl, _, SqL.of hb⟩, _, rfl, _, rfl, _, rfl, _, rfl, _, rfl, _, rfl, _, rfl, _, rfl, le_line (by omega), rfl, ?_⟩
      refine cnt_rd (n := sz') g0 (by omega) q1 ?_
      refine ⟨(by show 3 ≤ sizeLine; decide), fun t ft => ?_⟩
      have s3 := sameNew (o := tp (bg, sz', ends [x] (bg + sz') - ends [x] bg)) ft
      refine ⟨_, s3 _ _ hb, lt_line (by omega), ?_⟩
      have b4 := sameBut s3 (But.upd (c := b) (o := .lst (ys ++ [V.ref t])))
      have t4 := b4.tups hb
      refine ⟨ys ++ [V.ref t], ps ++ [(bg, sz', ends [x] (bg + sz') - ends [x] bg)], _, _, _, _, rfl, sameBut' s2 fb b4, upd_same, Pcs.snoc (hps.mono t4) ⟨t, rfl, ?_⟩, by simp [hl], fun p hp => ?_⟩
      · rw [upd_ne (ne_of_none hb ft).symm, upd_same]
      · rcases List.mem_append.mp hp with z | z
        · exact hok p z
        · rw [List.mem_singleton.mp z]; exact ⟨g0, q0, q1, rfl⟩
    · rintro σ H2 ⟨ys, ps, u1, u2, u3, u4, rfl, s2, hb, hps, hl, hok⟩
      exact ⟨_, rfl, k b H2 ys ps s2 fb hb hps (by omega) hok⟩
  refine ⟨_, rfl, a, ns, 1, rfl, ha, by decide, ?_⟩
  refine ⟨_, rfl, (by show (0 : Int) < 11; decide), ?_⟩
  refine ⟨_, rfl, ⟨by decide, by decide⟩, (by show (0 : Int) < 6; decide), _, rfl, ?_⟩
  generalize cell ns (1 : Int).toNat = c
  refine ite2 (fun h => ?_) (fun h => ?_)
  · refine ⟨_, rfl, ⟨by decide, by decide⟩, (by show (0 : Int) < 30; decide), ?_⟩
    have h1 := Int.emod_nonneg (c / 66) (show (30 : Int) ≠ 0 by decide)
    have h2 := Int.emod_lt_of_pos (c / 66) (show (0 : Int) < 30 by decide)
    exact main c (11 + c / 66 % 30) (by omega) (by omega)
  · have h1 := Int.emod_nonneg c (show (11 : Int) ≠ 0 by decide)
    have h2 := Int.emod_lt_of_pos c (show (0 : Int) < 11 by decide)
    exact main c (c % 11) (by omega) (by omega)
end L2.K14

set_option maxRecDepth 100000
set_option maxHeartbeats 4000000
namespace L2.K14
open L2.K13 PySem PySem.Spec PyProof.Rows

/-! ### _law_node -/
theorem Pcs.get {H : Hp} : ∀ {vs : List V} {ps : List P3} {i : Nat} {v : V}, Pcs H vs ps → vs[i]? = some v → ∃ p, ps[i]? = some p ∧ Pc H v p
  | _, _, i, v, .nil, e => by simp at e
  | _, _, 0, v, .cons h r, e => by simp at e; subst e; exact ⟨_, rfl, h⟩
  | _, _, i + 1, v, .cons h r, e => by
    obtain ⟨p, a, b⟩ := Pcs.get (i := i) r (by simpa using e)
    exact ⟨p, by simpa using a, b⟩
theorem Pcs.take {H : Hp} : ∀ {vs : List V} {ps : List P3} (n : Nat), Pcs H vs ps → Pcs H (vs.take n) (ps.take n)
  | _, _, 0, _ => .nil
  | _, _, _ + 1, .nil => .nil
  | _, _, n + 1, .cons h r => .cons h (Pcs.take n r)
theorem Pcs.drop {H : Hp} : ∀ {vs : List V} {ps : List P3} (n : Nat), Pcs H vs ps → Pcs H (vs.drop n) (ps.drop n)
  | _, _, 0, r => r
  | _, _, _ + 1, .nil => .nil
  | _, _, n + 1, .cons _ r => Pcs.drop n r
theorem cut_to (xs : List V) (k : Nat) : cutV xs none (some (k : Int)) = xs.take k := by
  unfold cutV
  rw [HT.sIx_nat]
  show List.take (min k xs.length - 0) (List.drop 0 xs) = _
  rw [List.drop_zero, Nat.sub_zero]
  by_cases q : k ≤ xs.length
  · rw [Nat.min_eq_left q]
  · rw [Nat.min_eq_right (by omega), List.take_of_length_le (Nat.le_refl _), List.take_of_length_le (by omega)]
theorem cut_from (xs : List V) (k : Nat) : cutV xs (some (k : Int)) none = xs.drop k := by
  unfold cutV
  rw [HT.sIx_nat]
  show List.take (xs.length - min k xs.length) (List.drop (min k xs.length) xs) = _
  by_cases q : k ≤ xs.length
  · rw [Nat.min_eq_left q, List.take_of_length_le (by simp)]
  · rw [Nat.min_eq_right (by omega), List.drop_eq_nil_of_le (Nat.le_refl _), List.drop_eq_nil_of_le (by omega), List.take_nil]
theorem eq_nil {K : PySem.W.Frag} {H : Hp} {a b : Addr} {xs : List V} {ps : List P3} {Q : VK} (ha : H a = some (.lst xs)) (hx : Pcs H xs ps) (hb : H b = some (.lst [])) (q : Q (.bl ps.isEmpty) H) : rCmp K .Eq (.ref a) (.ref b) H Q := by
  refine ⟨rD ps, rD [], isR ⟨a, xs, rfl, ha, hx⟩, isR ⟨b, [], rfl, hb, .nil⟩, shaped_r _, shaped_r _, ?_⟩
  cases ps with
  | nil => rw [SeqAt.eqv_refl _ (SeqAt.canLay_of_shaped (shaped_r []))]; exact q
  | cons p r => exact q
def spNode (n : Nat) : Sp := fun vs H Q E => ∃ (a : Addr) (xs : List V) (ps : List P3) (hv : Bool), vs = [.ref a, .bl hv] ∧ H a = some (.lst xs) ∧ Pcs H xs ps ∧ ps.length < n ∧ ps.length ≤ 100 ∧
  ∀ (v : V) (t : Tr) (H' : Hp), Same H H' → Nd H' t v → t.ok → t.pcs = ps → Q v H'
theorem no_node (vs : List V) (H : Hp) (Q : VK) (E : XK) : ¬ spNode 0 vs H Q E := by
  rintro ⟨a, xs, ps, hv, -, -, -, h, -⟩
  omega
abbrev tNode0 (n : Nat) : List (Str × Sp) := [("joined", spJoined 64), ("_law_node", spNode n)]
theorem rd_node {K : PySem.W.Frag} (n : Nat) (vs : List V) (H : Hp) (Q : VK) (E : XK) (h : spNode (n + 1) vs H Q E) : rdSs (rcx K (tNode0 n) []) b_nodeL { nx := fun _ H' => Q .non H', rt := Q } (start N_nodeL vs) H := by
  obtain ⟨a, xs, ps, hv, rfl, ha, hx, hn, h100, k⟩ := h
  have lx := Paired.length hx
  refine ⟨_, rfl, Nat.zero_le _, fun l0 f0 => ?_⟩
  have s0 := sameNew (o := .lst []) f0
  refine eq_nil (s0 _ _ ha) (hx.mono (tupsOf s0)) upd_same ⟨_, rfl, ?_⟩
  generalize upd H l0 (.lst []) = H0 at s0
  by_cases hps : ps = []
  · subst hps
    exact k .non .nil H0 s0 rfl trivial rfl
  have hne : ps.isEmpty = false := by cases ps with | nil => exact absurd rfl hps | cons p r => rfl
  have hpos : 0 < ps.length := by cases ps with | nil => exact absurd rfl hps | cons p r => simp
  refine iF ?_ hne
  have ha0 := s0 _ _ ha
  have hx0 := hx.mono (tupsOf s0)
  cases hv with
  | false =>
    refine ⟨_, rfl, ?_⟩
    refine ⟨_, rfl, a, rfl, ⟨_, SqL.of ha0⟩, for_list (K := K) (a := a) (xs := xs) (fun i σ H2 => ∃ (v : V) (t : Tr) (w : Option V), σ = [some (.ref a), some (.bl false), some v, w, none] ∧ Same H0 H2 ∧ Nd H2 t v ∧ t.ok ∧ t.pcs = ps.take i)
      ⟨.non, .nil, none, rfl, Same.refl _, rfl, trivial, by simp [Tr.pcs]⟩ (fun i σ H2 _ ⟨_, _, _, _, s2, _⟩ => SqL.of (s2 _ _ ha0)) ?_ ?_⟩
    · rintro i y σ H2 hi ⟨v, t, w, rfl, s2, nt, ot, pt⟩
      obtain ⟨p, gp, q, rfl, hq⟩ := hx0.get hi
      have h15 := Tr.h_small ot (by rw [pt, List.length_take]; omega)
      refine ⟨_, rfl, _, rfl, v, q, .non, t, .nil, p.1, p.2.1, p.2.2, rfl, nt, rfl, s2 _ _ hq, ot, trivial, (by show _ < ((64 : Nat) : Int); show t.h + 0 < 64; omega), fun v' H3 t' s3 n3 J => ?_⟩
      refine ⟨v', t', _, rfl, s2.trans s3, n3, J.ok, ?_⟩
      rw [J.pcs, pt, List.take_add_one, gp]; rfl
    · rintro σ H2 ⟨v, t, w, rfl, s2, nt, ot, pt⟩
      rw [lx, List.take_length] at pt
      exact ⟨_, rfl, k v t H2 (s0.trans s2) nt ot pt⟩
  | true =>
    refine ⟨_, rfl, ?_⟩
    refine ⟨_, rfl, .inl ⟨_, SqL.of ha0, ⟨by decide, by decide⟩, ?_⟩⟩
    have hm : ((xs.length : Int)) / 2 = ((xs.length / 2 : Nat) : Int) := by omega
    show rdSs (rcx K (tNode0 n) []) _ _ [some (V.ref a), some (V.bl true), none, none, some (V.int ((xs.length : Int) / 2))] H0
    rw [hm]
    have hk : xs.length / 2 < xs.length := by omega
    generalize xs.length / 2 = m at hk
    have gx : xs[m]? = some xs[m] := List.getElem?_eq_getElem hk
    obtain ⟨p, gp, q, eq, hq⟩ := hx0.get gx
    have im : atI xs (m : Int) = some (.ref q) := by rw [← eq]; exact atI_nat gx
    refine ⟨_, rfl, _, rfl, _, rfl, .inl ⟨xs, SqL.of ha0, fun l1 f1 => ?_⟩⟩
    rw [cut_to]
    have s1 := sameNew (o := .lst (xs.take m)) f1
    have x1 := (hx0.mono (tupsOf s1)).take m
    have h1 : upd H0 l1 (.lst (xs.take m)) l1 = some (.lst (xs.take m)) := upd_same
    generalize upd H0 l1 (.lst (xs.take m)) = H1 at s1 x1 h1
    refine ⟨_, rfl, l1, xs.take m, ps.take m, true, rfl, h1, x1, by rw [List.length_take]; omega, by rw [List.length_take]; omega, fun v2 t2 H2 s2 n2 o2 p2 => ?_⟩
    have s12 := s1.trans s2
    refine ⟨_, rfl, _, rfl, ixl (s12 _ _ ha0) im ?_⟩
    refine ⟨_, rfl, _, rfl, _, rfl, .inl ⟨xs, SqL.of (s12 _ _ ha0), fun l3 f3 => ?_⟩⟩
    have e1 : cutV xs (some ((m : Int) + 1)) none = xs.drop (m + 1) := cut_from xs (m + 1)
    rw [e1]
    have s3 := sameNew (o := .lst (xs.drop (m + 1))) f3
    have s13 := s12.trans s3
    have x3 := (hx0.mono (tupsOf s13)).drop (m + 1)
    have h3 : upd H2 l3 (.lst (xs.drop (m + 1))) l3 = some (.lst (xs.drop (m + 1))) := upd_same
    generalize upd H2 l3 (.lst (xs.drop (m + 1))) = H3 at s3 s13 x3 h3
    refine ⟨_, rfl, l3, xs.drop (m + 1), ps.drop (m + 1), true, rfl, h3, x3, by rw [List.length_drop]; omega, by rw [List.length_drop]; omega, fun v4 t4 H4 s4 n4 o4 p4 => ?_⟩
    have s14 := s13.trans s4
    have g2 := Tr.h_small o2 (by rw [p2, List.length_take]; omega)
    have g4 := Tr.h_small o4 (by rw [p4, List.length_drop]; omega)
    refine ⟨v2, q, v4, t2, t4, p.1, p.2.1, p.2.2, rfl, (n2.mono (tupsOf s3)).mono (tupsOf s4), n4, s14 _ _ hq, o2, o4, (by show _ < ((64 : Nat) : Int); omega), fun v5 H5 t5 s5 n5 J => ?_⟩
    refine k v5 t5 H5 (s0.trans (s14.trans s5)) n5 J.ok ?_
    rw [J.pcs, p2, p4]
    have hm' : m < ps.length := by omega
    have e3 : ps[m] = p := Option.some.inj ((List.getElem?_eq_getElem hm').symm.trans gp)
    have := List.take_append_drop m ps
    rw [List.drop_eq_getElem_cons hm', e3] at this
    exact this

/-! ### _law_due -/
def DueI (H : Hp) (a l1 l2 : Addr) (x : Str) (ps : List P3) (pl : Int) : Nat → St → Hp → Prop :=
    fun i σ H3 => ∃ (ys zs : List V) (u6 u7 u8 u9 : Option V), σ = [some (.ref a), some (.int pl), some (.str x), some (.ref l1), some (.ref l2), some (.int (psz (ps.take i))), u6, u7, u8, u9] ∧ Same H H3 ∧
      H3 l1 = some (.lst ys) ∧ H3 l2 = some (.lst zs) ∧ Pcs H3 ys (cutL (ends [x]) (ps.take i) pl) ∧ Pcs H3 zs (cutR (ends [x]) (ps.take i) pl)
def spDue : Sp := fun vs H Q E => ∃ (a : Addr) (xs : List V) (ps : List P3) (pl : Int) (x : Str), vs = [.ref a, .int pl, .str x] ∧ H a = some (.lst xs) ∧ Pcs H xs ps ∧ (∀ p ∈ ps, PcOk x p) ∧ x.length ≤ 1000 ∧ ps.length ≤ 100 ∧
  ∀ (w l1 l2 : Addr) (ys zs : List V) (H' : Hp), Same H H' → H' w = some (.tup [.ref l1, .ref l2]) → H' l1 = some (.lst ys) → H' l2 = some (.lst zs) → Pcs H' ys (cutL (ends [x]) ps pl) → Pcs H' zs (cutR (ends [x]) ps pl) → Q (.ref w) H'
theorem rd_due {K : PySem.W.Frag} (vs : List V) (H : Hp) (Q : VK) (E : XK) (h : spDue vs H Q E) : rdSs (rcx K [] []) b_dueL { nx := fun _ H' => Q .non H', rt := Q } (start N_dueL vs) H := by
  obtain ⟨a, xs, ps, pl, x, rfl, ha, hx, hok, hxl, hl, k⟩ := h
  have lx := Paired.length hx
  refine ⟨Nat.zero_le _, fun l1 f1 => ?_⟩
  refine ⟨Nat.zero_le _, fun l2 f2 => ?_⟩
  have n12 : l1 ≠ l2 := fun z => by rw [← z, upd_same] at f2; cases f2
  have s2 := (sameNew (o := .lst []) f1).trans (sameNew (o := .lst []) f2)
  have h1 : upd (upd H l1 (.lst [])) l2 (.lst []) l1 = some (.lst []) := by rw [upd_ne n12, upd_same]
  have h2 : upd (upd H l1 (.lst [])) l2 (.lst []) l2 = some (.lst []) := upd_same
  have g1 : H l2 = none := (sameNew f1).free f2
  generalize upd (upd H l1 (.lst [])) l2 (.lst []) = H2 at s2 h1 h2
  refine ⟨_, rfl, a, rfl, ⟨_, SqL.of (s2 _ _ ha)⟩, for_list (K := K) (a := a) (xs := xs) (DueI H a l1 l2 x ps pl)
    ⟨[], [], none, none, none, none, rfl, s2, h1, h2, .nil, .nil⟩ (fun i σ H3 _ ⟨_, _, _, _, _, _, _, s3, _⟩ => SqL.of (s3 _ _ ha)) ?_ ?_⟩
  · rintro i y σ H3 hi ⟨ys, zs, u6, u7, u8, u9, rfl, s3, e1, e2, py, pz⟩
    obtain ⟨p, gp, c, rfl, hc⟩ := hx.get hi
    have hc3 := s3 _ _ hc
    obtain ⟨p1, p2, p3, p4⟩ := hok p (List.mem_of_getElem? gp)
    have et : ps.take (i + 1) = ps.take i ++ [(p.1, p.2.1, p.2.2)] := by rw [List.take_add_one, gp]; rfl
    obtain ⟨d1, d2⟩ := due_step (ends [x]) (xs := ps.take i) (a := p.1) (b := p.2.1) (c := p.2.2) (pl := pl) (fun q hq => (hok q (List.mem_of_mem_take hq)).2.1) p2 p4
    rw [← et] at d1 d2
    obtain ⟨fr0, fr1⟩ := frst_ok (b := p.2.1) (n := pl - psz (ps.take i)) p2
    have lyl := Paired.length py
    have lzl := Paired.length pz
    have cl := cut_len (ends [x]) (ps.take i) pl
    rw [List.length_take] at cl
    refine ⟨c, _, rfl, .inl (SqT.of hc3), rfl, _, _, rfl, _, _, rfl, _, _, rfl, rfl, ?_⟩
    refine ⟨_, rfl, _, rfl, _, rfl, trivial, ?_⟩
    show rdSs (rcx K [] []) _ _ [some (V.ref a), some (V.int pl), some (V.str x), some (V.ref l1), some (V.ref l2), some (V.int (psz (ps.take i))), some (V.int p.1), some (V.int p.2.1), some (V.int p.2.2), some (V.int (frst p.2.1 (pl - psz (ps.take i))))] H3
    generalize frst p.2.1 (pl - psz (ps.take i)) = f at fr0 fr1 d1 d2
    -- the last rows
    have rest : ∀ (D : Ends) (hD : ∀ σ H', DueI H a l1 l2 x ps pl (i + 1) σ H' → D.nx σ H') (H5 : Hp) (ys' zs' : List V), Same H H5 → H5 l1 = some (.lst ys') → H5 l2 = some (.lst zs') → Pcs H5 ys' (cutL (ends [x]) (ps.take (i + 1)) pl) → Pcs H5 zs' (cutR (ends [x]) (ps.take (i + 1)) pl) →
        rdSs (rcx K [] []) [.asg 5 (.bin .Add (.v 5) (.v 7))] D
          [some (V.ref a), some (V.int pl), some (V.str x), some (V.ref l1), some (V.ref l2), some (V.int (psz (ps.take i))), some (V.int p.1), some (V.int p.2.1), some (V.int p.2.2), some (V.int f)] H5 := by
      intro D hD H5 ys' zs' s5 e1' e2' py' pz'
      refine ⟨_, rfl, _, rfl, hD _ _ ⟨ys', zs', some (V.int p.1), some (V.int p.2.1), some (V.int p.2.2), some (V.int f), ?_, s5, e1', e2', py', pz'⟩⟩
      rw [et, psz_app, psz_cons, psz_nil, Int.add_zero]
      rfl
    have second : ∀ (D : Ends) (hD : ∀ σ H', DueI H a l1 l2 x ps pl (i + 1) σ H' → D.nx σ H') (H4 : Hp) (ys' : List V), Same H H4 → H4 l1 = some (.lst ys') → H4 l2 = some (.lst zs) → Pcs H4 ys' (cutL (ends [x]) (ps.take (i + 1)) pl) → Pcs H4 zs (cutR (ends [x]) (ps.take i) pl) →
        rdSs (rcx K [] []) [.ite (.cmp .Lt (.v 9) (.v 7)) [.drop (.mth .append (.v 4) [(.tup [(.bin .Add (.v 6) (.v 9)), (.bin .Sub (.v 7) (.v 9)), (.mth .count (.sl (.v 2) (some (.bin .Add (.v 6) (.v 9))) (some (.bin .Add (.v 6) (.v 7)))) [(.c (.str "\n"))])])])] [], .asg 5 (.bin .Add (.v 5) (.v 7))]
          D
          [some (V.ref a), some (V.int pl), some (V.str x), some (V.ref l1), some (V.ref l2), some (V.int (psz (ps.take i))), some (V.int p.1), some (V.int p.2.1), some (V.int p.2.2), some (V.int f)] H4 := by
      intro D hD H4 ys' s4 e1' e2' py' pz'
      refine ⟨_, rfl, _, rfl, trivial, _, rfl, ?_⟩
      refine ite2 (fun g => ?_) (fun g => ?_)
      · have hlt : f < p.2.1 := of_decide_eq_true g
        rw [if_pos hlt] at d2
        have ee : p.1 + p.2.1 = (p.1 + f) + (p.2.1 - f) := by omega
        refine ⟨_, rfl, .inl ⟨rfl, _, SqL.of e2'⟩, _, rfl, _, rfl, _, rfl, _, rfl, trivial, _, rfl, _, rfl, _, rfl, _, rfl, _, rfl, _, rfl, _, rfl, le_line (by omega), rfl, ?_⟩
        show rdA (rcx K [] []) [RE.c (V.str (Str.ofString "\n"))] _ H4 fun xs H2 => rMth _ .count (.str (cutS x (some (p.1 + f)) (some (p.1 + p.2.1)))) xs H2 _
        rw [ee]
        refine cnt_rd (n := p.2.1 - f) (by omega) (by omega) (by omega) ?_
        rw [← ee]
        refine ⟨(by show 3 ≤ sizeLine; decide), fun t ft => ?_⟩
        have s5 := sameNew (o := tp (p.1 + f, p.2.1 - f, ends [x] (p.1 + p.2.1) - ends [x] (p.1 + f))) ft
        refine ⟨_, s5 _ _ e2', lt_line (by omega), ?_⟩
        have b6 := sameBut s5 (But.upd (c := l2) (o := .lst (zs ++ [V.ref t])))
        have t6 := b6.tups e2'
        refine rest _ hD _ ys' (zs ++ [V.ref t]) (sameBut' s4 g1 b6) (b6 _ _ e1' n12) upd_same (py'.mono t6) ?_
        rw [d2]
        refine Pcs.snoc (pz'.mono t6) ⟨t, rfl, ?_⟩
        rw [upd_ne (ne_of_none e2' ft).symm, upd_same]
      · have hge : ¬ f < p.2.1 := fun z => g (decide_eq_true z)
        rw [if_neg hge] at d2
        exact rest _ hD _ ys' zs s4 e1' e2' py' (by rw [d2]; exact pz')
    refine ⟨_, rfl, trivial, _, rfl, ?_⟩
    refine ite2 (fun g => ?_) (fun g => ?_)
    · have hgt : 0 < f := of_decide_eq_true g
      rw [if_pos hgt] at d1
      refine ⟨_, rfl, .inl ⟨rfl, _, SqL.of e1⟩, _, rfl, _, rfl, _, rfl, _, rfl, _, rfl, _, rfl, _, rfl, _, rfl, le_line (by omega), rfl, ?_⟩
      refine cnt_rd (n := f) p1 (by omega) (by omega) ?_
      refine ⟨(by show 3 ≤ sizeLine; decide), fun t ft => ?_⟩
      have s5 := sameNew (o := tp (p.1, f, ends [x] (p.1 + f) - ends [x] p.1)) ft
      refine ⟨_, s5 _ _ e1, lt_line (by omega), ?_⟩
      have b6 := sameBut s5 (But.upd (c := l1) (o := .lst (ys ++ [V.ref t])))
      have t6 := b6.tups e1
      refine second _ (fun _ _ z => z) _ (ys ++ [V.ref t]) (sameBut' s3 f1 b6) upd_same (b6 _ _ e2 n12.symm) ?_ (pz.mono t6)
      rw [d1]
      refine Pcs.snoc (py.mono t6) ⟨t, rfl, ?_⟩
      rw [upd_ne (ne_of_none e1 ft).symm, upd_same]
    · have hle : ¬ 0 < f := fun z => g (decide_eq_true z)
      rw [if_neg hle] at d1
      exact second _ (fun _ _ z => z) _ ys s3 e1 e2 (by rw [d1]; exact py) pz
  · rintro σ H3 ⟨ys, zs, u6, u7, u8, u9, rfl, s3, e1, e2, py, pz⟩
    rw [lx, List.take_length] at py pz
    refine ⟨_, rfl, _, rfl, (by show 2 ≤ sizeLine; decide), fun w fw => ?_⟩
    have s4 := sameNew (o := .tup [V.ref l1, V.ref l2]) fw
    exact k w l1 l2 ys zs _ (s3.trans s4) upd_same (s4 _ _ e1) (s4 _ _ e2) (py.mono (tupsOf s4)) (pz.mono (tupsOf s4))
end L2.K14

set_option maxRecDepth 100000
set_option maxHeartbeats 4000000
namespace L2.K14
open L2.K13 PySem PySem.Spec PyProof.Rows
theorem comp_l {K : PySem.W.Frag} {σ : St} {H : Hp} {QQ : List V → Hp → Addr → Prop} {te : TE} {fv : List (Str × Nat)} {a : Addr} {xs : List V} (ha : H a = some (.lst xs)) (hl : xs.length ≤ 1000000) (P : Nat → List V → Hp → Prop) (p0 : P 0 [] H)
    (step : ∀ i x ys H2, xs[i]? = some x → Same H H2 → P i ys H2 → ∀ Q' : VK, (∀ y H3, Same H2 H3 → P (i + 1) (ys ++ [y]) H3 → Q' y H3) → te (some x :: fvals σ fv) H2 Q')
    (fin : ∀ ys H2 p, Same H H2 → P xs.length ys H2 → H2 p = none → QQ ys H2 p) : ∃ W : Nat → Nat → List V → Hp → Prop, (∃ m, W 0 m [] H) ∧ ∀ i m ys H2, W i m ys H2 →
      ((Itl K a).stop i H2 ∧ ∀ p, H2 p = none → QQ ys H2 p) ∨
      ((Itl K a).go i H2 ∧ ∀ x H3, (Itl K a).yld i H2 x H3 → tgtK K none x H3 fun zs => tCond none (zs.map some ++ fvals σ fv) H3 fun b H5 =>
        if b = true then te (zs.map some ++ fvals σ fv) H5 fun y H6 => ys.length < sizeLine ∧ ∃ m', m' < m ∧ W (i + 1) m' (ys ++ [y]) H6 else ∃ m', m' < m ∧ W (i + 1) m' ys H5) := by
  refine ⟨fun i m ys H2 => m = xs.length - i ∧ i ≤ xs.length ∧ ys.length = i ∧ Same H H2 ∧ P i ys H2, ⟨_, rfl, Nat.zero_le _, rfl, Same.refl _, p0⟩, ?_⟩
  rintro i m ys H2 ⟨rfl, hi, hy, s, p⟩
  by_cases hlt : i < xs.length
  · refine .inr ⟨⟨xs, xs[i], SqL.of (s _ _ ha), by simp [hlt]⟩, ?_⟩
    rintro x H3 ⟨rfl, hx⟩
    have hx' := hx xs (SqL.of (s _ _ ha))
    exact step i x ys _ hx' s p _ fun y H4 s4 p4 => ⟨lt_line (by omega), xs.length - (i + 1), by omega, rfl, hlt, by simp [hy], s.trans s4, p4⟩
  · have hie : i = xs.length := by omega
    subst hie
    exact .inl ⟨⟨xs, SqL.of (s _ _ ha), Nat.le_refl _⟩, fun q hq => fin ys _ q s p hq⟩
theorem shaped_2 (a b : List P3) : SeqAt.shaped (.tuple [rD a, rD b]) = true := by
  obtain ⟨c1, d1⟩ := rD_ok a
  obtain ⟨c2, d2⟩ := rD_ok b
  unfold SeqAt.shaped
  have e : (PyData.tuple [rD a, rD b]).canLay0 = true := by
    show (PyData.canLayAll0 (a.map pD) && (PyData.canLayAll0 (b.map pD) && true)) = true
    rw [c1, c2]; rfl
  have e2 : (PyData.tuple [rD a, rD b]).depth ≤ 64 := by
    show max (PyData.depthAll (a.map pD) + 1) (max (PyData.depthAll (b.map pD) + 1) 0) + 1 ≤ 64
    omega
  rw [e, decide_eq_true e2]; rfl
theorem isR2 {H : Hp} {w l1 l2 : Addr} {xs ys : List V} {a b : List P3} (hw : H w = some (.tup [.ref l1, .ref l2])) (h1 : H l1 = some (.lst xs)) (h2 : H l2 = some (.lst ys)) (p1 : Pcs H xs a) (p2 : Pcs H ys b) : Is H (.tuple [rD a, rD b]) (.ref w) :=
  ⟨w, _, rfl, hw, _, _, rfl, isR ⟨l1, xs, rfl, h1, p1⟩, _, _, rfl, isR ⟨l2, ys, rfl, h2, p2⟩, rfl⟩
theorem no_put {lt lb lf : Addr} {n : Int} : (sflds lt lb lf n).lookup ("put" : Str) = none := sf_no (by decide +kernel) (by decide +kernel) (by decide +kernel) (by decide +kernel)
theorem no_many {lt lb lf : Addr} {n : Int} : (sflds lt lb lf n).lookup ("many" : Str) = none := sf_no (by decide +kernel) (by decide +kernel) (by decide +kernel) (by decide +kernel)
theorem no_read {lt lb lf : Addr} {n : Int} : (sflds lt lb lf n).lookup ("read" : Str) = none := sf_no (by decide +kernel) (by decide +kernel) (by decide +kernel) (by decide +kernel)

abbrev tLaw0 (K : PySem.W.Frag) (C : Addr) : List (Str × Sp) := [("_law_text_by", spTextBy), ("_law_cell_at", spCell K), ("_law_rows", spRows K), ("_law_node", spNode 64), ("_law_good", spGood 32), ("parted", spParted C 32), ("size_of", spSizeO), ("_law_pieces", spPieces 32), ("_law_due", spDue), ("met", spMet)]
abbrev mLaw0 (C : Addr) : List (Str × Addr × Sp) := [("put", C, spPut C), ("many", C, spMany' C), ("read", C, spRead C)]
abbrev kLaw0 (C : Addr) : List (Str × Addr × Sp) := [("Stock", C, spStInit C)]
def spLaw (K : PySem.W.Frag) : Sp := fun vs H Q E => ∃ (a : Addr) (ns : List Int), vs = [.ref a] ∧ SqL K H a (ns.map V.int) ∧ ∀ H', Q (.bl true) H'
theorem rd_law {K : PySem.W.Frag} {C : Addr} (vs : List V) (H : Hp) (Q : VK) (E : XK) (h : spLaw K vs H Q E) : rdSs (rcx K (tLaw0 K C) [] [] (mLaw0 C) (kLaw0 C)) b_law { nx := fun _ H' => Q .non H', rt := Q } (start N_law vs) H := by
  obtain ⟨a, ns, rfl, ha, fin⟩ := h
  have m0 := Int.emod_nonneg (cell ns (0 : Int).toNat) (show (40 : Int) ≠ 0 by decide)
  have m1 := Int.emod_lt_of_pos (cell ns (0 : Int).toNat) (show (0 : Int) < 40 by decide)
  refine ⟨_, rfl, a, ns, 0, rfl, ha, by decide, _, rfl, a, ns, 0, rfl, ha, by decide, (by show (0 : Int) < 40; decide), _, _, rfl, by omega, by omega, fun x H1 hx hxl s1 => ?_⟩
  have hx20 : 20 ≤ x.length := by omega
  have hx60 : x.length ≤ 60 := by omega
  -- the stock
  refine fun st dx fst fdx ndx => ⟨st, dx, rfl, upd_same, fun lt lb lf H2 S2 g1 g2 g3 kp => ⟨rfl, ?_⟩⟩
  have sm : Same H1 (upd (upd H1 dx (.own st)) st (.ins C dx [])) := (sameNew fdx).trans (sameNew (by rw [upd_ne (Ne.symm ndx)]; exact fst))
  have s12 : Same H1 H2 := fun b o e => kp b o (sm b o e) (ne_of_none e fst)
  have f1 := sm.free g1
  have f2 := sm.free g2
  have f3 := sm.free g3
  refine ⟨_, rfl, st, dx, _, rfl, S2.ob, no_put, _, rfl, st, dx, lt, lb, lf, [], x, rfl, S2, hx, by decide, by simp [sgs], fun H3 b3 S3 => ?_⟩
  have s13 : Same H1 H3 := fun b o e => b3 b o (s12 b o e) (ne_of_none e fst) (ne_of_none e f1) (ne_of_none e f2) (ne_of_none e f3)
  have scr : SqL K H3 a (ns.map V.int) := (s1.trans s13).seq ha
  -- the rows
  refine ⟨_, rfl, _, rfl, a, ns, x, rfl, scr, by omega, by omega, fun b H4 ys ps s4 fb hb hps hl hok => ?_⟩
  have scr4 := s4.seq scr
  refine ⟨_, rfl, _, rfl, a, ns, 1, rfl, scr4, by decide, (by show (0 : Int) < 2; decide), b, ys, ps, _, rfl, hb, hps, by omega, by omega, fun v t H5 s5 nt ot pt => ?_⟩
  have h15 := Tr.h_small ot (by rw [pt]; omega)
  have h32 : t.h < ((32 : Nat) : Int) := by show t.h < 32; omega
  refine ⟨_, rfl, v, t, rfl, nt, ot, h32, fun wg H6 s6 hg => ?_⟩
  have s46 := s5.trans s6
  have hb6 := s46 _ _ hb
  have hps6 := hps.mono (tupsOf s46)
  have nt6 := nt.mono (tupsOf s6)
  have ly := Paired.length hps
  have tsz := sz_pcs t
  rw [pt] at tsz
  have pp : ∀ q ∈ ps, 1 ≤ q.2.1 := fun q hq => (hok q hq).2.1
  have psz0 := psz_pos pp
  have S6 := S3.same (s4.trans s46)
  have scr6 := (s4.trans s46).seq scr
  refine ⟨_, rfl, rfl, _, rfl, ?_⟩
  refine ⟨_, rfl, ixt hg rfl ⟨_, rfl, b, rfl, ⟨_, SqL.of hb6⟩, comp_l hb6 (by omega) (fun i zs H' => zs = ((ps.take i).map fun p => p.2.1).map V.int) rfl ?_ ?_⟩⟩
  · rintro i y zs H7 hy s7 rfl Q' q'
    obtain ⟨p, gp, q, rfl, hq⟩ := hps6.get hy
    refine ⟨_, rfl, ixt (s7 _ _ hq) rfl (q' _ _ (Same.refl _) ?_)⟩
    rw [List.take_add_one, gp]; simp
  rintro zs H7 lc s7 rfl flc
  rw [ly, List.take_length]
  refine ⟨ps.map fun p => p.2.1, SqL.of upd_same, ⟨_, rfl, ?_⟩⟩
  have esum : t.sz = (ps.map fun p => p.2.1).sum := tsz
  show if (true ^^ decide (V.int t.sz = V.int (ps.map fun p => p.2.1).sum)) = true then _ else _
  rw [esum, decide_eq_true rfl]
  refine iF ?_
  have s8 := s7.trans (sameNew (o := .lst ((ps.map fun p => p.2.1).map V.int)) flc)
  generalize upd H7 lc (.lst ((ps.map fun p => p.2.1).map V.int)) = H8 at s8
  -- four places
  refine ⟨4, rfl, by decide, by decide, for_range (lo := 0) (n := 4) (fun i σ H' => ∃ (u6 u7 u8 u9 u10 : Option V), σ = [some (.ref a), some (.str x), some (.ref st), some (.ref b), some v, some (.ref wg), u6, u7, u8, u9, u10] ∧ Same H6 H') ⟨none, none, none, none, none, rfl, s8⟩ ?_ ?_⟩
  · rintro i σ H' hi ⟨u6, u7, u8, u9, u10, rfl, s9⟩
    have hg9 := s9 _ _ hg
    refine ⟨_, rfl, _, rfl, a, ns, _, rfl, s9.seq scr6, (by omega), ?_⟩
    generalize cell ns ((12 : Int) + (0 + (i : Int))).toNat = c
    have p0 : (0 : Int) < t.sz + 1 := by omega
    refine ⟨_, rfl, ixt hg9 rfl ?_⟩
    refine ⟨_, rfl, ⟨by decide, by decide⟩, _, rfl, ixt hg9 rfl ⟨p0, ?_⟩⟩
    refine ⟨_, rfl, ⟨by decide, by decide⟩, _, rfl, ixt hg9 rfl ⟨p0, ?_⟩⟩
    refine ⟨_, rfl, ixt hg9 rfl ⟨⟨by decide, by decide⟩, (by show 5 ≤ sizeLine; decide), fun l5 f5 => ?_⟩⟩
    have c0 := Int.emod_nonneg c (show (5 : Int) ≠ 0 by decide)
    have c1 := Int.emod_lt_of_pos c (show (0 : Int) < 5 by decide)
    have q0 := Int.emod_nonneg (c / 5) (show t.sz + 1 ≠ 0 by omega)
    have q1 := Int.emod_lt_of_pos (c / 5) p0
    have pick : ∃ pl : Int, atI [V.int 0, V.int t.sz, V.int (c / 5 % (t.sz + 1)), V.int (c / 5 % (t.sz + 1)), V.int (t.sz / 2)] (c % 5) = some (.int pl) ∧ 0 ≤ pl ∧ pl ≤ t.sz := by
      have : c % 5 = 0 ∨ c % 5 = 1 ∨ c % 5 = 2 ∨ c % 5 = 3 ∨ c % 5 = 4 := by omega
      rcases this with e | e | e | e | e <;> rw [e]
      · exact ⟨_, rfl, by omega, by omega⟩
      · exact ⟨_, rfl, by omega, by omega⟩
      · exact ⟨_, rfl, q0, by omega⟩
      · exact ⟨_, rfl, q0, by omega⟩
      · exact ⟨_, rfl, by omega, by omega⟩
    obtain ⟨pl, ep, pl0, pl1⟩ := pick
    refine ⟨_, rfl, (by show (0 : Int) < 5; decide), ixl upd_same ep ?_⟩
    have s10 := s9.trans (sameNew (o := .lst [V.int 0, V.int t.sz, V.int (c / 5 % (t.sz + 1)), V.int (c / 5 % (t.sz + 1)), V.int (t.sz / 2)]) f5)
    refine ⟨_, rfl, _, rfl, _, rfl, v, t, pl, st, dx, lt, lb, lf, [] ++ [x], rfl, nt6.mono (tupsOf s10), ot, S6.same s10, (fun q hq => by rw [pt] at hq; exact ⟨(hok q hq).1, (hok q hq).2.1⟩), h32, by rw [pt]; omega, pl0, pl1, fun w v1 v2 t1 t2 Ha sa hw n1 n2 o1 o2 c1' c2' => ?_⟩
    rw [List.nil_append, pt] at c1' c2'
    have s11 := s10.trans sa
    obtain ⟨z1, z2, z3, z4⟩ := cut_sz (ends [x]) ps pl pp pl0 (by omega)
    obtain ⟨y1, y2⟩ := cut_len (ends [x]) ps pl
    have e1 : t1.sz = pl := by rw [sz_pcs, c1', z1]
    have l1 : t1.pcs.length ≤ 40 := by rw [c1']; omega
    have l2 : t2.pcs.length ≤ 40 := by rw [c2']; omega
    have k1 := Tr.h_small o1 (by omega)
    have k2 := Tr.h_small o2 (by omega)
    have j1 : t1.h < ((32 : Nat) : Int) := by show t1.h < 32; omega
    have j2 : t2.h < ((32 : Nat) : Int) := by show t2.h < 32; omega
    refine ⟨_, rfl, rfl, isi_tup hw ⟨_, rfl, .inr ⟨_, SqT.of hw, _, rfl, ?_⟩⟩⟩
    refine ⟨_, rfl, ixt hw rfl ⟨v1, t1, rfl, n1, o1, j1, fun g1' Hb sb hgb => ⟨rfl, _, rfl, ?_⟩⟩⟩
    refine ⟨_, rfl, ixt (sb _ _ hw) rfl ⟨v2, t2, rfl, n2.mono (tupsOf sb), o2, j2, fun g2' Hc sc hgc => ⟨rfl, _, rfl, ?_⟩⟩⟩
    have sbc := sb.trans sc
    have hwc := sbc _ _ hw
    have n1c := n1.mono (tupsOf sbc)
    have n2c := n2.mono (tupsOf sbc)
    refine ⟨_, rfl, ixt hwc rfl ⟨v1, t1, rfl, n1c, _, rfl, _, rfl, ?_⟩⟩
    rw [e1, decide_eq_true rfl]
    have s12' := s11.trans sbc
    -- the pieces of both
    refine ⟨_, rfl, ixt hwc rfl ⟨v1, t1, rfl, n1c, j1, by omega, fun w1 Hd xs1 sd fd' hd px1 => ?_⟩⟩
    refine ⟨_, rfl, ixt (sd _ _ hwc) rfl ⟨v2, t2, rfl, n2c.mono (tupsOf sd), j2, by omega, fun w2 He xs2 se fe he px2 => ?_⟩⟩
    refine ⟨(by show 2 ≤ sizeLine; decide), fun w3 fw3 => ?_⟩
    have sf := sameNew (o := .tup [V.ref w1, V.ref w2]) fw3
    have hw3 : upd He w3 (.tup [V.ref w1, V.ref w2]) w3 = some (.tup [V.ref w1, V.ref w2]) := upd_same
    have sdf := sd.trans (se.trans sf)
    have sef := se.trans sf
    generalize upd He w3 (.tup [V.ref w1, V.ref w2]) = Hf at sf hw3 sdf sef
    have s13' := s12'.trans sdf
    rw [c1'] at px1
    rw [c2'] at px2
    refine ⟨_, rfl, _, rfl, _, rfl, b, ys, ps, pl, x, rfl, s13' _ _ hb6, hps6.mono (tupsOf s13'), hok, by omega, by omega, fun w4 m1 m2 ya za Hg sg hw4 hm1 hm2 pya pza => ?_⟩
    refine ne_data (isR2 (sg _ _ hw3) (sg _ _ (sef _ _ hd)) (sg _ _ (sf _ _ he)) ((px1.mono (tupsOf sef)).mono (tupsOf sg)) ((px2.mono (tupsOf sf)).mono (tupsOf sg))) (isR2 hw4 hm1 hm2 pya pza) (shaped_2 _ _) ⟨_, rfl, ?_⟩
    have sdg := sdf.trans sg
    have hwg := sdg _ _ hwc
    have s14' := s13'.trans sg
    -- both met
    refine ⟨_, rfl, ixt hwg rfl ⟨_, rfl, ixt hwg rfl ⟨v1, v2, t1, t2, rfl, n1c.mono (tupsOf sdg), n2c.mono (tupsOf sdg), o1, o2, by omega, by omega, fun v3 Hh t3 sh n3 o3 p3 _ => ?_⟩⟩⟩
    rw [c1', c2'] at p3
    have l3 : t3.pcs.length ≤ 80 := by rw [p3, List.length_append]; omega
    have k3 := Tr.h_small o3 (by omega)
    have j3 : t3.h < ((32 : Nat) : Int) := by show t3.h < 32; omega
    have e3 : t3.sz = t.sz := by rw [sz_pcs, p3, psz_app, z1, z2]; omega
    have s15' := s14'.trans sh
    refine ⟨_, rfl, v3, t3, rfl, n3, o3, j3, fun g3' Hi si hgi => ⟨rfl, _, rfl, ?_⟩⟩
    have s16' := s15'.trans si
    have n3i := n3.mono (tupsOf si)
    refine ⟨_, rfl, v3, t3, rfl, n3i, _, rfl, ixt (s16' _ _ hg) rfl ⟨_, rfl, ?_⟩⟩
    rw [e3, decide_eq_true rfl]
    refine ⟨_, rfl, v3, t3, rfl, n3i, j3, by omega, fun w5 Hj xs5 sj fj hj5 px5 => ?_⟩
    rw [p3] at px5
    have s17' := s16'.trans sj
    refine ⟨_, rfl, _, rfl, _, rfl, b, ys, ps, pl, x, rfl, s17' _ _ hb6, hps6.mono (tupsOf s17'), hok, by omega, by omega, fun w6 m3 m4 yb zb Hk sk hw6 hm3 hm4 pyb pzb => ixt hw6 rfl ?_⟩
    have s18' := s17'.trans sk
    refine ⟨_, rfl, _, rfl, _, rfl, b, ys, ps, pl, x, rfl, s18' _ _ hb6, hps6.mono (tupsOf s18'), hok, by omega, by omega, fun w7 m5 m6 yc zc Hl sl' hw7 hm5 hm6 pyc pzc => ixt hw7 rfl ?_⟩
    have lyb := Paired.length pyb
    have lzc := Paired.length pzc
    refine .inl ⟨m3, m6, yb, zc, rfl, rfl, sl' _ _ hm3, hm6, le_line (by omega), fun w8 fw8 => ?_⟩
    have sm' := sameNew (o := .lst (yb ++ zc)) fw8
    have skm := sk.trans (sl'.trans sm')
    refine ne_data (isR ⟨w5, xs5, rfl, skm _ _ hj5, px5.mono (tupsOf skm)⟩) (isR ⟨w8, yb ++ zc, rfl, upd_same, ((pyb.mono (tupsOf sl')).mono (tupsOf sm')).app (pzc.mono (tupsOf sm'))⟩) (shaped_r _) ⟨_, rfl, ?_⟩
    exact ⟨_, _, _, _, _, rfl, s17'.trans skm⟩
  · rintro σ H' ⟨u6, u7, u8, u9, u10, rfl, s9⟩
    have S9 := S6.same s9
    refine ⟨_, rfl, v, t, rfl, nt6.mono (tupsOf s9), h32, by rw [pt]; omega, fun w Ha xs sa fa hw px => ?_⟩
    rw [pt] at px
    have s9a := s9.trans sa
    refine ⟨_, rfl, eq_data (isR ⟨w, xs, rfl, hw, px⟩) (isR ⟨b, ys, rfl, s9a _ _ hb6, hps6.mono (tupsOf s9a)⟩) (shaped_r _) ⟨_, rfl, iteT ?_⟩⟩
    have Sa := S6.same s9a
    refine ⟨_, rfl, st, dx, _, rfl, Sa.ob, no_many, st, dx, lt, lb, lf, _, rfl, Sa, _, rfl, le_line (by omega), ⟨_, rfl, ?_⟩⟩
    have e1 : ((sgs ([] ++ [x])).length : Int) = (x.length : Int) := by rw [List.nil_append, sgs_x, len_list]
    show if (false ^^ decide (V.int ((sgs ([] ++ [x])).length : Int) = V.int (x.length : Int))) = true then _ else _
    rw [e1, decide_eq_true rfl]
    refine iT ?_
    refine ⟨_, rfl, st, dx, _, rfl, Sa.ob, no_read, _, rfl, le_line (by omega), st, dx, lt, lb, lf, [] ++ [x], 0, x.length, rfl, Sa, ?_, ?_, by simp, fun Hb sb => ⟨_, rfl, ?_⟩⟩
    · rw [List.nil_append, sgs_x, ← len_list]; omega
    · rw [List.nil_append, sgs_x, ← len_list]; omega
    · have e2 : (⟨(((sgs ([] ++ [x])).drop 0).take x.length).toArray⟩ : Str) = x := str_ext (by
        show List.take x.length (List.drop 0 (sgs ([] ++ [x]))) = _
        rw [List.nil_append, sgs_x, List.drop_zero, List.take_of_length_le (by rw [← len_list]; exact Nat.le_refl _)])
      show Q (.bl (false ^^ decide (V.str ⟨(((sgs ([] ++ [x])).drop 0).take x.length).toArray⟩ = V.str x))) Hb
      rw [e2, decide_eq_true rfl]
      exact fin _
end L2.K14

set_option maxRecDepth 100000
set_option maxHeartbeats 4000000
namespace L2.K14
open PySem PySem.Spec PyProof.Rows
theorem all_mk {l : PySem.W.OpenLaw} {w : World} {K : PySem.W.Frag} {h : Heap} {mg : Str → Option Value} {fa f0 f1 f2 f3 f4 f5 f6 f7 f8 f9 f10 f11 f12 f13 f14 f15 f16 f17 f18 f19 f20 f21 f22 f23 f24 f25 f26 f27 f28 f29 f30 f31 : Addr} {C_Stock : Addr} (X : K.In h) (G : h.Ns mainGlobals mg) (hfa : mg "law" = some (.ref fa))
    {od0 an0 : Option Addr} {sl0 : Array (Option Value)} {oc0 kV0 dc0 pm0 cd0 ct0 : Value}
    {od1 an1 : Option Addr} {sl1 : Array (Option Value)} {oc1 kV1 dc1 pm1 cd1 ct1 : Value}
    {od2 an2 : Option Addr} {sl2 : Array (Option Value)} {oc2 kV2 dc2 pm2 cd2 ct2 : Value}
    {od3 an3 : Option Addr} {sl3 : Array (Option Value)} {oc3 kV3 dc3 pm3 cd3 ct3 : Value}
    {od4 an4 : Option Addr} {sl4 : Array (Option Value)} {oc4 kV4 dc4 pm4 cd4 ct4 : Value}
    {od5 an5 : Option Addr} {sl5 : Array (Option Value)} {oc5 kV5 dc5 pm5 cd5 ct5 : Value}
    {od6 an6 : Option Addr} {sl6 : Array (Option Value)} {oc6 kV6 dc6 pm6 cd6 ct6 : Value}
    {od7 an7 : Option Addr} {sl7 : Array (Option Value)} {oc7 kV7 dc7 pm7 cd7 ct7 : Value}
    {od8 an8 : Option Addr} {sl8 : Array (Option Value)} {oc8 kV8 dc8 pm8 cd8 ct8 : Value}
    {od9 an9 : Option Addr} {sl9 : Array (Option Value)} {oc9 kV9 dc9 pm9 cd9 ct9 : Value}
    {od10 an10 : Option Addr} {sl10 : Array (Option Value)} {oc10 kV10 dc10 pm10 cd10 ct10 : Value}
    {od11 an11 : Option Addr} {sl11 : Array (Option Value)} {oc11 kV11 dc11 pm11 cd11 ct11 : Value}
    {od12 an12 : Option Addr} {sl12 : Array (Option Value)} {oc12 kV12 dc12 pm12 cd12 ct12 : Value}
    {od13 an13 : Option Addr} {sl13 : Array (Option Value)} {oc13 kV13 dc13 pm13 cd13 ct13 : Value}
    {od14 an14 : Option Addr} {sl14 : Array (Option Value)} {oc14 kV14 dc14 pm14 cd14 ct14 : Value}
    {od15 an15 : Option Addr} {sl15 : Array (Option Value)} {oc15 kV15 dc15 pm15 cd15 ct15 : Value}
    {od16 an16 : Option Addr} {sl16 : Array (Option Value)} {oc16 kV16 dc16 pm16 cd16 ct16 : Value}
    {od17 an17 : Option Addr} {sl17 : Array (Option Value)} {oc17 kV17 dc17 pm17 cd17 ct17 : Value}
    {od18 an18 : Option Addr} {sl18 : Array (Option Value)} {oc18 kV18 dc18 pm18 cd18 ct18 : Value}
    {od19 an19 : Option Addr} {sl19 : Array (Option Value)} {oc19 kV19 dc19 pm19 cd19 ct19 : Value}
    {od20 an20 : Option Addr} {sl20 : Array (Option Value)} {oc20 kV20 dc20 pm20 cd20 ct20 : Value}
    {od21 an21 : Option Addr} {sl21 : Array (Option Value)} {oc21 kV21 dc21 pm21 cd21 ct21 : Value}
    {od22 an22 : Option Addr} {sl22 : Array (Option Value)} {oc22 kV22 dc22 pm22 cd22 ct22 : Value}
    {od23 an23 : Option Addr} {sl23 : Array (Option Value)} {oc23 kV23 dc23 pm23 cd23 ct23 : Value}
    {od24 an24 : Option Addr} {sl24 : Array (Option Value)} {oc24 kV24 dc24 pm24 cd24 ct24 : Value}
    {od25 an25 : Option Addr} {sl25 : Array (Option Value)} {oc25 kV25 dc25 pm25 cd25 ct25 : Value}
    {od26 an26 : Option Addr} {sl26 : Array (Option Value)} {oc26 kV26 dc26 pm26 cd26 ct26 : Value}
    {od27 an27 : Option Addr} {sl27 : Array (Option Value)} {oc27 kV27 dc27 pm27 cd27 ct27 : Value}
    {od28 an28 : Option Addr} {sl28 : Array (Option Value)} {oc28 kV28 dc28 pm28 cd28 ct28 : Value}
    {od29 an29 : Option Addr} {sl29 : Array (Option Value)} {oc29 kV29 dc29 pm29 cd29 ct29 : Value}
    {od30 an30 : Option Addr} {sl30 : Array (Option Value)} {oc30 kV30 dc30 pm30 cd30 ct30 : Value}
    {od31 an31 : Option Addr} {sl31 : Array (Option Value)} {oc31 kV31 dc31 pm31 cd31 ct31 : Value}
    {tk_SIGNS : Tok}
    (g_Stock : PySem.W.nsIn K mainGlobals "Stock" = some (some (.ref C_Stock)))
    (pg_Stock : PySem.W.plainGet K C_Stock Str.empty = true)
    (hd_Stock : PySem.W.hasDictIn K C_Stock = true)
    (po_Stock : PySem.W.plainOver K C_Stock = true)
    (sa_Stock : PySem.W.findIn K (.ref C_Stock) "__setattr__" = some (some (.builtin "object.__setattr__")))
    (mk_Stock : PySem.W.makesIn K C_Stock = true)
    (kc_Stock : PySem.W.keepIn K (.ref C_Stock) = true)
    (nf_Stock_texts : PySem.W.findIn K (.ref C_Stock) "texts" = some none)
    (nf_Stock_begins : PySem.W.findIn K (.ref C_Stock) "begins" = some none)
    (nf_Stock_feeds : PySem.W.findIn K (.ref C_Stock) "feeds" = some none)
    (nf_Stock_signs : PySem.W.findIn K (.ref C_Stock) "signs" = some none)
    (a0 : PySem.W.nsIn K mainGlobals "height_of" = some (some (.ref f0)))
    (l0 : K.lookup f0 = some ⟨oc0, od0, .func (PySem.W.fnOf "height_of" "height_of" (defArgs s_height_of) (defBody s_height_of) (defScope s_height_of) .none kV0 dc0 pm0 an0 cd0 ct0), sl0⟩)
    (c0 : PySem.W.codeIn K cd0 "height_of" = true)
    (k0 : PySem.W.keepIn K (.ref f0) = true)
    (a1 : PySem.W.nsIn K mainGlobals "size_of" = some (some (.ref f1)))
    (l1 : K.lookup f1 = some ⟨oc1, od1, .func (PySem.W.fnOf "size_of" "size_of" (defArgs s_size_of) (defBody s_size_of) (defScope s_size_of) .none kV1 dc1 pm1 an1 cd1 ct1), sl1⟩)
    (c1 : PySem.W.codeIn K cd1 "size_of" = true)
    (k1 : PySem.W.keepIn K (.ref f1) = true)
    (a2 : PySem.W.nsIn K mainGlobals "ends_of" = some (some (.ref f2)))
    (l2 : K.lookup f2 = some ⟨oc2, od2, .func (PySem.W.fnOf "ends_of" "ends_of" (defArgs s_ends_of) (defBody s_ends_of) (defScope s_ends_of) .none kV2 dc2 pm2 an2 cd2 ct2), sl2⟩)
    (c2 : PySem.W.codeIn K cd2 "ends_of" = true)
    (k2 : PySem.W.keepIn K (.ref f2) = true)
    (a3 : PySem.W.nsIn K mainGlobals "made" = some (some (.ref f3)))
    (l3 : K.lookup f3 = some ⟨oc3, od3, .func (PySem.W.fnOf "made" "made" (defArgs s_made) (defBody s_made) (defScope s_made) .none kV3 dc3 pm3 an3 cd3 ct3), sl3⟩)
    (c3 : PySem.W.codeIn K cd3 "made" = true)
    (k3 : PySem.W.keepIn K (.ref f3) = true)
    (a4 : PySem.W.nsIn K mainGlobals "turned_right" = some (some (.ref f4)))
    (l4 : K.lookup f4 = some ⟨oc4, od4, .func (PySem.W.fnOf "turned_right" "turned_right" (defArgs s_turned_right) (defBody s_turned_right) (defScope s_turned_right) .none kV4 dc4 pm4 an4 cd4 ct4), sl4⟩)
    (c4 : PySem.W.codeIn K cd4 "turned_right" = true)
    (k4 : PySem.W.keepIn K (.ref f4) = true)
    (a5 : PySem.W.nsIn K mainGlobals "turned_left" = some (some (.ref f5)))
    (l5 : K.lookup f5 = some ⟨oc5, od5, .func (PySem.W.fnOf "turned_left" "turned_left" (defArgs s_turned_left) (defBody s_turned_left) (defScope s_turned_left) .none kV5 dc5 pm5 an5 cd5 ct5), sl5⟩)
    (c5 : PySem.W.codeIn K cd5 "turned_left" = true)
    (k5 : PySem.W.keepIn K (.ref f5) = true)
    (a6 : PySem.W.nsIn K mainGlobals "leveled" = some (some (.ref f6)))
    (l6 : K.lookup f6 = some ⟨oc6, od6, .func (PySem.W.fnOf "leveled" "leveled" (defArgs s_leveled) (defBody s_leveled) (defScope s_leveled) .none kV6 dc6 pm6 an6 cd6 ct6), sl6⟩)
    (c6 : PySem.W.codeIn K cd6 "leveled" = true)
    (k6 : PySem.W.keepIn K (.ref f6) = true)
    (a7 : PySem.W.nsIn K mainGlobals "joined" = some (some (.ref f7)))
    (l7 : K.lookup f7 = some ⟨oc7, od7, .func (PySem.W.fnOf "joined" "joined" (defArgs s_joined) (defBody s_joined) (defScope s_joined) .none kV7 dc7 pm7 an7 cd7 ct7), sl7⟩)
    (c7 : PySem.W.codeIn K cd7 "joined" = true)
    (k7 : PySem.W.keepIn K (.ref f7) = true)
    (a8 : PySem.W.nsIn K mainGlobals "last_out" = some (some (.ref f8)))
    (l8 : K.lookup f8 = some ⟨oc8, od8, .func (PySem.W.fnOf "last_out" "last_out" (defArgs s_last_out) (defBody s_last_out) (defScope s_last_out) .none kV8 dc8 pm8 an8 cd8 ct8), sl8⟩)
    (c8 : PySem.W.codeIn K cd8 "last_out" = true)
    (k8 : PySem.W.keepIn K (.ref f8) = true)
    (a9 : PySem.W.nsIn K mainGlobals "met" = some (some (.ref f9)))
    (l9 : K.lookup f9 = some ⟨oc9, od9, .func (PySem.W.fnOf "met" "met" (defArgs s_met) (defBody s_met) (defScope s_met) .none kV9 dc9 pm9 an9 cd9 ct9), sl9⟩)
    (c9 : PySem.W.codeIn K cd9 "met" = true)
    (k9 : PySem.W.keepIn K (.ref f9) = true)
    (a10 : PySem.W.nsIn K mainGlobals "cut_in_two" = some (some (.ref f10)))
    (l10 : K.lookup f10 = some ⟨oc10, od10, .func (PySem.W.fnOf "cut_in_two" "cut_in_two" (defArgs s_cut_in_two) (defBody s_cut_in_two) (defScope s_cut_in_two) .none kV10 dc10 pm10 an10 cd10 ct10), sl10⟩)
    (c10 : PySem.W.codeIn K cd10 "cut_in_two" = true)
    (k10 : PySem.W.keepIn K (.ref f10) = true)
    (a11 : PySem.W.nsIn K mainGlobals "parted" = some (some (.ref f11)))
    (l11 : K.lookup f11 = some ⟨oc11, od11, .func (PySem.W.fnOf "parted" "parted" (defArgs s_parted) (defBody s_parted) (defScope s_parted) .none kV11 dc11 pm11 an11 cd11 ct11), sl11⟩)
    (c11 : PySem.W.codeIn K cd11 "parted" = true)
    (k11 : PySem.W.keepIn K (.ref f11) = true)
    (a12 : PySem.W.nsIn K mainGlobals "many_upto" = some (some (.ref f12)))
    (l12 : K.lookup f12 = some ⟨oc12, od12, .func (PySem.W.fnOf "many_upto" "many_upto" (defArgs s_many_upto) (defBody s_many_upto) (defScope s_many_upto) .none kV12 dc12 pm12 an12 cd12 ct12), sl12⟩)
    (c12 : PySem.W.codeIn K cd12 "many_upto" = true)
    (k12 : PySem.W.keepIn K (.ref f12) = true)
    (a13 : PySem.W.nsIn K mainGlobals "is_whole" = some (some (.ref f13)))
    (l13 : K.lookup f13 = some ⟨oc13, od13, .func (PySem.W.fnOf "is_whole" "is_whole" (defArgs s_is_whole) (defBody s_is_whole) (defScope s_is_whole) .none kV13 dc13 pm13 an13 cd13 ct13), sl13⟩)
    (c13 : PySem.W.codeIn K cd13 "is_whole" = true)
    (k13 : PySem.W.keepIn K (.ref f13) = true)
    (a14 : PySem.W.nsIn K mainGlobals "is_between" = some (some (.ref f14)))
    (l14 : K.lookup f14 = some ⟨oc14, od14, .func (PySem.W.fnOf "is_between" "is_between" (defArgs s_is_between) (defBody s_is_between) (defScope s_is_between) .none kV14 dc14 pm14 an14 cd14 ct14), sl14⟩)
    (c14 : PySem.W.codeIn K cd14 "is_between" = true)
    (k14 : PySem.W.keepIn K (.ref f14) = true)
    (a15 : PySem.W.nsIn K mainGlobals "is_text" = some (some (.ref f15)))
    (l15 : K.lookup f15 = some ⟨oc15, od15, .func (PySem.W.fnOf "is_text" "is_text" (defArgs s_is_text) (defBody s_is_text) (defScope s_is_text) .none kV15 dc15 pm15 an15 cd15 ct15), sl15⟩)
    (c15 : PySem.W.codeIn K cd15 "is_text" = true)
    (k15 : PySem.W.keepIn K (.ref f15) = true)
    (a16 : PySem.W.nsIn K mainGlobals "need_text" = some (some (.ref f16)))
    (l16 : K.lookup f16 = some ⟨oc16, od16, .func (PySem.W.fnOf "need_text" "need_text" (defArgs s_need_text) (defBody s_need_text) (defScope s_need_text) .none kV16 dc16 pm16 an16 cd16 ct16), sl16⟩)
    (c16 : PySem.W.codeIn K cd16 "need_text" = true)
    (k16 : PySem.W.keepIn K (.ref f16) = true)
    (a17 : PySem.W.findIn K (.ref C_Stock) "__init__" = some (some (.ref f17)))
    (i17 : PySem.W.isFn K (.ref f17) = true)
    (l17 : K.lookup f17 = some ⟨oc17, od17, .func (PySem.W.fnOf "__init__" "Stock.__init__" (defArgs s_Stock_init) (defBody s_Stock_init) (defScope s_Stock_init) .none kV17 dc17 pm17 an17 cd17 ct17), sl17⟩)
    (c17 : PySem.W.codeIn K cd17 "Stock.__init__" = true)
    (k17 : PySem.W.keepIn K (.ref f17) = true)
    (a18 : PySem.W.findIn K (.ref C_Stock) "put" = some (some (.ref f18)))
    (i18 : PySem.W.isFn K (.ref f18) = true)
    (l18 : K.lookup f18 = some ⟨oc18, od18, .func (PySem.W.fnOf "put" "Stock.put" (defArgs s_Stock_put) (defBody s_Stock_put) (defScope s_Stock_put) .none kV18 dc18 pm18 an18 cd18 ct18), sl18⟩)
    (c18 : PySem.W.codeIn K cd18 "Stock.put" = true)
    (k18 : PySem.W.keepIn K (.ref f18) = true)
    (a19 : PySem.W.findIn K (.ref C_Stock) "read" = some (some (.ref f19)))
    (i19 : PySem.W.isFn K (.ref f19) = true)
    (l19 : K.lookup f19 = some ⟨oc19, od19, .func (PySem.W.fnOf "read" "Stock.read" (defArgs s_Stock_read) (defBody s_Stock_read) (defScope s_Stock_read) .none kV19 dc19 pm19 an19 cd19 ct19), sl19⟩)
    (c19 : PySem.W.codeIn K cd19 "Stock.read" = true)
    (k19 : PySem.W.keepIn K (.ref f19) = true)
    (a20 : PySem.W.findIn K (.ref C_Stock) "many" = some (some (.ref f20)))
    (i20 : PySem.W.isFn K (.ref f20) = true)
    (l20 : K.lookup f20 = some ⟨oc20, od20, .func (PySem.W.fnOf "many" "Stock.many" (defArgs s_Stock_many) (defBody s_Stock_many) (defScope s_Stock_many) .none kV20 dc20 pm20 an20 cd20 ct20), sl20⟩)
    (c20 : PySem.W.codeIn K cd20 "Stock.many" = true)
    (k20 : PySem.W.keepIn K (.ref f20) = true)
    (a21 : PySem.W.findIn K (.ref C_Stock) "ends_ahead" = some (some (.ref f21)))
    (i21 : PySem.W.isFn K (.ref f21) = true)
    (l21 : K.lookup f21 = some ⟨oc21, od21, .func (PySem.W.fnOf "ends_ahead" "Stock.ends_ahead" (defArgs s_Stock_ends_ahead) (defBody s_Stock_ends_ahead) (defScope s_Stock_ends_ahead) .none kV21 dc21 pm21 an21 cd21 ct21), sl21⟩)
    (c21 : PySem.W.codeIn K cd21 "Stock.ends_ahead" = true)
    (k21 : PySem.W.keepIn K (.ref f21) = true)
    (a22 : PySem.W.nsIn K mainGlobals "_law_cell_at" = some (some (.ref f22)))
    (l22 : K.lookup f22 = some ⟨oc22, od22, .func (PySem.W.fnOf "_law_cell_at" "_law_cell_at" (defArgs s_cell_atL) (defBody s_cell_atL) (defScope s_cell_atL) .none kV22 dc22 pm22 an22 cd22 ct22), sl22⟩)
    (c22 : PySem.W.codeIn K cd22 "_law_cell_at" = true)
    (k22 : PySem.W.keepIn K (.ref f22) = true)
    (a23 : PySem.W.nsIn K mainGlobals "_law_whole" = some (some (.ref f23)))
    (l23 : K.lookup f23 = some ⟨oc23, od23, .func (PySem.W.fnOf "_law_whole" "_law_whole" (defArgs s_wholeL) (defBody s_wholeL) (defScope s_wholeL) .none kV23 dc23 pm23 an23 cd23 ct23), sl23⟩)
    (c23 : PySem.W.codeIn K cd23 "_law_whole" = true)
    (k23 : PySem.W.keepIn K (.ref f23) = true)
    (a24 : PySem.W.nsIn K mainGlobals "_law_mixed" = some (some (.ref f24)))
    (l24 : K.lookup f24 = some ⟨oc24, od24, .func (PySem.W.fnOf "_law_mixed" "_law_mixed" (defArgs s_mixedL) (defBody s_mixedL) (defScope s_mixedL) .none kV24 dc24 pm24 an24 cd24 ct24), sl24⟩)
    (c24 : PySem.W.codeIn K cd24 "_law_mixed" = true)
    (k24 : PySem.W.keepIn K (.ref f24) = true)
    (a25 : PySem.W.nsIn K mainGlobals "_law_text_by" = some (some (.ref f25)))
    (l25 : K.lookup f25 = some ⟨oc25, od25, .func (PySem.W.fnOf "_law_text_by" "_law_text_by" (defArgs s_text_byL) (defBody s_text_byL) (defScope s_text_byL) .none kV25 dc25 pm25 an25 cd25 ct25), sl25⟩)
    (c25 : PySem.W.codeIn K cd25 "_law_text_by" = true)
    (k25 : PySem.W.keepIn K (.ref f25) = true)
    (a26 : PySem.W.nsIn K mainGlobals "_law_good" = some (some (.ref f26)))
    (l26 : K.lookup f26 = some ⟨oc26, od26, .func (PySem.W.fnOf "_law_good" "_law_good" (defArgs s_goodL) (defBody s_goodL) (defScope s_goodL) .none kV26 dc26 pm26 an26 cd26 ct26), sl26⟩)
    (c26 : PySem.W.codeIn K cd26 "_law_good" = true)
    (k26 : PySem.W.keepIn K (.ref f26) = true)
    (a27 : PySem.W.nsIn K mainGlobals "_law_pieces" = some (some (.ref f27)))
    (l27 : K.lookup f27 = some ⟨oc27, od27, .func (PySem.W.fnOf "_law_pieces" "_law_pieces" (defArgs s_piecesL) (defBody s_piecesL) (defScope s_piecesL) .none kV27 dc27 pm27 an27 cd27 ct27), sl27⟩)
    (c27 : PySem.W.codeIn K cd27 "_law_pieces" = true)
    (k27 : PySem.W.keepIn K (.ref f27) = true)
    (a28 : PySem.W.nsIn K mainGlobals "_law_rows" = some (some (.ref f28)))
    (l28 : K.lookup f28 = some ⟨oc28, od28, .func (PySem.W.fnOf "_law_rows" "_law_rows" (defArgs s_rowsL) (defBody s_rowsL) (defScope s_rowsL) .none kV28 dc28 pm28 an28 cd28 ct28), sl28⟩)
    (c28 : PySem.W.codeIn K cd28 "_law_rows" = true)
    (k28 : PySem.W.keepIn K (.ref f28) = true)
    (a29 : PySem.W.nsIn K mainGlobals "_law_node" = some (some (.ref f29)))
    (l29 : K.lookup f29 = some ⟨oc29, od29, .func (PySem.W.fnOf "_law_node" "_law_node" (defArgs s_nodeL) (defBody s_nodeL) (defScope s_nodeL) .none kV29 dc29 pm29 an29 cd29 ct29), sl29⟩)
    (c29 : PySem.W.codeIn K cd29 "_law_node" = true)
    (k29 : PySem.W.keepIn K (.ref f29) = true)
    (a30 : PySem.W.nsIn K mainGlobals "_law_due" = some (some (.ref f30)))
    (l30 : K.lookup f30 = some ⟨oc30, od30, .func (PySem.W.fnOf "_law_due" "_law_due" (defArgs s_dueL) (defBody s_dueL) (defScope s_dueL) .none kV30 dc30 pm30 an30 cd30 ct30), sl30⟩)
    (c30 : PySem.W.codeIn K cd30 "_law_due" = true)
    (k30 : PySem.W.keepIn K (.ref f30) = true)
    (a31 : PySem.W.nsIn K mainGlobals "law" = some (some (.ref f31)))
    (l31 : K.lookup f31 = some ⟨oc31, od31, .func (PySem.W.fnOf "law" "law" (defArgs s_law) (defBody s_law) (defScope s_law) .none kV31 dc31 pm31 an31 cd31 ct31), sl31⟩)
    (c31 : PySem.W.codeIn K cd31 "law" = true)
    (k31 : PySem.W.keepIn K (.ref f31) = true)
    (g_SIGNS : PySem.W.nsIn K mainGlobals "SIGNS" = some (some (Value.str SG tk_SIGNS)))
    (z_abs : PySem.W.nsIn K mainGlobals "abs" = some none)
    (z_bool : PySem.W.nsIn K mainGlobals "bool" = some none)
    (z_int : PySem.W.nsIn K mainGlobals "int" = some none)
    (z_isinstance : PySem.W.nsIn K mainGlobals "isinstance" = some none)
    (z_len : PySem.W.nsIn K mainGlobals "len" = some none)
    (z_max : PySem.W.nsIn K mainGlobals "max" = some none)
    (z_min : PySem.W.nsIn K mainGlobals "min" = some none)
    (z_range : PySem.W.nsIn K mainGlobals "range" = some none)
    (z_str : PySem.W.nsIn K mainGlobals "str" = some none)
    (z_sum : PySem.W.nsIn K mainGlobals "sum" = some none)
    (z_tuple : PySem.W.nsIn K mainGlobals "tuple" = some none)
    : ∃ fd : FuncData, (∀ (s : Shared) (v : Value), BindsTo s fd ⟨[v], []⟩ [("_law_script", v)]) ∧ ∀ base : Heap, K.In base → base.Ns mainGlobals mg → FnOk l.prog w K mg base CX0 135 fa fd ["_law_script"] (spLaw K) := by
  have e := hfa.symm.trans (PySem.W.mg_of X G a31)
  cases e
  have y_abs : mg "abs" = none := PySem.W.mg_none_of X G z_abs
  have y_bool : mg "bool" = none := PySem.W.mg_none_of X G z_bool
  have y_int : mg "int" = none := PySem.W.mg_none_of X G z_int
  have y_isinstance : mg "isinstance" = none := PySem.W.mg_none_of X G z_isinstance
  have y_len : mg "len" = none := PySem.W.mg_none_of X G z_len
  have y_max : mg "max" = none := PySem.W.mg_none_of X G z_max
  have y_min : mg "min" = none := PySem.W.mg_none_of X G z_min
  have y_range : mg "range" = none := PySem.W.mg_none_of X G z_range
  have y_str : mg "str" = none := PySem.W.mg_none_of X G z_str
  have y_sum : mg "sum" = none := PySem.W.mg_none_of X G z_sum
  have y_tuple : mg "tuple" = none := PySem.W.mg_none_of X G z_tuple
  have u_SIGNS : GvT mg ("SIGNS", .str SG) := ⟨_, PySem.W.mg_of X G g_SIGNS, ⟨_, rfl⟩⟩
  have T_Stock : Tx_Stock K C_Stock := ⟨⟨pg_Stock, hd_Stock, po_Stock, sa_Stock⟩, nf_Stock_texts, nf_Stock_begins, nf_Stock_feeds, nf_Stock_signs⟩
  refine ⟨PySem.W.fnOf "law" "law" (defArgs s_law) (defBody s_law) (defScope s_law) .none kV31 dc31 pm31 an31 cd31 ct31, fun s v => .of_eq rfl, fun base _ _ => ?_⟩
  have F0 := fun_mk (st := s_height_of) l0 c0 k0
  have B0 := F0.binds (ps := P_height_of) fun _ _ _ _ _ _ us hl => match us, hl with | [_], _ => rfl
  have T0 : FnT l.prog w K mg base 1 "height_of" (spHeight) := def_okM (k := 0) F0 sc_height_of (PySem.W.mg_of X G a0) B0 [] [] l_height_of [] [] b_height_of m_height_of am_nil am_nil am_nil [] am_nil am_nil am_nil (by rintro vs H Q E ⟨_, _, rfl, _⟩; rfl) rd_height
  have F1 := fun_mk (st := s_size_of) l1 c1 k1
  have B1 := F1.binds (ps := P_size_of) fun _ _ _ _ _ _ us hl => match us, hl with | [_], _ => rfl
  have T1 : FnT l.prog w K mg base 1 "size_of" (spSizeO) := def_okM (k := 0) F1 sc_size_of (PySem.W.mg_of X G a1) B1 [] [] l_size_of [] [] b_size_of m_size_of am_nil am_nil am_nil [] am_nil am_nil am_nil (by rintro vs H Q E ⟨_, _, rfl, _⟩; rfl) rd_sizeO
  have F2 := fun_mk (st := s_ends_of) l2 c2 k2
  have B2 := F2.binds (ps := P_ends_of) fun _ _ _ _ _ _ us hl => match us, hl with | [_], _ => rfl
  have T2 : FnT l.prog w K mg base 1 "ends_of" (spEnds) := def_okM (k := 0) F2 sc_ends_of (PySem.W.mg_of X G a2) B2 [] [] l_ends_of [] [] b_ends_of m_ends_of am_nil am_nil am_nil [] am_nil am_nil am_nil (by rintro vs H Q E ⟨_, _, rfl, _⟩; rfl) rd_ends
  have F3 := fun_mk (st := s_made) l3 c3 k3
  have B3 := F3.binds (ps := P_made) fun _ _ _ _ _ _ us hl => match us, hl with | [_, _, _], _ => rfl
  have T3 : FnT l.prog w K mg base 2 "made" (spMade) := def_okM (k := 1) F3 sc_made (PySem.W.mg_of X G a3) B3 [("height_of", spHeight), ("size_of", spSizeO), ("ends_of", spEnds)] [] l_made [] [] b_made m_made (am_cons (T0.mono (by omega)) (am_cons (T1.mono (by omega)) (am_cons (T2.mono (by omega)) am_nil))) am_nil (am_cons y_max am_nil) [] am_nil am_nil am_nil (by rintro vs H Q E ⟨_, _, _, _, _, _, _, _, rfl, _⟩; rfl) rd_made
  have F4 := fun_mk (st := s_turned_right) l4 c4 k4
  have B4 := F4.binds (ps := P_turned_right) fun _ _ _ _ _ _ us hl => match us, hl with | [_, _, _], _ => rfl
  have T4 : FnT l.prog w K mg base 3 "turned_right" (spTurnR) := def_okM (k := 2) F4 sc_turned_right (PySem.W.mg_of X G a4) B4 [("height_of", spHeight), ("made", spMade)] [] l_turned_right [] [] b_turned_right m_turned_right (am_cons (T0.mono (by omega)) (am_cons (T3.mono (by omega)) am_nil)) am_nil am_nil [] am_nil am_nil am_nil (by rintro vs H Q E ⟨_, _, _, _, _, _, _, _, rfl, _⟩; rfl) rd_turnR
  have F5 := fun_mk (st := s_turned_left) l5 c5 k5
  have B5 := F5.binds (ps := P_turned_left) fun _ _ _ _ _ _ us hl => match us, hl with | [_, _, _], _ => rfl
  have T5 : FnT l.prog w K mg base 3 "turned_left" (spTurnL) := def_okM (k := 2) F5 sc_turned_left (PySem.W.mg_of X G a5) B5 [("height_of", spHeight), ("made", spMade)] [] l_turned_left [] [] b_turned_left m_turned_left (am_cons (T0.mono (by omega)) (am_cons (T3.mono (by omega)) am_nil)) am_nil am_nil [] am_nil am_nil am_nil (by rintro vs H Q E ⟨_, _, _, _, _, _, _, _, rfl, _⟩; rfl) rd_turnL
  have F6 := fun_mk (st := s_leveled) l6 c6 k6
  have B6 := F6.binds (ps := P_leveled) fun _ _ _ _ _ _ us hl => match us, hl with | [_, _, _], _ => rfl
  have T6 : FnT l.prog w K mg base 4 "leveled" (spLeveled) := def_okM (k := 3) F6 sc_leveled (PySem.W.mg_of X G a6) B6 [("height_of", spHeight), ("turned_right", spTurnR), ("turned_left", spTurnL), ("made", spMade)] [] l_leveled [] [] b_leveled m_leveled (am_cons (T0.mono (by omega)) (am_cons (T4.mono (by omega)) (am_cons (T5.mono (by omega)) (am_cons (T3.mono (by omega)) am_nil)))) am_nil am_nil [] am_nil am_nil am_nil (by rintro vs H Q E ⟨_, _, _, _, _, _, _, _, rfl, _⟩; rfl) rd_leveled
  have F7 := fun_mk (st := s_joined) l7 c7 k7
  have B7 := F7.binds (ps := P_joined) fun _ _ _ _ _ _ us hl => match us, hl with | [_, _, _], _ => rfl
  have R7 : ∀ n, FnT l.prog w K mg base (4 + n + 1) "joined" (spJoined n) := by
    intro n
    induction n with
    | zero => exact fn_never F7 sc_joined (PySem.W.mg_of X G a7) B7 no_joined
    | succ n ih => exact def_okM (k := 4 + n + 1) F7 sc_joined (PySem.W.mg_of X G a7) B7 [("height_of", spHeight), ("leveled", spLeveled), ("joined", spJoined n), ("made", spMade)] [] l_joined [] [] b_joined m_joined (am_cons (T0.mono (by omega)) (am_cons (T6.mono (by omega)) (am_cons ih (am_cons (T3.mono (by omega)) am_nil)))) am_nil am_nil [] am_nil am_nil am_nil (by rintro vs H Q E ⟨_, _, _, _, _, _, _, _, rfl, _⟩; rfl) (rd_joined n)
  have T7 : FnT l.prog w K mg base 69 "joined" (spJoined 64) := R7 64
  have F8 := fun_mk (st := s_last_out) l8 c8 k8
  have B8 := F8.binds (ps := P_last_out) fun _ _ _ _ _ _ us hl => match us, hl with | [_], _ => rfl
  have R8 : ∀ n, FnT l.prog w K mg base (69 + n + 1) "last_out" (spLast n) := by
    intro n
    induction n with
    | zero => exact fn_never F8 sc_last_out (PySem.W.mg_of X G a8) B8 no_last
    | succ n ih => exact def_okM (k := 69 + n + 1) F8 sc_last_out (PySem.W.mg_of X G a8) B8 [("last_out", spLast n), ("joined", spJoined 64)] [] l_last_out [] [] b_last_out m_last_out (am_cons ih (am_cons (T7.mono (by omega)) am_nil)) am_nil am_nil [] am_nil am_nil am_nil (by rintro vs H Q E ⟨_, _, _, _, _, _, rfl, _⟩; rfl) (rd_last n)
  have T8 : FnT l.prog w K mg base 102 "last_out" (spLast 32) := R8 32
  have F9 := fun_mk (st := s_met) l9 c9 k9
  have B9 := F9.binds (ps := P_met) fun _ _ _ _ _ _ us hl => match us, hl with | [_, _], _ => rfl
  have T9 : FnT l.prog w K mg base 103 "met" (spMet) := def_okM (k := 102) F9 sc_met (PySem.W.mg_of X G a9) B9 [("last_out", spLast 32), ("joined", spJoined 64)] [] l_met [] [] b_met m_met (am_cons (T8.mono (by omega)) (am_cons (T7.mono (by omega)) am_nil)) am_nil am_nil [] am_nil am_nil am_nil (by rintro vs H Q E ⟨_, _, _, _, rfl, _⟩; rfl) rd_met
  have F12 := fun_mk (st := s_many_upto) l12 c12 k12
  have B12 := F12.binds (ps := P_many_upto) fun _ _ _ _ _ _ us hl => match us, hl with | [_, _], _ => rfl
  have T12 : FnT l.prog w K mg base 1 "many_upto" (spUpto) := def_okM (k := 0) F12 sc_many_upto (PySem.W.mg_of X G a12) B12 [] [] l_many_upto [] [] b_many_upto m_many_upto am_nil am_nil (am_cons y_len am_nil) [] am_nil am_nil am_nil (by rintro vs H Q E ⟨_, _, _, rfl, _⟩; rfl) rd_upto
  have F21 := fun_mk (st := s_Stock_ends_ahead) l21 c21 k21
  have B21 := F21.binds (ps := P_Stock_ends_ahead) fun _ _ _ _ _ _ us hl => match us, hl with | [_, _], _ => rfl
  have T21 : MtT l.prog w K mg base 2 ("ends_ahead", C_Stock, spEndsA C_Stock) := def_mt (k := 1) F21 sc_Stock_ends_ahead T_Stock.cl ⟨a21, i21, k21⟩ B21 [("many_upto", spUpto)] [] l_Stock_ends_ahead [] [] b_Stock_ends_ahead m_Stock_ends_ahead (am_cons (T12.mono (by omega)) am_nil) am_nil am_nil [] am_nil am_nil am_nil (by rintro vs H Q E ⟨_, _, _, _, _, _, _, rfl, _⟩; rfl) (rd_EndsA T_Stock)
  have F10 := fun_mk (st := s_cut_in_two) l10 c10 k10
  have B10 := F10.binds (ps := P_cut_in_two) fun _ _ _ _ _ _ us hl => match us, hl with | [_, _, _], _ => rfl
  have T10 : FnT l.prog w K mg base 3 "cut_in_two" (spCut2 C_Stock) := def_okM (k := 2) F10 sc_cut_in_two (PySem.W.mg_of X G a10) B10 [] [] l_cut_in_two [("ends_ahead", C_Stock, spEndsA C_Stock)] [] b_cut_in_two m_cut_in_two am_nil am_nil am_nil [] am_nil (am_cons (T21.mono (by omega)) am_nil) am_nil (by rintro vs H Q E ⟨_, _, _, _, _, _, _, _, _, _, _, rfl, _⟩; rfl) rd_cut2
  have F11 := fun_mk (st := s_parted) l11 c11 k11
  have B11 := F11.binds (ps := P_parted) fun _ _ _ _ _ _ us hl => match us, hl with | [_, _, _], _ => rfl
  have R11 : ∀ n, FnT l.prog w K mg base (69 + n + 1) "parted" (spParted C_Stock n) := by
    intro n
    induction n with
    | zero => exact fn_never F11 sc_parted (PySem.W.mg_of X G a11) B11 (no_parted C_Stock)
    | succ n ih => exact def_okM (k := 69 + n + 1) F11 sc_parted (PySem.W.mg_of X G a11) B11 [("size_of", spSizeO), ("parted", spParted C_Stock n), ("joined", spJoined 64), ("cut_in_two", spCut2 C_Stock)] [] l_parted [] [] b_parted m_parted (am_cons (T1.mono (by omega)) (am_cons ih (am_cons (T7.mono (by omega)) (am_cons (T10.mono (by omega)) am_nil)))) am_nil am_nil [] am_nil am_nil am_nil (by rintro vs H Q E ⟨_, _, _, _, _, _, _, _, _, rfl, _⟩; rfl) (rd_parted n)
  have T11 : FnT l.prog w K mg base 102 "parted" (spParted C_Stock 32) := R11 32
  have F13 := fun_mk (st := s_is_whole) l13 c13 k13
  have B13 := F13.binds (ps := P_is_whole) fun _ _ _ _ _ _ us hl => match us, hl with | [_], _ => rfl
  have T13 : FnT l.prog w K mg base 1 "is_whole" (spWhole) := def_okM (k := 0) F13 sc_is_whole (PySem.W.mg_of X G a13) B13 [] [] l_is_whole [] [] b_is_whole m_is_whole am_nil am_nil (am_cons y_isinstance (am_cons y_int (am_cons y_bool am_nil))) [] am_nil am_nil am_nil (by rintro vs H Q E ⟨_, rfl, _⟩; rfl) rd_whole
  have F14 := fun_mk (st := s_is_between) l14 c14 k14
  have B14 := F14.binds (ps := P_is_between) fun _ _ _ _ _ _ us hl => match us, hl with | [_, _, _], _ => rfl
  have T14 : FnT l.prog w K mg base 2 "is_between" (spBetween) := def_okM (k := 1) F14 sc_is_between (PySem.W.mg_of X G a14) B14 [("is_whole", spWhole)] [] l_is_between [] [] b_is_between m_is_between (am_cons (T13.mono (by omega)) am_nil) am_nil am_nil [] am_nil am_nil am_nil (by rintro vs H Q E ⟨_, _, _, rfl, _⟩; rfl) rd_between
  have F15 := fun_mk (st := s_is_text) l15 c15 k15
  have B15 := F15.binds (ps := P_is_text) fun _ _ _ _ _ _ us hl => match us, hl with | [_], _ => rfl
  have T15 : FnT l.prog w K mg base 1 "is_text" (spText) := def_okM (k := 0) F15 sc_is_text (PySem.W.mg_of X G a15) B15 [] [("SIGNS", .str SG)] l_is_text [] [] b_is_text m_is_text am_nil (am_cons u_SIGNS am_nil) (am_cons y_isinstance (am_cons y_str am_nil)) [] am_nil am_nil am_nil (by rintro vs H Q E ⟨_, rfl, _⟩; rfl) rd_text
  have F16 := fun_mk (st := s_need_text) l16 c16 k16
  have B16 := F16.binds (ps := P_need_text) fun _ _ _ _ _ _ us hl => match us, hl with | [_], _ => rfl
  have T16 : FnT l.prog w K mg base 2 "need_text" (spNeedT) := def_okM (k := 1) F16 sc_need_text (PySem.W.mg_of X G a16) B16 [("is_text", spText)] [] l_need_text [] [] b_need_text m_need_text (am_cons (T15.mono (by omega)) am_nil) am_nil am_nil [] am_nil am_nil am_nil (by rintro vs H Q E ⟨_, rfl, _⟩; rfl) rd_needT
  have F17 := fun_mk (st := s_Stock_init) l17 c17 k17
  have B17 := F17.binds (ps := P_Stock_init) fun _ _ _ _ _ _ us hl => match us, hl with | [_], _ => rfl
  have T17 : MkT l.prog w K mg base 2 ("Stock", C_Stock, spStInit C_Stock) := def_mk (k := 0) F17 sc_Stock_init ⟨mk_Stock, a17, i17, kc_Stock⟩ (PySem.W.mg_of X G g_Stock) B17 [] [] l_Stock_init [] [] b_Stock_init m_Stock_init am_nil am_nil am_nil [] am_nil am_nil am_nil (by rintro vs H Q E ⟨_, _, rfl, _⟩; rfl) (rd_StInit T_Stock)
  have F18 := fun_mk (st := s_Stock_put) l18 c18 k18
  have B18 := F18.binds (ps := P_Stock_put) fun _ _ _ _ _ _ us hl => match us, hl with | [_, _], _ => rfl
  have T18 : MtT l.prog w K mg base 3 ("put", C_Stock, spPut C_Stock) := def_mt (k := 2) F18 sc_Stock_put T_Stock.cl ⟨a18, i18, k18⟩ B18 [("need_text", spNeedT)] [] l_Stock_put [] [] b_Stock_put m_Stock_put (am_cons (T16.mono (by omega)) am_nil) am_nil (am_cons y_len am_nil) [] am_nil am_nil am_nil (by rintro vs H Q E ⟨_, _, _, _, _, _, _, rfl, _⟩; rfl) (rd_put T_Stock)
  have F19 := fun_mk (st := s_Stock_read) l19 c19 k19
  have B19 := F19.binds (ps := P_Stock_read) fun _ _ _ _ _ _ us hl => match us, hl with | [_, _, _], _ => rfl
  have T19 : MtT l.prog w K mg base 3 ("read", C_Stock, spRead C_Stock) := def_mt (k := 2) F19 sc_Stock_read T_Stock.cl ⟨a19, i19, k19⟩ B19 [("is_between", spBetween), ("many_upto", spUpto)] [] l_Stock_read [] [] b_Stock_read m_Stock_read (am_cons (T14.mono (by omega)) (am_cons (T12.mono (by omega)) am_nil)) am_nil (am_cons y_len am_nil) [] am_nil am_nil am_nil (by rintro vs H Q E ⟨_, _, _, _, _, _, _, _, rfl, _⟩; rfl) (rd_read T_Stock)
  have F20 := fun_mk (st := s_Stock_many) l20 c20 k20
  have B20 := F20.binds (ps := P_Stock_many) fun _ _ _ _ _ _ us hl => match us, hl with | [_], _ => rfl
  have T20 : MtT l.prog w K mg base 1 ("many", C_Stock, spMany' C_Stock) := def_mt (k := 0) F20 sc_Stock_many T_Stock.cl ⟨a20, i20, k20⟩ B20 [] [] l_Stock_many [] [] b_Stock_many m_Stock_many am_nil am_nil am_nil [] am_nil am_nil am_nil (by rintro vs H Q E ⟨_, _, _, _, _, _, rfl, _⟩; rfl) (rd_StMany T_Stock)
  have F22 := fun_mk (st := s_cell_atL) l22 c22 k22
  have B22 := F22.binds (ps := P_cell_atL) fun _ _ _ _ _ _ us hl => match us, hl with | [_, _], _ => rfl
  have T22 : FnT l.prog w K mg base 1 "_law_cell_at" (spCell K) := def_okM (k := 0) F22 sc_cell_atL (PySem.W.mg_of X G a22) B22 [] [] l_cell_atL [] [] b_cell_atL m_cell_atL am_nil am_nil (am_cons y_len am_nil) [] am_nil am_nil am_nil (by rintro vs H Q E ⟨_, _, _, rfl, _⟩; rfl) rd_cell
  have F23 := fun_mk (st := s_wholeL) l23 c23 k23
  have B23 := F23.binds (ps := P_wholeL) fun _ _ _ _ _ _ us hl => match us, hl with | [_], _ => rfl
  have T23 : FnT l.prog w K mg base 1 "_law_whole" (spWhole) := def_okM (k := 0) F23 sc_wholeL (PySem.W.mg_of X G a23) B23 [] [] l_wholeL [] [] b_wholeL m_wholeL am_nil am_nil (am_cons y_isinstance (am_cons y_int (am_cons y_bool am_nil))) [] am_nil am_nil am_nil (by rintro vs H Q E ⟨_, rfl, _⟩; rfl) rd_wholeL
  have F24 := fun_mk (st := s_mixedL) l24 c24 k24
  have B24 := F24.binds (ps := P_mixedL) fun _ _ _ _ _ _ us hl => match us, hl with | [_, _], _ => rfl
  have T24 : FnT l.prog w K mg base 1 "_law_mixed" (spMixed) := def_okM (k := 0) F24 sc_mixedL (PySem.W.mg_of X G a24) B24 [] [] l_mixedL [] [] b_mixedL m_mixedL am_nil am_nil am_nil [] am_nil am_nil am_nil (by rintro vs H Q E ⟨_, _, rfl, _⟩; rfl) rd_mixed
  have F25 := fun_mk (st := s_text_byL) l25 c25 k25
  have B25 := F25.binds (ps := P_text_byL) fun _ _ _ _ _ _ us hl => match us, hl with | [_, _], _ => rfl
  have T25 : FnT l.prog w K mg base 2 "_law_text_by" (spTextBy) := def_okM (k := 1) F25 sc_text_byL (PySem.W.mg_of X G a25) B25 [("_law_mixed", spMixed)] [] l_text_byL [] [] b_text_byL m_text_byL (am_cons (T24.mono (by omega)) am_nil) am_nil (am_cons y_range am_nil) [] am_nil am_nil am_nil (by rintro vs H Q E ⟨_, _, rfl, _⟩; rfl) rd_textBy
  have F26 := fun_mk (st := s_goodL) l26 c26 k26
  have B26 := F26.binds (ps := P_goodL) fun _ _ _ _ _ _ us hl => match us, hl with | [_], _ => rfl
  have R26 : ∀ n, FnT l.prog w K mg base (1 + n + 1) "_law_good" (spGood n) := by
    intro n
    induction n with
    | zero => exact fn_never F26 sc_goodL (PySem.W.mg_of X G a26) B26 no_good
    | succ n ih => exact def_okM (k := 1 + n + 1) F26 sc_goodL (PySem.W.mg_of X G a26) B26 [("_law_good", spGood n), ("_law_whole", spWhole)] [] l_goodL [] [] b_goodL m_goodL (am_cons ih (am_cons (T23.mono (by omega)) am_nil)) am_nil (am_cons y_isinstance (am_cons y_tuple (am_cons y_len (am_cons y_abs (am_cons y_max am_nil))))) [] am_nil am_nil am_nil (by rintro vs H Q E ⟨_, _, rfl, _⟩; rfl) (rd_good n)
  have T26 : FnT l.prog w K mg base 34 "_law_good" (spGood 32) := R26 32
  have F27 := fun_mk (st := s_piecesL) l27 c27 k27
  have B27 := F27.binds (ps := P_piecesL) fun _ _ _ _ _ _ us hl => match us, hl with | [_], _ => rfl
  have R27 : ∀ n, FnT l.prog w K mg base (0 + n + 1) "_law_pieces" (spPieces n) := by
    intro n
    induction n with
    | zero => exact fn_never F27 sc_piecesL (PySem.W.mg_of X G a27) B27 no_pieces
    | succ n ih => exact def_okM (k := 0 + n + 1) F27 sc_piecesL (PySem.W.mg_of X G a27) B27 [("_law_pieces", spPieces n)] [] l_piecesL [] [] b_piecesL m_piecesL (am_cons ih am_nil) am_nil am_nil [] am_nil am_nil am_nil (by rintro vs H Q E ⟨_, _, rfl, _⟩; rfl) (rd_piecesL n)
  have T27 : FnT l.prog w K mg base 33 "_law_pieces" (spPieces 32) := R27 32
  have F28 := fun_mk (st := s_rowsL) l28 c28 k28
  have B28 := F28.binds (ps := P_rowsL) fun _ _ _ _ _ _ us hl => match us, hl with | [_, _], _ => rfl
  have T28 : FnT l.prog w K mg base 2 "_law_rows" (spRows K) := def_okM (k := 1) F28 sc_rowsL (PySem.W.mg_of X G a28) B28 [("_law_cell_at", spCell K), ("_law_mixed", spMixed)] [] l_rowsL [] [] b_rowsL m_rowsL (am_cons (T22.mono (by omega)) (am_cons (T24.mono (by omega)) am_nil)) am_nil (am_cons y_range (am_cons y_len (am_cons y_min am_nil))) [] am_nil am_nil am_nil (by rintro vs H Q E ⟨_, _, _, rfl, _⟩; rfl) rd_rows
  have F29 := fun_mk (st := s_nodeL) l29 c29 k29
  have B29 := F29.binds (ps := P_nodeL) fun _ _ _ _ _ _ us hl => match us, hl with | [_, _], _ => rfl
  have R29 : ∀ n, FnT l.prog w K mg base (69 + n + 1) "_law_node" (spNode n) := by
    intro n
    induction n with
    | zero => exact fn_never F29 sc_nodeL (PySem.W.mg_of X G a29) B29 no_node
    | succ n ih => exact def_okM (k := 69 + n + 1) F29 sc_nodeL (PySem.W.mg_of X G a29) B29 [("joined", spJoined 64), ("_law_node", spNode n)] [] l_nodeL [] [] b_nodeL m_nodeL (am_cons (T7.mono (by omega)) (am_cons ih am_nil)) am_nil (am_cons y_len am_nil) [] am_nil am_nil am_nil (by rintro vs H Q E ⟨_, _, _, _, rfl, _⟩; rfl) (rd_node n)
  have T29 : FnT l.prog w K mg base 134 "_law_node" (spNode 64) := R29 64
  have F30 := fun_mk (st := s_dueL) l30 c30 k30
  have B30 := F30.binds (ps := P_dueL) fun _ _ _ _ _ _ us hl => match us, hl with | [_, _, _], _ => rfl
  have T30 : FnT l.prog w K mg base 1 "_law_due" (spDue) := def_okM (k := 0) F30 sc_dueL (PySem.W.mg_of X G a30) B30 [] [] l_dueL [] [] b_dueL m_dueL am_nil am_nil (am_cons y_max (am_cons y_min am_nil)) [] am_nil am_nil am_nil (by rintro vs H Q E ⟨_, _, _, _, _, rfl, _⟩; rfl) rd_due
  have F31 := fun_mk (st := s_law) l31 c31 k31
  have B31 := F31.binds (ps := P_law) fun _ _ _ _ _ _ us hl => match us, hl with | [_], _ => rfl
  exact def_fnM (k := 134) F31 sc_law [("_law_text_by", spTextBy), ("_law_cell_at", spCell K), ("_law_rows", spRows K), ("_law_node", spNode 64), ("_law_good", spGood 32), ("parted", spParted C_Stock 32), ("size_of", spSizeO), ("_law_pieces", spPieces 32), ("_law_due", spDue), ("met", spMet)] [] l_law [("put", C_Stock, spPut C_Stock), ("many", C_Stock, spMany' C_Stock), ("read", C_Stock, spRead C_Stock)] [("Stock", C_Stock, spStInit C_Stock)] b_law m_law (am_cons (T25.mono (by omega)) (am_cons (T22.mono (by omega)) (am_cons (T28.mono (by omega)) (am_cons (T29.mono (by omega)) (am_cons (T26.mono (by omega)) (am_cons (T11.mono (by omega)) (am_cons (T1.mono (by omega)) (am_cons (T27.mono (by omega)) (am_cons (T30.mono (by omega)) (am_cons (T9.mono (by omega)) am_nil)))))))))) am_nil (am_cons y_sum (am_cons y_range (am_cons y_isinstance (am_cons y_tuple (am_cons y_len am_nil))))) [] am_nil (am_cons (T18.mono (by omega)) (am_cons (T20.mono (by omega)) (am_cons (T19.mono (by omega)) am_nil))) (am_cons (T17.mono (by omega)) am_nil) (by rintro vs H Q E ⟨_, _, rfl, _⟩; rfl) rd_law
theorem walk {l : PySem.W.OpenLaw} {q : Program} {loose : List Str} {XP : (Str → Option Value) → Heap → Prop} {YP : World → Heap → Prop} {d : DefRec} {K : Params → PySem.W.Frag} (hn : l.most = some 63) (hdf : d.params.defaults = [])
    (hY : ∀ (w : World) (h : Heap), YP w h → (K w.params).In h)
    (F : ∀ (w : World) (mg : Str → Option Value) (fa : Addr) (h : Heap), (K w.params).In h → h.Ns mainGlobals mg → mg d.name = some (.ref fa) →
      ∃ fd : FuncData, (∀ (s : Shared) (u : Value), BindsTo s fd ⟨[u], []⟩ [("_law_script", u)]) ∧ ∀ base : Heap, (K w.params).In base → base.Ns mainGlobals mg → FnOk l.prog w (K w.params) mg base CX0 135 fa fd ["_law_script"] ((fun K => spLaw K) (K w.params))) :
    PySem.W.WalkO q loose XP YP l.row.toRowW d [] (fun f vs => PySem.call f vs) :=
  L2.walk_of (n := 63) (k := 135) (x := "_law_script") (CX := fun _ => CX0) (sp := fun w => (fun K => spLaw K) (K w.params)) hn (by decide) hdf ⟨rfl, by decide, by decide⟩ hY F (fun _ _ a ns hl _ hS => ⟨a, ns, rfl, hS, fun _ => rfl⟩) fun _ _ _ _ _ z => z
end L2.K14

open PySem PySem.W PyProof.Rows
set_option maxRecDepth 100000 in
set_option maxHeartbeats 0 in
theorem PySem.Challenge.cw_inkloom_k14_nodes_parted_holds : PySem.Challenge.rw_inkloom_k14_nodes_parted.Holds := by
  w_on; o_law; k_head; (case hw => w_witness2)
  k_fill
  refine L2.K14.walk (l := PySem.Challenge.rw_inkloom_k14_nodes_parted) rfl rfl (fun w h Y => PySem.W.kIn_of Y) ?F
  case F =>
    intro w mg fa h KX G hmg
    refine' L2.K14.all_mk KX G hmg ?g_Stock ?pg_Stock ?hd_Stock ?po_Stock ?sa_Stock ?mk_Stock ?kc_Stock ?nf_Stock_texts ?nf_Stock_begins ?nf_Stock_feeds ?nf_Stock_signs ?a0 ?l0 ?c0 ?k0 ?a1 ?l1 ?c1 ?k1 ?a2 ?l2 ?c2 ?k2 ?a3 ?l3 ?c3 ?k3 ?a4 ?l4 ?c4 ?k4 ?a5 ?l5 ?c5 ?k5 ?a6 ?l6 ?c6 ?k6 ?a7 ?l7 ?c7 ?k7 ?a8 ?l8 ?c8 ?k8 ?a9 ?l9 ?c9 ?k9 ?a10 ?l10 ?c10 ?k10 ?a11 ?l11 ?c11 ?k11 ?a12 ?l12 ?c12 ?k12 ?a13 ?l13 ?c13 ?k13 ?a14 ?l14 ?c14 ?k14 ?a15 ?l15 ?c15 ?k15 ?a16 ?l16 ?c16 ?k16 ?a17 ?i17 ?l17 ?c17 ?k17 ?a18 ?i18 ?l18 ?c18 ?k18 ?a19 ?i19 ?l19 ?c19 ?k19 ?a20 ?i20 ?l20 ?c20 ?k20 ?a21 ?i21 ?l21 ?c21 ?k21 ?a22 ?l22 ?c22 ?k22 ?a23 ?l23 ?c23 ?k23 ?a24 ?l24 ?c24 ?k24 ?a25 ?l25 ?c25 ?k25 ?a26 ?l26 ?c26 ?k26 ?a27 ?l27 ?c27 ?k27 ?a28 ?l28 ?c28 ?k28 ?a29 ?l29 ?c29 ?k29 ?a30 ?l30 ?c30 ?k30 ?a31 ?l31 ?c31 ?k31 ?g_SIGNS ?z_abs ?z_bool ?z_int ?z_isinstance ?z_len ?z_max ?z_min ?z_range ?z_str ?z_sum ?z_tuple
    (case g_Stock => k_is)
    (case pg_Stock => k_is)
    (case hd_Stock => k_is)
    (case po_Stock => k_is)
    (case sa_Stock => k_is)
    (case mk_Stock => k_is)
    (case kc_Stock => k_is)
    (case nf_Stock_texts => k_is)
    (case nf_Stock_begins => k_is)
    (case nf_Stock_feeds => k_is)
    (case nf_Stock_signs => k_is)
    (case a0 => k_is)
    (case l0 => k_is)
    (case c0 => k_is)
    (case k0 => k_is)
    (case a1 => k_is)
    (case l1 => k_is)
    (case c1 => k_is)
    (case k1 => k_is)
    (case a2 => k_is)
    (case l2 => k_is)
    (case c2 => k_is)
    (case k2 => k_is)
    (case a3 => k_is)
    (case l3 => k_is)
    (case c3 => k_is)
    (case k3 => k_is)
    (case a4 => k_is)
    (case l4 => k_is)
    (case c4 => k_is)
    (case k4 => k_is)
    (case a5 => k_is)
    (case l5 => k_is)
    (case c5 => k_is)
    (case k5 => k_is)
    (case a6 => k_is)
    (case l6 => k_is)
    (case c6 => k_is)
    (case k6 => k_is)
    (case a7 => k_is)
    (case l7 => k_is)
    (case c7 => k_is)
    (case k7 => k_is)
    (case a8 => k_is)
    (case l8 => k_is)
    (case c8 => k_is)
    (case k8 => k_is)
    (case a9 => k_is)
    (case l9 => k_is)
    (case c9 => k_is)
    (case k9 => k_is)
    (case a10 => k_is)
    (case l10 => k_is)
    (case c10 => k_is)
    (case k10 => k_is)
    (case a11 => k_is)
    (case l11 => k_is)
    (case c11 => k_is)
    (case k11 => k_is)
    (case a12 => k_is)
    (case l12 => k_is)
    (case c12 => k_is)
    (case k12 => k_is)
    (case a13 => k_is)
    (case l13 => k_is)
    (case c13 => k_is)
    (case k13 => k_is)
    (case a14 => k_is)
    (case l14 => k_is)
    (case c14 => k_is)
    (case k14 => k_is)
    (case a15 => k_is)
    (case l15 => k_is)
    (case c15 => k_is)
    (case k15 => k_is)
    (case a16 => k_is)
    (case l16 => k_is)
    (case c16 => k_is)
    (case k16 => k_is)
    (case a17 => k_is)
    (case i17 => k_is)
    (case l17 => k_is)
    (case c17 => k_is)
    (case k17 => k_is)
    (case a18 => k_is)
    (case i18 => k_is)
    (case l18 => k_is)
    (case c18 => k_is)
    (case k18 => k_is)
    (case a19 => k_is)
    (case i19 => k_is)
    (case l19 => k_is)
    (case c19 => k_is)
    (case k19 => k_is)
    (case a20 => k_is)
    (case i20 => k_is)
    (case l20 => k_is)
    (case c20 => k_is)
    (case k20 => k_is)
    (case a21 => k_is)
    (case i21 => k_is)
    (case l21 => k_is)
    (case c21 => k_is)
    (case k21 => k_is)
    (case a22 => k_is)
    (case l22 => k_is)
    (case c22 => k_is)
    (case k22 => k_is)
    (case a23 => k_is)
    (case l23 => k_is)
    (case c23 => k_is)
    (case k23 => k_is)
    (case a24 => k_is)
    (case l24 => k_is)
    (case c24 => k_is)
    (case k24 => k_is)
    (case a25 => k_is)
    (case l25 => k_is)
    (case c25 => k_is)
    (case k25 => k_is)
    (case a26 => k_is)
    (case l26 => k_is)
    (case c26 => k_is)
    (case k26 => k_is)
    (case a27 => k_is)
    (case l27 => k_is)
    (case c27 => k_is)
    (case k27 => k_is)
    (case a28 => k_is)
    (case l28 => k_is)
    (case c28 => k_is)
    (case k28 => k_is)
    (case a29 => k_is)
    (case l29 => k_is)
    (case c29 => k_is)
    (case k29 => k_is)
    (case a30 => k_is)
    (case l30 => k_is)
    (case c30 => k_is)
    (case k30 => k_is)
    (case a31 => k_is)
    (case l31 => k_is)
    (case c31 => k_is)
    (case k31 => k_is)
    (case g_SIGNS => k_is)
    (case z_abs => k_is)
    (case z_bool => k_is)
    (case z_int => k_is)
    (case z_isinstance => k_is)
    (case z_len => k_is)
    (case z_max => k_is)
    (case z_min => k_is)
    (case z_range => k_is)
    (case z_str => k_is)
    (case z_sum => k_is)
    (case z_tuple => k_is)

