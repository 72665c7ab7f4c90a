import PyProof.Rows.All
import Wide.All
import OpenK.AllK
import Wide.FinOn
import Lean
import PyProof.EqAt
import PyProof.EqKinds
import PyProof.TupleCall
import PyProof.Rows.EqDataRows
import PyProof.DictList
import PyProof.FactsAll.dict_1
import PyProof.FactsAll.subtypes_4
import KE.KTryMore
import PyProof.WalksEnum
import PyProof.EnumMake
import PyProof.ListStr
import PyProof.TupleOfStr
import PyProof.Dict
import PyProof.StrLawsIn
import PyProof.ToksMono
import PyProof.StrCalls6
import PyProof.StrWalks
import PyProof.ConsumeWalk
import PyProof.CallStr
import PyProof.MeetsStr
import KE.KIntText
import PyProof.StrLawsReplace
import PyProof.ZipIter
import PyProof.TupleIter
import PyProof.WalksMore
import PySem.Challenge.RW_inkloom_k42_lines_there_and_back
-- CHANGE: your row's module here, as the last of these rows
set_option Elab.async false
set_option linter.all false
set_option maxRecDepth 100000
/-! THE HAND LAYER, for ints, bools, texts, own classes, LISTS and tuples (index, slices, in, append, pop ..), calls, loops. Paste it whole ahead of your own text; what your proof does not reach may be deleted. -/
namespace L2
open PySem PySem.Spec PyProof.Rows
/-- a key: an int or a str -/
abbrev Key := Sum Int Str
def keyIs : Key → Value → Bool
  | .inl k, v => Value.isInt k v
  | .inr x, v => Value.isStrOf x v
def keyH (w : World) : Key → Int
  | .inl k => hashInt k
  | .inr x => hashStr w x
theorem keyIs_shape : ∀ {k : Key} {v : Value}, keyIs k v = true → (∃ i t, k = Sum.inl i ∧ v = Value.int i t) ∨ (∃ x t, k = Sum.inr x ∧ v = Value.str x t)
  | .inl i, v, h => by
    obtain ⟨t, e⟩ := Value.isInt_shape (k := i) (v := v) h
    exact .inl ⟨i, t, rfl, e⟩
  | .inr x, v, h => by
    obtain ⟨t, e⟩ := Value.isStrOf_shape (x := x) (v := v) h
    exact .inr ⟨x, t, rfl, e⟩
theorem keyIs_int (i : Int) (t : Tok) : keyIs (.inl i) (.int i t) = true := by simp [keyIs, Value.isInt]
theorem keyIs_str (x : Str) (t : Tok) : keyIs (.inr x) (.str x t) = true := by simp [keyIs, Value.isStrOf]
theorem key_ll (a b : Int) : decide ((Sum.inl a : Key) = Sum.inl b) = (a == b) := by
  by_cases e : a = b
  · subst e; simp
  · have h : ¬ (Sum.inl a : Key) = Sum.inl b := fun q => e (Sum.inl.inj q)
    rw [decide_eq_false h]
    exact (beq_eq_false_iff_ne.mpr e).symm
theorem key_rr (a b : Str) : decide ((Sum.inr a : Key) = Sum.inr b) = decide (a = b) := by
  by_cases e : a = b
  · subst e; simp
  · have h : ¬ (Sum.inr a : Key) = Sum.inr b := fun q => e (Sum.inr.inj q)
    rw [decide_eq_false h, decide_eq_false e]
theorem key_lr (a : Int) (b : Str) : decide ((Sum.inl a : Key) = Sum.inr b) = false := decide_eq_false (fun q => nomatch q)
theorem key_rl (a : Str) (b : Int) : decide ((Sum.inr a : Key) = Sum.inl b) = false := decide_eq_false (fun q => nomatch q)
def mixKind (prog : Program) (w : World) : PySem.KeyKind prog w Key where
  is := keyIs
  hash := keyH w
  inj := fun v a b ha hb => by
    rcases keyIs_shape ha with ⟨i, t, rfl, rfl⟩ | ⟨x, t, rfl, rfl⟩
    · rcases keyIs_shape hb with ⟨j, u, rfl, e⟩ | ⟨y, u, rfl, e⟩
      · injection e with e1 _; rw [e1]
      · exact nomatch e
    · rcases keyIs_shape hb with ⟨j, u, rfl, e⟩ | ⟨y, u, rfl, e⟩
      · exact nomatch e
      · injection e with e1 _; rw [e1]
  byValue := fun k v h => by
    rcases keyIs_shape h with ⟨i, t, rfl, rfl⟩ | ⟨x, t, rfl, rfl⟩ <;> rfl
  pyHash := fun hv h => by
    rcases keyIs_shape hv with ⟨i, t, rfl, rfl⟩ | ⟨x, t, rfl, rfl⟩
    · exact wpAny_pyHash_int h
    · exact wpAny_pyHash_str h
  eqBool := fun hu hv h => by
    rcases keyIs_shape hu with ⟨i, t, rfl, rfl⟩ | ⟨x, t, rfl, rfl⟩
    · rcases keyIs_shape hv with ⟨j, u, rfl, rfl⟩ | ⟨y, u, rfl, rfl⟩
      · rw [key_ll] at h; exact wpAny_eqBool_int h
      · rw [key_lr] at h; exact SeqAt.EqAt.int_str i t y u _ _ _ _ h
    · rcases keyIs_shape hv with ⟨j, u, rfl, rfl⟩ | ⟨y, u, rfl, rfl⟩
      · rw [key_rl] at h; exact SeqAt.EqAt.str_int x t j u _ _ _ _ h
      · rw [key_rr] at h; exact wpAny_eqBool_str h
  «strs» := fun k x t v h => by
    rcases keyIs_shape h with ⟨i, u, rfl, e⟩ | ⟨y, u, rfl, e⟩
    · exact nomatch e
    · injection e with e1 _
      subst e1
      cases v <;> rfl
theorem mixKind_int (prog : Program) (w : World) (i : Int) (t : Tok) : (mixKind prog w).is (.inl i) (.int i t) = true := keyIs_int i t
theorem mixKind_str (prog : Program) (w : World) (x : Str) (t : Tok) : (mixKind prog w).is (.inr x) (.str x t) = true := keyIs_str x t
end L2
namespace L2
open PySem PySem.Spec PyProof.Rows
/-- a value, without the heap -/
inductive V where
  | non | bl (b : Bool) | int (i : Int) | str (x : Str) | byt (b : Array UInt8) | flt (b : UInt64) | ref (a : Addr) | ty (n : String)
  deriving DecidableEq
def RelV : V → Value → Prop
  | .non, u => u = Value.none
  | .bl b, u => u = Value.bool b
  | .int i, u => ∃ t, u = Value.int i t
  | .str x, u => ∃ t, u = Value.str x t
  | .byt b, u => ∃ t, u = Value.bytes b t
  | .flt b, u => ∃ t, u = Value.float b t
  | .ref a, u => u = Value.ref a
  | .ty n, u => u = Value.type n
abbrev Vals : List V → List Value → Prop := Paired RelV
theorem Vals.length {xs : List V} {us : List Value} (r : Vals xs us) : xs.length = us.length := Paired.length r
theorem Vals.get : ∀ {xs : List V} {us : List Value} {i : Nat} {x : V}, Vals xs us → xs[i]? = some x → ∃ u, us[i]? = some u ∧ RelV x u
  | _, _, _, _, .nil, e => by simp at e
  | _, _, 0, _, .cons r _, e => by simp at e; subst e; exact ⟨_, rfl, r⟩
  | _, _, i + 1, x, .cons _ t, e => by
    obtain ⟨u, h1, h2⟩ := Vals.get (i := i) (x := x) t (by simpa using e)
    exact ⟨u, by simpa using h1, h2⟩
theorem Vals.append : ∀ {xs ys : List V} {us ws : List Value}, Vals xs us → Vals ys ws → Vals (xs ++ ys) (us ++ ws)
  | _, _, _, _, .nil, s => s
  | _, _, _, _, .cons r t, s => .cons r (Vals.append t s)
theorem Vals.take : ∀ {xs : List V} {us : List Value} (n : Nat), Vals xs us → Vals (xs.take n) (us.take n)
  | _, _, 0, _ => .nil
  | _, _, _ + 1, .nil => .nil
  | _, _, n + 1, .cons r t => .cons r (Vals.take n t)
theorem Vals.drop : ∀ {xs : List V} {us : List Value} (n : Nat), Vals xs us → Vals (xs.drop n) (us.drop n)
  | _, _, 0, r => r
  | _, _, _ + 1, .nil => .nil
  | _, _, n + 1, .cons _ t => Vals.drop n t
def RelO : Option V → Option Value → Prop
  | some v, some u => RelV v u
  | none, none => True
  | _, _ => False
def KV {κ : Type} : List (κ × V) → List (κ × Value) → Prop := Paired fun (p : κ × V) (q : κ × Value) => p.1 = q.1 ∧ RelV p.2 q.2
/-- a key of a dict (00_mix): an int or a text -/
def kV : Key → V
  | .inl i => .int i
  | .inr x => .str x
/-- what stands at a tracked address -/
inductive HO where
  /-- a list -/
  | lst (xs : List V)
  /-- a tuple (never changes) -/
  | tup (xs : List V)
  /-- a dict whose keys are ints and texts; one whose keys are tuples of ints and texts (the empty one is both) -/
  | dK (kvs : List (Key × V)) | dT (kvs : List (List Key × V))
  /-- a set of ints: its members, its size -/
  | set (S : Int → Bool) (n : Nat)
  /-- an instance of the class at C, its dict at dx, its attributes -/
  | ins (C dx : Addr) (fs : List (Str × V))
  /-- the dict of the instance at x -/
  | own (x : Addr)
  /-- the dict of an exception -/
  | xd (fs : List (Str × V))
  /-- a bound method, f of x -/
  | met (f x : Addr)
  /-- a range object lo, lo + 1, .. below hi -/
  | rng (lo hi : Int)
  /-- a thing that is known to the object (the script; a dict while a loop walks it): read, never written while it is so -/
  | frz (o : Obj) (u : HO)
  /-- a code object's table -/
  | tbl (ps : Array Value)
  /-- any other thing, by what is true of its one object (a def of one's own: SetO a S n := HO.ext fun h => ..) -/
  | ext (φ : Heap → Prop)
abbrev Hp := Addr → Option HO
def upd (H : Hp) (a : Addr) (o : HO) : Hp := fun b => if b = a then some o else H b
theorem upd_same {H : Hp} {a : Addr} {o : HO} : upd H a o a = some o := by unfold upd; rw [if_pos rfl]
theorem upd_ne {H : Hp} {a b : Addr} {o : HO} (h : b ≠ a) : upd H a o b = H b := by unfold upd; rw [if_neg h]
theorem ne_of_none {H : Hp} {a b : Addr} {o : HO} (h : H a = some o) (h' : H b = none) : a ≠ b := by
  intro e; subst e; rw [h] at h'; cases h'
section
variable (P : Program) (w : World)
def ObjOk (H : Hp) (h : Heap) (a : Addr) : HO → Prop
  | .lst xs => xs.length ≤ sizeLine ∧ ∃ (its : List Value) (n : Nat), Vals xs its ∧ h.get? a = some { cls := .type "list", data := .seq its.toArray n }
  | .tup xs => xs.length ≤ sizeLine ∧ ∃ its : List Value, Vals xs its ∧ IsTup h a its.toArray
  | .dK kvs => kvs.length ≤ sizeLine ∧ (a == sysModules) = false ∧ ∃ vs, KV kvs vs ∧ h.DictOf (mixKind P w) a vs
  | .dT kvs => kvs.length ≤ sizeLine ∧ (a == sysModules) = false ∧ ∃ xs : List (List Key × Addr × Value),
      Paired (fun (p : List Key × V) (q : List Key × Addr × Value) => p.1 = q.1 ∧ H q.2.1 = some (.tup (p.1.map kV)) ∧ RelV p.2 q.2.2) kvs xs ∧
      ∃ o es ep, h.get? a = some o ∧ o.ExactDict ∧ o.data = .dict es ep ∧ es.toList = xs.map (entryOfKey (tupleKind (mixKind P w))) ∧ (xs.map (·.1)).Nodup
  | .set S n => h.SetOf (intKind P w) a S n
  | .ins C dx fs => H dx = some (.own a) ∧ fs.length ≤ 1000 ∧ dx ≠ a ∧ h.get? a = some (PySem.W.instObj C dx) ∧
      ∃ mA, h.Ns1 dx mA ∧ (∀ f, RelO (fs.lookup f) (mA f)) ∧ PySem.Within mA (fs.map (·.1))
  | .own _ => ∃ o, h.get? a = some o
  | .xd fs => ∃ mA, h.Ns1 a mA ∧ ∀ f, RelO (fs.lookup f) (mA f)
  | .rng lo hi => ∃ t u v, h.get? a = some { cls := .type "range", data := .fields #[.int lo t, .int hi u, .int 1 v] }
  | .frz o u => h.get? a = some o ∧ ObjOk H h a u
  | .tbl ps => h.get? a = some { cls := .none, data := .fields ps }
  | .met f x => h.get? a = some (PySem.W.methodObj (.ref f) (.ref x))
  | .ext φ => φ h ∧ (∃ o, h.get? a = some o) ∧ ∀ h1 h2 : Heap, φ h1 → (∀ o, h1.get? a = some o → h2.get? a = some o) → φ h2
/-- the abstract heap is held -/
def HOk (H : Hp) (h : Heap) : Prop := ∀ a o, H a = some o → ObjOk P w H h a o
end
section
variable {P : Program} {w : World} {H H' : Hp} {h h' : Heap} {a : Addr} {o : HO}
theorem ObjOk.lt (x : ObjOk P w H h a o) : a < h.objs.size := by
  cases o with
  | lst xs => obtain ⟨_, _, _, _, e⟩ := x; exact Heap.lt_size e
  | tup xs => obtain ⟨_, _, _, p⟩ := x; exact p.lt
  | dK kvs => obtain ⟨_, _, _, _, o, _, _, e, _⟩ := x; exact Heap.lt_size e
  | dT kvs => obtain ⟨_, _, _, _, o, _, _, e, _⟩ := x; exact Heap.lt_size e
  | set S n => obtain ⟨o, _, _, _, e, _⟩ := x; exact Heap.lt_size e
  | ins C dx fs => obtain ⟨_, _, _, e, _⟩ := x; exact Heap.lt_size e
  | own y => obtain ⟨_, e⟩ := x; exact Heap.lt_size e
  | xd fs => obtain ⟨_, ⟨_, _, _, e, _⟩, _⟩ := x; exact Heap.lt_size e
  | rng lo hi => obtain ⟨_, _, _, e⟩ := x; exact Heap.lt_size e
  | frz ob u => obtain ⟨e, _⟩ := x; exact Heap.lt_size e
  | tbl ps => exact Heap.lt_size (show h.get? a = some _ from x)
  | met f y => exact Heap.lt_size (show h.get? a = some _ from x)
  | ext φ => obtain ⟨_, ⟨_, e⟩, _⟩ := x; exact Heap.lt_size e
theorem Paired.mapP {α β : Type} {F G : α → β → Prop} : ∀ {l₁ : List α} {l₂ : List β}, Paired F l₁ l₂ → (∀ a b, F a b → G a b) → Paired G l₁ l₂
  | _, _, .nil, _ => .nil
  | _, _, .cons r t, f => .cons (f _ _ r) (Paired.mapP t f)
/-- what an object's description leans on: its own object, its own dict, the tuples -/
theorem ObjOk.stay (x : ObjOk P w H h a o) (k : ∀ b u, (b = a ∨ H b = some (.own a)) → h.get? b = some u → h'.get? b = some u)
    (ho : ∀ b, H b = some (.own a) → H' b = some (.own a)) (ht : ∀ b xs, H b = some (.tup xs) → H' b = some (.tup xs)) : ObjOk P w H' h' a o := by
  induction o with
  | lst xs => obtain ⟨z, its, n, r, e⟩ := x; exact ⟨z, its, n, r, k _ _ (.inl rfl) e⟩
  | tup xs => obtain ⟨z, its, r, ob, e, c⟩ := x; exact ⟨z, its, r, ob, k _ _ (.inl rfl) e, c⟩
  | dK kvs => obtain ⟨z, y, vs, r, ob, es, ep, e, c⟩ := x; exact ⟨z, y, vs, r, ob, es, ep, k _ _ (.inl rfl) e, c⟩
  | dT kvs =>
    obtain ⟨z, y, xs, r, ob, es, ep, e, c⟩ := x
    exact ⟨z, y, xs, Paired.mapP r fun p q z => ⟨z.1, ht _ _ z.2.1, z.2.2⟩, ob, es, ep, k _ _ (.inl rfl) e, c⟩
  | set S n => obtain ⟨ob, es, ep, t, e, c⟩ := x; exact ⟨ob, es, ep, t, k _ _ (.inl rfl) e, c⟩
  | ins C dx fs =>
    obtain ⟨d, z, ne, e, mA, ⟨od, es, ep, e2, c⟩, r⟩ := x
    exact ⟨ho _ d, z, ne, k _ _ (.inl rfl) e, mA, ⟨od, es, ep, k _ _ (.inr d) e2, c⟩, r⟩
  | own y => obtain ⟨ob, e⟩ := x; exact ⟨ob, k _ _ (.inl rfl) e⟩
  | xd fs => obtain ⟨mA, ⟨od, es, ep, e, c⟩, r⟩ := x; exact ⟨mA, ⟨od, es, ep, k _ _ (.inl rfl) e, c⟩, r⟩
  | rng lo hi => obtain ⟨t, u, v, e⟩ := x; exact ⟨t, u, v, k _ _ (.inl rfl) e⟩
  | frz ob u ih => obtain ⟨e, q⟩ := x; exact ⟨k _ _ (.inl rfl) e, ih q⟩
  | tbl ps =>
    have e : h.get? a = some { cls := .none, data := .fields ps } := x
    show h'.get? a = some { cls := .none, data := .fields ps }
    exact k a _ (.inl rfl) e
  | met f y =>
    have e : h.get? a = some (PySem.W.methodObj (.ref f) (.ref y)) := x
    show h'.get? a = some (PySem.W.methodObj (.ref f) (.ref y))
    exact k a _ (.inl rfl) e
  | ext φ => obtain ⟨p, ⟨o, e⟩, st⟩ := x; exact ⟨st _ _ p fun o q => k _ _ (.inl rfl) q, ⟨o, k _ _ (.inl rfl) e⟩, st⟩
theorem HOk.lt (x : HOk P w H h) (e : H a = some o) : a < h.objs.size := (x a o e).lt
theorem HOk.fresh (x : HOk P w H h) (e : h.objs.size ≤ a) : H a = none := by
  cases q : H a with
  | none => rfl
  | some u => exact absurd (Nat.lt_of_lt_of_le (x.lt q) e) (Nat.lt_irrefl _)
/-- every object of the heap is kept -/
theorem HOk.kept (x : HOk P w H h) (k : ∀ b u, h.get? b = some u → h'.get? b = some u) : HOk P w H h' := fun a o e =>
  (x a o e).stay (fun b u _ q => k b u q) (fun _ q => q) fun _ _ q => q
/-- a new object is laid and tracked -/
theorem HOk.laid (x : HOk P w H h) (k : ∀ b u, h.get? b = some u → h'.get? b = some u) (hp : h.objs.size ≤ a) (new : ObjOk P w (upd H a o) h' a o) : HOk P w (upd H a o) h' := fun b u e => by
  have hn := x.fresh hp
  by_cases hb : b = a
  · subst hb; rw [upd_same] at e; cases e; exact new
  · rw [upd_ne hb] at e
    exact (x b u e).stay (fun c v _ q => k c v q) (fun c q => by rw [upd_ne (ne_of_none q hn)]; exact q) fun c xs q => by rw [upd_ne (ne_of_none q hn)]; exact q
end
/-- what may be read as u: it is u, or a known u -/
def Rd (H : Hp) (a : Addr) (u : HO) : Prop := H a = some u ∨ ∃ o, H a = some (.frz o u)
theorem Rd.ok {P : Program} {w : World} {H : Hp} {h : Heap} {a : Addr} {u : HO} (r : Rd H a u) (x : HOk P w H h) : ObjOk P w H h a u := by
  rcases r with r | ⟨o, r⟩
  · exact x a u r
  · obtain ⟨_, q⟩ := x a _ r
    exact q
/-- what may be written -/
def Mut : Option HO → Prop
  | some (.lst _) => True
  | some (.dK _) => True
  | some (.dT _) => True
  | some (.set _ _) => True
  | some (.ins _ _ _) => True
  | some (.ext _) => True
  | _ => False
section
variable {P : Program} {w : World} {H : Hp} {h h' : Heap} {x e : Addr} {o' : HO}
/-- the object at e is changed: x itself, or the dict of the instance x -/
theorem HOk.write (ok : HOk P w H h) (mu : Mut (H x)) (he : e = x ∨ H e = some (.own x)) (k : ∀ b u, b ≠ e → h.get? b = some u → h'.get? b = some u) (heo : ∃ u, h'.get? e = some u)
    (new : ObjOk P w (upd H x o') h' x o') : HOk P w (upd H x o') h' := fun b u q => by
  have nown : ∀ c y, H c = some (.own y) → c ≠ x := fun c y r z => by subst z; rw [r] at mu; exact mu
  have ntup : ∀ c xs, H c = some (.tup xs) → c ≠ x := fun c xs r z => by subst z; rw [r] at mu; exact mu
  by_cases hb : b = x
  · subst hb; rw [upd_same] at q; cases q; exact new
  · rw [upd_ne hb] at q
    by_cases hbe : b = e
    · have q' : H b = some (.own x) := by
        rcases he with z | z
        · exact absurd (hbe.trans z) hb
        · rw [hbe]; exact z
      rw [q] at q'; cases q'
      obtain ⟨v, hv⟩ := heo
      exact ⟨v, by rw [hbe]; exact hv⟩
    · refine (ok b u q).stay (fun c v hc r => k c v ?_ r) (fun c r => by rw [upd_ne (nown c b r)]; exact r) fun c xs r => by rw [upd_ne (ntup c xs r)]; exact r
      rcases hc with rfl | hc
      · exact hbe
      · rintro rfl
        rcases he with z | z
        · exact nown c b hc z
        · rw [hc] at z; cases z; exact hb rfl
end
/-! ### kept unless tracked; of the frames at fs (the callers') the slots may change (an exception that passes writes there); of the records at ex (iterators) nothing is said -/
structure Un (fs ex : List Addr) (H H' : Hp) (h h' : Heap) : Prop where
  keep : ∀ b o, h.get? b = some o → H b = none → b ∉ fs → b ∉ ex → h'.get? b = some o
  slot : ∀ b o, h.get? b = some o → H b = none → b ∈ fs → b ∉ ex → ∃ sl, h'.get? b = some { o with slots := sl }
  free : ∀ b o, h.get? b = some o → H b = none → b ∉ ex → H' b = none
  there : ∀ b o, h.get? b = some o → b ∉ ex → ∃ o', h'.get? b = some o'
  tups : ∀ b xs, H b = some (.tup xs) → H' b = some (.tup xs)
  frzs : ∀ b o u, H b = some (.frz o u) → H' b = some (.frz o u)
  tbls : ∀ b ps, H b = some (.tbl ps) → ∃ more, H' b = some (.tbl (ps ++ more))
section
variable {fs fs' ex ex' : List Addr} {H H1 H2 : Hp} {h h1 h2 h' : Heap} {a x e : Addr} {o : HO}
theorem Un.any (u : Un fs ex H H1 h h1) {b : Addr} {ob : Obj} (q : h.get? b = some ob) (n : H b = none) (hx : b ∉ ex) : ∃ sl, h1.get? b = some { ob with slots := sl } := by
  by_cases hb : b ∈ fs
  · exact u.slot b ob q n hb hx
  · exact ⟨ob.slots, u.keep b ob q n hb hx⟩
theorem Un.kept (k : ∀ b u, h.get? b = some u → h'.get? b = some u) : Un fs ex H H h h' :=
  ⟨fun b ob q _ _ _ => k b ob q, fun b ob q _ _ _ => ⟨ob.slots, k b ob q⟩, fun _ _ _ n _ => n, fun b ob q _ => ⟨ob, k b ob q⟩, fun _ _ q => q, fun _ _ _ q => q, fun _ ps q => ⟨#[], by rw [q]; simp⟩⟩
theorem Un.refl : Un fs ex H H h h := Un.kept fun _ _ q => q
theorem Un.laid (k : ∀ b u, h.get? b = some u → h'.get? b = some u) (hp : h.objs.size ≤ a) (hn : H a = none) : Un fs ex H (upd H a o) h h' where
  keep := fun b u q _ _ _ => k b u q
  slot := fun b u q _ _ _ => ⟨u.slots, k b u q⟩
  free := fun b u q n _ => by rw [upd_ne (Nat.ne_of_lt (Nat.lt_of_lt_of_le (Heap.lt_size q) hp))]; exact n
  there := fun b u q _ => ⟨u, k b u q⟩
  tups := fun b xs q => by rw [upd_ne (ne_of_none q hn)]; exact q
  frzs := fun b u xs q => by rw [upd_ne (ne_of_none q hn)]; exact q
  tbls := fun b ps q => ⟨#[], by rw [upd_ne (ne_of_none q hn), q]; simp⟩
theorem Un.write (mu : Mut (H x)) (he : e = x ∨ H e = some (.own x)) (k : ∀ b u, b ≠ e → h.get? b = some u → h'.get? b = some u) (heo : ∃ u, h'.get? e = some u) : Un fs ex H (upd H x o) h h' := by
  have hx : ∀ b, H b = none → b ≠ x := fun b n z => by subst z; rw [n] at mu; exact mu
  have hb : ∀ b, H b = none → b ≠ e := fun b n z => by
    subst z
    rcases he with r | r
    · exact hx b n r
    · rw [n] at r; cases r
  have hm : ∀ b u, H b = some u → ¬ Mut (some u) → b ≠ x := fun b u q nm z => by subst z; rw [q] at mu; exact nm mu
  refine ⟨fun b u q n _ _ => k b u (hb b n) q, fun b u q n _ _ => ⟨u.slots, k b u (hb b n) q⟩, fun b u q n _ => by rw [upd_ne (hx b n)]; exact n, fun b u q _ => ?_,
    fun b xs q => by rw [upd_ne (hm b _ q fun z => z)]; exact q, fun b u xs q => by rw [upd_ne (hm b _ q fun z => z)]; exact q, fun b ps q => ⟨#[], by rw [upd_ne (hm b _ q fun z => z), q]; simp⟩⟩
  by_cases hbe : b = e
  · subst hbe; exact heo
  · exact ⟨u, k b u hbe q⟩
end
/-! ### the heap without what is tracked -/
def trk (h : Heap) (H : Hp) : List Addr := (List.range h.objs.size).filter fun a => (H a).isSome
def hidT (h : Heap) (H : Hp) : Heap := PySem.W.hideAll h (trk h H)
theorem hidT_size (h : Heap) (H : Hp) : (hidT h H).objs.size = h.objs.size := PySem.W.hideAll_size _ _
theorem hidT_get {h : Heap} {H : Hp} {b : Addr} {o : Obj} (e : h.get? b = some o) (n : H b = none) : (hidT h H).get? b = some o :=
  PySem.W.hideAll_get _ e fun hm => by
    have q : (H b).isSome = true := (List.mem_filter.mp hm).2
    rw [n] at q; simp at q
theorem of_hidT {h : Heap} {H : Hp} {b : Addr} {o : Obj} (e : (hidT h H).get? b = some o) : h.get? b = some o ∧ H b = none := by
  have e' : h.get? b = some o := PySem.W.of_hideAll (trk h H) e
  refine ⟨e', ?_⟩
  cases q : H b with
  | none => rfl
  | some x =>
    have hm : b ∈ trk h H := List.mem_filter.mpr ⟨List.mem_range.mpr (Heap.lt_size e'), by simp [q]⟩
    have z : (hidT h H).get? b = none := PySem.W.hideAll_none (trk h H) hm
    rw [z] at e; cases e
/-! ### OpenK's ledger, filled with every new object but one -/
end L2
namespace L2
open PySem PySem.Spec PyProof.Rows
/-- the module's facts, over the base: the heap at the law's entry without what is tracked there -/
structure Mod (K : PySem.W.Frag) (mg : Str → Option Value) (base : Heap) : Prop where
  kin : K.In base
  glob : base.Ns mainGlobals mg
  blt : ∃ mb, base.Ns builtinsNs mb ∧ ∀ x : Str, x ≠ "__name__" → mb x = bootBuiltins x
  nolimit : base.NoLimit
/-- the context: a def's body (or a comprehension's block) running. base: fixed through the whole law; s₀, H₀: the entry; outer: the frames whose slots others may change (a def's callers); stack: all frames that run;
   ex: iterators that were made ahead of the entry and are walked here (a comprehension's); fn: the names whose cells were made at the entry (a def: all; a comprehension's block: its own); calm: not within an except suite; pn: pins that every state bears; xe: what is wanted of an exception that leaves the code -/
structure Cx where
  prog : Program
  w : World
  K : PySem.W.Frag
  mg : Str → Option Value
  base : Heap
  A : Around
  N : List Str
  s₀ : Shared
  H₀ : Hp
  env : Env
  outer : List Env
  stack : List Env
  ex : List Addr
  fn : Str → Bool
  calm : Bool
  pn : List (Addr × Obj)
  xe : Value → Shared → Prop
/-- the callers' frames -/
def frs (l : List Env) : List Addr := l.filterMap (·.frame)
abbrev Cx.fs (X : Cx) : List Addr := frs X.outer
def Vis (sc : Scope) (x : Str) : Prop := sc.names.lookup x = some .local ∨ sc.names.lookup x = some .cell ∨ sc.names.lookup x = some .free
def Loc (sc : Scope) (x : Str) : Prop := sc.names.lookup x = some .local ∨ sc.names.lookup x = some .cell
def Look (env : Env) (h : Heap) (m : Str → Option Value) (x : Str) (u : Value) : Prop :=
  (env.kindOf x = some .local ∧ m x = some u) ∨ ((env.kindOf x = some .cell ∨ env.kindOf x = some .free) ∧ ∃ c, env.cells.lookup x = some c ∧ h.IsCell c (some u))
structure Cx.Ok (X : Cx) : Prop where
  mod : Mod X.K X.mg X.base
  kind : X.env.scope.kind = .function
  glob : X.env.globals = mainGlobals
  blt : X.env.builtins = builtinsNs
  above : X.s₀.heap.objs.size ≤ X.env.locals
  inj : ∀ x y c, X.env.cells.lookup x = some c → X.env.cells.lookup y = some c → x = y
  has : ∀ x, (X.env.kindOf x = some .cell ∨ X.env.kindOf x = some .free) → ∃ c, X.env.cells.lookup x = some c
  cab : ∀ x c, X.fn x = true → X.env.cells.lookup x = some c → X.s₀.heap.objs.size ≤ c
  hd : X.calm = true → X.A.handled = none
  frames : X.A.frames = some X.stack
  stk : X.stack = X.outer ∨ (X.stack = X.env :: X.outer ∧ X.env.frame = some X.env.locals)
  exf : ∀ b ∈ X.ex, b ≠ X.env.locals ∧ ∀ x c, X.env.cells.lookup x = some c → c ≠ b
  bs : ∀ b o, X.base.get? b = some o → X.s₀.heap.get? b = some o ∧ X.H₀ b = none
  bsz : X.base.objs.size ≤ X.s₀.heap.objs.size
  noex : ∀ b o, X.base.get? b = some o → b ∉ X.ex
  exfs : ∀ b ∈ X.ex, b ∉ X.fs
  funs : X.s₀.heap.FunFrames X.base X.outer
  frf : ∀ b ∈ X.fs, X.H₀ b = none
structure Inv (X : Cx) (pins : List (Addr × Obj)) (σ : List (Option V)) (H : Hp) (s : Shared) : Prop where
  ok : X.Ok
  os : s.os = X.s₀.os
  bare : AllBare s.gens
  base : Un X.fs X.ex X.H₀ H X.s₀.heap s.heap
  loc : ∃ m, s.heap.Ns X.env.locals m ∧ ∀ (i : Nat) (x : Str) (v : V), X.N[i]? = some x → σ[i]? = some (some v) → Vis X.env.scope x → ∃ u, RelV v u ∧ Look X.env s.heap m x u
  cell : ∀ x c, X.env.cells.lookup x = some c → ∃ v, s.heap.IsCell c v
  free : H X.env.locals = none
  freeC : ∀ x c, X.env.cells.lookup x = some c → H c = none
  pin : ∀ p ∈ X.pn ++ pins, s.heap.get? p.1 = some p.2 ∧ H p.1 = none ∧ p.1 ≠ X.env.locals ∧ p.1 ∉ X.fs ∧ ∀ v, p.2.data ≠ .cell v
  hok : HOk X.prog X.w H s.heap
  len : σ.length = X.N.length
section
variable {X : Cx} {pins : List (Addr × Obj)} {σ : List (Option V)} {H H' : Hp} {s : Shared} {h' : Heap}
theorem Cx.Ok.nofr (ok : X.Ok) {b : Addr} {o : Obj} (e : X.base.get? b = some o) : b ∉ X.fs := fun hb => by
  have := (ok.funs.mem hb).1
  rw [e] at this; cases this
theorem Inv.bs (I : Inv X pins σ H s) : ∀ b o, X.base.get? b = some o → s.heap.get? b = some o ∧ H b = none := fun b o e =>
  ⟨I.base.keep b o (I.ok.bs b o e).1 (I.ok.bs b o e).2 (I.ok.nofr e) (I.ok.noex b o e), I.base.free b o (I.ok.bs b o e).1 (I.ok.bs b o e).2 (I.ok.noex b o e)⟩
theorem Inv.bk (I : Inv X pins σ H s) : ∀ b o, X.base.get? b = some o → s.heap.get? b = some o := fun b o e => (I.bs b o e).1
theorem Inv.mod (I : Inv X pins σ H s) : Mod X.K X.mg X.base := I.ok.mod
theorem Inv.kIn (I : Inv X pins σ H s) : X.K.In s.heap := I.ok.mod.kin.keeps I.bk
theorem Inv.lt (I : Inv X pins σ H s) : X.env.locals < s.heap.objs.size := let ⟨_, hn, _⟩ := I.loc; hn.lt
theorem Inv.sz (I : Inv X pins σ H s) : X.s₀.heap.objs.size ≤ s.heap.objs.size := Nat.le_trans I.ok.above (Nat.le_of_lt I.lt)
theorem Inv.nofs (I : Inv X pins σ H s) {a : Addr} (h : s.heap.objs.size ≤ a) : a ∉ X.fs := fun hb => by
  obtain ⟨_, o, ho, _⟩ := I.ok.funs.mem hb
  exact absurd (Nat.lt_of_lt_of_le (Heap.lt_size ho) (Nat.le_trans I.sz h)) (Nat.lt_irrefl _)
theorem Inv.cne (I : Inv X pins σ H s) : ∀ x c, X.env.cells.lookup x = some c → c ≠ X.env.locals := fun x c e z => by
  obtain ⟨v, o, ho, hd⟩ := I.cell x c e
  obtain ⟨m, ⟨o', es, ep, ho', hd', _⟩, _⟩ := I.loc
  rw [z, ho'] at ho; cases ho; rw [hd'] at hd; cases hd
theorem Inv.funs (I : Inv X pins σ H s) : s.heap.FunFrames X.base X.outer := by
  have all : ∀ (l : List Env), (∀ b ∈ frs l, b ∈ X.fs) → X.s₀.heap.FunFrames X.base l → s.heap.FunFrames X.base l := by
    intro l
    induction l with
    | nil => intro _ _; trivial
    | cons env r ih =>
      intro hs hl
      obtain ⟨hk, ⟨L, o, hf, hn, ho, hd⟩, hr⟩ := hl
      have hL : L ∈ X.fs := hs L (by unfold frs; rw [List.filterMap_cons, hf]; exact List.mem_cons_self)
      obtain ⟨sl, e⟩ := I.base.slot L o ho (I.ok.frf L hL) hL fun z => I.ok.exfs L z hL
      exact ⟨hk, ⟨L, _, hf, hn, e, hd⟩, ih (fun b hb => hs b (by unfold frs; rw [List.filterMap_cons, hf]; exact List.mem_cons_of_mem _ hb)) hr⟩
  exact all X.outer (fun _ hb => hb) I.ok.funs
/-- the frames that run, for a call -/
theorem Inv.stack (I : Inv X pins σ H s) : s.heap.FunFrames X.base X.stack := by
  rcases I.ok.stk with e | ⟨e, hf⟩
  · rw [e]; exact I.funs
  · rw [e]
    obtain ⟨m, hn, _⟩ := I.loc
    refine .cons (by rw [I.ok.kind]; decide) hf hn ?_ I.funs
    exact Heap.get?_none_of_le (Nat.le_trans I.ok.bsz I.ok.above)
theorem Inv.stkSub (I : Inv X pins σ H s) : ∀ b ∈ frs X.stack, b ∈ X.env.locals :: X.fs := fun b hb => by
  rcases I.ok.stk with e | ⟨e, hf⟩
  · rw [e] at hb; exact List.mem_cons_of_mem _ hb
  · rw [e] at hb
    unfold frs at hb
    rw [List.filterMap_cons, hf] at hb
    exact hb
theorem Inv.stkFree (I : Inv X pins σ H s) : ∀ b ∈ frs X.stack, H b = none := fun b hb => by
  rcases List.mem_cons.mp (I.stkSub b hb) with e | hb
  · rw [e]; exact I.free
  · obtain ⟨_, o, ho, _⟩ := I.ok.funs.mem hb
    exact I.base.free b o ho (I.ok.frf b hb) fun z => I.ok.exfs b z hb
/-- THE STEP: the untracked objects but the frame and the records at ch are kept (the callers' frames up to slots), the frame's map is kept, the new abstract heap is held -/
theorem Inv.step {g' : Array GenState} {t' : Nat} {d' : Drawn} {ch : List Addr} (I : Inv X pins σ H s)
    (hch : ∀ b ∈ ch, (b ∈ X.ex ∨ X.s₀.heap.objs.size ≤ b) ∧ b ≠ X.env.locals ∧ (∀ x c, X.env.cells.lookup x = some c → c ≠ b) ∧ ∀ p ∈ X.pn ++ pins, p.1 ≠ b)
    (keep : ∀ b o, b ≠ X.env.locals → b ∉ X.fs → b ∉ ch → s.heap.get? b = some o → H b = none → h'.get? b = some o)
    (slot : ∀ b o, b ≠ X.env.locals → b ∈ X.fs → b ∉ ch → s.heap.get? b = some o → H b = none → ∃ sl, h'.get? b = some { o with slots := sl }) (free : ∀ b o, b ∉ ch → s.heap.get? b = some o → H b = none → H' b = none)
    (there : ∀ b o, b ∉ ch → s.heap.get? b = some o → ∃ o', h'.get? b = some o')
    (tups : ∀ b xs, H b = some (.tup xs) → H' b = some (.tup xs)) (frzs : ∀ b o u, H b = some (.frz o u) → H' b = some (.frz o u)) (tbls : ∀ b ps, H b = some (.tbl ps) → ∃ more, H' b = some (.tbl (ps ++ more)))
    (ns : ∀ m, s.heap.Ns X.env.locals m → h'.Ns X.env.locals m) (hok : HOk X.prog X.w H' h') (hg : AllBare g') :
    Inv X pins σ H' { s with heap := h', gens := g', drawn := d', toks := t' } := by
  have neL : ∀ b o, X.s₀.heap.get? b = some o → b ≠ X.env.locals := fun b o e => Nat.ne_of_lt (Nat.lt_of_lt_of_le (Heap.lt_size e) I.ok.above)
  have neC : ∀ b o, X.s₀.heap.get? b = some o → b ∉ X.ex → b ∉ ch := fun b o e hx hb => by
    rcases (hch b hb).1 with z | z
    · exact hx z
    · exact absurd (Nat.lt_of_lt_of_le (Heap.lt_size e) z) (Nat.lt_irrefl _)
  have cellK : ∀ x c, X.env.cells.lookup x = some c → ∀ v, s.heap.IsCell c v → h'.IsCell c v := fun x c e v ⟨o, ho, hd⟩ => by
    have nch : c ∉ ch := fun z => (hch c z).2.2.1 x c e rfl
    by_cases hc : c ∈ X.fs
    · obtain ⟨sl, q⟩ := slot c o (I.cne x c e) hc nch ho (I.freeC x c e)
      exact ⟨_, q, hd⟩
    · exact ⟨o, keep c o (I.cne x c e) hc nch ho (I.freeC x c e), hd⟩
  refine ⟨I.ok, I.os, hg, ⟨fun b o e n hb hx => ?_, fun b o e n hb hx => ?_, fun b o e n hx => ?_, fun b o e hx => ?_, fun b xs e => tups b xs (I.base.tups b xs e), fun b o xs e => frzs b o xs (I.base.frzs b o xs e), fun b ps e => ?_⟩, ?_, fun x c e => ?_, ?_, fun x c e => ?_, fun p hp => ?_, hok, I.len⟩
  · exact keep b o (neL b o e) hb (neC b o e hx) (I.base.keep b o e n hb hx) (I.base.free b o e n hx)
  · obtain ⟨sl, e1⟩ := I.base.slot b o e n hb hx
    obtain ⟨sl', e2⟩ := slot b _ (neL b o e) hb (neC b o e hx) e1 (I.base.free b o e n hx)
    exact ⟨sl', e2⟩
  · obtain ⟨o', e1⟩ := I.base.there b o e hx
    exact free b o' (neC b o e hx) e1 (I.base.free b o e n hx)
  · obtain ⟨o', e1⟩ := I.base.there b o e hx
    exact there b o' (neC b o e hx) e1
  · obtain ⟨m1, e1⟩ := I.base.tbls b ps e
    obtain ⟨m2, e2⟩ := tbls b _ e1
    exact ⟨m1 ++ m2, by rw [e2, Array.append_assoc]⟩
  · obtain ⟨m, hn, hl⟩ := I.loc
    refine ⟨m, ns m hn, fun i x v e1 e2 e3 => ?_⟩
    obtain ⟨u, r, l⟩ := hl i x v e1 e2 e3
    refine ⟨u, r, ?_⟩
    rcases l with l | ⟨k, c, e, z⟩
    · exact .inl l
    · exact .inr ⟨k, c, e, cellK x c e _ z⟩
  · obtain ⟨v, z⟩ := I.cell x c e
    exact ⟨v, cellK x c e v z⟩
  · obtain ⟨m, ⟨o, _, _, ho, _⟩, _⟩ := I.loc
    exact free _ o (fun z => (hch _ z).2.1 rfl) ho I.free
  · obtain ⟨v, o, ho, hd⟩ := I.cell x c e
    exact free c o (fun z => (hch c z).2.2.1 x c e rfl) ho (I.freeC x c e)
  · obtain ⟨e, n, ne, nf, d⟩ := I.pin p hp
    have nch : p.1 ∉ ch := fun z => (hch p.1 z).2.2.2 p hp rfl
    exact ⟨keep p.1 p.2 ne nf nch e n, free p.1 p.2 nch e n, ne, nf, d⟩
/-- .. where the frame's own object is kept too -/
theorem Inv.un {t' : Nat} (I : Inv X pins σ H s) (u : Un X.fs [] H H' s.heap h') (hok : HOk X.prog X.w H' h') : Inv X pins σ H' { s with heap := h', toks := t' } := by
  obtain ⟨m, ⟨o, es, ep, ho, r⟩, _⟩ := id I.loc
  obtain ⟨sl, hL⟩ := u.any ho I.free (by simp)
  exact I.step (g' := s.gens) (d' := s.drawn) (ch := []) (fun _ z => nomatch z) (fun b o _ hb _ e n => u.keep b o e n hb (by simp)) (fun b o _ hb _ e n => u.slot b o e n hb (by simp)) (fun b o _ e n => u.free b o e n (by simp)) (fun b o _ e => u.there b o e (by simp)) u.tups u.frzs u.tbls (fun m' hm => by
    obtain ⟨o', es', ep', ho', r'⟩ := hm
    rw [ho] at ho'; cases ho'
    exact ⟨_, es', ep', hL, r'⟩) hok I.bare
/-- behind a call (or a comprehension's block): the slots of this frame may have changed too, the records at ch may have turned -/
theorem Inv.call {g' : Array GenState} {t' : Nat} {d' : Drawn} {ch : List Addr} (I : Inv X pins σ H s) (u : Un (frs X.stack) ch H H' s.heap h') (hok : HOk X.prog X.w H' h') (hg : AllBare g')
    (hch : ∀ b ∈ ch, (b ∈ X.ex ∨ X.s₀.heap.objs.size ≤ b) ∧ b ≠ X.env.locals ∧ (∀ x c, X.env.cells.lookup x = some c → c ≠ b) ∧ ∀ p ∈ X.pn ++ pins, p.1 ≠ b) :
    Inv X pins σ H' { s with heap := h', gens := g', drawn := d', toks := t' } := by
  obtain ⟨m, ⟨o, es, ep, ho, r⟩, _⟩ := id I.loc
  obtain ⟨sl, hL⟩ := u.any ho I.free fun z => (hch _ z).2.1 rfl
  exact I.step (ch := ch) hch (fun b o hL hb hc e n => u.keep b o e n (fun z => (List.mem_cons.mp (I.stkSub b z)).elim hL hb) hc) (fun b o _ _ hc e n => u.any e n hc) (fun b o hc e n => u.free b o e n hc) (fun b o hc e => u.there b o e hc) u.tups u.frzs u.tbls (fun m' hm => by
    obtain ⟨o', es', ep', ho', r'⟩ := hm
    rw [ho] at ho'; cases ho'
    exact ⟨_, es', ep', hL, r'⟩) hok hg
/-- an untracked record of ours (an iterator) has turned -/
theorem Inv.turned {t' : Nat} {it : Addr} (I : Inv X pins σ H s) (k : ∀ b o, b ≠ it → s.heap.get? b = some o → h'.get? b = some o) (hn : H it = none) (hL : it ≠ X.env.locals)
    (h1 : it ∈ X.ex ∨ X.s₀.heap.objs.size ≤ it) (h2 : ∀ x c, X.env.cells.lookup x = some c → c ≠ it) (h3 : ∀ p ∈ X.pn ++ pins, p.1 ≠ it) : Inv X pins σ H { s with heap := h', toks := t' } := by
  have nit : ∀ b u, H b = some u → b ≠ it := fun b u e z => by rw [z, hn] at e; cases e
  refine I.step (g' := s.gens) (d' := s.drawn) (ch := [it]) (fun b hb => ?_) (fun b o _ _ hc e _ => k b o (fun z => hc (by simp [z])) e) (fun b o _ _ hc e _ => ⟨o.slots, k b o (fun z => hc (by simp [z])) e⟩) (fun _ _ _ _ n => n)
    (fun b o hc e => ⟨o, k b o (fun z => hc (by simp [z])) e⟩) (fun _ _ e => e) (fun _ _ _ e => e) (fun b ps e => ⟨#[], by rw [e]; simp⟩) (fun m hm => ?_) (fun b u e => ?_) I.bare
  · have e : b = it := by simpa using hb
    subst e
    exact ⟨h1, hL, h2, h3⟩
  · obtain ⟨o, es, ep, ho, r⟩ := hm
    exact ⟨o, es, ep, k _ o (Ne.symm hL) ho, r⟩
  · refine (I.hok b u e).stay (fun c v hc q => k c v ?_ q) (fun _ q => q) fun _ _ q => q
    rcases hc with z | z
    · rw [z]; exact nit b u e
    · exact nit c _ z
theorem Inv.tok (I : Inv X pins σ H s) (t : Nat) : Inv X pins σ H { s with toks := t } := I.un (h' := s.heap) (t' := t) Un.refl I.hok
/-- all objects kept -/
theorem Inv.kept {t' : Nat} (I : Inv X pins σ H s) (k : ∀ b u, s.heap.get? b = some u → h'.get? b = some u) : Inv X pins σ H { s with heap := h', toks := t' } := I.un (Un.kept k) (I.hok.kept k)
/-- a new object laid and tracked -/
theorem Inv.laid {a : Addr} {o : HO} {t' : Nat} (I : Inv X pins σ H s) (k : ∀ b u, s.heap.get? b = some u → h'.get? b = some u) (hp : s.heap.objs.size ≤ a) (new : ObjOk X.prog X.w (upd H a o) h' a o) :
    Inv X pins σ (upd H a o) { s with heap := h', toks := t' } := I.un (Un.laid k hp (I.hok.fresh hp)) (I.hok.laid k hp new)
/-- an object written -/
theorem Inv.write {x e : Addr} {o : HO} {t' : Nat} (I : Inv X pins σ H s) (mu : Mut (H x)) (he : e = x ∨ H e = some (.own x)) (k : ∀ b u, b ≠ e → s.heap.get? b = some u → h'.get? b = some u) (heo : ∃ u, h'.get? e = some u)
    (new : ObjOk X.prog X.w (upd H x o) h' x o) : Inv X pins σ (upd H x o) { s with heap := h', toks := t' } := I.un (Un.write mu he k heo) (I.hok.write mu he k heo new)
theorem Inv.pins_of {pins' : List (Addr × Obj)} (I : Inv X pins σ H s) (h : ∀ p ∈ pins', s.heap.get? p.1 = some p.2 ∧ H p.1 = none ∧ p.1 ≠ X.env.locals ∧ p.1 ∉ X.fs ∧ ∀ v, p.2.data ≠ .cell v) : Inv X pins' σ H s :=
  ⟨I.ok, I.os, I.bare, I.base, I.loc, I.cell, I.free, I.freeC, fun p hp => (List.mem_append.mp hp).elim (fun z => I.pin p (List.mem_append_left _ z)) (h p), I.hok, I.len⟩
theorem nodup_ix {N : List Str} (hN : N.Nodup) {i j : Nat} {x : Str} (a : N[i]? = some x) (b : N[j]? = some x) : i = j := by
  obtain ⟨h1, e1⟩ := List.getElem?_eq_some_iff.mp a
  obtain ⟨h2, e2⟩ := List.getElem?_eq_some_iff.mp b
  exact (List.getElem_inj hN).mp (e1.trans e2.symm)
/-- a name is stored; what changed -/
theorem store_ok2 {M : Model} {A : Around} {E : Value → Shared → Prop} {i : Nat} {x : Str} {v : V} {u : Value} {Q : Unit → Shared → Prop} (I : Inv X pins σ H s) (hN : X.N.Nodup) (hi : X.N[i]? = some x) (hx : Loc X.env.scope x) (r : RelV v u)
    (h : ∀ s', Inv X pins (σ.set i (some v)) H s' → (∃ a, Heap.SameBut a s.heap s'.heap ∧ (a = X.env.locals ∨ X.env.cells.lookup x = some a)) → Q () s') (hf : X.fn x = true ∨ X.env.scope.names.lookup x = some .local := by first | exact .inl rfl | exact .inr rfl | assumption) : wpAny M A (storeName X.env x u) Q E s := by
  obtain ⟨m, hn, hl⟩ := id I.loc
  have hcls : (X.env.scope.kind == .class || (X.env.scope.kind == .module && X.env.locals != X.env.globals)) = false := by rw [I.ok.kind]; rfl
  have hiσ : i < σ.length := by rw [I.len]; exact (List.getElem?_eq_some_iff.mp hi).1
  have cne := I.cne
  have tracked : ∀ {a : Addr} {h' : Heap}, (∃ o, s.heap.get? a = some o ∧ H a = none) → Heap.SameBut a s.heap h' → HOk X.prog X.w H h' := fun {a h'} ha hs b ob e => by
    obtain ⟨_, _, hfree⟩ := ha
    refine (I.hok b ob e).stay (fun c w' hc q => (hs.2 c ?_).trans q) (fun _ q => q) fun _ _ q => q
    rintro rfl
    rcases hc with rfl | hc
    · rw [hfree] at e; cases e
    · rw [hfree] at hc; cases hc
  rcases hx with hk | hk
  · refine wpAny_storeName_local hk hn (fun h' hn' hs => ?_) hcls
    obtain ⟨oL, _, _, hoL, _⟩ := id hn
    refine h _ ⟨I.ok, I.os, I.bare, ⟨fun b o e n hb hx => ?_, fun b o e n hb hx => ?_, I.base.free, fun b o e hx => ?_, I.base.tups, I.base.frzs, I.base.tbls⟩, ⟨_, hn', fun j y v' e1 e2 e3 => ?_⟩, fun y c e => ?_, I.free, I.freeC, fun p hp => ?_, tracked ⟨oL, hoL, I.free⟩ hs, by simpa using I.len⟩ ⟨_, hs, .inl rfl⟩
    · exact (hs.2 b (Nat.ne_of_lt (Nat.lt_of_lt_of_le (Heap.lt_size e) I.ok.above))).trans (I.base.keep b o e n hb hx)
    · obtain ⟨sl, e1⟩ := I.base.slot b o e n hb hx
      exact ⟨sl, (hs.2 b (Nat.ne_of_lt (Nat.lt_of_lt_of_le (Heap.lt_size e) I.ok.above))).trans e1⟩
    · obtain ⟨o', e1⟩ := I.base.there b o e hx
      exact ⟨o', (hs.2 b (Nat.ne_of_lt (Nat.lt_of_lt_of_le (Heap.lt_size e) I.ok.above))).trans e1⟩
    · by_cases hj : j = i
      · subst hj
        rw [hi] at e1; cases e1
        rw [List.getElem?_set_self hiσ] at e2
        cases e2
        exact ⟨u, r, .inl ⟨hk, by simp⟩⟩
      · rw [List.getElem?_set_ne (Ne.symm hj)] at e2
        obtain ⟨u', r', q⟩ := hl j y v' e1 e2 e3
        refine ⟨u', r', ?_⟩
        rcases q with ⟨k, e⟩ | ⟨k, c, e, z⟩
        · refine .inl ⟨k, ?_⟩
          have : y ≠ x := fun e => hj (nodup_ix hN e1 (e ▸ hi))
          simp [this, e]
        · exact .inr ⟨k, c, e, z.sameBut hs (cne y c e)⟩
    · obtain ⟨w', z⟩ := I.cell y c e
      exact ⟨w', z.sameBut hs (cne y c e)⟩
    · obtain ⟨e, n, ne, nf, d⟩ := I.pin p hp
      exact ⟨(hs.2 p.1 ne).trans e, n, ne, nf, d⟩
  · have hfn : X.fn x = true := by
      rcases hf with z | z
      · exact z
      · rw [z] at hk; cases hk
    obtain ⟨c, hc⟩ := I.ok.has x (.inl hk)
    obtain ⟨w', z⟩ := I.cell x c hc
    refine wpAny_storeName_cell I.ok.kind hk hc z (fun h' hc' hs => ?_)
    obtain ⟨oc, hoc, hocd⟩ := id z
    refine h { s with heap := h' } ⟨I.ok, I.os, I.bare, ⟨fun b o e n hb hx => ?_, fun b o e n hb hx => ?_, I.base.free, fun b o e hx => ?_, I.base.tups, I.base.frzs, I.base.tbls⟩, ⟨m, hn.sameBut hs (Ne.symm (cne x c hc)), fun j y v' e1 e2 e3 => ?_⟩, fun y c' e => ?_, I.free, I.freeC, fun p hp => ?_, tracked ⟨oc, hoc, I.freeC x c hc⟩ hs, by simpa using I.len⟩ ⟨c, hs, .inr hc⟩
    · exact (hs.2 b (Nat.ne_of_lt (Nat.lt_of_lt_of_le (Heap.lt_size e) (I.ok.cab x c hfn hc)))).trans (I.base.keep b o e n hb hx)
    · obtain ⟨sl, e1⟩ := I.base.slot b o e n hb hx
      exact ⟨sl, (hs.2 b (Nat.ne_of_lt (Nat.lt_of_lt_of_le (Heap.lt_size e) (I.ok.cab x c hfn hc)))).trans e1⟩
    · obtain ⟨o', e1⟩ := I.base.there b o e hx
      exact ⟨o', (hs.2 b (Nat.ne_of_lt (Nat.lt_of_lt_of_le (Heap.lt_size e) (I.ok.cab x c hfn hc)))).trans e1⟩
    · by_cases hj : j = i
      · subst hj
        rw [hi] at e1; cases e1
        rw [List.getElem?_set_self hiσ] at e2
        cases e2
        exact ⟨u, r, .inr ⟨.inl hk, c, hc, hc'⟩⟩
      · rw [List.getElem?_set_ne (Ne.symm hj)] at e2
        obtain ⟨u', r', q⟩ := hl j y v' e1 e2 e3
        refine ⟨u', r', ?_⟩
        rcases q with q | ⟨k, c', e, z'⟩
        · exact .inl q
        · refine .inr ⟨k, c', e, z'.sameBut hs ?_⟩
          rintro rfl
          exact hj (nodup_ix hN e1 (I.ok.inj _ _ _ e hc ▸ hi))
    · by_cases hcc : c' = c
      · subst hcc; exact ⟨_, hc'⟩
      · obtain ⟨w2, z2⟩ := I.cell y c' e
        exact ⟨w2, z2.sameBut hs hcc⟩
    · obtain ⟨e, n, ne, nf, d⟩ := I.pin p hp
      refine ⟨(hs.2 p.1 ?_).trans e, n, ne, nf, d⟩
      intro q
      rw [q, hoc] at e
      have q' : oc = p.2 := Option.some.inj e
      exact d w' (by rw [← q']; exact hocd)
theorem store_ok {M : Model} {A : Around} {E : Value → Shared → Prop} {i : Nat} {x : Str} {v : V} {u : Value} {Q : Unit → Shared → Prop} (I : Inv X pins σ H s) (hN : X.N.Nodup) (hi : X.N[i]? = some x) (hx : Loc X.env.scope x) (r : RelV v u)
    (h : ∀ s', Inv X pins (σ.set i (some v)) H s' → Q () s') (hf : X.fn x = true ∨ X.env.scope.names.lookup x = some .local := by first | exact .inl rfl | exact .inr rfl | assumption) : wpAny M A (storeName X.env x u) Q E s :=
  store_ok2 I hN hi hx r (fun s' I' _ => h s' I') hf
/-- behind a call or a block, the state as it is -/
theorem Inv.call' {s' : Shared} {ch : List Addr} (I : Inv X pins σ H s) (ho : s'.os = s.os) (u : Un (frs X.stack) ch H H' s.heap s'.heap) (hok : HOk X.prog X.w H' s'.heap) (hg : AllBare s'.gens)
    (hch : ∀ b ∈ ch, (b ∈ X.ex ∨ X.s₀.heap.objs.size ≤ b) ∧ b ≠ X.env.locals ∧ (∀ x c, X.env.cells.lookup x = some c → c ≠ b) ∧ ∀ p ∈ X.pn ++ pins, p.1 ≠ b) : Inv X pins σ H' s' := by
  obtain ⟨h', g', d', t', o'⟩ := s'
  have e : o' = s.os := ho
  subst e
  exact I.call (g' := g') (t' := t') (d' := d') u hok hg hch
end
/-! ### the judgements -/
/-- an exception: its class, its own dict's address (where it has one), the abstract heap behind it -/
abbrev XK := Value → Option Addr → Hp → Prop
abbrev St := List (Option V)
abbrev VK := V → Hp → Prop
/-- an expression's reading; a test's; an argument list's -/
abbrev TE := St → Hp → VK → Prop
abbrev TT := St → Hp → (Bool → Hp → Prop) → Prop
abbrev TA := St → Hp → (List V → Hp → Prop) → Prop
/-- what is wanted behind a statement -/
structure Ends where
  nx : St → Hp → Prop
  rt : VK
  bk : St → Hp → Prop := fun _ _ => False
  ct : St → Hp → Prop := fun _ _ => False
abbrev TS := Ends → St → Hp → Prop
def EP (X : Cx) (pins : List (Addr × Obj)) (σ : St) (Q : VK) (u : Value) (s' : Shared) : Prop := ∃ v H', Inv X pins σ H' s' ∧ RelV v u ∧ Q v H'
def TP (X : Cx) (pins : List (Addr × Obj)) (σ : St) (Q : Bool → Hp → Prop) (b : Bool) (s' : Shared) : Prop := ∃ H', Inv X pins σ H' s' ∧ Q b H'
def AP (X : Cx) (pins : List (Addr × Obj)) (σ : St) (Q : List V → Hp → Prop) (us : List Value) (s' : Shared) : Prop := ∃ vs H', Inv X pins σ H' s' ∧ Vals vs us ∧ Q vs H'
def SP (X : Cx) (pins : List (Addr × Obj)) (D : Ends) (f : Flow) (s' : Shared) : Prop :=
  match f with
  | .next => ∃ σ' H', Inv X pins σ' H' s' ∧ D.nx σ' H'
  | .brk => ∃ σ' H', Inv X pins σ' H' s' ∧ D.bk σ' H'
  | .cont => ∃ σ' H', Inv X pins σ' H' s' ∧ D.ct σ' H'
  | .ret u => ∃ v σ' H', Inv X pins σ' H' s' ∧ RelV v u ∧ D.rt v H'
def PE (X : Cx) (e : Expr) (t : TE) : Prop :=
  ∀ (pins : List (Addr × Obj)) (s : Shared) (σ : St) (H : Hp) (Q : VK), Inv X pins σ H s → t σ H Q → wpAny (model X.prog X.w) X.A (eval e X.env) (EP X pins σ Q) X.xe s
def PT (X : Cx) (e : Expr) (t : TT) : Prop :=
  ∀ (pins : List (Addr × Obj)) (s : Shared) (σ : St) (H : Hp) (Q : Bool → Hp → Prop), Inv X pins σ H s → t σ H Q → wpAny (model X.prog X.w) X.A (isTrue e X.env (eval e X.env)) (TP X pins σ Q) X.xe s
/-- a test whatever its 'whole' is (and, or) -/
def PW (X : Cx) (e : Expr) (t : TT) : Prop :=
  ∀ (whole : Sem Value) (pins : List (Addr × Obj)) (s : Shared) (σ : St) (H : Hp) (Q : Bool → Hp → Prop), Inv X pins σ H s → t σ H Q → wpAny (model X.prog X.w) X.A (isTrue e X.env whole) (TP X pins σ Q) X.xe s
theorem PW.pt {X : Cx} {e : Expr} {t : TT} (h : PW X e t) : PT X e t := h _
/-- an argument list (no star), from the left -/
def PA (X : Cx) (es : List Expr) (t : TA) : Prop :=
  ∀ (pos : Pos) (pins : List (Addr × Obj)) (s : Shared) (σ : St) (H : Hp) (Q : List V → Hp → Prop), Inv X pins σ H s → t σ H Q → wpAny (model X.prog X.w) X.A (spliced (backTo pos (starEach es X.env))) (AP X pins σ Q) X.xe s
def PS (X : Cx) (st : Stmt) (t : TS) : Prop :=
  ∀ (pins : List (Addr × Obj)) (s : Shared) (σ : St) (H : Hp) (D : Ends), Inv X pins σ H s → t D σ H → wpAny (model X.prog X.w) X.A (exec st X.env) (SP X pins D) X.xe s
def PSs (X : Cx) (st : List Stmt) (t : TS) : Prop :=
  ∀ (pins : List (Addr × Obj)) (s : Shared) (σ : St) (H : Hp) (D : Ends), Inv X pins σ H s → t D σ H → wpAny (model X.prog X.w) X.A (execs st X.env) (SP X pins D) X.xe s
/-- weaken the end -/
theorem thn {α : Type} {t : Sem α} {Q Q' : α → Shared → Prop} {M : Model} {A : Around} {E : Value → Shared → Prop} {s : Shared} (h : wpAny M A t Q E s) (hQ : ∀ a s, Q a s → Q' a s) : wpAny M A t Q' E s := wpAny_mono h hQ fun _ _ x => x
end L2
namespace L2
open PySem PySem.Spec PyProof.Rows
section
variable {X : Cx}
/-! ### names and constants -/
def tVar (i : Nat) : TE := fun σ H Q => ∃ v, σ[i]? = some (some v) ∧ Q v H
def tC (v : V) : TE := fun _ H Q => Q v H
theorem pe_var {i : Nat} {x : Str} {pos : Pos} (hN : X.N[i]? = some x) (hv : Vis X.env.scope x) (hd : (x == ("__debug__" : Str)) = false := by decide) (hcd : (x == ("__classdict__" : Str)) = false := by decide) : PE X (.Name x pos) (tVar i) := by
  intro pins s σ H Q I h
  obtain ⟨v, e, h⟩ := h
  obtain ⟨m, hn, hl⟩ := I.loc
  obtain ⟨u, r, l⟩ := hl i x v hN e hv
  have fin : EP X pins σ Q u s := ⟨v, H, I, r, h⟩
  rcases l with ⟨hk, hm⟩ | ⟨hk, c, hc, hcell⟩
  · exact wpAny_Name (wpAny_loadName_local I.ok.kind hk hn hm fin) hd
  · rcases hk with hk | hk
    · exact wpAny_Name (wpAny_loadName_cell I.ok.kind hk hc hcell fin) hd
    · exact wpAny_Name (wpAny_loadName_free I.ok.kind hk hc hcell fin hcd) hd
theorem pe_int {i j pos} : PE X (.Constant (.int i) j pos) (tC (.int i)) := fun _ _ _ H _ I h => wpAny_Constant_int ⟨.int i, H, I.tok _, ⟨_, rfl⟩, h⟩
theorem pe_bl {b j pos} : PE X (.Constant (.bool b) j pos) (tC (.bl b)) := fun _ _ _ H _ I h => Constant_bool ⟨.bl b, H, I, rfl, h⟩
theorem pe_non {j pos} : PE X (.Constant .none j pos) (tC .non) := fun _ _ _ H _ I h => Constant_none ⟨.non, H, I, rfl, h⟩
theorem pe_str {x j pos} : PE X (.Constant (.str x) j pos) (tC (.str x)) := fun _ _ _ H _ I h => Calls.Constant_str ⟨.str x, H, I.tok _, ⟨_, rfl⟩, h⟩
/-- a global name of the def -/
def Gl (X : Cx) (x : Str) : Prop := X.env.kindOf x = some .globalImplicit
theorem ld_glob {E : Value → Shared → Prop} {pins : List (Addr × Obj)} {s : Shared} {σ : St} {H : Hp} {x : Str} {u : Value} {pos : Pos} {Q : Value → Shared → Prop} (I : Inv X pins σ H s) (hg : Gl X x) (hm : X.mg x = some u) (h : Q u s)
    (hd : (x == ("__debug__" : Str)) = false := by decide) : wpAny (model X.prog X.w) X.A (eval (.Name x pos) X.env) Q E s :=
  Calls.Name_function_global I.ok.kind hg (Calls.loadGlobal_global (by rw [I.ok.glob]; exact I.mod.glob.keeps I.bk) hm h) hd
theorem ld_blt {E : Value → Shared → Prop} {pins : List (Addr × Obj)} {s : Shared} {σ : St} {H : Hp} {x : Str} {u : Value} {pos : Pos} {Q : Value → Shared → Prop} (I : Inv X pins σ H s) (hg : Gl X x) (hm : X.mg x = none) (hv : bootBuiltins x = some u) (h : Q u s)
    (hn : x ≠ "__name__" := by decide) (hd : (x == ("__debug__" : Str)) = false := by decide) : wpAny (model X.prog X.w) X.A (eval (.Name x pos) X.env) Q E s := by
  obtain ⟨mb, h1, h2⟩ := I.mod.blt
  exact Calls.Name_function_global I.ok.kind hg (Calls.loadGlobal_builtin (by rw [I.ok.glob]; exact I.mod.glob.keeps I.bk) hm (by rw [I.ok.blt]; exact h1.keeps I.bk) ((h2 x hn).trans hv) h) hd
/-- a module's constant, a class, a function, as a value -/
theorem pe_glob {x : Str} {v : V} {u : Value} {pos : Pos} (hg : Gl X x) (hm : X.mg x = some u) (r : RelV v u) (hd : (x == ("__debug__" : Str)) = false := by decide) : PE X (.Name x pos) (tC v) :=
  fun _ _ _ H _ I h => ld_glob I hg hm ⟨v, H, I, r, h⟩ hd
theorem pe_bltn {x : Str} {v : V} {u : Value} {pos : Pos} (hg : Gl X x) (hm : X.mg x = none) (hv : bootBuiltins x = some u) (r : RelV v u) (hn : x ≠ "__name__" := by decide) (hd : (x == ("__debug__" : Str)) = false := by decide) : PE X (.Name x pos) (tC v) :=
  fun _ _ _ H _ I h => ld_blt I hg hm hv ⟨v, H, I, r, h⟩ hn hd
/-! ### arithmetic -/
variable {a b : Expr} {ta tb : TE} {pos : Pos}
/-! ### comparisons -/
/-- a comparison as a value, as a test -/
def tB (t : TE) : TT := fun σ H Q => t σ H fun x H1 => ∃ c, x = .bl c ∧ Q c H1
/-! ### and, or, not -/
variable {tA tB' : TT} {rest : List Expr}
def tAnd (t u : TT) : TT := fun σ H Q => t σ H fun c H1 => if c = true then u σ H1 Q else Q false H1
def tOr (t u : TT) : TT := fun σ H Q => t σ H fun c H1 => if c = true then Q true H1 else u σ H1 Q
def tNot (t : TT) : TT := fun σ H Q => t σ H fun c H1 => Q (!c) H1
theorem pw_and1 (ha : PT X a tA) : PW X (.BoolOp .And [a] pos) tA := by
  intro wh pins s σ H Q I h
  refine isTrue_and (thn (ha pins s σ H Q I h) fun c s1 e => ?_)
  cases c with
  | true => exact isTrue_and_nil e
  | false => exact e
theorem pw_or1 (ha : PT X a tA) : PW X (.BoolOp .Or [a] pos) tA := by
  intro wh pins s σ H Q I h
  refine isTrue_or (thn (ha pins s σ H Q I h) fun c s1 e => ?_)
  cases c with
  | false => exact isTrue_or_nil e
  | true => exact e
theorem pw_and (ha : PT X a tA) (hb : PW X (.BoolOp .And (b :: rest) pos) tB') : PW X (.BoolOp .And (a :: b :: rest) pos) (tAnd tA tB') := by
  intro wh pins s σ H Q I h
  refine isTrue_and (thn (ha pins s σ H _ I h) fun c s1 ⟨H1, I1, q1⟩ => ?_)
  cases c with
  | true => exact hb wh pins s1 σ H1 Q I1 q1
  | false => exact ⟨H1, I1, q1⟩
theorem pw_or (ha : PT X a tA) (hb : PW X (.BoolOp .Or (b :: rest) pos) tB') : PW X (.BoolOp .Or (a :: b :: rest) pos) (tOr tA tB') := by
  intro wh pins s σ H Q I h
  refine isTrue_or (thn (ha pins s σ H _ I h) fun c s1 ⟨H1, I1, q1⟩ => ?_)
  cases c with
  | true => exact ⟨H1, I1, q1⟩
  | false => exact hb wh pins s1 σ H1 Q I1 q1
theorem pt_not (ha : PT X a tA) : PT X (.UnaryOp .Not a pos) (tNot tA) := by
  intro pins s σ H Q I h
  exact isTrue_not (ha pins s σ H (fun c H1 => Q (!c) H1) I h)
/-- .. as values (bools) -/
def tAndV (ta tb : TE) : TE := fun σ H Q => ta σ H fun x H1 => ∃ c, x = .bl c ∧ if c = true then tb σ H1 Q else Q (.bl false) H1
def tOrV (ta tb : TE) : TE := fun σ H Q => ta σ H fun x H1 => ∃ c, x = .bl c ∧ if c = true then Q (.bl true) H1 else tb σ H1 Q
theorem pe_one {op} {t : TE} (h : PE X a t) : PE X (.BoolOp op [a] pos) t := fun pins s σ H Q I hw => BoolOp_one (h pins s σ H Q I hw)
theorem pe_and (ha : PE X a ta) (hb : PE X (.BoolOp .And (b :: rest) pos) tb) : PE X (.BoolOp .And (a :: b :: rest) pos) (tAndV ta tb) := by
  intro pins s σ H Q I h
  refine BoolOp_and (thn (ha pins s σ H _ I h) fun v s1 ⟨x, H1, I1, r1, q1⟩ => ?_)
  obtain ⟨c, rfl, q1⟩ := q1
  cases r1
  refine wpAny_truthy_bool ?_
  cases c with
  | true => exact hb pins s1 σ H1 Q I1 q1
  | false => exact ⟨.bl false, H1, I1, rfl, q1⟩
theorem pe_or (ha : PE X a ta) (hb : PE X (.BoolOp .Or (b :: rest) pos) tb) : PE X (.BoolOp .Or (a :: b :: rest) pos) (tOrV ta tb) := by
  intro pins s σ H Q I h
  refine BoolOp_or (thn (ha pins s σ H _ I h) fun v s1 ⟨x, H1, I1, r1, q1⟩ => ?_)
  obtain ⟨c, rfl, q1⟩ := q1
  cases r1
  refine wpAny_truthy_bool ?_
  cases c with
  | false => exact hb pins s1 σ H1 Q I1 q1
  | true => exact ⟨.bl true, H1, I1, rfl, q1⟩
/-- a if t else b -/
def tIf (t : TT) (ta tb : TE) : TE := fun σ H Q => t σ H fun c H1 => if c = true then ta σ H1 Q else tb σ H1 Q
theorem pe_ifExp {c : Expr} (hc : PT X c tA) (ha : PE X a ta) (hb : PE X b tb) : PE X (.IfExp c a b pos) (tIf tA ta tb) := by
  intro pins s σ H Q I h
  refine wpAny_IfExp (thn (hc pins s σ H _ I h) fun d s1 ⟨H1, I1, q1⟩ => ?_)
  cases d with
  | true => exact ha pins s1 σ H1 Q I1 q1
  | false => exact hb pins s1 σ H1 Q I1 q1
end
end L2
namespace L2
open PySem PySem.Spec PyProof.Rows
/-! ### a list, a tuple that is read: tracked, frozen, or an object of the module -/
def SqL (K : PySem.W.Frag) (H : Hp) (a : Addr) (xs : List V) : Prop :=
  Rd H a (.lst xs) ∨
    ∃ (o : Obj) (its : Array Value) (n : Nat), K.lookup a = some o ∧ o.cls = .type "list" ∧ o.dict = none ∧ o.data = .seq its n ∧ its.size ≤ sizeLine ∧ Vals xs its.toList
def SqT (K : PySem.W.Frag) (H : Hp) (a : Addr) (xs : List V) : Prop :=
  Rd H a (.tup xs) ∨
    ∃ (o : Obj) (its : Array Value) (n : Nat), K.lookup a = some o ∧ o.cls = .type "tuple" ∧ o.data = .seq its n ∧ its.size ≤ sizeLine ∧ Vals xs its.toList
def absV : Value → Option V
  | .none => some .non
  | .bool b => some (.bl b)
  | .int i _ => some (.int i)
  | .str x _ => some (.str x)
  | .bytes b _ => some (.byt b)
  | .float b _ => some (.flt b)
  | .ref a => some (.ref a)
  | .type n => some (.ty n)
  | _ => none
theorem RelV.abs {x : V} {u : Value} (r : RelV x u) : absV u = some x := by
  cases x with
  | non => cases r; rfl
  | bl _ => cases r; rfl
  | int _ => obtain ⟨t, rfl⟩ := r; rfl
  | str _ => obtain ⟨t, rfl⟩ := r; rfl
  | byt _ => obtain ⟨t, rfl⟩ := r; rfl
  | flt _ => obtain ⟨t, rfl⟩ := r; rfl
  | ref _ => cases r; rfl
  | ty _ => cases r; rfl
theorem RelV.inj {x y : V} {u : Value} (r : RelV x u) (q : RelV y u) : x = y := Option.some.inj (r.abs.symm.trans q.abs)
theorem Vals.inj : ∀ {xs ys : List V} {us : List Value}, Vals xs us → Vals ys us → xs = ys
  | _, _, _, .nil, .nil => rfl
  | _, _, _, .cons r t, .cons r' t' => by rw [r.inj r', Vals.inj t t']
section
variable {X : Cx} {pins : List (Addr × Obj)} {σ : St} {H : Hp} {s : Shared} {a : Addr} {xs ys : List V}
theorem SqL.of {K : PySem.W.Frag} (h : H a = some (.lst xs)) : SqL K H a xs := .inl (.inl h)
theorem SqT.of {K : PySem.W.Frag} (h : H a = some (.tup xs)) : SqT K H a xs := .inl (.inl h)
theorem Inv.list (I : Inv X pins σ H s) (h : SqL X.K H a xs) : ∃ its : List Value, Vals xs its ∧ PlainL s.heap a its.toArray ∧ xs.length ≤ sizeLine := by
  rcases h with h | ⟨o, its, n, hk, hc, hd, hs, hz, r⟩
  · obtain ⟨z, its, n, r, e⟩ := h.ok I.hok
    exact ⟨its, r, ⟨_, n, e, rfl, rfl, rfl⟩, z⟩
  · refine ⟨its.toList, r, ⟨o, n, I.kIn a o hk, hc, hd, by simpa using hs⟩, ?_⟩
    have e := r.length
    simp only [Array.length_toList] at e
    omega
theorem Inv.tuple (I : Inv X pins σ H s) (h : SqT X.K H a xs) : ∃ its : List Value, Vals xs its ∧ IsTup s.heap a its.toArray ∧ xs.length ≤ sizeLine := by
  rcases h with h | ⟨o, its, n, hk, hc, hs, hz, r⟩
  · obtain ⟨z, its, r, p⟩ := h.ok I.hok
    exact ⟨its, r, p, z⟩
  · refine ⟨its.toList, r, ⟨o, I.kIn a o hk, hc, n, by simpa using hs⟩, ?_⟩
    have e := r.length
    simp only [Array.length_toList] at e
    omega
theorem Inv.list_inj (I : Inv X pins σ H s) (h : SqL X.K H a xs) (h' : SqL X.K H a ys) : xs = ys := by
  obtain ⟨its, r, ⟨o, n, e, _, _, d⟩, _⟩ := I.list h
  obtain ⟨its', r', ⟨o', n', e', _, _, d'⟩, _⟩ := I.list h'
  rw [e] at e'; cases e'
  rw [d] at d'
  injection d' with d1 _
  have : its = its' := by simpa using congrArg Array.toList d1
  subst this
  exact r.inj r'
theorem Inv.tuple_inj (I : Inv X pins σ H s) (h : SqT X.K H a xs) (h' : SqT X.K H a ys) : xs = ys := by
  obtain ⟨its, r, ⟨o, e, _, n, d⟩, _⟩ := I.tuple h
  obtain ⟨its', r', ⟨o', e', _, n', d'⟩, _⟩ := I.tuple h'
  rw [e] at e'; cases e'
  rw [d] at d'
  injection d' with d1 _
  have : its = its' := by simpa using congrArg Array.toList d1
  subst this
  exact r.inj r'
end
/-! ### another wish about exceptions -/
section
variable {X : Cx} {pins : List (Addr × Obj)} {σ : St} {H : Hp} {s : Shared} {E : Value → Shared → Prop}
end
/-! ### blocks and small statements -/
section
variable {X : Cx} {st : Stmt} {rest : List Stmt} {t u : TS} {e : Expr} {te : TE} {pos : Pos}
def tNext : TS := fun D σ H => D.nx σ H
def tSeq (t u : TS) : TS := fun D σ H => t { D with nx := u D } σ H
theorem pss_nil : PSs X [] tNext := fun _ _ σ H _ I h => wpAny_execs_nil ⟨σ, H, I, h⟩
theorem pss_cons (h1 : PS X st t) (h2 : PSs X rest u) : PSs X (st :: rest) (tSeq t u) := by
  intro pins s σ H D I h
  refine wpAny_execs_cons (thn (h1 pins s σ H { D with nx := u D } I h) fun f s1 q => ?_)
  cases f with
  | next =>
    obtain ⟨σ', H', I', q⟩ := q
    exact h2 pins s1 σ' H' D I' q
  | ret v => exact q
  | brk => exact q
  | cont => exact q
def tBreak : TS := fun D σ H => D.bk σ H
def tCont : TS := fun D σ H => D.ct σ H
/-- in a def's body nothing is shown -/
theorem Inv.quiet {pins : List (Addr × Obj)} {σ : St} {H : Hp} {s : Shared} (I : Inv X pins σ H s) : interactive X.env = false := by simp [interactive, I.ok.kind]
/-- an expression whose value is dropped -/
def tDrop (te : TE) : TS := fun D σ H => te σ H fun _ H1 => D.nx σ H1
theorem ps_expr (he : PE X e te) (hs : swapsWith e none pos.line X.env = pure false := by rfl) : PS X (.Expr e pos) (tDrop te) := by
  intro pins s σ H D I h
  exact wpAny_Expr_any (thn (he pins s σ H _ I h) fun v s1 ⟨x, H1, I1, r1, q1⟩ => ⟨σ, H1, I1, q1⟩) I.quiet hs
def tRet (te : TE) : TS := fun D σ H => te σ H D.rt
theorem ps_ret (he : PE X e te) : PS X (.Return (some e) pos) (tRet te) := by
  intro pins s σ H D I h
  exact wpAny_Return_some (thn (he pins s σ H _ I h) fun v s1 ⟨x, H1, I1, r1, q1⟩ => ⟨x, σ, H1, I1, r1, q1⟩)
def tRetN : TS := fun D _ H => D.rt .non H
def tIfS (c : TT) (t u : TS) : TS := fun D σ H => c σ H fun b H1 => if b = true then t D σ H1 else u D σ H1
theorem ps_if {c : Expr} {a b : List Stmt} {tc : TT} (hc : PT X c tc) (ha : PSs X a t) (hb : PSs X b u) : PS X (.If c a b pos) (tIfS tc t u) := by
  intro pins s σ H D I h
  refine wpAny_If (thn (hc pins s σ H _ I h) fun d s1 ⟨H1, I1, q1⟩ => ?_)
  cases d with
  | true => exact ha pins s1 σ H1 D I1 q1
  | false => exact hb pins s1 σ H1 D I1 q1
/-- code that the proof never comes to -/
def tNever : TS := fun _ _ _ => False
end
/-! ### targets -/
abbrev TG := V → St → Hp → (St → Hp → Prop) → Prop
abbrev TGs := List V → St → Hp → (St → Hp → Prop) → Prop
def PG (X : Cx) (target : Expr) (t : TG) : Prop :=
  ∀ (pins : List (Addr × Obj)) (s : Shared) (σ : St) (H : Hp) (v : V) (u : Value) (Q : St → Hp → Prop), Inv X pins σ H s → RelV v u → t v σ H Q →
    wpAny (model X.prog X.w) X.A (assign target X.env u) (fun _ s' => ∃ σ' H', Inv X pins σ' H' s' ∧ Q σ' H') X.xe s
/-- several targets, one after another -/
def PGs (X : Cx) (ts : List Expr) (t : TGs) : Prop :=
  ∀ (pins : List (Addr × Obj)) (s : Shared) (σ : St) (H : Hp) (vs : List V) (us : List Value) (Q : St → Hp → Prop), Inv X pins σ H s → Vals vs us → t vs σ H Q →
    wpAny (model X.prog X.w) X.A (assignInOrder ((assignEach ts X.env).map (·.2)) us) (fun _ s' => ∃ σ' H', Inv X pins σ' H' s' ∧ Q σ' H') X.xe s
/-- o[i] = v, by values -/
abbrev TSet := V → V → V → Hp → (Hp → Prop) → Prop
section
variable {X : Cx} {pos : Pos}
def gName (i : Nat) : TG := fun v σ H Q => Q (σ.set i (some v)) H
theorem pg_name {i : Nat} {x : Str} (hN : X.N.Nodup) (hi : X.N[i]? = some x) (hx : Loc X.env.scope x) (hf : X.fn x = true ∨ X.env.scope.names.lookup x = some .local := by first | exact .inl rfl | exact .inr rfl | assumption) : PG X (.Name x pos) (gName i) := by
  intro pins s σ H v u Q I r h
  exact wpAny_assign_Name (store_ok I hN hi hx r (fun s' I' => ⟨_, H, I', h⟩) hf)
def gNil : TGs := fun vs σ H Q => vs = [] ∧ Q σ H
def gCons (t : TG) (u : TGs) : TGs := fun vs σ H Q => ∃ v r, vs = v :: r ∧ t v σ H fun σ' H' => u r σ' H' Q
theorem pgs_nil : PGs X [] gNil := by
  intro pins s σ H vs us Q I r h
  obtain ⟨e, h⟩ := h
  subst e
  cases r
  exact assignInOrder_nil ⟨σ, H, I, h⟩
theorem pgs_cons {e : Expr} {es : List Expr} {t : TG} {u : TGs} (h1 : PG X e t) (h2 : PGs X es u)
    (hs : (assignEach (e :: es) X.env).map (·.2) = assign e X.env :: (assignEach es X.env).map (·.2) := by rfl) : PGs X (e :: es) (gCons t u) := by
  intro pins s σ H vs us Q I r h
  obtain ⟨v, vr, e1, h⟩ := h
  subst e1
  cases r with
  | cons r rr =>
    rw [hs]
    refine assignInOrder_cons (thn (h1 pins s σ H _ _ _ I r h) fun _ s1 ⟨σ1, H1, I1, q1⟩ => ?_)
    exact h2 pins s1 σ1 H1 _ _ Q I1 rr q1
/-- (a, b, ..) = a tuple of that length -/
def gTup (K : PySem.W.Frag) (n : Nat) (t : TGs) : TG := fun v σ H Q => ∃ a xs, v = .ref a ∧ SqT K H a xs ∧ xs.length = n ∧ t xs σ H Q
theorem pg_tup {es : List Expr} {k : Nat} {t : TGs} {n : Nat} (hc : X.calm = true) (h : PGs X es t)
    (hn : (assignEach es X.env).length = n := by rfl) (hst : (assignEach es X.env).findIdx? (·.1) = none := by rfl) : PG X (.Tuple es k pos) (gTup X.K n t) := by
  intro pins s σ H v u Q I r hw
  obtain ⟨a, xs, e1, hq, hl, hw⟩ := hw
  subst e1
  cases r
  obtain ⟨its, rv, ht, hz⟩ := I.tuple hq
  refine assign_Tuple_tuple (I.ok.hd hc) ht (by simp [hn, ← hl, rv.length]) hst fun h' hx => ?_
  have I1 : Inv X pins σ H { s with heap := h' } := I.kept (t' := s.toks) fun b o e => hx b o (Nat.ne_of_lt (Heap.lt_size e)) e
  exact h pins _ σ H xs _ Q I1 (by simpa using rv) hw
/-- o[i] = .. -/
def gSub (to ti : TE) (t : TSet) : TG := fun v σ H Q => to σ H fun o H1 => ti σ H1 fun i H2 => t o i v H2 fun H3 => Q σ H3
/-- target = value -/
def tAsg (te : TE) (g : TG) : TS := fun D σ H => te σ H fun x H1 => g x σ H1 D.nx
/-- name = value -/
theorem ps_set {i : Nat} {x : Str} {e : Expr} {te : TE} {pos' : Pos} (hN : X.N.Nodup) (hi : X.N[i]? = some x) (hx : Loc X.env.scope x) (he : PE X e te) (hs : swapsWith e (some (.Name x pos')) pos.line X.env = pure false := by rfl) (hf : X.fn x = true ∨ X.env.scope.names.lookup x = some .local := by first | exact .inl rfl | exact .inr rfl | assumption) :
    PS X (.Assign [.Name x pos'] e pos) (tAsg te (gName i)) := by
  intro pins s σ H D I h
  refine wpAny_Assign_Name (thn (he pins s σ H _ I h) fun v s1 ⟨y, H1, I1, r1, q1⟩ => ?_) hs
  exact store_ok I1 hN hi hx r1 (fun s2 I2 => ⟨_, H1, I2, q1⟩) hf
end
/-! ### while -/
section
variable {X : Cx} {pos : Pos}
/-- the invariant W with its measure -/
def tWhile (c : TT) (tb : TS) : TS := fun D σ H => ∃ W : Nat → St → Hp → Prop, (∃ m, W m σ H) ∧ ∀ m σ H, W m σ H →
  c σ H fun b H1 => if b = true then ∃ N : St → Hp → Prop, (∀ σ' H', N σ' H' → ∃ m', m' < m ∧ W m' σ' H') ∧ tb { D with nx := N, ct := N, bk := D.nx } σ H1 else D.nx σ H1
end
/-! ### what a loop or a comprehension walks -/
/-- at turn i: it yields x (the heap may grow), or it stops -/
structure It where
  go : Nat → Hp → Prop
  yld : Nat → Hp → V → Hp → Prop
  stop : Nat → Hp → Prop
/-- the iterator's own objects may turn: they are not the frame's, not pinned, younger than the entry (or a comprehension's own) -/
def FpOk (X : Cx) (pins : List (Addr × Obj)) (H : Hp) (b : Addr) : Prop :=
  H b = none ∧ b ≠ X.env.locals ∧ b ∉ X.fs ∧ (b ∈ X.ex ∨ X.s₀.heap.objs.size ≤ b) ∧ (∀ x c, X.env.cells.lookup x = some c → c ≠ b) ∧ ∀ p ∈ X.pn ++ pins, p.1 ≠ b
theorem Inv.fpOk {X : Cx} {pins : List (Addr × Obj)} {σ : St} {H H' : Hp} {s : Shared} {b : Addr} (I : Inv X pins σ H s) (hb : s.heap.objs.size ≤ b) (hn : H' b = none) : FpOk X pins H' b := by
  refine ⟨hn, Nat.ne_of_gt (Nat.lt_of_lt_of_le I.lt hb), I.nofs hb, .inr (Nat.le_trans I.sz hb), fun x c e z => ?_, fun p hp z => ?_⟩
  · obtain ⟨v, q⟩ := I.cell x c e
    exact absurd (Nat.lt_of_lt_of_le q.lt (by rw [z]; exact hb)) (Nat.lt_irrefl _)
  · exact absurd (Nat.lt_of_lt_of_le (Heap.lt_size (I.pin p hp).1) (by rw [z]; exact hb)) (Nat.lt_irrefl _)
structure Turn (P : Program) (w : World) (K : PySem.W.Frag) (tg : Expr) (J : It) (fp : List Addr) (it : Addr) (tn : Nat → Heap → Prop) : Prop where
  mem : it ∈ fp
  obj : ∀ i h, tn i h → ∀ b ∈ fp, ∃ o, h.get? b = some o ∧ ∀ v, o.data ≠ .cell v
  keep : ∀ i h h', tn i h → (∀ b ∈ fp, ∀ o, h.get? b = some o → h'.get? b = some o) → tn i h'
  item : ∀ (X : Cx), X.prog = P → X.w = w → X.K = K → X.calm = true → ∀ (i : Nat) (pins : List (Addr × Obj)) (s : Shared) (σ : St) (H : Hp) (E : Value → Shared → Prop), Inv X pins σ H s → (∀ b ∈ fp, FpOk X pins H b) → tn i s.heap → J.go i H →
    wpAny (model P w) X.A (pyNext (.ref it)) (fun r s1 => ∃ u, r = some u ∧
      wpAny (model P w) X.A (letOwnedTupleGo tg (.ref it) u) (fun _ s2 => ∃ x H', Inv X pins σ H' s2 ∧ RelV x u ∧ J.yld i H x H' ∧ tn (i + 1) s2.heap ∧ ∀ b ∈ fp, H' b = none) E s1) E s
  done : ∀ (X : Cx), X.prog = P → X.w = w → X.K = K → X.calm = true → ∀ (i : Nat) (pins : List (Addr × Obj)) (s : Shared) (σ : St) (H : Hp) (E : Value → Shared → Prop), Inv X pins σ H s → (∀ b ∈ fp, FpOk X pins H b) → tn i s.heap → J.stop i H →
    wpAny (model P w) X.A (pyNext (.ref it)) (fun r s1 => r = none ∧ Inv X pins σ H s1) E s
  self : ∀ (A : Around) (i : Nat) (s : Shared) (Q : Value → Shared → Prop) (E : Value → Shared → Prop), tn i s.heap → Q (.ref it) s → wpAny (model P w) A (pyIter (.ref it)) Q E s
abbrev TI := St → Hp → (It → Hp → Prop) → Prop
/-- an iterator has come -/
def PIE (X : Cx) (pins : List (Addr × Obj)) (σ : St) (tg : Expr) (R : It → Hp → Prop) (itv : Value) (s2 : Shared) : Prop :=
  ∃ (it : Addr) (fp : List Addr) (tn : Nat → Heap → Prop) (J : It) (H' : Hp), itv = .ref it ∧ Inv X pins σ H' s2 ∧ Turn X.prog X.w X.K tg J fp it tn ∧ tn 0 s2.heap ∧ (∀ b ∈ fp, FpOk X pins H' b) ∧ R J H'
def PI (X : Cx) (tg iter : Expr) (wi : TI) : Prop :=
  ∀ (pins : List (Addr × Obj)) (s : Shared) (σ : St) (H : Hp) (R : It → Hp → Prop), Inv X pins σ H s → wi σ H R →
    wpAny (model X.prog X.w) X.A (eval iter X.env) (fun v s1 => wpAny (model X.prog X.w) X.A (pyIter v) (PIE X pins σ tg R) X.xe s1) X.xe s
/-- the step ahead of the store is nothing for an iterator that keeps no tuple -/
theorem go_of {M : Model} {A : Around} {E : Value → Shared → Prop} {s : Shared} {tg : Expr} {it : Addr} {u : Value} {o : Obj} {n : String} {vs : Array Value} {Q : Unit → Shared → Prop} (ho : s.heap.get? it = some o) (hc : o.cls = .type n) (hd : o.data = .fields vs)
    (hn : ["enumerate", "zip", "dict_itemiterator", "dict_reverseitemiterator", "odict_iterator", "itertools.zip_longest", "itertools.pairwise"].contains n = false) (hQ : Q () s) : wpAny M A (letOwnedTupleGo tg (.ref it) u) Q E s := by
  unfold letOwnedTupleGo
  cases tg <;> first
    | exact wpAny_pure hQ
    | (cases u <;> first
        | exact wpAny_pure hQ
        | (refine wpAny_bind (wpAny_load ho ?_)
           rw [hc, hd]
           show wpAny M A (if (["enumerate", "zip", "dict_itemiterator", "dict_reverseitemiterator", "odict_iterator", "itertools.zip_longest", "itertools.pairwise"].contains n && vs[0]? == some (rawInt _)) = true then _ else _) Q E s
           rw [if_neg (by intro h; rw [hn, Bool.false_and] at h; cases h)]
           exact wpAny_pure hQ))
/-- the list at a, as it stands at each turn (a loop may append to it) -/
def Itl (K : PySem.W.Frag) (a : Addr) : It :=
  ⟨fun i H => ∃ xs x, SqL K H a xs ∧ xs[i]? = some x, fun i H x H' => H' = H ∧ ∀ xs, SqL K H a xs → xs[i]? = some x, fun i H => ∃ xs, SqL K H a xs ∧ xs.length ≤ i⟩
def Itt (K : PySem.W.Frag) (a : Addr) : It :=
  ⟨fun i H => ∃ xs x, SqT K H a xs ∧ xs[i]? = some x, fun i H x H' => H' = H ∧ ∀ xs, SqT K H a xs → xs[i]? = some x, fun i H => ∃ xs, SqT K H a xs ∧ xs.length ≤ i⟩
/-- lo, lo + 1, .. (n of them) -/
def Itr (lo : Int) (n : Nat) : It := ⟨fun i _ => i < n, fun i H x H' => H' = H ∧ x = .int (lo + i), fun i _ => n ≤ i⟩
theorem turn_list {P : Program} {w : World} {K : PySem.W.Frag} {tg : Expr} (a it : Addr) : Turn P w K tg (Itl K a) [it] it (fun i h => h.IsListIter it a i) where
  mem := by simp
  obj := fun i h st b hb => by
    have e : b = it := by simpa using hb
    subst e
    obtain ⟨o, e, c, d⟩ := st
    exact ⟨o, e, fun v z => by rw [d] at z; cases z⟩
  keep := fun i h h' st k => st.at fun o e => k it (by simp) o e
  item := by
    intro X hP hw hK hc i pins s σ H E I hf st hg
    subst hP hw hK
    obtain ⟨xs, x, hq, hx⟩ := hg
    obtain ⟨its, rv, p, hz⟩ := I.list hq
    obtain ⟨u, hu, ru⟩ := rv.get hx
    obtain ⟨f0, f1, f2, f3, f4, f5⟩ := hf it (by simp)
    refine wpAny_pyNext_list_item st p.isList (x := u) (by simpa using hu) fun h' st' sb => ?_
    have I1 : Inv X pins σ H { s with heap := h' } := I.turned (t' := s.toks) (fun b o hb e => (sb.2 b hb).trans e) f0 f1 f3 f4 f5
    obtain ⟨o, e, c, d⟩ := id st'
    exact ⟨u, rfl, go_of (s := { s with heap := h' }) e c d (by decide) ⟨x, H, I1, ru, ⟨rfl, fun ys hy => by rw [I.list_inj hy hq]; exact hx⟩, st', fun b hb => (hf b hb).1⟩⟩
  done := by
    intro X hP hw hK hc i pins s σ H E I hf st hg
    subst hP hw hK
    obtain ⟨xs, hq, hx⟩ := hg
    obtain ⟨its, rv, p, hz⟩ := I.list hq
    obtain ⟨f0, f1, f2, f3, f4, f5⟩ := hf it (by simp)
    have hl := rv.length
    exact wpAny_pyNext_list_end (I.ok.hd hc) st p.isList (by simp; omega) fun h' eb => ⟨rfl, I.turned (t' := s.toks) (fun b o hb e => eb b o hb e) f0 f1 f3 f4 f5⟩
  self := fun _ _ _ _ _ st h => wpAny_pyIter_listiter st h
theorem turn_tuple {P : Program} {w : World} {K : PySem.W.Frag} {tg : Expr} (a it : Addr) : Turn P w K tg (Itt K a) [it] it (fun i h => h.IsTupleIter it a i) where
  mem := by simp
  obj := fun i h st b hb => by
    have e : b = it := by simpa using hb
    subst e
    obtain ⟨o, e, c, d⟩ := st
    exact ⟨o, e, fun v z => by rw [d] at z; cases z⟩
  keep := fun i h h' st k => st.at fun o e => k it (by simp) o e
  item := by
    intro X hP hw hK hc i pins s σ H E I hf st hg
    subst hP hw hK
    obtain ⟨xs, x, hq, hx⟩ := hg
    obtain ⟨its, rv, p, hz⟩ := I.tuple hq
    obtain ⟨u, hu, ru⟩ := rv.get hx
    obtain ⟨f0, f1, f2, f3, f4, f5⟩ := hf it (by simp)
    refine wpAny_pyNext_tuple_item st (show s.heap.IsTuple a its.toArray from p) (x := u) (by simpa using hu) fun h' st' sb => ?_
    have I1 : Inv X pins σ H { s with heap := h' } := I.turned (t' := s.toks) (fun b o hb e => (sb.2 b hb).trans e) f0 f1 f3 f4 f5
    obtain ⟨o, e, c, d⟩ := id st'
    exact ⟨u, rfl, go_of (s := { s with heap := h' }) e c d (by decide) ⟨x, H, I1, ru, ⟨rfl, fun ys hy => by rw [I.tuple_inj hy hq]; exact hx⟩, st', fun b hb => (hf b hb).1⟩⟩
  done := by
    intro X hP hw hK hc i pins s σ H E I hf st hg
    subst hP hw hK
    obtain ⟨xs, hq, hx⟩ := hg
    obtain ⟨its, rv, p, hz⟩ := I.tuple hq
    obtain ⟨f0, f1, f2, f3, f4, f5⟩ := hf it (by simp)
    have hl := rv.length
    exact wpAny_pyNext_tuple_end (I.ok.hd hc) st (show s.heap.IsTuple a its.toArray from p) (by simp; omega) fun h' eb => ⟨rfl, I.turned (t' := s.toks) (fun b o hb e => eb b o hb e) f0 f1 f3 f4 f5⟩
  self := fun _ _ _ _ _ st h => wpAny_pyIter_tupleiter st h
theorem turn_range {P : Program} {w : World} {K : PySem.W.Frag} {tg : Expr} (it : Addr) (lo : Int) (n : Nat) : Turn P w K tg (Itr lo n) [it] it (fun i h => IsRangeIter h it (lo + (i : Nat) * 1) ((n : Int) - (i : Nat)) 1) where
  mem := by simp
  obj := fun i h st b hb => by
    have e : b = it := by simpa using hb
    subst e
    exact ⟨_, st, fun v z => by
      have z' : Data.fields _ = Data.cell v := z
      cases z'⟩
  keep := fun i h h' st k => k it (by simp) _ st
  item := by
    intro X hP hw hK hc i pins s σ H E I hf st hg
    subst hP hw hK
    obtain ⟨f0, f1, f2, f3, f4, f5⟩ := hf it (by simp)
    have W := Walks.range (prog := X.prog) (w := X.w) (I.ok.hd hc) it lo 1 n
    refine W.item i s _ _ hg st fun v h' tk hv st' kk => ?_
    obtain ⟨t, rfl⟩ := hv
    have I1 : Inv X pins σ H { s with heap := h', toks := tk } := I.turned (fun b o hb e => kk b o (by simpa using hb) e) f0 f1 f3 f4 f5
    refine ⟨_, rfl, go_of (s := { s with heap := h', toks := tk }) (n := "range_iterator") st' rfl rfl (by decide) ⟨.int (lo + i), H, I1, ⟨t, ?_⟩, ⟨rfl, rfl⟩, st', fun b hb => (hf b hb).1⟩⟩
    rw [Int.mul_one]
  done := by
    intro X hP hw hK hc i pins s σ H E I hf st hg
    subst hP hw hK
    obtain ⟨f0, f1, f2, f3, f4, f5⟩ := hf it (by simp)
    exact wpAny_pyNext_range_end (I.ok.hd hc) st (by have : n ≤ i := hg; omega) fun h' eb => ⟨rfl, I.turned (t' := s.toks) (fun b o hb e => eb b o hb e) f0 f1 f3 f4 f5⟩
  self := fun _ _ _ _ _ st h => wpAny_pyIter_rangeiter st h
end L2
namespace L2
open PySem PySem.Spec PyProof.Rows
section
variable {X : Cx} {tg : Expr}
def iList (K : PySem.W.Frag) (tl : TE) : TI := fun σ H R => tl σ H fun x H1 => ∃ a, x = .ref a ∧ (∃ xs, SqL K H1 a xs) ∧ R (Itl K a) H1
def iTup (K : PySem.W.Frag) (tl : TE) : TI := fun σ H R => tl σ H fun x H1 => ∃ a, x = .ref a ∧ (∃ xs, SqT K H1 a xs) ∧ R (Itt K a) H1
theorem pi_tup {l : Expr} {tl : TE} (hl : PE X l tl) : PI X tg l (iTup X.K tl) := by
  intro pins s σ H R I h
  refine thn (hl pins s σ H _ I h) fun v s1 ⟨x, H1, I1, r1, q1⟩ => ?_
  obtain ⟨a, e, ⟨xs, hq⟩, q⟩ := q1
  subst e
  cases r1
  obtain ⟨its, rv, p, hz⟩ := I1.tuple hq
  refine wpAny_pyIter_tuple (show s1.heap.IsTuple a its.toArray from p) ?_
  refine ⟨s1.heap.objs.size, [s1.heap.objs.size], _, _, H1, rfl, I1.kept (t' := s1.toks) fun b o e => Heap.get?_push_of_some _ e, turn_tuple a _, ⟨_, Heap.get?_push_size _ rfl, rfl, rfl⟩, fun b hb => ?_, q⟩
  have e : b = s1.heap.objs.size := by simpa using hb
  subst e
  exact I1.fpOk (Nat.le_refl _) (I1.hok.fresh (Nat.le_refl _))
/-- a range object just made, walked -/
theorem range_it {pins : List (Addr × Obj)} {σ : St} {H : Hp} {s : Shared} {R : It → Hp → Prop} {E : Value → Shared → Prop} {lo hi : Int} {t u v : Tok} {tk : Nat} (I : Inv X pins σ H s) (h1 : -(2 ^ 62) ≤ lo) (h2 : lo < 2 ^ 62) (h3 : -(2 ^ 62) ≤ hi) (h4 : hi < 2 ^ 62)
    (q : R (Itr lo (hi - lo).toNat) H) : wpAny (model X.prog X.w) X.A (pyIter (.ref s.heap.objs.size)) (PIE X pins σ tg R) E { s with heap := s.heap.push { cls := .type "range", data := .fields #[.int lo t, .int hi u, .int 1 v] }, toks := tk } := by
  refine wpAny_pyIter_range (IsRange.new ..) (small_one h1 h2 h3 h4) ?_
  have I1 : Inv X pins σ H { s with heap := s.heap.push { cls := .type "range", data := .fields #[.int lo t, .int hi u, .int 1 v] }, toks := tk } := I.kept fun b o e => Heap.get?_push_of_some _ e
  refine ⟨(s.heap.push { cls := .type "range", data := .fields #[.int lo t, .int hi u, .int 1 v] }).objs.size, [(s.heap.push { cls := .type "range", data := .fields #[.int lo t, .int hi u, .int 1 v] }).objs.size], _, _, H, rfl,
    I1.kept (t' := tk) fun b o e => Heap.get?_push_of_some _ e, turn_range _ lo (hi - lo).toNat, ?_, fun b hb => ?_, q⟩
  · have e1 : lo + ((0 : Nat) : Int) * 1 = lo := by simp
    have e2 : (((hi - lo).toNat : Nat) : Int) - ((0 : Nat) : Int) = Builtin.Range.rangeSize lo hi 1 := by rw [rangeSize_one]; split <;> omega
    show IsRangeIter _ _ (lo + ((0 : Nat) : Int) * 1) ((((hi - lo).toNat : Nat) : Int) - ((0 : Nat) : Int)) 1
    rw [e1, e2]
    exact Heap.get?_push_size _ rfl
  · have e : b = (s.heap.push { cls := .type "range", data := .fields #[.int lo t, .int hi u, .int 1 v] }).objs.size := by simpa using hb
    subst e
    exact I1.fpOk (Nat.le_refl _) (I1.hok.fresh (Nat.le_refl _))
def iRng1 (ta : TA) : TI := fun σ H R => ta σ H fun vs H1 => ∃ j : Int, vs = [.int j] ∧ -(2 ^ 62) ≤ j ∧ j < 2 ^ 62 ∧ R (Itr 0 j.toNat) H1
def iRng2 (ta : TA) : TI := fun σ H R => ta σ H fun vs H1 => ∃ i j : Int, vs = [.int i, .int j] ∧ (-(2 ^ 62) ≤ i ∧ i < 2 ^ 62 ∧ -(2 ^ 62) ≤ j ∧ j < 2 ^ 62) ∧ R (Itr i (j - i).toNat) H1
theorem pi_range1 {a : Expr} {ta : TA} {p pos : Pos} (hg : Gl X "range") (hm : X.mg "range" = none) (ha : PA X [a] ta) (hs : starEach [a] X.env = [(false, eval a X.env)] := by rfl) : PI X tg (.Call (.Name "range" p) [a] [] pos) (iRng1 ta) := by
  intro pins s σ H R I h
  refine Call_ (ld_blt I hg hm boot_range (PyProof.Rows.callWith_type1 (thn (ha pos pins s σ H _ I h) fun us s1 ⟨vs, H1, I1, r1, q1⟩ => ?_) hs rfl))
  obtain ⟨j, e, q1, q2, q⟩ := q1
  subst e
  cases r1 with
  | cons r rr =>
    cases rr
    obtain ⟨t, rfl⟩ := r
    exact call_range_1 (range_it I1 (by omega) (by omega) q1 q2 (by simpa using q))
/-! ### for -/
/-- W: the invariant by the turn and a measure; N: what the body is to reach -/
def tFor (wi : TI) (g : TG) (tb : TS) : TS := fun D σ H => wi σ H fun J H1 => ∃ W : Nat → Nat → St → Hp → Prop, (∃ m, W 0 m σ H1) ∧ ∀ i m σ H, W i m σ H →
  (J.stop i H ∧ D.nx σ H) ∨ (J.go i H ∧ ∃ N : St → Hp → Prop, (∀ σ' H', N σ' H' → ∃ m', m' < m ∧ W (i + 1) m' σ' H') ∧ ∀ x H', J.yld i H x H' → g x σ H' fun σ2 H2 => tb { D with nx := N, ct := N, bk := D.nx } σ2 H2)
/-- the records at fp as they stand -/
def pinsAt (fp : List Addr) (h : Heap) : List (Addr × Obj) := fp.filterMap fun b => (h.get? b).map fun o => (b, o)
theorem mem_pinsAt {fp : List Addr} {h : Heap} {b : Addr} {o : Obj} (hb : b ∈ fp) (e : h.get? b = some o) : (b, o) ∈ pinsAt fp h := List.mem_filterMap.mpr ⟨b, hb, by rw [e]; rfl⟩
theorem of_pinsAt {fp : List Addr} {h : Heap} {p : Addr × Obj} (hp : p ∈ pinsAt fp h) : p.1 ∈ fp ∧ h.get? p.1 = some p.2 := by
  obtain ⟨b, hb, e⟩ := List.mem_filterMap.mp hp
  cases q : h.get? b with
  | none => rw [q] at e; cases e
  | some o =>
    rw [q] at e
    have e' : (b, o) = p := Option.some.inj e
    subst e'
    exact ⟨hb, q⟩
theorem Inv.pinned {pins : List (Addr × Obj)} {σ : St} {H : Hp} {s : Shared} {fp : List Addr} (I : Inv X pins σ H s) (hf : ∀ b ∈ fp, FpOk X pins H b) (ho : ∀ b ∈ fp, ∃ o, s.heap.get? b = some o ∧ ∀ v, o.data ≠ .cell v) : Inv X (pins ++ pinsAt fp s.heap) σ H s :=
  I.pins_of fun p hp => (List.mem_append.mp hp).elim (fun z => I.pin p (List.mem_append_right _ z)) fun z => by
    obtain ⟨hb, e⟩ := of_pinsAt z
    obtain ⟨f0, f1, f2, _⟩ := hf p.1 hb
    obtain ⟨o, e', d⟩ := ho p.1 hb
    rw [e] at e'; cases e'
    exact ⟨e, f0, f1, f2, d⟩
theorem Inv.unpinned {pins pl : List (Addr × Obj)} {σ : St} {H : Hp} {s : Shared} (I : Inv X (pins ++ pl) σ H s) : Inv X pins σ H s := I.pins_of fun p hp => I.pin p (List.mem_append_right _ (List.mem_append_left _ hp))
theorem ps_for {iter : Expr} {body : List Stmt} {wi : TI} {g : TG} {tb : TS} {pos : Pos} (hp : PassesOwn (model X.prog X.w) X.A X.env X.xe) (hc : X.calm = true) (hi : PI X tg iter wi) (hg : PG X tg g) (hb : PSs X body tb)
    (hs : ∀ x, foldedSetIterable iter X.env x = pure x := by intro _; rfl) : PS X (.For tg iter body [] pos) (tFor wi g tb) := by
  intro pins s σ H D I h
  refine wpAny_For (thn (hi pins s σ H _ I h) fun v s1 h1 => thn h1 fun itv s2 h2 => ?_) hs
  obtain ⟨it, fp, tn, J, H2, e, I2, T, st2, f2, W, ⟨m0, w0⟩, turn⟩ := h2
  subst e
  -- what stays true of the iterator's objects through the loop
  have stat : ∀ {H' : Hp}, (∀ b ∈ fp, H' b = none) → ∀ b ∈ fp, FpOk X pins H' b := fun hn b hb => ⟨hn b hb, (f2 b hb).2⟩
  refine codeAny_forLoop_any (fun n s' => ∃ i σ' H', Inv X pins σ' H' s' ∧ tn i s'.heap ∧ (∀ b ∈ fp, H' b = none) ∧ W i n σ' H') ?_ m0 ⟨0, σ, H2, I2, st2, fun b hb => (f2 b hb).1, w0⟩
  rintro n s3 ⟨i, σ3, H3, I3, st3, fr3, w3⟩
  rcases turn i n σ3 H3 w3 with ⟨stop, qn⟩ | ⟨go, N, hN, step⟩
  · refine wpAny_passesOwn hp (thn (T.done X rfl rfl rfl hc i pins s3 σ3 H3 X.xe I3 (stat fr3) st3 stop) fun r s4 ⟨hr, I4⟩ => ?_)
    subst hr
    exact wpAny_execs_nil ⟨σ3, H3, I4, qn⟩
  · refine wpAny_passesOwn hp (thn (T.item X rfl rfl rfl hc i pins s3 σ3 H3 X.xe I3 (stat fr3) st3 go) fun r s4 ⟨u, hr, h4⟩ => ?_)
    subst hr
    refine wpAny_passesOwn hp (thn h4 fun _ s5 ⟨x, H5, I5, r5, y5, st5, fr5⟩ => ?_)
    have I5' := I5.pinned (stat fr5) (T.obj _ _ st5)
    refine wpAny_passesOwn hp (thn (hg _ s5 σ3 H5 x u _ I5' r5 (step x H5 y5)) fun _ s6 ⟨σ6, H6, I6, q6⟩ => ?_)
    refine wpAny_passesOwn hp (thn (hb _ s6 σ6 H6 _ I6 q6) fun f s7 q7 => ?_)
    have again : ∀ {σ7 : St} {H7 : Hp}, Inv X (pins ++ pinsAt fp s5.heap) σ7 H7 s7 → N σ7 H7 → ∃ m, m < n ∧ ∃ i σ' H', Inv X pins σ' H' s7 ∧ tn i s7.heap ∧ (∀ b ∈ fp, H' b = none) ∧ W i m σ' H' := fun {σ7 H7} I7 n7 => by
      obtain ⟨m', hm, w7⟩ := hN σ7 H7 n7
      refine ⟨m', hm, i + 1, σ7, H7, I7.unpinned, T.keep _ _ _ st5 fun b hb o e => (I7.pin (b, o) (List.mem_append_right _ (List.mem_append_right _ (mem_pinsAt hb e)))).1, fun b hb => ?_, w7⟩
      obtain ⟨o, e, d⟩ := T.obj _ _ st5 b hb
      exact (I7.pin (b, o) (List.mem_append_right _ (List.mem_append_right _ (mem_pinsAt hb e)))).2.1
    cases f with
    | next => obtain ⟨σ7, H7, I7, n7⟩ := q7; exact again I7 n7
    | cont => obtain ⟨σ7, H7, I7, n7⟩ := q7; exact again I7 n7
    | brk => obtain ⟨σ7, H7, I7, q7⟩ := q7; exact ⟨σ7, H7, I7.unpinned, q7⟩
    | ret v => obtain ⟨x7, σ7, H7, I7, r7, q7⟩ := q7; exact ⟨x7, σ7, H7, I7.unpinned, r7, q7⟩
end
/-! ### the forms one uses -/
theorem for_tup {K : PySem.W.Frag} {a : Addr} {xs : List V} {g : TG} {tb : TS} {D : Ends} {σ : St} {H : Hp} (Pv : Nat → St → Hp → Prop) (h0 : Pv 0 σ H) (hl : ∀ i σ H, i ≤ xs.length → Pv i σ H → SqT K H a xs)
    (hs : ∀ i x σ H, xs[i]? = some x → Pv i σ H → g x σ H fun σ2 H2 => tb { D with nx := Pv (i + 1), ct := Pv (i + 1), bk := D.nx } σ2 H2) (hd : ∀ σ H, Pv xs.length σ H → D.nx σ H) :
    ∃ W : Nat → Nat → St → Hp → Prop, (∃ m, W 0 m σ H) ∧ ∀ i m σ H, W i m σ H →
      ((Itt K a).stop i H ∧ D.nx σ H) ∨ ((Itt K a).go i H ∧ ∃ N : St → Hp → Prop, (∀ σ' H', N σ' H' → ∃ m', m' < m ∧ W (i + 1) m' σ' H') ∧ ∀ x H', (Itt K a).yld i H x H' → g x σ H' fun σ2 H2 => tb { D with nx := N, ct := N, bk := D.nx } σ2 H2) := by
  refine ⟨fun i m σ H => m = xs.length - i ∧ i ≤ xs.length ∧ Pv i σ H, ⟨xs.length, by simp, Nat.zero_le _, h0⟩, ?_⟩
  rintro i m σ H ⟨rfl, hi, p⟩
  have q := hl i σ H hi p
  by_cases hlt : i < xs.length
  · refine .inr ⟨⟨xs, xs[i], q, by simp [hlt]⟩, Pv (i + 1), fun σ' H' p' => ⟨xs.length - (i + 1), by omega, rfl, hlt, p'⟩, fun x H' y => ?_⟩
    obtain ⟨e, y⟩ := y
    subst e
    exact hs i x σ _ (y xs q) p
  · have e : i = xs.length := by omega
    subst e
    exact .inl ⟨⟨xs, q, Nat.le_refl _⟩, hd σ H p⟩
end L2
namespace L2
open PySem PySem.Spec PyProof.Rows
abbrev R2 := V → V → Hp → VK → Prop
/-- a two-place operation on values: f is binaryOp op, inplaceOp op or compareOp op -/
def OpR (X : Cx) (f : Value → Value → Sem Value) (r : R2) : Prop :=
  ∀ (pins : List (Addr × Obj)) (s : Shared) (σ : St) (H : Hp) (x y : V) (v u : Value) (Q : VK), Inv X pins σ H s → RelV x v → RelV y u → r x y H Q →
    wpAny (model X.prog X.w) X.A (f v u) (EP X pins σ Q) X.xe s
/-- a one-place operation -/
def UnR (X : Cx) (f : Value → Sem Value) (r : V → Hp → VK → Prop) : Prop :=
  ∀ (pins : List (Addr × Obj)) (s : Shared) (σ : St) (H : Hp) (x : V) (v : Value) (Q : VK), Inv X pins σ H s → RelV x v → r x H Q →
    wpAny (model X.prog X.w) X.A (f v) (EP X pins σ Q) X.xe s
/-- a call of a value that is known (a builtin, a type) with values -/
def CallR (X : Cx) (f : Value) (r : List V → Hp → VK → Prop) : Prop :=
  ∀ (pins : List (Addr × Obj)) (s : Shared) (σ : St) (H : Hp) (xs : List V) (us : List Value) (Q : VK), Inv X pins σ H s → Vals xs us → r xs H Q →
    wpAny (model X.prog X.w) X.A (call f us) (EP X pins σ Q) X.xe s
/-- a value's truth -/
def TruR (X : Cx) (r : V → Hp → (Bool → Hp → Prop) → Prop) : Prop :=
  ∀ (pins : List (Addr × Obj)) (s : Shared) (σ : St) (H : Hp) (x : V) (v : Value) (Q : Bool → Hp → Prop), Inv X pins σ H s → RelV x v → r x H Q →
    wpAny (model X.prog X.w) X.A (truthy v) (TP X pins σ Q) X.xe s
def tOp (r : R2) (ta tb : TE) : TE := fun σ H Q => ta σ H fun x H1 => tb σ H1 fun y H2 => r x y H2 Q
def tUn (r : V → Hp → VK → Prop) (ta : TE) : TE := fun σ H Q => ta σ H fun x H1 => r x H1 Q
/-- ints in, under C, and a value out -/
def rI (C : Int → Int → Prop) (g : Int → Int → V) : R2 := fun x y H Q => ∃ i j, x = .int i ∧ y = .int j ∧ C i j ∧ Q (g i j) H
def rI0 (g : Int → Int → V) : R2 := fun x y H Q => ∃ i j, x = .int i ∧ y = .int j ∧ Q (g i j) H
def rU (g : Int → V) : V → Hp → VK → Prop := fun x H Q => ∃ i, x = .int i ∧ Q (g i) H
section
variable {X : Cx} {a b c : Expr} {ta tb tc : TE} {pos : Pos}
theorem binT (ha : PE X a ta) (hb : PE X b tb) {pins : List (Addr × Obj)} {s : Shared} {σ : St} {H : Hp} {R : V → V → Hp → Prop} (I : Inv X pins σ H s)
    (h : ta σ H fun x H1 => tb σ H1 fun y H2 => R x y H2) {Q : Value → Shared → Prop} {f : Value → Value → Sem Value}
    (hf : ∀ v u s2 x y H2, Inv X pins σ H2 s2 → RelV x v → RelV y u → R x y H2 → wpAny (model X.prog X.w) X.A (f v u) Q X.xe s2) :
    wpAny (model X.prog X.w) X.A (eval a X.env) (fun v s₁ => wpAny (model X.prog X.w) X.A (eval b X.env) (fun u s₂ => wpAny (model X.prog X.w) X.A (f v u) Q X.xe s₂) X.xe s₁) X.xe s := by
  refine thn (ha pins s σ H _ I h) fun v s1 ⟨x, H1, I1, r1, q1⟩ => ?_
  refine thn (hb pins s1 σ H1 _ I1 q1) fun u s2 ⟨y, H2, I2, r2, q2⟩ => ?_
  exact hf v u s2 x y H2 I2 r1 r2 q2
theorem pe_op {op : Operator} {r : R2} (ho : OpR X (binaryOp op) r) (ha : PE X a ta) (hb : PE X b tb) : PE X (.BinOp a op b pos) (tOp r ta tb) := by
  intro pins s σ H Q I h
  exact wpAny_BinOp (binT ha hb I h fun v u s2 x y H2 I2 rx ry q => ho pins s2 σ H2 x y v u Q I2 rx ry q)
theorem pe_un {op : UnaryOp} {r : V → Hp → VK → Prop} (ho : UnR X (unaryOp op) r) (ha : PE X a ta) : PE X (.UnaryOp op a pos) (tUn r ta) := by
  intro pins s σ H Q I h
  exact UnaryOp_ (thn (ha pins s σ H _ I h) fun v s1 ⟨x, H1, I1, r1, q1⟩ => ho pins s1 σ H1 x v Q I1 r1 q1)
/-! ### ints -/
theorem opI {f : Value → Value → Sem Value} {C : Int → Int → Prop} {g : Int → Int → Int}
    (rule : ∀ (i j : Int) (t u : Tok) (s : Shared) (Q : Value → Shared → Prop) (E : Value → Shared → Prop), C i j → Q (.int (g i j) s.toks) { s with toks := s.toks + 1 } → wpAny (model X.prog X.w) X.A (f (.int i t) (.int j u)) Q E s) :
    OpR X f (rI C fun i j => .int (g i j)) := by
  intro pins s σ H x y v u Q I rx ry h
  obtain ⟨i, j, rfl, rfl, hc, q⟩ := h
  obtain ⟨t, rfl⟩ := rx
  obtain ⟨t', rfl⟩ := ry
  exact rule i j t t' s _ _ hc ⟨.int (g i j), H, I.tok _, ⟨_, rfl⟩, q⟩
theorem opI0 {f : Value → Value → Sem Value} {g : Int → Int → Int}
    (rule : ∀ (i j : Int) (t u : Tok) (s : Shared) (Q : Value → Shared → Prop) (E : Value → Shared → Prop), Q (.int (g i j) s.toks) { s with toks := s.toks + 1 } → wpAny (model X.prog X.w) X.A (f (.int i t) (.int j u)) Q E s) :
    OpR X f (rI0 fun i j => .int (g i j)) := by
  intro pins s σ H x y v u Q I rx ry h
  obtain ⟨i, j, rfl, rfl, q⟩ := h
  obtain ⟨t, rfl⟩ := rx
  obtain ⟨t', rfl⟩ := ry
  exact rule i j t t' s _ _ ⟨.int (g i j), H, I.tok _, ⟨_, rfl⟩, q⟩
theorem opB0 {f : Value → Value → Sem Value} {g : Int → Int → Bool}
    (rule : ∀ (i j : Int) (t u : Tok) (s : Shared) (Q : Value → Shared → Prop) (E : Value → Shared → Prop), Q (.bool (g i j)) s → wpAny (model X.prog X.w) X.A (f (.int i t) (.int j u)) Q E s) :
    OpR X f (rI0 fun i j => .bl (g i j)) := by
  intro pins s σ H x y v u Q I rx ry h
  obtain ⟨i, j, rfl, rfl, q⟩ := h
  obtain ⟨t, rfl⟩ := rx
  obtain ⟨t', rfl⟩ := ry
  exact rule i j t t' s _ _ ⟨.bl (g i j), H, I, rfl, q⟩
def CDiv (i j : Int) : Prop := 0 < j ∧ j < 1073741824
def CPow (i j : Int) : Prop := 0 ≤ j ∧ j ≤ 1000000 ∧ i.natAbs < 2 ^ 64
def CMul (i j : Int) : Prop := (-(2 ^ 64) < i ∧ i < 2 ^ 64) ∨ (-(2 ^ 64) < j ∧ j < 2 ^ 64)
theorem CMul.ok {i j : Int} (h : CMul i j) : IntMulOk i j := by
  rcases h with ⟨h1, h2⟩ | ⟨h1, h2⟩
  · exact .of_left (intBits_le_64 h1 h2)
  · exact .of_right (intBits_le_64 h1 h2)
theorem op_add : OpR X (binaryOp .Add) (rI0 fun i j => .int (i + j)) := opI0 fun _ _ _ _ _ _ _ q => add_int q
theorem op_sub : OpR X (binaryOp .Sub) (rI0 fun i j => .int (i - j)) := opI0 fun _ _ _ _ _ _ _ q => sub_int q
theorem op_mul : OpR X (binaryOp .Mult) (rI CMul fun i j => .int (i * j)) := opI fun _ _ _ _ _ _ _ hc q => mul_int q hc.ok
/-- // by a positive divisor -/
theorem op_fdiv : OpR X (binaryOp .FloorDiv) (rI CDiv fun i j => .int (i / j)) := opI fun i j _ _ _ _ _ hc q => by
  have h1 : (0 : Int) < j := hc.1
  have h2 : j < 1073741824 := hc.2
  exact floordiv_int (by omega) (by rw [Int.fdiv_eq_ediv_of_nonneg i (by omega)]; exact q) (.inl (PyProof.noPylong_small (by omega)))
/-- % by a positive divisor of any size -/
theorem op_mod : OpR X (binaryOp .Mod) (rI (fun _ j => 0 < j) fun i j => .int (i % j)) := opI fun i j _ _ _ _ _ hc q => by
  have h1 : (0 : Int) < j := hc
  exact mod_int' (by omega) (by rw [Int.fmod_eq_emod_of_nonneg i (by omega)]; exact q)
theorem op_pow : OpR X (binaryOp .Pow) (rI CPow fun i j => .int (i ^ j.toNat)) := opI fun _ _ _ _ _ _ _ hc q => pow_int_small hc.1 hc.2.1 hc.2.2 q
theorem unI {f : Value → Sem Value} {g : Int → Int}
    (rule : ∀ (i : Int) (t : Tok) (s : Shared) (Q : Value → Shared → Prop) (E : Value → Shared → Prop), Q (.int (g i) s.toks) { s with toks := s.toks + 1 } → wpAny (model X.prog X.w) X.A (f (.int i t)) Q E s) :
    UnR X f (rU fun i => .int (g i)) := by
  intro pins s σ H x v Q I rx h
  obtain ⟨i, rfl, q⟩ := h
  obtain ⟨t, rfl⟩ := rx
  exact rule i t s _ _ ⟨.int (g i), H, I.tok _, ⟨_, rfl⟩, q⟩
theorem un_neg : UnR X (unaryOp .USub) (rU fun i => .int (-i)) := unI fun _ _ _ _ _ q => neg_int q
/-! ### bools among ints: n += (a < b) -/
end
/-! ### comparisons -/
/-- the scalars that == tells apart as data does -/
def scal : V → V → Bool
  | .non, .non => true | .non, .int _ => true | .int _, .non => true | .non, .bl _ => true | .bl _, .non => true | .non, .str _ => true | .str _, .non => true
  | .int _, .int _ => true | .bl _, .bl _ => true | .str _, .str _ => true | .byt _, .byt _ => true
  | .int _, .str _ => true | .str _, .int _ => true | .bl _, .str _ => true | .str _, .bl _ => true
  | _, _ => false
def rEq : R2 := fun x y H Q => scal x y = true ∧ Q (.bl (decide (x = y))) H
def rNe : R2 := fun x y H Q => scal x y = true ∧ Q (.bl (!decide (x = y))) H
theorem dec_int {i j : Int} : decide (V.int i = V.int j) = (i == j) := by
  rw [Bool.eq_iff_iff]
  simp
theorem dec_bl {i j : Bool} : decide (V.bl i = V.bl j) = (i == j) := by
  rw [Bool.eq_iff_iff]
  simp
theorem dec_str {i j : Str} : decide (V.str i = V.str j) = (i == j) := by
  rw [Bool.eq_iff_iff]
  simp
theorem dec_byt {i j : Array UInt8} : decide (V.byt i = V.byt j) = (i.toList == j.toList) := by
  rw [Bool.eq_iff_iff]
  cases i
  cases j
  simp
section
variable {X : Cx} {a b c : Expr} {ta tb tc : TE} {pos : Pos}
theorem fin_bl {pins : List (Addr × Obj)} {σ : St} {H : Hp} {s : Shared} {Q : VK} {k k' : Bool} (I : Inv X pins σ H s) (q : Q (.bl k) H) (e : k = k') : EP X pins σ Q (.bool k') s := by
  subst e
  exact ⟨.bl k, H, I, rfl, q⟩
theorem op_eq : OpR X (compareOp .Eq) rEq := by
  intro pins s σ H x y v u Q I rx ry h
  obtain ⟨hs, q⟩ := h
  cases x with
  | non =>
    cases rx
    cases y with
    | non => cases ry; exact PySem.EqNone.eq_none_none (fin_bl I q (by simp))
    | bl j => cases ry; exact PySem.EqNone.eq_none_bool (fin_bl I q (by simp))
    | int j => obtain ⟨t', rfl⟩ := ry; exact PySem.EqNone.eq_none_int (fin_bl I q (by simp))
    | str j => obtain ⟨t', rfl⟩ := ry; exact PySem.EqNone.eq_none_str (fin_bl I q (by simp))
    | _ => exact absurd (show false = true from hs) Bool.false_ne_true
  | bl i =>
    cases rx
    cases y with
    | non => cases ry; exact PySem.EqNone.eq_bool_none (fin_bl I q (by simp))
    | bl j => cases ry; exact eq_bool (fin_bl I q dec_bl)
    | str j => obtain ⟨t', rfl⟩ := ry; exact PySem.EqMixed.eq_bool_str (fin_bl I q (by simp))
    | _ => exact absurd (show false = true from hs) Bool.false_ne_true
  | int i =>
    obtain ⟨t, rfl⟩ := rx
    cases y with
    | non => cases ry; exact PySem.EqNone.eq_int_none (fin_bl I q (by simp))
    | int j => obtain ⟨t', rfl⟩ := ry; exact eq_int (fin_bl I q dec_int)
    | str j => obtain ⟨t', rfl⟩ := ry; exact PySem.EqMixed.eq_int_str (fin_bl I q (by simp))
    | _ => exact absurd (show false = true from hs) Bool.false_ne_true
  | str i =>
    obtain ⟨t, rfl⟩ := rx
    cases y with
    | non => cases ry; exact PySem.EqNone.eq_str_none (fin_bl I q (by simp))
    | bl j => cases ry; exact PySem.EqMixed.eq_str_bool (fin_bl I q (by simp))
    | int j => obtain ⟨t', rfl⟩ := ry; exact PySem.EqMixed.eq_str_int (fin_bl I q (by simp))
    | str j => obtain ⟨t', rfl⟩ := ry; exact eq_str (fin_bl I q dec_str)
    | _ => exact absurd (show false = true from hs) Bool.false_ne_true
  | byt i =>
    obtain ⟨t, rfl⟩ := rx
    cases y with
    | byt j => obtain ⟨t', rfl⟩ := ry; exact PySem.W.eq_bytes (fin_bl I q dec_byt)
    | _ => exact absurd (show false = true from hs) Bool.false_ne_true
  | _ => cases y <;> exact absurd (show false = true from hs) Bool.false_ne_true
theorem op_ne : OpR X (compareOp .NotEq) rNe := by
  intro pins s σ H x y v u Q I rx ry h
  obtain ⟨hs, q⟩ := h
  cases x with
  | non =>
    cases rx
    cases y with
    | non => cases ry; exact PySem.EqNone.ne_none_none (fin_bl I q (by simp))
    | bl j => cases ry; exact PySem.EqNone.ne_none_bool (fin_bl I q (by simp))
    | int j => obtain ⟨t', rfl⟩ := ry; exact PySem.EqNone.ne_none_int (fin_bl I q (by simp))
    | str j => obtain ⟨t', rfl⟩ := ry; exact PySem.EqNone.ne_none_str (fin_bl I q (by simp))
    | _ => exact absurd (show false = true from hs) Bool.false_ne_true
  | bl i =>
    cases rx
    cases y with
    | non => cases ry; exact PySem.EqNone.ne_bool_none (fin_bl I q (by simp))
    | bl j => cases ry; exact ne_bool (fin_bl I q (congrArg not dec_bl))
    | str j => obtain ⟨t', rfl⟩ := ry; exact PySem.EqMixed.ne_bool_str (fin_bl I q (by simp))
    | _ => exact absurd (show false = true from hs) Bool.false_ne_true
  | int i =>
    obtain ⟨t, rfl⟩ := rx
    cases y with
    | non => cases ry; exact PySem.EqNone.ne_int_none (fin_bl I q (by simp))
    | int j => obtain ⟨t', rfl⟩ := ry; exact ne_int (fin_bl I q (congrArg not dec_int))
    | str j => obtain ⟨t', rfl⟩ := ry; exact PySem.EqMixed.ne_int_str (fin_bl I q (by simp))
    | _ => exact absurd (show false = true from hs) Bool.false_ne_true
  | str i =>
    obtain ⟨t, rfl⟩ := rx
    cases y with
    | non => cases ry; exact PySem.EqNone.ne_str_none (fin_bl I q (by simp))
    | bl j => cases ry; exact PySem.EqMixed.ne_str_bool (fin_bl I q (by simp))
    | int j => obtain ⟨t', rfl⟩ := ry; exact PySem.EqMixed.ne_str_int (fin_bl I q (by simp))
    | str j => obtain ⟨t', rfl⟩ := ry; exact ne_str (fin_bl I q (congrArg not dec_str))
    | _ => exact absurd (show false = true from hs) Bool.false_ne_true
  | byt i =>
    obtain ⟨t, rfl⟩ := rx
    cases y with
    | byt j => obtain ⟨t', rfl⟩ := ry; exact PySem.W.ne_bytes (fin_bl I q (congrArg not dec_byt))
    | _ => exact absurd (show false = true from hs) Bool.false_ne_true
  | _ => cases y <;> exact absurd (show false = true from hs) Bool.false_ne_true
theorem op_lt : OpR X (compareOp .Lt) (rI0 fun i j => .bl (decide (i < j))) := opB0 fun _ _ _ _ _ _ _ q => lt_int q
theorem op_le : OpR X (compareOp .LtE) (rI0 fun i j => .bl (decide (i ≤ j))) := opB0 fun _ _ _ _ _ _ _ q => le_int q
theorem op_gt : OpR X (compareOp .Gt) (rI0 fun i j => .bl (decide (j < i))) := opB0 fun _ _ _ _ _ _ _ q => gt_int q
theorem op_ge : OpR X (compareOp .GtE) (rI0 fun i j => .bl (decide (j ≤ i))) := opB0 fun _ _ _ _ _ _ _ q => ge_int q
/-- the one string within the other -/
theorem op_in_str : OpR X (compareOp .In) (fun x y H Q => ∃ i j, x = .str i ∧ y = .str j ∧ Q (.bl (!(Builtin.Str.occurrences j i 0 j.length 1).isEmpty)) H) := by
  intro pins s σ H x y v u Q I rx ry h
  obtain ⟨i, j, rfl, rfl, q⟩ := h
  obtain ⟨t, rfl⟩ := rx
  obtain ⟨t', rfl⟩ := ry
  exact in_str (fin_bl I q rfl)
/-- is None, is not None: the right side a value none -/
theorem op_isN : OpR X (compareOp .Is) (fun x y H Q => y = .non ∧ Q (.bl (decide (x = .non))) H) := by
  intro pins s σ H x y v u Q I rx ry h
  obtain ⟨rfl, q⟩ := h
  cases ry
  refine is_none_gen (fin_bl I q ?_)
  cases x <;> first
    | (cases rx; rfl)
    | (obtain ⟨t, rfl⟩ := rx; rfl)
theorem op_notN : OpR X (compareOp .IsNot) (fun x y H Q => y = .non ∧ Q (.bl (!decide (x = .non))) H) := by
  intro pins s σ H x y v u Q I rx ry h
  obtain ⟨rfl, q⟩ := h
  cases ry
  refine isnot_none_gen (fin_bl I q ?_)
  cases x <;> first
    | (cases rx; rfl)
    | (obtain ⟨t, rfl⟩ := rx; rfl)
theorem op_notin_str : OpR X (compareOp .NotIn) (fun x y H Q => ∃ i j, x = .str i ∧ y = .str j ∧ Q (.bl (!(!(Builtin.Str.occurrences j i 0 j.length 1).isEmpty))) H) := by
  intro pins s σ H x y v u Q I rx ry h
  obtain ⟨i, j, rfl, rfl, q⟩ := h
  obtain ⟨t, rfl⟩ := rx
  obtain ⟨t', rfl⟩ := ry
  exact notIn_str (fin_bl I q rfl)
/-- two rules for one operation: by cases -/
theorem OpR.or {f : Value → Value → Sem Value} {r r' : R2} (h : OpR X f r) (h' : OpR X f r') : OpR X f (fun x y H Q => r x y H Q ∨ r' x y H Q) := by
  intro pins s σ H x y v u Q I rx ry q
  rcases q with q | q
  · exact h pins s σ H x y v u Q I rx ry q
  · exact h' pins s σ H x y v u Q I rx ry q
/-- a comparison as a value; hm: nomark b, or (for in, not in) by with_unfolding_all rfl -/
theorem pe_cmpR {op : CmpOp} {r : R2} (ho : OpR X (compareOp op) r) (ha : PE X a ta) (hb : PE X b tb) (hm : behindInMarks op b = false) : PE X (.Compare a [op] [b] pos) (tOp r ta tb) := by
  intro pins s σ H Q I h
  exact wpAny_Compare1 (binT ha hb I h fun v u s2 x y H2 I2 rx ry q => ho pins s2 σ H2 x y v u Q I2 rx ry q) hm
/-- a reading of a value as a test -/
def tTest (t : TE) : TT := fun σ H Q => t σ H fun x H' => ∃ k, x = .bl k ∧ Q k H'
theorem pt_cmpR {op : CmpOp} {r : R2} (ho : OpR X (compareOp op) r) (ha : PE X a ta) (hb : PE X b tb) (hm : behindInMarks op b = false) : PT X (.Compare a [op] [b] pos) (tTest (tOp r ta tb)) := by
  intro pins s σ H Q I h
  refine wpAny_isTrue_Compare1 (thn (ha pins s σ H _ I h) fun v s1 ⟨x, H1, I1, r1, q1⟩ => thn (hb pins s1 σ H1 _ I1 q1) fun u s2 ⟨y, H2, I2, r2, q2⟩ =>
    thn (ho pins s2 σ H2 x y v u _ I2 r1 r2 q2) fun c s3 ⟨z, H3, I3, r3, k, e, q3⟩ => ?_) hm
  subst e
  cases r3
  exact wpAny_truthy_bool ⟨H3, I3, q3⟩
/-- a op1 b op2 c -/
def tChain (r r' : R2) (ta tb tc : TE) : TE := fun σ H Q => ta σ H fun x H1 => tb σ H1 fun y H2 => r x y H2 fun z H3 => ∃ k, z = .bl k ∧
  (if k = true then tc σ H3 fun w' H4 => r' y w' H4 Q else Q (.bl false) H3)
theorem pe_chain {op op' : CmpOp} {r r' : R2} (ho : OpR X (compareOp op) r) (ho' : OpR X (compareOp op') r') (ha : PE X a ta) (hb : PE X b tb) (hc : PE X c tc)
    (hm : lastMarks [op, op'] [b, c] = false := by with_unfolding_all rfl) : PE X (.Compare a [op, op'] [b, c] pos) (tChain r r' ta tb tc) := by
  intro pins s σ H Q I h
  refine Compare_chain (thn (ha pins s σ H _ I h) fun v s1 ⟨x, H1, I1, r1, q1⟩ => chain_link (thn (hb pins s1 σ H1 _ I1 q1) fun u s2 ⟨y, H2, I2, r2, q2⟩ =>
    thn (ho pins s2 σ H2 x y v u _ I2 r1 r2 q2) fun d s3 ⟨z, H3, I3, r3, k, e, q3⟩ => ?_)) hm
  subst e
  cases r3
  refine wpAny_truthy_bool ?_
  cases k with
  | false => exact ite_ff ⟨.bl false, H3, I3, rfl, q3⟩
  | true => exact ite_tt (chain_last (thn (hc pins s3 σ H3 _ I3 q3) fun w' s4 ⟨z', H4, I4, r4, q4⟩ => ho' pins s4 σ H4 y z' u w' Q I4 r2 r4 q4))
theorem pt_chain {op op' : CmpOp} {r r' : R2} (ho : OpR X (compareOp op) r) (ho' : OpR X (compareOp op') r') (ha : PE X a ta) (hb : PE X b tb) (hc : PE X c tc)
    (hm : lastMarks [op, op'] [b, c] = false := by with_unfolding_all rfl) : PT X (.Compare a [op, op'] [b, c] pos) (tTest (tChain r r' ta tb tc)) := by
  intro pins s σ H Q I h
  refine isTrue_chain (thn (ha pins s σ H _ I h) fun v s1 ⟨x, H1, I1, r1, q1⟩ => test_link (thn (hb pins s1 σ H1 _ I1 q1) fun u s2 ⟨y, H2, I2, r2, q2⟩ =>
    thn (ho pins s2 σ H2 x y v u _ I2 r1 r2 q2) fun d s3 ⟨z, H3, I3, r3, k, e, q3⟩ => ?_)) hm
  subst e
  cases r3
  refine wpAny_truthy_bool ?_
  cases k with
  | false =>
    obtain ⟨k', e', q'⟩ := q3
    cases e'
    exact ite_ff ⟨H3, I3, q'⟩
  | true =>
    refine ite_tt (test_last (thn (hc pins s3 σ H3 _ I3 q3) fun w' s4 ⟨z', H4, I4, r4, q4⟩ => thn (ho' pins s4 σ H4 y z' u w' _ I4 r2 r4 q4) fun d' s5 ⟨z2, H5, I5, r5, k2, e2, q5⟩ => ?_))
    subst e2
    cases r5
    exact wpAny_truthy_bool ⟨H5, I5, q5⟩
/-! ### truth -/
/-- a value's truth by the abstract heap -/
def TruV (K : PySem.W.Frag) (x : V) (H : Hp) (k : Bool) : Prop :=
  match x with
  | .non => k = false
  | .bl b => k = b
  | .int i => k = (i != 0)
  | .str y => y.length ≤ sizeLine ∧ k = ((y.length : Int) != 0)
  | .byt y => y.size ≤ sizeLine ∧ k = ((y.size : Int) != 0)
  | .ref p => (∃ xs, SqL K H p xs ∧ k = !xs.isEmpty) ∨ (∃ xs, SqT K H p xs ∧ k = !xs.isEmpty) ∨ ∃ kvs, H p = some (.dK kvs) ∧ k = !kvs.isEmpty
  | _ => False
theorem isEmpty_kv {κ : Type} {kvs : List (κ × V)} {vs : List (κ × Value)} (r : KV kvs vs) : (!vs.isEmpty) = !kvs.isEmpty := by
  cases r <;> rfl
theorem isEmpty_of {xs : List V} {its : List Value} (r : Vals xs its) : (!its.toArray.isEmpty) = !xs.isEmpty := by
  cases r <;> simp
theorem line63 : (sizeLine : Nat) < 2 ^ 63 := by rw [sizeLine_eq]; decide
theorem tru_ok : TruR X (fun x H Q => ∃ k, TruV X.K x H k ∧ Q k H) := by
  intro pins s σ H x v Q I rx h
  obtain ⟨k, e, q⟩ := h
  have hl := line63
  have hs : sizeLine = 16777216 := sizeLine_eq
  cases x with
  | non =>
    cases rx
    have e' : k = false := e
    subst e'
    exact truthy_none ⟨H, I, q⟩
  | bl b =>
    cases rx
    have e' : k = b := e
    subst e'
    exact wpAny_truthy_bool ⟨H, I, q⟩
  | int i =>
    obtain ⟨t, rfl⟩ := rx
    have e' : k = (i != 0) := e
    subst e'
    exact PySem.P.truthy_int ⟨H, I, q⟩
  | str y =>
    obtain ⟨t, rfl⟩ := rx
    obtain ⟨hy, e'⟩ : y.length ≤ sizeLine ∧ k = ((y.length : Int) != 0) := e
    subst e'
    exact PySem.P.truthy_str (by omega) ⟨H, I.tok _, q⟩
  | byt y =>
    obtain ⟨t, rfl⟩ := rx
    obtain ⟨hy, e'⟩ : y.size ≤ sizeLine ∧ k = ((y.size : Int) != 0) := e
    subst e'
    exact PySem.W.truthy_bytes (by omega) ⟨H, I.tok _, q⟩
  | ref p =>
    cases rx
    have e' : (∃ xs, SqL X.K H p xs ∧ k = !xs.isEmpty) ∨ (∃ xs, SqT X.K H p xs ∧ k = !xs.isEmpty) ∨ ∃ kvs, H p = some (.dK kvs) ∧ k = !kvs.isEmpty := e
    rcases e' with ⟨xs, hx, e'⟩ | ⟨xs, hx, e'⟩ | ⟨kvs, hx, e'⟩
    · subst e'
      obtain ⟨its, r, pl, hz⟩ := I.list hx
      have hlen := r.length
      exact wpAny_truthy_list pl.isList (by simp only [List.size_toArray]; omega) ⟨H, I.tok _, by rw [isEmpty_of r]; exact q⟩
    · subst e'
      obtain ⟨its, r, pl, hz⟩ := I.tuple hx
      have hlen := r.length
      exact truthy_tuple pl (by simp only [List.size_toArray]; omega) ⟨H, I.tok _, by rw [isEmpty_of r]; exact q⟩
    · subst e'
      obtain ⟨hz, hS, vs, r, m⟩ : kvs.length ≤ sizeLine ∧ (p == sysModules) = false ∧ ∃ vs, KV kvs vs ∧ s.heap.DictOf (mixKind X.prog X.w) p vs := I.hok p _ hx
      have hlen : kvs.length = vs.length := Paired.length r
      exact wpAny_truthy_dict hS m (by omega) ⟨H, I.tok _, by rw [isEmpty_kv r]; exact q⟩
  | _ => exact (show False from e).elim
/-! ### strs and bytes -/
theorem op_add_str : OpR X (binaryOp .Add) (fun x y H Q => ∃ i j, x = .str i ∧ y = .str j ∧ i.length + j.length ≤ sizeLine ∧ Q (.str (i ++ j)) H) := by
  intro pins s σ H x y v u Q I rx ry h
  obtain ⟨i, j, rfl, rfl, hz, q⟩ := h
  obtain ⟨t, rfl⟩ := rx
  obtain ⟨t', rfl⟩ := ry
  exact add_str (fun t' tk => ⟨.str (i ++ j), H, I.tok _, ⟨_, rfl⟩, q⟩) hz
/-! ### scalar builtins, by CallR -/
theorem vals1 {x : V} {us : List Value} (r : Vals [x] us) : ∃ u, us = [u] ∧ RelV x u := by
  cases r with
  | cons r1 r2 => cases r2; exact ⟨_, rfl, r1⟩
theorem vals2 {x y : V} {us : List Value} (r : Vals [x, y] us) : ∃ u w', us = [u, w'] ∧ RelV x u ∧ RelV y w' := by
  cases r with
  | cons r1 r2 =>
    cases r2 with
    | cons r3 r4 => cases r4; exact ⟨_, _, rfl, r1, r3⟩
theorem call_abs : CallR X (.builtin "abs") (fun xs H Q => ∃ i, xs = [.int i] ∧ Q (.int (if i < 0 then -i else i)) H) := by
  intro pins s σ H xs us Q I r h
  obtain ⟨i, rfl, q⟩ := h
  obtain ⟨u, rfl, t, rfl⟩ := vals1 r
  exact call_abs_int fun u tk => ⟨.int (if i < 0 then -i else i), H, I.tok _, ⟨_, rfl⟩, q⟩
theorem call_max2 (hc : X.calm = true) : CallR X (.builtin "max") (fun xs H Q => ∃ i j, xs = [.int i, .int j] ∧ Q (.int (if j > i then j else i)) H) := by
  intro pins s σ H xs us Q I r h
  obtain ⟨i, j, rfl, q⟩ := h
  obtain ⟨u, w', rfl, ⟨t, rfl⟩, ⟨t', rfl⟩⟩ := vals2 r
  refine max_two_ints (I.ok.hd hc) fun h' tk k => ⟨_, H, I.kept k, ?_, q⟩
  by_cases hj : j > i
  · rw [if_pos hj, if_pos hj]; exact ⟨_, rfl⟩
  · rw [if_neg hj, if_neg hj]; exact ⟨_, rfl⟩
theorem call_min2 (hc : X.calm = true) : CallR X (.builtin "min") (fun xs H Q => ∃ i j, xs = [.int i, .int j] ∧ Q (.int (if j < i then j else i)) H) := by
  intro pins s σ H xs us Q I r h
  obtain ⟨i, j, rfl, q⟩ := h
  obtain ⟨u, w', rfl, ⟨t, rfl⟩, ⟨t', rfl⟩⟩ := vals2 r
  refine min_two_ints (I.ok.hd hc) fun h' tk k => ⟨_, H, I.kept k, ?_, q⟩
  by_cases hj : j < i
  · rw [if_pos hj, if_pos hj]; exact ⟨_, rfl⟩
  · rw [if_neg hj, if_neg hj]; exact ⟨_, rfl⟩
theorem call_int1 : CallR X (.type "int") (fun xs H Q => (∃ i, xs = [.int i] ∧ Q (.int i) H) ∨ ∃ k, xs = [.bl k] ∧ Q (.int (if k then 1 else 0)) H) := by
  intro pins s σ H xs us Q I r h
  rcases h with ⟨i, rfl, q⟩ | ⟨k, rfl, q⟩
  · obtain ⟨u, rfl, t, rfl⟩ := vals1 r
    exact call_int_int ⟨.int i, H, I, ⟨_, rfl⟩, q⟩
  · obtain ⟨u, rfl, r1⟩ := vals1 r
    cases r1
    exact call_int_bool ⟨.int (if k then 1 else 0), H, I.tok _, ⟨_, rfl⟩, q⟩
/-- len of a str, a bytes, a list, a tuple -/
def LenV (K : PySem.W.Frag) (x : V) (H : Hp) (n : Nat) : Prop :=
  match x with
  | .str y => y.length ≤ sizeLine ∧ n = y.length
  | .byt y => y.size ≤ sizeLine ∧ n = y.size
  | .ref p => (∃ xs, SqL K H p xs ∧ n = xs.length) ∨ ∃ xs, SqT K H p xs ∧ n = xs.length
  | _ => False
theorem call_len : CallR X (.builtin "len") (fun xs H Q => ∃ x n, xs = [x] ∧ LenV X.K x H n ∧ Q (.int n) H) := by
  intro pins s σ H xs us Q I r h
  obtain ⟨x, n, rfl, e, q⟩ := h
  obtain ⟨u, rfl, rx⟩ := vals1 r
  have hl := line63
  have hs : sizeLine = 16777216 := sizeLine_eq
  cases x with
  | str y =>
    obtain ⟨t, rfl⟩ := rx
    obtain ⟨hy, e'⟩ : y.length ≤ sizeLine ∧ n = y.length := e
    subst e'
    exact len_str (by omega) ⟨.int _, H, I.tok _, ⟨_, rfl⟩, q⟩
  | byt y =>
    obtain ⟨t, rfl⟩ := rx
    obtain ⟨hy, e'⟩ : y.size ≤ sizeLine ∧ n = y.size := e
    subst e'
    exact PySem.W.len_bytes (by omega) ⟨.int _, H, I.tok _, ⟨_, rfl⟩, q⟩
  | ref p =>
    cases rx
    have e' : (∃ xs, SqL X.K H p xs ∧ n = xs.length) ∨ ∃ xs, SqT X.K H p xs ∧ n = xs.length := e
    rcases e' with ⟨xs, hx, e'⟩ | ⟨xs, hx, e'⟩
    · subst e'
      obtain ⟨its, r', pl, hz⟩ := I.list hx
      have hlen := r'.length
      exact Calls.call_len_list pl.isList (by simp only [List.size_toArray]; omega) ⟨.int xs.length, H, I.tok _, ⟨_, by simp only [List.size_toArray]; rw [hlen]⟩, q⟩
    · subst e'
      obtain ⟨its, r', pl, hz⟩ := I.tuple hx
      have hlen := r'.length
      exact len_tuple pl (by simp only [List.size_toArray]; omega) ⟨.int xs.length, H, I.tok _, ⟨_, by simp only [List.size_toArray]; rw [hlen]⟩, q⟩
  | _ => exact (show False from e).elim
end
end L2
namespace L2
open PySem PySem.Spec PyProof.Rows
/-! ### an instance, its attributes a map -/
structure ObjM (h : Heap) (x dx C : Addr) (mA : Str → Option Value) : Prop where
  obj : h.get? x = some (PySem.W.instObj C dx)
  ns : h.Ns1 dx mA
  ne : dx ≠ x
theorem lookIn_ns {h : Heap} {dx : Addr} {mA : Str → Option Value} (n : h.Ns1 dx mA) : ∃ od, h.get? dx = some od ∧ ∀ name, PySem.W.lookIn name od = some (mA name) := by
  obtain ⟨o, es, ep, ho, hd, hk, _, hm⟩ := n
  refine ⟨o, ho, fun name => ?_⟩
  have e := hm name
  unfold nsFind findBy at e
  rw [← Array.find?_toList] at e
  unfold PySem.W.lookIn
  rw [hd]
  dsimp only
  split
  · rename_i y q
    rw [q] at e
    exact congrArg some e
  · rename_i q
    rw [q] at e
    have a : es.toList.any (·.refKey) = false := by
      rw [List.any_eq_false]
      intro y hy
      obtain ⟨z, t, hkey⟩ := hk y (Array.mem_toList_iff.mp hy)
      simp [DictEntry.refKey, hkey]
    have a' : ¬ es.toList.any (·.refKey) = true := by rw [a]; exact Bool.false_ne_true
    rw [if_neg a']
    exact congrArg some e
theorem ObjM.look {h : Heap} {x dx C : Addr} {mA : Str → Option Value} (I : ObjM h x dx C mA) : ∃ od, PySem.W.InstAt h x (PySem.W.instObj C dx) C (some od) ∧ ∀ name, PySem.W.lookIn name od = some (mA name) :=
  let ⟨od, ho, hl⟩ := lookIn_ns I.ns
  ⟨od, ⟨I.obj, rfl, rfl, ho⟩, hl⟩
section
variable {prog : Program} {w : World} {A : Around} {E : Value → Shared → Prop} {s : Shared} {K : PySem.W.Frag} {x dx C f : Addr} {mA : Str → Option Value} {name : Str} {v : Value}
end
/-! ### the attributes as a list of pairs -/
def putF (f : Str) (v : V) : List (Str × V) → List (Str × V)
  | [] => [(f, v)]
  | (g, x) :: r => if g = f then (g, v) :: r else (g, x) :: putF f v r
section
variable {P : Program} {w : World} {H H' : Hp} {h h' : Heap} {a C dx : Addr} {fs fs' : List (Str × V)}
theorem ins_get (hok : HOk P w H h) (e : H a = some (.ins C dx fs)) : ∃ mA, ObjM h a dx C mA ∧ (∀ f, RelO (fs.lookup f) (mA f)) ∧ PySem.Within mA (fs.map (·.1)) ∧ fs.length ≤ 1000 ∧ H dx = some (.own a) := by
  obtain ⟨d, z, ne, ob, mA, n, r, q⟩ := (show ObjOk P w H h a (.ins C dx fs) from hok a _ e)
  exact ⟨mA, ⟨ob, n, ne⟩, r, q, z, d⟩
end
/-! ### what of the text a class must have -/
structure Cls (K : PySem.W.Frag) (C : Addr) : Prop where
  pg : PySem.W.plainGet K C Str.empty = true
  hd : PySem.W.hasDictIn K C = true
  po : PySem.W.plainOver K C = true
  sa : PySem.W.findIn K (.ref C) "__setattr__" = some (some (.builtin "object.__setattr__"))
theorem Cls.get {K : PySem.W.Frag} {C : Addr} (c : Cls K C) (f : Str) : PySem.W.plainGet K C f = true := c.pg
/-- no class of it has the name -/
def NoAttr (K : PySem.W.Frag) (C : Addr) (f : Str) : Prop := PySem.W.findIn K (.ref C) f = some none
/-- a method: a plain def of the class or of one above it -/
structure Meth (K : PySem.W.Frag) (C : Addr) (m : Str) (f : Addr) : Prop where
  at_ : PySem.W.findIn K (.ref C) m = some (some (.ref f))
  fn : PySem.W.isFn K (.ref f) = true
  kp : PySem.W.keepIn K (.ref f) = true
section
variable {X : Cx} {pins : List (Addr × Obj)} {σ : St} {H : Hp} {s : Shared} {a C dx : Addr} {fs : List (Str × V)} {f : Str} {v : V} {A : Around} {E : Value → Shared → Prop}
end
/-! ### readings and rules -/
/-- e.f, an attribute of the instance -/
def tFld (K : PySem.W.Frag) (ta : TE) (f : Str) : TE := fun σ H Q => ta σ H fun x H1 => ∃ a C dx fs v, x = .ref a ∧ H1 a = some (.ins C dx fs) ∧ Cls K C ∧ NoAttr K C f ∧ fs.lookup f = some v ∧ Q v H1
/-- e.f = value -/
def sFld (K : PySem.W.Frag) (ta tv : TE) (f : Str) : TS := fun D σ H => tv σ H fun y H1 => ta σ H1 fun x H2 => ∃ a C dx fs, x = .ref a ∧ H2 a = some (.ins C dx fs) ∧ Cls K C ∧ NoAttr K C f ∧ fs.length < 1000 ∧
  D.nx σ (upd H2 a (.ins C dx (putF f y fs)))
section
variable {X : Cx} {o e value : Expr} {f : Str} {pos pos' tpos : Pos} {ta tv : TE}
end
/-! ### isinstance -/
section
variable {X : Cx} {pins : List (Addr × Obj)} {σ : St} {H : Hp} {s : Shared} {A : Around} {E : Value → Shared → Prop} {Q : Value → Shared → Prop} {c : Value} {b : Bool}
/-- the type of a value, as the fragment's deciders take it; for an instance its class -/
inductive TyOf (K : PySem.W.Frag) (H : Hp) : V → Value → Prop where
  | non : TyOf K H .non (.type "NoneType")
  | bl (x : Bool) : TyOf K H (.bl x) (.type "bool")
  | int (i : Int) : TyOf K H (.int i) (.type "int")
  | str (x : Str) : TyOf K H (.str x) (.type "str")
  | flt (x : UInt64) : TyOf K H (.flt x) (.type "float")
  | lst {a : Addr} {xs : List V} (e : H a = some (.lst xs)) : TyOf K H (.ref a) (.type "list")
  | frz {a : Addr} {o : Obj} {xs : List V} (e : H a = some (.frz o (.lst xs))) : TyOf K H (.ref a) (.type "list")
  | tup {a : Addr} {xs : List V} (e : H a = some (.tup xs)) : TyOf K H (.ref a) (.type "tuple")
  | dK {a : Addr} {kvs : List (Key × V)} (e : H a = some (.dK kvs)) : TyOf K H (.ref a) (.type "dict")
  | dT {a : Addr} {kvs : List (List Key × V)} (e : H a = some (.dT kvs)) : TyOf K H (.ref a) (.type "dict")
  | ins {a C dx : Addr} {fs : List (Str × V)} (e : H a = some (.ins C dx fs)) (cl : Cls K C) (ha : PySem.W.findIn K (.ref C) "__class__" = some (some (.builtin "object.__class__")))
      (hn : PySem.W.specialIn K (.builtin "object.__class__") "__get__" = some (some (.builtin "getset_descriptor.__get__"))) (htk : PySem.W.takesIn K (.builtin "object.__class__") = some true)
      (hm : PySem.W.mroIn K C (.type "object") = some true) : TyOf K H (.ref a) (.ref C)
/-- isinstance(x, c) for one class c, a built-in or an own one: kitOne's answer -/
theorem isinst_ok {x : V} {u t : Value} (I : Inv X pins σ H s) (rx : RelV x u) (ty : TyOf X.K H x t) (e : PySem.W.kitOne X.K t c = some b) (h : ∀ tk, Q (.bool b) { s with toks := tk }) :
    wpAny (model X.prog X.w) A (call (.builtin "isinstance") [u, c]) Q E s := by
  cases ty with
  | non => cases (show u = Value.none from rx); exact PySem.W.kia_one PySem.W.kitx_none I.kIn True.intro e (fun z => nomatch z) h
  | bl y => cases (show u = Value.bool y from rx); exact PySem.W.kia_one PySem.W.kitx_bool I.kIn True.intro e (fun z => nomatch z) h
  | int i => obtain ⟨t, q⟩ := (show ∃ t, u = Value.int i t from rx); cases q; exact PySem.W.kia_one PySem.W.kitx_int I.kIn True.intro e (fun z => nomatch z) h
  | str y => obtain ⟨t, q⟩ := (show ∃ t, u = Value.str y t from rx); cases q; exact PySem.W.kia_one PySem.W.kitx_str I.kIn True.intro e (fun z => nomatch z) h
  | flt y => obtain ⟨t, q⟩ := (show ∃ t, u = Value.float y t from rx); cases q; exact PySem.W.kia_one PySem.W.kitx_float I.kIn True.intro e (fun z => nomatch z) h
  | @lst a xs ea =>
    cases (show u = Value.ref a from rx)
    obtain ⟨_, _, n, _, h1⟩ := (show ObjOk X.prog X.w H s.heap a (.lst xs) from I.hok a _ ea)
    exact PySem.W.kia_one PySem.W.kitx_list I.kIn ⟨_, h1, rfl⟩ e (fun z => nomatch z) h
  | @frz a ob xs ea =>
    cases (show u = Value.ref a from rx)
    obtain ⟨_, _, _, n, _, h1⟩ := (show ObjOk X.prog X.w H s.heap a (.frz ob (.lst xs)) from I.hok a _ ea)
    exact PySem.W.kia_one PySem.W.kitx_list I.kIn ⟨_, h1, rfl⟩ e (fun z => nomatch z) h
  | @tup a xs ea =>
    cases (show u = Value.ref a from rx)
    obtain ⟨_, _, _, p⟩ := (show ObjOk X.prog X.w H s.heap a (.tup xs) from I.hok a _ ea)
    obtain ⟨o, h1, h2, _⟩ := p
    exact PySem.W.kia_one PySem.W.kitx_tuple I.kIn ⟨o, h1, h2⟩ e (fun z => nomatch z) h
  | @dK a kvs ea =>
    cases (show u = Value.ref a from rx)
    obtain ⟨_, _, vs, _, p⟩ := (show ObjOk X.prog X.w H s.heap a (.dK kvs) from I.hok a _ ea)
    obtain ⟨o, es, ep, h1, h2, _⟩ := p
    exact PySem.W.kia_one PySem.W.kitx_dict I.kIn ⟨o, h1, h2.1⟩ e (fun z => nomatch z) h
  | @dT a kvs ea =>
    cases (show u = Value.ref a from rx)
    obtain ⟨_, _, xs, _, o, es, ep, h1, h2, _⟩ := (show ObjOk X.prog X.w H s.heap a (.dT kvs) from I.hok a _ ea)
    exact PySem.W.kia_one PySem.W.kitx_dict I.kIn ⟨o, h1, h2.1⟩ e (fun z => nomatch z) h
  | @ins a C dx fs ea cl ha hn htk hm =>
    cases (show u = Value.ref a from rx)
    obtain ⟨mA, O, _⟩ := ins_get I.hok ea
    obtain ⟨od, J, _⟩ := O.look
    exact PySem.W.kia_one (PySem.W.kitx_own (cl.get _) cl.hd ha hn htk hm) I.kIn J e (fun z => nomatch z) h
end
end L2
namespace L2
open PySem PySem.Spec PyProof.Rows
/-! ### room -/
structure Room (k : Nat) (A : Around) : Prop where
  hd : A.handled = none
  dp : A.depth + 3 * k + 5 < recursionLimit
  un : A.units + 16 * k + 200 < cLine
theorem Room.mono {j k : Nat} {A : Around} (r : Room k A) (h : j ≤ k) : Room j A := ⟨r.hd, by have := r.dp; omega, by have := r.un; omega⟩
theorem Room.deeper {k : Nat} {A : Around} (r : Room (k + 1) A) (env : Env) : Room k (A.deeper env) :=
  ⟨r.hd, by have := r.dp; show A.depth + 1 + 3 * k + 5 < _; omega, by have := r.un; show A.units + 3 + 16 * k + 200 < _; omega⟩
theorem Room.depth {k : Nat} {A : Around} (r : Room k A) : A.depth < recursionLimit := by have := r.dp; omega
theorem Room.units {k : Nat} {A : Around} (r : Room k A) : A.units + 64 < cLine := by have := r.un; omega
/-! ### argument lists and displays -/
def tNil : TA := fun _ H Q => Q [] H
def tCons (ta : TE) (tr : TA) : TA := fun σ H Q => ta σ H fun x H1 => tr σ H1 fun xs H2 => Q (x :: xs) H2
section
variable {X : Cx} {e : Expr} {es : List Expr} {te : TE} {t : TA} {pos : Pos}
theorem pa_nil : PA X [] tNil := fun _ _ _ _ H Q I h => Calls.spliced_nil ⟨[], H, I, .nil, h⟩
theorem pa_cons (ha : PE X e te) (hr : PA X es t) (hs : starEach (e :: es) X.env = (false, eval e X.env) :: starEach es X.env := by rfl) : PA X (e :: es) (tCons te t) := by
  intro pos pins s σ H Q I h
  rw [hs]
  show wpAny _ _ (spliced ((false, eval e X.env) :: backTo pos (starEach es X.env))) _ _ s
  refine Calls.spliced_cons (thn (ha pins s σ H _ I h) fun u s1 ⟨x, H1, I1, r1, q1⟩ => ?_)
  exact thn (hr pos pins s1 σ H1 _ I1 q1) fun us s2 ⟨xs, H2, I2, r2, q2⟩ => ⟨x :: xs, H2, I2, .cons r1 r2, q2⟩
/-- a tuple, a list of written items -/
def tTup (t : TA) : TE := fun σ H Q => t σ H fun xs H1 => xs.length ≤ sizeLine ∧ ∀ p, H1 p = none → Q (.ref p) (upd H1 p (.tup xs))
def tLst (t : TA) : TE := fun σ H Q => t σ H fun xs H1 => xs.length ≤ sizeLine ∧ ∀ p, H1 p = none → Q (.ref p) (upd H1 p (.lst xs))
theorem pe_tup {x1} (h : PA X es t) : PE X (.Tuple es x1 pos) (tTup t) := by
  intro pins s σ H Q I hq
  refine wpAny_Tuple_spliced (thn (h pos pins s σ H _ I hq) fun us s1 ⟨xs, H1, I1, r, z, q⟩ => ⟨by rw [← r.length]; exact z, ?_⟩)
  have hf : H1 s1.heap.objs.size = none := I1.hok.fresh (Nat.le_refl _)
  refine ⟨.ref s1.heap.objs.size, upd H1 s1.heap.objs.size (.tup xs), I1.laid (t' := s1.toks) (fun b u e => Heap.get?_push_of_some _ e) (Nat.le_refl _) ?_, rfl, q _ hf⟩
  exact ⟨z, us, r, ⟨_, Heap.get?_push_size _ rfl, rfl, _, rfl⟩⟩
theorem pe_lst (h : PA X es t) : PE X (.List es pos) (tLst t) := by
  intro pins s σ H Q I hq
  refine wpAny_List_spliced (thn (h pos pins s σ H _ I hq) fun us s1 ⟨xs, H1, I1, r, z, q⟩ => ⟨by rw [← r.length]; exact z, ?_⟩)
  have hf : H1 s1.heap.objs.size = none := I1.hok.fresh (Nat.le_refl _)
  refine ⟨.ref s1.heap.objs.size, upd H1 s1.heap.objs.size (.lst xs), I1.laid (t' := s1.toks) (fun b u e => Heap.get?_push_of_some _ e) (Nat.le_refl _) ?_, rfl, q _ hf⟩
  exact ⟨z, us, 0, r, Heap.get?_push_size _ rfl⟩
end
/-! ### what a def promises -/
/-- a def's promise: the bound arguments in the parameters' order, the heap, the wanted end, the wanted exception -/
abbrev Sp := List V → Hp → VK → XK → Prop
/-- how an exception lies behind a call (file 08 gives it): the callers' frames, abstract heap and state ahead of the call, the wish, the exception, the state -/
abbrev CXT := List Env → Hp → Shared → XK → Value → Shared → Prop
/-- the state at a call -/
structure Env0 (P : Program) (w : World) (K : PySem.W.Frag) (mg : Str → Option Value) (base : Heap) (A : Around) (outer : List Env) (s : Shared) (H : Hp) : Prop where
  frames : A.frames = some outer
  mod : Mod K mg base
  bs : ∀ b o, base.get? b = some o → s.heap.get? b = some o ∧ H b = none
  bsz : base.objs.size ≤ s.heap.objs.size
  funs : s.heap.FunFrames base outer
  frf : ∀ b ∈ frs outer, H b = none
  hok : HOk P w H s.heap
  bare : AllBare s.gens
/-- a call's end -/
def CE (outer : List Env) (P : Program) (w : World) (H : Hp) (s : Shared) (Q : VK) (u : Value) (s' : Shared) : Prop :=
  ∃ v H', s'.os = s.os ∧ AllBare s'.gens ∧ Un (frs outer) [] H H' s.heap s'.heap ∧ HOk P w H' s'.heap ∧ RelV v u ∧ Q v H'
def CR (CX : CXT) (outer : List Env) (P : Program) (w : World) (H : Hp) (s : Shared) (Q : VK) (E : XK) (r : Result) (s' : Shared) : Prop :=
  match r with
  | .ok (.ret u) => CE outer P w H s Q u s'
  | .ok _ => False
  | .error e => CX outer H s E e s'
structure FnOk (P : Program) (w : World) (K : PySem.W.Frag) (mg : Str → Option Value) (base : Heap) (CX : CXT) (k : Nat) (f : Addr) (fd : FuncData) (ps : List Str) (sp : Sp) : Prop where
  len : ∀ vs H Q E, sp vs H Q E → vs.length = ps.length
  run : ∀ (A : Around) (outer : List Env) (s : Shared) (H : Hp) (args : Args) (us : List Value) (vs : List V) (Q : VK) (E : XK), Room k A → Env0 P w K mg base A outer s H → BindsTo s fd args (ps.zip us) → Vals vs us → sp vs H Q E →
    codeAny (model P w) A (.call (.ref f) args) (CR CX outer P w H s Q E) s
theorem FnOk.mono {P : Program} {w : World} {K : PySem.W.Frag} {mg : Str → Option Value} {base : Heap} {CX : CXT} {j k : Nat} {f : Addr} {fd : FuncData} {ps : List Str} {sp : Sp} (F : FnOk P w K mg base CX j f fd ps sp) (h : j ≤ k) :
    FnOk P w K mg base CX k f fd ps sp := ⟨F.len, fun A outer s H args us vs Q E hr => F.run A outer s H args us vs Q E (hr.mono h)⟩
section
variable {X : Cx} {pins : List (Addr × Obj)} {σ : St} {H : Hp} {s s' : Shared}
/-- from a body: what a callee wants -/
theorem Inv.env0 (I : Inv X pins σ H s) : Env0 X.prog X.w X.K X.mg X.base X.A X.stack s H :=
  ⟨I.ok.frames, I.ok.mod, I.bs, Nat.le_trans I.ok.bsz I.sz, I.stack, I.stkFree, I.hok, I.bare⟩
/-- behind a call -/
theorem Inv.after {Q : VK} {u : Value} (I : Inv X pins σ H s) (h : CE X.stack X.prog X.w H s Q u s') : EP X pins σ Q u s' := by
  obtain ⟨v, H', os, bare, un, hok, r, q⟩ := h
  obtain ⟨hh, g, d, t, os'⟩ := s'
  obtain rfl : os' = s.os := os
  exact ⟨v, H', I.call (h' := hh) (g' := g) (d' := d) (t' := t) (ch := []) un hok bare (fun b z => absurd z (by simp)), r, q⟩
end
/-! ### calls -/
/-- f(..): the written arguments, then the defaults dvs; E: what is wanted of an exception -/
def tCall (sp : Sp) (dvs : List V) (E : XK) (t : TA) : TE := fun σ H Q => t σ H fun vs H1 => sp (vs ++ dvs) H1 Q E
/-- o.m(..) of an instance of the class at C -/
def tMeth (C : Addr) (m : Str) (sp : Sp) (dvs : List V) (E : XK) (ta : TE) (t : TA) : TE := fun σ H Q => ta σ H fun x H1 => ∃ a dx fs, x = .ref a ∧ H1 a = some (.ins C dx fs) ∧ fs.lookup m = none ∧
  t σ H1 fun vs H2 => sp (x :: (vs ++ dvs)) H2 Q E
/-- C(..): a new instance and its dict, then __init__ -/
def tMake (C : Addr) (sp : Sp) (dvs : List V) (E : XK) (t : TA) : TE := fun σ H Q => t σ H fun vs H1 => ∀ x dx, H1 x = none → H1 dx = none → dx ≠ x →
  sp (.ref x :: (vs ++ dvs)) (upd (upd H1 dx (.own x)) x (.ins C dx [])) (fun v H2 => v = .non ∧ Q (.ref x) H2) E
/-- how the parameters are bound: us the positional arguments, kw the keywords' values by name, ds the defaults that fill up -/
def Binds (K : PySem.W.Frag) (fd : FuncData) (ps : List Str) (ds : List Value) : Prop :=
  ∀ (s : Shared) (us : List Value), K.In s.heap → (us ++ ds).length = ps.length → BindsTo s fd ⟨us, []⟩ (ps.zip (us ++ ds))
/-- every parameter is given -/
theorem Binds.all {K : PySem.W.Frag} {fd : FuncData} {ps : List Str} (h : ∀ us : List Value, us.length = ps.length → bindArgs fd ⟨us, []⟩ = pure (ps.zip us)) : Binds K fd ps [] := fun s us _ hl => by
  rw [List.append_nil] at hl ⊢
  exact .of_eq (h us hl)
/-- an exception of a callee reaches what this body wants of exceptions -/
def Passes (CX : CXT) (X : Cx) (E : XK) : Prop := ∀ (pins : List (Addr × Obj)) (σ : St) (H : Hp) (s : Shared) (e : Value) (s' : Shared), Inv X pins σ H s → CX X.stack H s E e s' → X.xe e s'
section
variable {X : Cx} {CX : CXT} {k : Nat} {f C : Addr} {fd : FuncData} {ps : List Str} {sp : Sp} {dvs : List V} {ds : List Value} {E : XK} {x m : Str} {p pos apos : Pos} {e o : Expr} {es : List Expr} {ta : TE} {t : TA}
/-- the callee runs -/
theorem run_fn {pins : List (Addr × Obj)} {σ : St} {H : Hp} {s : Shared} {Q : VK} {us : List Value} {vs : List V} (F : FnOk X.prog X.w X.K X.mg X.base CX k f fd ps sp) (hr : Room k X.A) (hb : Binds X.K fd ps ds) (hd : Vals dvs ds) (hx : Passes CX X E)
    (I : Inv X pins σ H s) (r : Vals vs us) (h : sp (vs ++ dvs) H Q E) : wpAny (model X.prog X.w) X.A (call (.ref f) us) (EP X pins σ Q) X.xe s := by
  have r2 : Vals (vs ++ dvs) (us ++ ds) := r.append hd
  have hl : (us ++ ds).length = ps.length := by rw [← r2.length]; exact F.len _ _ _ _ h
  refine wpAny_call (codeAny_mono (F.run X.A X.stack s H ⟨us, []⟩ (us ++ ds) (vs ++ dvs) Q E hr I.env0 (hb s us I.kIn hl) r2 h) fun r s' hq => ?_)
  cases r with
  | error e => exact hx pins σ H s e s' I hq
  | ok fl =>
    cases fl with
    | ret u => exact I.after hq
    | next => exact False.elim hq
    | brk => exact False.elim hq
    | cont => exact False.elim hq
theorem pe_call (F : FnOk X.prog X.w X.K X.mg X.base CX k f fd ps sp) (hr : Room k X.A) (hg : Gl X x) (hm : X.mg x = some (.ref f)) (hk : PySem.W.keepIn X.K (.ref f) = true) (hb : Binds X.K fd ps ds) (hd : Vals dvs ds) (hx : Passes CX X E)
    (ha : PA X (e :: es) t) (hdb : (x == ("__debug__" : Str)) = false := by decide) (he : starEach (e :: es) X.env = (false, eval e X.env) :: starEach es X.env := by rfl) (hpl : (backTo pos (starEach es X.env)).any (·.1) = false := by rfl) :
    PE X (.Call (.Name x p) (e :: es) [] pos) (tCall sp dvs E t) := by
  intro pins s σ H Q I h
  refine wpAny_Call_Name_kw (ld_glob I hg hm ?_ hdb)
  refine PySem.W.callWith_K (h₀ := X.base) I.ok.mod.kin hk (thn (ha pos pins s σ H _ I h) fun us s1 ⟨vs, H1, I1, r, q⟩ => ⟨I1.kIn, ?_⟩) he hpl
  exact run_fn F hr hb hd hx I1 r q
/-- what a class must have to be made -/
structure Mk (K : PySem.W.Frag) (C f : Addr) : Prop where
  makes : PySem.W.makesIn K C = true
  init : PySem.W.findIn K (.ref C) "__init__" = some (some (.ref f))
  fn : PySem.W.isFn K (.ref f) = true
  kp : PySem.W.keepIn K (.ref C) = true
end
/-! ### keywords -/
section
variable {X : Cx} {CX : CXT} {k : Nat} {f C : Addr} {fd : FuncData} {ps ks : List Str} {sp : Sp} {E : XK} {x m : Str} {p pos apos kpos : Pos} {e o : Expr} {es : List Expr} {kws : List Keyword} {te ta : TE} {t tk : TA} {nm : Option Str}
variable {g : List Value → List Value → List Value} {gV : List V → List V → List V}
end
/-! ### a def's body keeps its promise -/
/-- names: the parameters first -/
structure FnScope (N P : List Str) (sc : Scope) : Prop where
  kind : sc.kind = .function
  co : sc.isCoroutine = false
  gen : sc.isGenerator = false
  nd : N.Nodup
  pre : N.take P.length = P
  par : ∀ x ∈ P, sc.names.lookup x = some .local ∨ sc.names.lookup x = some .cell
  nofree : ∀ y ∈ sc.names, y.2 ≠ .free
theorem bindL_out {kindOf : Str → Option NameKind} {x : Str} : ∀ {binds : List (Str × Value)} {m : Str → Option Value}, (∀ v, (x, v) ∉ binds) → bindL kindOf binds m x = m x
  | [], _, _ => rfl
  | (n, v) :: r, m, h => by
    unfold bindL
    rw [bindL_out fun w hw => h w (List.mem_cons_of_mem _ hw)]
    split
    · have : x ≠ n := by rintro rfl; exact h v List.mem_cons_self
      simp [this]
    · rfl
theorem bindC_out {kindOf : Str → Option NameKind} {x : Str} : ∀ {binds : List (Str × Value)} {m : Str → Option Value}, (∀ v, (x, v) ∉ binds) → bindC kindOf binds m x = m x
  | [], _, _ => rfl
  | (n, v) :: r, m, h => by
    unfold bindC
    rw [bindC_out fun w hw => h w (List.mem_cons_of_mem _ hw)]
    split
    · rfl
    · have : x ≠ n := by rintro rfl; exact h v List.mem_cons_self
      simp [this]
theorem bindL_get {kindOf : Str → Option NameKind} {x : Str} {v : Value} : ∀ {P : List Str} {vs : List Value} {i : Nat} {m : Str → Option Value}, P.Nodup → P[i]? = some x → vs[i]? = some v → kindOf x = some .local →
    bindL kindOf (P.zip vs) m x = some v
  | [], _, _, _, _, h, _, _ => by simp at h
  | _ :: _, [], _, _, _, _, h, _ => by simp at h
  | p :: P, w :: vs, 0, m, nd, h1, h2, hk => by
    simp at h1 h2; subst h1; subst h2
    show bindL kindOf ((p, w) :: P.zip vs) m p = _
    unfold bindL
    rw [bindL_out fun v hv => (List.nodup_cons.mp nd).1 (List.of_mem_zip hv).1, if_pos hk]
    simp
  | p :: P, w :: vs, i + 1, m, nd, h1, h2, hk => by
    show bindL kindOf ((p, w) :: P.zip vs) m x = _
    unfold bindL
    exact bindL_get (i := i) (List.nodup_cons.mp nd).2 (by simpa using h1) (by simpa using h2) hk
theorem bindC_get {kindOf : Str → Option NameKind} {x : Str} {v : Value} : ∀ {P : List Str} {vs : List Value} {i : Nat} {m : Str → Option Value}, P.Nodup → P[i]? = some x → vs[i]? = some v → kindOf x ≠ some .local →
    bindC kindOf (P.zip vs) m x = some v
  | [], _, _, _, _, h, _, _ => by simp at h
  | _ :: _, [], _, _, _, _, h, _ => by simp at h
  | p :: P, w :: vs, 0, m, nd, h1, h2, hk => by
    simp at h1 h2; subst h1; subst h2
    show bindC kindOf ((p, w) :: P.zip vs) m p = _
    unfold bindC
    rw [bindC_out fun v hv => (List.nodup_cons.mp nd).1 (List.of_mem_zip hv).1, if_neg hk]
    simp
  | p :: P, w :: vs, i + 1, m, nd, h1, h2, hk => by
    show bindC kindOf ((p, w) :: P.zip vs) m x = _
    unfold bindC
    exact bindC_get (i := i) (List.nodup_cons.mp nd).2 (by simpa using h1) (by simpa using h2) hk
/-- the names' values at the entry -/
def start (N : List Str) (vs : List V) : St := vs.map some ++ List.replicate (N.length - vs.length) none
/-- the context of a def's body, at its entry; an exception leaves the frame, then lies as CX says -/
def cxOf (CX : CXT) (P : Program) (w : World) (K : PySem.W.Frag) (mg : Str → Option Value) (base : Heap) (N : List Str) (qual : Str) (scope : Scope) (f : Addr) (cd : Value) (A : Around) (outer : List Env) (s : Shared) (H : Hp) (E : XK) : Cx where
  prog := P
  w := w
  K := K
  mg := mg
  base := base
  A := A.deeper (envOfC qual scope s.heap.objs.size f cd)
  N := N
  s₀ := s
  H₀ := H
  env := envOfC qual scope s.heap.objs.size f cd
  outer := outer
  stack := envOfC qual scope s.heap.objs.size f cd :: outer
  ex := []
  calm := true
  fn := fun _ => true
  pn := []
  xe := fun e s' => wpAny (model P w) (A.deeper (envOfC qual scope s.heap.objs.size f cd)) (leaving (envOfC qual scope s.heap.objs.size f cd) e) (fun _ s'' => CX outer H s E e s'') (fun e' s'' => CX outer H s E e' s'') s'
theorem cell_has {sc : Scope} {n : Nat} {x : Str} (h : sc.names.lookup x = some .cell) : ∃ c, (cellsFrom n sc.names []).lookup x = some c := by
  have q := PySem.W.cellsFrom_some sc.names n [] (.inl h)
  exact Option.isSome_iff_exists.mp q
theorem inv_start {CX : CXT} {P : Program} {w : World} {K : PySem.W.Frag} {mg : Str → Option Value} {base : Heap} {N ps : List Str} {qual : Str} {scope : Scope} {f : Addr} {cd : Value} {A : Around} {outer : List Env} {s s1 : Shared} {H : Hp} {E : XK} {us : List Value} {vs : List V}
    (S : FnScope N ps scope) (hd : A.handled = none) (e0 : Env0 P w K mg base A outer s H) (hl : vs.length = ps.length) (r : Vals vs us)
    (x : InCallC s s.heap.objs.size (bindL (envOfC qual scope s.heap.objs.size f cd).kindOf (ps.zip us) fun _ => none) (cellsFrom (s.heap.objs.size + 1) scope.names []) (bindC (envOfC qual scope s.heap.objs.size f cd).kindOf (ps.zip us) fun _ => none) s1) :
    Inv (cxOf CX P w K mg base N qual scope f cd A outer s H E) [] (start N vs) H s1 := by
  have hpl : ps.length ≤ N.length := by have := congrArg List.length S.pre; rw [List.length_take] at this; omega
  obtain ⟨h1, tk, rfl, hk⟩ := x.done
  have noA : ∀ b : Addr, b ∉ (cxOf CX P w K mg base N qual scope f cd A outer s H E).ex := fun b z => absurd (show b ∈ ([] : List Addr) from z) (by simp)
  refine ⟨⟨e0.mod, S.kind, rfl, rfl, Nat.le_refl _, fun y z c h1 h2 => ?_, fun y hy => ?_, fun y c _ h => ?_, fun _ => hd, Around.frames_deeper e0.frames, .inr ⟨rfl, rfl⟩, fun b z => absurd z (noA b), e0.bs, e0.bsz, fun b _ _ => noA b, fun b z => absurd z (noA b), e0.funs, e0.frf⟩,
    rfl, e0.bare, Un.kept hk, ⟨_, x.toInCall.ns, fun i y v h1 h2 h3 => ?_⟩, fun y c h => ⟨_, x.cell y c h⟩, e0.hok.fresh (Nat.le_refl _), fun y c h => ?_, fun p hp => absurd (show p ∈ ([] : List (Addr × Obj)) from hp) (by simp), e0.hok.kept hk, ?_⟩
  · exact name_of_addr x.apart (PySem.mem_of_lookup h1) (PySem.mem_of_lookup h2)
  · have hy : scope.names.lookup y = some .cell ∨ scope.names.lookup y = some .free := hy
    rcases hy with hy | hy
    · exact cell_has hy
    · exact absurd rfl (S.nofree _ (PySem.mem_of_lookup hy))
  · exact Nat.le_of_lt (x.above y c (PySem.mem_of_lookup h))
  · have hi : i < vs.length := by
      unfold start at h2
      by_cases hi : i < vs.length
      · exact hi
      · rw [List.getElem?_append_right (by simpa using hi)] at h2
        rw [List.getElem?_replicate] at h2
        split at h2 <;> cases h2
    have ha : vs[i]? = some v := by
      unfold start at h2
      rw [List.getElem?_append_left (by simpa using hi), List.getElem?_map] at h2
      cases e : vs[i]? with
      | none => rw [e] at h2; cases h2
      | some a => rw [e] at h2; cases h2; rfl
    obtain ⟨u, hu, rv⟩ := r.get ha
    have hp : ps[i]? = some y := by
      rw [← S.pre, List.getElem?_take_of_lt (by omega)]; exact h1
    have ndP : ps.Nodup := by rw [← S.pre]; exact S.nd.sublist (List.take_sublist _ _)
    refine ⟨u, rv, ?_⟩
    rcases S.par y (List.mem_of_getElem? hp) with k | k
    · exact .inl ⟨k, bindL_get ndP hp hu k⟩
    · obtain ⟨c, e⟩ := cell_has (n := s.heap.objs.size + 1) k
      refine .inr ⟨.inl k, c, e, ?_⟩
      have q := x.cell y c e
      rw [bindC_get ndP hp hu (by show scope.names.lookup y ≠ _; rw [k]; decide)] at q
      exact q
  · exact e0.hok.fresh (Nat.le_of_lt (x.above y c (PySem.mem_of_lookup h)))
  · unfold start
    show _ = N.length
    rw [List.length_append, List.length_map, List.length_replicate]
    omega
/-- THE RULE: a def (or a method) of the text, by its body. The body's reading t is chosen for each entry; it is run at the parameters' values -/
theorem fn_of {CX : CXT} {P : Program} {w : World} {K : PySem.W.Frag} {mg : Str → Option Value} {base : Heap} {k : Nat} {f : Addr} {name qual : Str} {params : Arguments} {body : List Stmt} {scope : Scope} {dV kV doc pm cdv ct oc : Value} {an od : Option Addr}
    {osl : Array (Option Value)} {N ps : List Str} {sp : Sp} (lk : K.lookup f = some ⟨oc, od, .func (PySem.W.fnOf name qual params body scope dV kV doc pm an cdv ct), osl⟩) (hcd : PySem.W.codeIn K cdv qual = true) (S : FnScope N ps scope)
    (len : ∀ vs H Q E, sp vs H Q E → vs.length = ps.length)
    (hbody : ∀ (A : Around) (outer : List Env) (s : Shared) (H : Hp) (vs : List V) (Q : VK) (E : XK), Room k (A.deeper (envOfC qual scope s.heap.objs.size f cdv)) → sp vs H Q E →
      ∃ t, PSs (cxOf CX P w K mg base N qual scope f cdv A outer s H E) body t ∧ t { nx := fun _ H' => Q .non H', rt := Q } (start N vs) H) :
    FnOk P w K mg base CX (k + 1) f (PySem.W.fnOf name qual params body scope dV kV doc pm an cdv ct) ps sp := by
  refine ⟨len, fun A outer s H args us vs Q E hr e0 hb r hsp => ?_⟩
  have hl := len _ _ _ _ hsp
  have KX : K.In s.heap := e0.mod.kin.keeps fun b o e => (e0.bs b o e).1
  have lim : s.heap.NoLimit := e0.mod.nolimit.keeps fun b o e => (e0.bs b o e).1
  have hkind : ∀ y ∈ ps.zip us, scope.names.lookup y.1 = some .local ∨ (scope.names.lookup y.1 = some .cell ∧ ((cellsFrom (s.heap.objs.size + 1) scope.names []).lookup y.1).isSome = true) := fun ⟨n, v⟩ hy => by
    rcases S.par n (List.of_mem_zip hy).1 with q | q
    · exact .inl q
    · exact .inr ⟨q, PySem.W.cellsFrom_some _ _ _ (.inl q)⟩
  refine codeAny_call_function hr.depth (KX _ _ lk) rfl S.co S.gen rfl (PySem.W.codeRec_of KX hcd) (hb _ _ _ _ ?_)
  refine wpAny_newFunctionEnv_cells S.kind hkind fun env he s1 x => ?_
  subst he
  refine ⟨lim.keeps x.toInCall.keep, codeAny_func ?_⟩
  obtain ⟨t, ht, hq⟩ := hbody A outer s H vs Q E (hr.deeper _) hsp
  have I : Inv (cxOf CX P w K mg base N qual scope f cdv A outer s H E) [] (start N vs) H s1 := inv_start S hr.hd e0 hl r x
  refine wpAny_mono (ht [] s1 (start N vs) H _ I hq) (fun fl s' hs => ?_) fun e s' hs => hs
  have fin : ∀ {σ' : St} {H' : Hp} {v : V} {u : Value}, Inv (cxOf CX P w K mg base N qual scope f cdv A outer s H E) [] σ' H' s' → RelV v u → Q v H' → CE outer P w H s Q u s' :=
    fun {σ' H' v u} J rv q => ⟨v, H', J.os, J.bare, J.base, J.hok, rv, q⟩
  cases fl with
  | ret u =>
    obtain ⟨v, σ', H', J, rv, q⟩ := hs
    exact fin J rv q
  | next =>
    obtain ⟨σ', H', J, q⟩ := hs
    exact fin (v := V.non) (u := Value.none) J rfl q
  | brk =>
    obtain ⟨_, _, _, q⟩ := hs
    exact False.elim q
  | cont =>
    obtain ⟨_, _, _, q⟩ := hs
    exact False.elim q
end L2
namespace L2
open PySem PySem.Spec PyProof.Rows
section
variable {X : Cx} {x : Str} {p pos : Pos} {e : Expr} {es : List Expr} {t : TA} {id T : String} {r : List V → Hp → VK → Prop}
def tCB (r : List V → Hp → VK → Prop) (t : TA) : TE := fun σ H Q => t σ H fun vs H1 => r vs H1 Q
/-- f(e, ..), f a built-in function -/
theorem pe_callB (hc : CallR X (.builtin id) r) (hg : Gl X x) (hm : X.mg x = none) (hv : bootBuiltins x = some (.builtin id)) (ha : PA X (e :: es) t) (hn : x ≠ "__name__" := by decide) (hdb : (x == ("__debug__" : Str)) = false := by decide)
    (he : starEach (e :: es) X.env = (false, eval e X.env) :: starEach es X.env := by rfl) (hpl : (backTo pos (starEach es X.env)).any (·.1) = false := by rfl) : PE X (.Call (.Name x p) (e :: es) [] pos) (tCB r t) := by
  intro pins s σ H Q I h
  refine wpAny_Call_Name_kw (ld_blt I hg hm hv ?_ hn hdb)
  exact PyProof.Rows.callWith_builtin1 (thn (ha pos pins s σ H _ I h) fun us s1 ⟨vs, H1, I1, r1, q1⟩ => hc pins s1 σ H1 vs us Q I1 r1 q1) he hpl
/-- T(e, ..), T a built-in type -/
theorem pe_callTy (hc : CallR X (.type T) r) (hg : Gl X x) (hm : X.mg x = none) (hv : bootBuiltins x = some (.type T)) (ha : PA X (e :: es) t) (hn : x ≠ "__name__" := by decide) (hdb : (x == ("__debug__" : Str)) = false := by decide)
    (he : starEach (e :: es) X.env = (false, eval e X.env) :: starEach es X.env := by rfl) (hpl : (backTo pos (starEach es X.env)).any (·.1) = false := by rfl) : PE X (.Call (.Name x p) (e :: es) [] pos) (tCB r t) := by
  intro pins s σ H Q I h
  refine wpAny_Call_Name_kw (ld_blt I hg hm hv ?_ hn hdb)
  exact PyProof.Rows.callWith_type1 (thn (ha pos pins s σ H _ I h) fun us s1 ⟨vs, H1, I1, r1, q1⟩ => hc pins s1 σ H1 vs us Q I1 r1 q1) he hpl
end
end L2
namespace HT
open PySem PyProof.Rows
section
open PySem.SeqAt
open PySem.AutoSeq1 (wpAny_loadPart')
open PySem.MeetsSeq PySem.MeetsSeq2 PySem.MeetsSeq3
end
section
variable {prog : Program} {w : World} {A : Around} {E : Value → Shared → Prop} {s : Shared}
/-- t + u, t not empty -/
theorem cat_tup {t b : Addr} {vs ws : List Value} {Q : Value → Shared → Prop} (ht : IsTup s.heap t vs.toArray) (hb : IsTup s.heap b ws.toArray) (hv : vs ≠ [])
    (h1 : ws = [] → Q (.ref t) s) (h2 : ws ≠ [] → Q (.ref s.heap.objs.size) { s with heap := s.heap.push { cls := .type "tuple", data := .seq (vs ++ ws).toArray } })
    (hsz : vs.length + ws.length ≤ sizeLine) : wpAny (model prog w) A (binaryOp .Add (.ref t) (.ref b)) Q E s := by
  obtain ⟨⟨cls, dd, data, sl⟩, ho, hc, n, hd⟩ := id ht
  obtain ⟨⟨cls2, dd2, data2, sl2⟩, ho2, hc2, n2, hd2⟩ := id hb
  simp only at hc hd hc2 hd2
  subst hc hd hc2 hd2
  have e : vs.toArray ++ ws.toArray = (vs ++ ws).toArray := by simp
  by_cases hw : ws = []
  · exact concat_meets ⟨_, ho, rfl⟩ ⟨_, ho2, rfl⟩ noFill_tuple_add seq_tuple_add PySem.F.slot_tuple_add PySem.F.entry_tuple_add (PySem.F.args_tuple_add_2 _ _)
      (tuple_addW1 t b vs.toArray ws.toArray n n2 dd dd2 sl sl2 (by simpa using hv) (by simp [hw])) ⟨ho, ho2, h1 hw⟩
  · refine concat_meets ⟨_, ho, rfl⟩ ⟨_, ho2, rfl⟩ noFill_tuple_add seq_tuple_add PySem.F.slot_tuple_add PySem.F.entry_tuple_add (PySem.F.args_tuple_add_2 _ _)
      (tuple_addW2 t b vs.toArray ws.toArray n n2 dd dd2 sl sl2 (by simpa using hv) (by simpa using hw) (by rw [List.size_toArray, List.size_toArray]; exact hsz)) ⟨ho, ho2, ?_⟩
    rw [e]
    exact h2 hw
/-! ### t[a:b], not the whole -/
/-- a slice's bound as a place among n (d where it is left out) -/
def sIx (n d : Nat) : Option Int → Nat
  | none => d
  | some v => if v < 0 then (v + (n : Int)).toNat else min v.toNat n
theorem sIx_le (n d : Nat) (hd : d ≤ n) (o : Option Int) : sIx n d o ≤ n := by
  cases o with
  | none => exact hd
  | some v =>
    show (if v < 0 then (v + (n : Int)).toNat else min v.toNat n) ≤ n
    by_cases hv : v < 0
    · rw [if_pos hv]; omega
    · rw [if_neg hv]; exact Nat.min_le_right _ _
theorem clip_eq (v : Int) (n d : Nat) : (if v < 0 then max (v + (n : Int)) 0 else min v (n : Int)) = ((sIx n d (some v) : Nat) : Int) := by
  show (if v < 0 then max (v + (n : Int)) 0 else min v (n : Int)) = (((if v < 0 then (v + (n : Int)).toNat else min v.toNat n) : Nat) : Int)
  by_cases hv : v < 0
  · simp only [if_pos hv]; omega
  · simp only [if_neg hv]; omega
theorem adjust_gen (lo hi : Option Int) (n : Nat) : Builtin.Slice.sliceAdjust lo hi 1 (n : Int) = (((sIx n 0 lo : Nat) : Int), ((sIx n n hi : Nat) : Int)) := by
  have h1 : ¬ ((1 : Int) < 0) := by omega
  unfold Builtin.Slice.sliceAdjust
  simp only [h1, if_false]
  refine Prod.ext ?_ ?_
  · cases lo with
    | none => rfl
    | some v => exact clip_eq v n 0
  · cases hi with
    | none => rfl
    | some v => exact clip_eq v n n
theorem places_gen (i j : Nat) : Builtin.Slice.slicePlaces (i : Int) (j : Int) 1 = j - i := by
  unfold Builtin.Slice.slicePlaces
  have h1 : (1 : Int) > 0 := by omega
  simp only [h1, if_true, Int.ediv_one]
  split <;> omega
theorem slicePart_ {v : Value} {o : Option Int} {Q : Option Int → Shared → Prop} (p : IsPart v o) (h : Q o s) : wpAny (model prog w) A (Builtin.Slice.slicePartIndex v) Q E s := by
  cases p with
  | none => exact slicePart_none h
  | int i t => exact slicePart_int h
theorem sliceApplied_gen {sl : Addr} {vl vu : Value} {lo hi : Option Int} {n : Nat} {Q : Int × Int × Nat → Shared → Prop} (hs : s.heap.IsSliceOf sl vl vu .none) (pl : IsPart vl lo) (pu : IsPart vu hi)
    (h : Q (((sIx n 0 lo : Nat) : Int), 1, sIx n n hi - sIx n 0 lo) s) : wpAny (model prog w) A (Builtin.Slice.sliceApplied (.ref sl) (pure (n : Int))) Q E s := by
  obtain ⟨os, hos, hcs, hds⟩ := id hs
  unfold Builtin.Slice.sliceApplied Builtin.Slice.sliceFields
  refine wpAny_bind (wpAny_bind (wpAny_field hos hds (x := vl) rfl (wpAny_bind (wpAny_field hos hds (x := vu) rfl (wpAny_bind (wpAny_field hos hds (x := .none) rfl (wpAny_pure ?_)))))))
  refine wpAny_bind (slicePart_none ?_)
  show wpAny _ _ (if ((1 : Int) == 0) = true then _ else _) _ _ s
  rw [if_neg (by decide)]
  refine wpAny_bind (slicePart_ pl (wpAny_bind (slicePart_ pu (wpAny_bind (wpAny_pure ?_)))))
  show wpAny _ _ (match Builtin.Slice.sliceAdjust lo hi 1 (n : Int) with | (lo, hi) => pure (lo, (1 : Int), Builtin.Slice.slicePlaces lo hi 1)) _ _ s
  rw [adjust_gen lo hi n]
  show wpAny _ _ (pure (((sIx n 0 lo : Nat) : Int), (1 : Int), Builtin.Slice.slicePlaces ((sIx n 0 lo : Nat) : Int) ((sIx n n hi : Nat) : Int) 1)) _ _ s
  rw [places_gen]
  exact wpAny_pure h
theorem pick_gen (xs : Array Value) (i k : Nat) : ((List.range k).filterMap fun (m : Nat) => xs[((i : Int) + (m : Int) * 1).toNat]?).toArray = ((xs.toList.drop i).take k).toArray := by
  have e : (fun (m : Nat) => xs[((i : Int) + (m : Int) * 1).toNat]?) = fun m => xs[i + m]? := by
    funext m
    have : ((i : Int) + (m : Int) * 1).toNat = i + m := by omega
    rw [this]
  rw [e]
  have := pick_run xs i k
  rw [List.filterMap_map] at this
  have e2 : ((fun x => xs[x]?) ∘ fun x => i + x) = fun m => xs[i + m]? := rfl
  rw [e2] at this
  rw [this]
theorem getItem_tuple_cut {t sl : Addr} {items : Array Value} {vl vu : Value} {lo hi : Option Int} {Q : Value → Shared → Prop} (ht : IsTup s.heap t items) (hs : s.heap.IsSliceOf sl vl vu .none) (pl : IsPart vl lo) (pu : IsPart vu hi)
    (hw : ¬ (sIx items.size 0 lo = 0 ∧ sIx items.size items.size hi = items.size))
    (h : Q (.ref s.heap.objs.size) { s with heap := s.heap.push { cls := .type "tuple", data := .seq ((items.toList.drop (sIx items.size 0 lo)).take (sIx items.size items.size hi - sIx items.size 0 lo)).toArray } })
    (hsz : items.size ≤ sizeLine) : wpAny (model prog w) A (getItem (.ref t) (.ref sl)) Q E s := by
  have htake : sizeOk (.seq ((items.toList.drop (sIx items.size 0 lo)).take (sIx items.size items.size hi - sIx items.size 0 lo)).toArray) := by
    show ((items.toList.drop (sIx items.size 0 lo)).take (sIx items.size items.size hi - sIx items.size 0 lo)).toArray.size ≤ sizeLine
    rw [List.size_toArray, List.length_take, List.length_drop, Array.length_toList]
    omega
  have hj : sIx items.size items.size hi ≤ items.size := sIx_le _ _ (Nat.le_refl _) hi
  obtain ⟨os, hos, hcs, hds⟩ := id hs
  have hTs : s.TypeIs (.ref sl) "slice" := ⟨os, hos, hcs⟩
  unfold getItem
  try with_reducible refine wpAny_holding ?_
  first | refine wpAny_bind (wpAny_pure ?_) | skip
  refine wpAny_bind (wpAny_sequenceKey ht.typeIs (by decide) ?_)
  refine wpAny_bind (wpAny_callSpecial?_slot (name := Str.ofString "__getitem__") ht.typeIs PyProof.Rows.slot_tuple_getitem
    (wpAny_call_entry PyProof.Rows.slot_tuple_getitem ht.typeIs entry_tuple_getitem ?_ (args_tuple_getitem _ _)))
  show wpAny _ _ (Builtin.Tuple.tupleItemsOf (.ref t) >>= _) _ _ s
  refine wpAny_bind (tupleItemsOf_ ht ?_)
  refine wpAny_bind (wpAny_typeOf hTs ?_)
  rw [if_pos (by decide)]
  refine wpAny_bind (sliceApplied_gen hs pl pu ?_)
  have hno : ¬ ((((sIx items.size 0 lo : Nat) : Int) == 0 && (1 : Int) == 1 && (sIx items.size items.size hi - sIx items.size 0 lo) == items.size) = true) := by
    intro q
    rw [Bool.and_eq_true, Bool.and_eq_true] at q
    have q1 : ((sIx items.size 0 lo : Nat) : Int) = 0 := eq_of_beq q.1.1
    have q2 : sIx items.size items.size hi - sIx items.size 0 lo = items.size := eq_of_beq q.2
    exact hw ⟨by omega, by omega⟩
  show wpAny _ _ (if (((sIx items.size 0 lo : Nat) : Int) == 0 && (1 : Int) == 1 && (sIx items.size items.size hi - sIx items.size 0 lo) == items.size) = true then _ else _) _ _ s
  rw [if_neg hno, pick_gen]
  first
    | exact wpAny_bind (m := Builtin.Tuple.tupleExact _) (wpAny_newObj_type (wpAny_pure ⟨_, rfl, wpAny_pure h⟩) htake)
    | exact wpAny_bind (m := Builtin.Tuple.tupleExact _) (wpAny_newObj_type (wpAny_bind (wpAny_pure (wpAny_pure ⟨_, rfl, wpAny_pure h⟩))) htake)
    | exact wpAny_bind (wpAny_bind (m := Builtin.Tuple.tupleExact _) (wpAny_newObj_type (wpAny_pure (wpAny_pure ⟨_, rfl, wpAny_pure h⟩)) htake))
    | exact wpAny_bind (wpAny_bind (m := Builtin.Tuple.tupleExact _) (wpAny_newObj_type (wpAny_pure ⟨_, rfl, wpAny_pure h⟩) htake))
end
end HT
namespace L2
open PySem PySem.Spec PyProof.Rows
/-! ### the parts of a slice -/
abbrev TO := St → Hp → (Option Int → Hp → Prop) → Prop
/-- a slice's part (left out, or an int) -/
def PO (X : Cx) (e : Option Expr) (t : TO) : Prop :=
  ∀ (pins : List (Addr × Obj)) (s : Shared) (σ : St) (H : Hp) (Q : Option Int → Hp → Prop), Inv X pins σ H s → t σ H Q →
    wpAny (model X.prog X.w) X.A (evalPart e X.env) (fun u s' => ∃ o H', Inv X pins σ H' s' ∧ IsPart u o ∧ Q o H') X.xe s
def tNoPart : TO := fun _ H Q => Q none H
def tPart (t : TE) : TO := fun σ H Q => t σ H fun x H1 => ∃ i, x = .int i ∧ Q (some i) H1
theorem intsAre_of {ns : List Int} : ∀ {us : List Value}, Vals (ns.map V.int) us → IntsAre us ns := by
  induction ns with
  | nil => intro us r; rw [List.map_nil] at r; cases r; exact .nil
  | cons n ns ih =>
    intro us r
    rw [List.map_cons] at r
    cases r with
    | cons r1 r2 =>
      obtain ⟨t, e⟩ := r1
      subst e
      exact .cons n t (ih r2)
section
variable {X : Cx} {e : Expr} {te : TE} {lo hi : Option Expr} {tl th : TO} {pos p2 : Pos}
theorem po_none : PO X none tNoPart := by
  intro pins s σ H Q I h
  rw [evalPart_none]
  exact wpAny_pure ⟨none, H, I, .none, h⟩
theorem po_some (h : PE X e te) : PO X (some e) (tPart te) := by
  intro pins s σ H Q I hw
  rw [evalPart_some]
  refine thn (h pins s σ H _ I hw) fun u s1 ⟨x, H1, I1, r1, q1⟩ => ?_
  obtain ⟨i, rfl, q⟩ := q1
  obtain ⟨t, rfl⟩ := r1
  exact ⟨some i, H1, I1, .int i t, q⟩
/-- what a slice of a value is, by values: the slice object stands at sl -/
def SlR (X : Cx) (r : V → Option Int → Option Int → Hp → VK → Prop) : Prop :=
  ∀ (pins : List (Addr × Obj)) (s : Shared) (σ : St) (H : Hp) (x : V) (v vl vu : Value) (lo hi : Option Int) (sl : Addr) (Q : VK), Inv X pins σ H s → RelV x v → s.heap.IsSliceOf sl vl vu .none → IsPart vl lo → IsPart vu hi → r x lo hi H Q →
    ∃ T id, typeLookup (.type T) "__getitem__" = pure (some (.builtin id)) ∧ s.TypeIs v T ∧ wpAny (model X.prog X.w) X.A (getItem v (.ref sl)) (EP X pins σ Q) X.xe s
def tSl (r : V → Option Int → Option Int → Hp → VK → Prop) (te : TE) (tl th : TO) : TE := fun σ H Q => te σ H fun x H1 => tl σ H1 fun l H2 => th σ H2 fun u H3 => r x l u H3 Q
/-- a[lo:hi], any a -/
theorem pe_slice {r : V → Option Int → Option Int → Hp → VK → Prop} (hr : SlR X r) (he : PE X e te) (hl : PO X lo tl) (hu : PO X hi th) : PE X (.Subscript e (.Slice lo hi none p2) pos) (tSl r te tl th) := by
  intro pins s σ H Q I h
  refine Subscript_ (thn (he pins s σ H _ I h) fun v s1 ⟨x, H1, I1, r1, q1⟩ => ?_)
  refine wpAny_Slice (thn (hl pins s1 σ H1 _ I1 q1) fun vl s2 ⟨l, H2, I2, pl, q2⟩ => thn (hu pins s2 σ H2 _ I2 q2) fun vu s3 ⟨u, H3, I3, pu, q3⟩ => ?_)
  rw [evalPart_none]
  refine wpAny_pure ?_
  have I4 : Inv X pins σ H3 { s3 with heap := s3.heap.push { cls := .type "slice", data := .fields #[vl, vu, .none] } } := I3.kept (t' := s3.toks) fun b ob q => Heap.get?_push_of_some _ q
  obtain ⟨T, id, hT, ht, hg⟩ := hr pins { s3 with heap := s3.heap.push { cls := .type "slice", data := .fields #[vl, vu, .none] } } σ H3 x v vl vu l u s3.heap.objs.size Q I4 r1 (Heap.IsSliceOf.new ..) pl pu q3
  show wpAny (model X.prog X.w) X.A (subscriptTail e (.Slice lo hi none p2) v (.ref s3.heap.objs.size)) (EP X pins σ Q) X.xe { s3 with heap := s3.heap.push { cls := .type "slice", data := .fields #[vl, vu, .none] } }
  exact tail_any (ops := [.ref s3.heap.objs.size, v]) ht hT hg (by with_unfolding_all rfl)
/-- the items of xs[lo:hi] -/
def cutV (xs : List V) (lo hi : Option Int) : List V := (xs.drop (HT.sIx xs.length 0 lo)).take (HT.sIx xs.length xs.length hi - HT.sIx xs.length 0 lo)
theorem cutV_length (xs : List V) (lo hi : Option Int) : (cutV xs lo hi).length ≤ xs.length := by
  unfold cutV
  rw [List.length_take, List.length_drop]
  omega
/-- t[lo:hi], not the whole of it (the whole would be t itself) -/
def rSlT (K : PySem.W.Frag) : V → Option Int → Option Int → Hp → VK → Prop := fun x lo hi H Q => ∃ a xs, x = .ref a ∧ SqT K H a xs ∧
  ¬ (HT.sIx xs.length 0 lo = 0 ∧ HT.sIx xs.length xs.length hi = xs.length) ∧ ∀ p, H p = none → Q (.ref p) (upd H p (.tup (cutV xs lo hi)))
theorem sl_tup : SlR X (rSlT X.K) := by
  intro pins s σ H x v vl vu lo hi sl Q I rx hs pl pu h
  obtain ⟨a, xs, rfl, hx, hw, q⟩ := h
  cases rx
  obtain ⟨its, r, ht, hz⟩ := I.tuple hx
  have hlen : its.toArray.size = xs.length := by rw [List.size_toArray]; exact r.length.symm
  refine ⟨"tuple", _, PyProof.Rows.slot_tuple_getitem.lookup, ht.typeIs, ?_⟩
  refine HT.getItem_tuple_cut ht hs pl pu (by rw [hlen]; exact hw) ?_ (by rw [hlen]; exact hz)
  rw [hlen]
  refine ⟨.ref s.heap.objs.size, _, I.laid (t' := s.toks) (o := .tup (cutV xs lo hi)) (fun b ob q => Heap.get?_push_of_some _ q) (Nat.le_refl _) ?_, rfl, q _ (I.hok.fresh (Nat.le_refl _))⟩
  exact ⟨Nat.le_trans (cutV_length xs lo hi) hz, _, (r.drop (HT.sIx xs.length 0 lo)).take (HT.sIx xs.length xs.length hi - HT.sIx xs.length 0 lo), IsTup.new _ _⟩
/-! ### t < u, t + u -/
/-- t + u, t not empty: u empty gives t itself -/
def rCatT (K : PySem.W.Frag) : R2 := fun x y H Q => ∃ a b xs ys, x = .ref a ∧ y = .ref b ∧ SqT K H a xs ∧ SqT K H b ys ∧ xs ≠ [] ∧ xs.length + ys.length ≤ sizeLine ∧
  (ys = [] → Q (.ref a) H) ∧ (ys ≠ [] → ∀ p, H p = none → Q (.ref p) (upd H p (.tup (xs ++ ys))))
theorem Vals.nil_iff {xs : List V} {us : List Value} (r : Vals xs us) : us = [] ↔ xs = [] := by
  cases r with
  | nil => simp
  | cons _ _ => simp
theorem op_catT : OpR X (binaryOp .Add) (rCatT X.K) := by
  intro pins s σ H x y v u Q I rx ry h
  obtain ⟨a, b, xs, ys, rfl, rfl, ha, hb, hx, hz, q1, q2⟩ := h
  cases rx
  cases ry
  obtain ⟨its, r1, p1, _⟩ := I.tuple ha
  obtain ⟨its2, r2, p2, _⟩ := I.tuple hb
  refine HT.cat_tup p1 p2 (fun z => hx (r1.nil_iff.mp z)) (fun z => ⟨.ref a, H, I, rfl, q1 (r2.nil_iff.mp z)⟩) (fun z => ?_) (by rw [← r1.length, ← r2.length]; exact hz)
  refine ⟨.ref s.heap.objs.size, _, I.laid (t' := s.toks) (o := .tup (xs ++ ys)) (fun b ob q => Heap.get?_push_of_some _ q) (Nat.le_refl _) ?_, rfl, q2 (fun w => z (r2.nil_iff.mpr w)) _ (I.hok.fresh (Nat.le_refl _))⟩
  exact ⟨by rw [List.length_append]; exact hz, _, r1.append r2, IsTup.new _ _⟩
end
end L2
namespace L2
open PySem PySem.Spec PyProof.Rows
/-! ### places -/
/-- the place that an index of any sign means -/
def ixN (n : Nat) (i : Int) : Option Nat := if 0 ≤ i then (if i < n then some i.toNat else none) else if -(n : Int) ≤ i then some (i + n).toNat else none
def atI {α : Type} (xs : List α) (i : Int) : Option α := (ixN xs.length i).bind fun j => xs[j]?
theorem ixN_seq {n : Nat} {i : Int} {j : Nat} (h : ixN n i = some j) : seqIndex? i n = some j ∧ j < n ∧ -(n : Int) ≤ i ∧ i < n := by
  unfold ixN at h
  by_cases h0 : 0 ≤ i
  · rw [if_pos h0] at h
    by_cases h1 : i < n
    · rw [if_pos h1] at h
      have e : i.toNat = j := Option.some.inj h
      exact ⟨by rw [seqIndex_of h0 h1, e], by omega, by omega, h1⟩
    · rw [if_neg h1] at h; cases h
  · rw [if_neg h0] at h
    by_cases h1 : -(n : Int) ≤ i
    · rw [if_pos h1] at h
      have e : (i + n).toNat = j := Option.some.inj h
      exact ⟨by rw [seqIndex_neg (by omega) h1, e], by omega, h1, by omega⟩
    · rw [if_neg h1] at h; cases h
theorem atI_get {α : Type} {xs : List α} {i : Int} {v : α} (h : atI xs i = some v) : ∃ j, seqIndex? i xs.length = some j ∧ xs[j]? = some v ∧ j < xs.length ∧ -(xs.length : Int) ≤ i ∧ i < xs.length := by
  unfold atI at h
  cases e : ixN xs.length i with
  | none => rw [e] at h; cases h
  | some j =>
    rw [e] at h
    obtain ⟨h1, h2, h3, h4⟩ := ixN_seq e
    exact ⟨j, h1, h, h2, h3, h4⟩
theorem atI_nat {α : Type} {xs : List α} {j : Nat} {v : α} (h : xs[j]? = some v) : atI xs (j : Int) = some v := by
  have hj : j < xs.length := (List.getElem?_eq_some_iff.mp h).1
  have e : ixN xs.length (j : Int) = some j := by
    unfold ixN
    rw [if_pos (by omega), if_pos (by omega)]; simp
  unfold atI; rw [e]; exact h
/-! ### what may be subscripted -/
/-- what stands as an index of a plain subscript -/
def PlainIx (b : Expr) : Prop := ∀ o i, subscripted b false o i = operate [o, i] (getItem o i)
/-- a subscript by values -/
def IxR (X : Cx) (r : R2) : Prop :=
  ∀ (value slice : Expr) (pins : List (Addr × Obj)) (s : Shared) (σ : St) (H : Hp) (x y : V) (v u : Value) (Q : VK), Inv X pins σ H s → RelV x v → RelV y u → r x y H Q →
    subscripted slice false v u = operate [v, u] (getItem v u) → wpAny (model X.prog X.w) X.A (subscriptTail value slice v u) (EP X pins σ Q) X.xe s
/-- a call of a builtin's method by values: the receiver, the arguments -/
def MtR (X : Cx) (id : String) (r : V → List V → Hp → VK → Prop) : Prop :=
  ∀ (pins : List (Addr × Obj)) (s : Shared) (σ : St) (H : Hp) (x : V) (xs : List V) (v : Value) (us : List Value) (Q : VK), Inv X pins σ H s → RelV x v → Vals xs us → r x xs H Q →
    wpAny (model X.prog X.w) X.A (call (.builtin id) (v :: us)) (EP X pins σ Q) X.xe s
section
variable {X : Cx} {a b : Expr} {ta tb : TE} {pos : Pos}
theorem IxR.or {r r' : R2} (h : IxR X r) (h' : IxR X r') : IxR X (fun x y H Q => r x y H Q ∨ r' x y H Q) := by
  intro value slice pins s σ H x y v u Q I rx ry q hs
  rcases q with q | q
  · exact h value slice pins s σ H x y v u Q I rx ry q hs
  · exact h' value slice pins s σ H x y v u Q I rx ry q hs
/-- a[b] -/
theorem pe_ix {r : R2} (hr : IxR X r) (ha : PE X a ta) (hb : PE X b tb) (hs : PlainIx b) : PE X (.Subscript a b pos) (tOp r ta tb) := by
  intro pins s σ H Q I h
  exact Subscript_ (binT ha hb I h fun v u s2 x y H2 I2 rx ry q => hr a b pins s2 σ H2 x y v u Q I2 rx ry q (hs _ _))
def rIxL (K : PySem.W.Frag) : R2 := fun x y H Q => ∃ p xs i v, x = .ref p ∧ y = .int i ∧ SqL K H p xs ∧ atI xs i = some v ∧ Q v H
def rIxT (K : PySem.W.Frag) : R2 := fun x y H Q => ∃ p xs i v, x = .ref p ∧ y = .int i ∧ SqT K H p xs ∧ atI xs i = some v ∧ Q v H
def rIxS : R2 := fun x y H Q => ∃ z i c, x = .str z ∧ y = .int i ∧ z.length ≤ sizeLine ∧ atI z.cps.toList i = some c ∧ Q (.str ⟨#[c]⟩) H
theorem ix_list : IxR X (rIxL X.K) := by
  intro value slice pins s σ H x y v u Q I rx ry h hs
  obtain ⟨p, xs, i, z, rfl, rfl, hq, he, q⟩ := h
  cases rx
  obtain ⟨t, rfl⟩ := ry
  obtain ⟨its, r, pl, hz⟩ := I.list hq
  obtain ⟨j, h1, h2, h3, h4, h5⟩ := atI_get he
  obtain ⟨w, ew, rw'⟩ := r.get h2
  have hl := r.length
  have hn := line63
  have fin : EP X pins σ Q w s := ⟨z, H, I, rw', q⟩
  by_cases h0 : 0 ≤ i
  · have hj : i.toNat = j := by
      rw [seqIndex_of h0 h5] at h1
      exact Option.some.inj h1
    exact item_listR pl.isList h0 (by omega) (by rw [hj]; simpa using ew) fin hs
  · have hj : (i + (its.toArray.size : Int)).toNat = j := by
      rw [seqIndex_neg (by omega) h4] at h1
      rw [List.size_toArray, ← hl]
      exact Option.some.inj h1
    exact subscriptTail_builtinR (x := w) pl.isList.typeIs slot_list_getitem.lookup
      (wpAny_getItem_list_neg (Q := fun r s' => r = w ∧ EP X pins σ Q r s') pl.isList (by omega) (by rw [List.size_toArray] <;> omega) (by omega) (by rw [hj]; simpa using ew) ⟨rfl, fin⟩) hs
theorem ix_tup : IxR X (rIxT X.K) := by
  intro value slice pins s σ H x y v u Q I rx ry h hs
  obtain ⟨p, xs, i, z, rfl, rfl, hq, he, q⟩ := h
  cases rx
  obtain ⟨t, rfl⟩ := ry
  obtain ⟨its, r, pl, hz⟩ := I.tuple hq
  obtain ⟨j, h1, h2, h3, h4, h5⟩ := atI_get he
  obtain ⟨w, ew, rw'⟩ := r.get h2
  have hl := r.length
  have hn := line63
  have fin : EP X pins σ Q w s := ⟨z, H, I, rw', q⟩
  exact subscriptTail_builtinR (x := w) pl.typeIs slot_tuple_getitem.lookup
    (getItem_tuple (j := j) (Q := fun r s' => r = w ∧ EP X pins σ Q r s') pl (by omega) (by omega) (by rw [List.size_toArray, ← hl]; exact h1) (by simpa using ew) ⟨rfl, fin⟩) hs
theorem ix_str : IxR X rIxS := by
  intro value slice pins s σ H x y v u Q I rx ry h hs
  obtain ⟨z, i, c, rfl, rfl, hz, he, q⟩ := h
  obtain ⟨t, rfl⟩ := rx
  obtain ⟨t', rfl⟩ := ry
  obtain ⟨j, h1, h2, h3, h4, h5⟩ := atI_get he
  have hl : z.cps.toList.length = z.length := by simp [Str.length]
  rw [hl] at h1 h4 h5
  have hn := line63
  exact tail_any (typeIs_str s z t) slot_str_getitem.lookup (getItem_str (c := c) (by
    have e1 : decide (i < -(2 ^ 63 : Int)) = false := decide_eq_false (by omega)
    have e2 : decide (i ≥ 2 ^ 63) = false := decide_eq_false (by omega)
    rw [e1, e2, Bool.or_false]) (by rw [h1]; simpa using h2) ⟨.str ⟨#[c]⟩, H, I.tok _, ⟨_, rfl⟩, q⟩) hs
/-! ### xs[i] = v, any sign -/
def rSetL : V → V → V → Hp → (Hp → Prop) → Prop := fun o i v H Q => ∃ p xs k j, o = .ref p ∧ i = .int k ∧ H p = some (.lst xs) ∧ ixN xs.length k = some j ∧ Q (upd H p (.lst (xs.set j v)))
/-! ### slices -/
theorem slice_bounds (lo hi : Option Int) (n : Nat) : (sliceBounds lo hi none n).1 = ((HT.sIx n 0 lo : Nat) : Int) ∧ (sliceBounds lo hi none n).2.1 = ((HT.sIx n n hi : Nat) : Int) ∧ (sliceBounds lo hi none n).2.2 = 1 := by
  refine ⟨?_, ?_, rfl⟩
  · cases lo with
    | none => simp [sliceBounds, HT.sIx]
    | some i =>
      simp only [sliceBounds, HT.sIx, Option.getD_none, show (1 : Int) > 0 by decide, if_true]
      by_cases h : i < 0
      · simp only [h, if_true] <;> omega
      · simp only [h, if_false] <;> omega
  · cases hi with
    | none => simp [sliceBounds, HT.sIx]
    | some i =>
      simp only [sliceBounds, HT.sIx, Option.getD_none, show (1 : Int) > 0 by decide, if_true]
      by_cases h : i < 0
      · simp only [h, if_true] <;> omega
      · simp only [h, if_false] <;> omega
theorem slicePick_cut (its : List Value) (lo hi : Option Int) : slicePick its.toArray lo hi none = ((its.drop (HT.sIx its.length 0 lo)).take (HT.sIx its.length its.length hi - HT.sIx its.length 0 lo)).toArray := by
  obtain ⟨h1, h2, h3⟩ := slice_bounds lo hi its.toArray.size
  unfold slicePick
  rw [h1, h2, h3]
  simp only [sliceRange_one, pick_run, List.size_toArray] <;> rfl
/-- xs[lo:hi] of a list: a new list -/
def rSlL (K : PySem.W.Frag) : V → Option Int → Option Int → Hp → VK → Prop := fun x lo hi H Q => ∃ a xs, x = .ref a ∧ SqL K H a xs ∧ ∀ p, H p = none → Q (.ref p) (upd H p (.lst (cutV xs lo hi)))
theorem sl_list : SlR X (rSlL X.K) := by
  intro pins s σ H x v vl vu lo hi sl Q I rx hs pl pu h
  obtain ⟨a, xs, rfl, hx, q⟩ := h
  cases rx
  obtain ⟨its, r, ht, hz⟩ := I.list hx
  have hlen := r.length
  refine ⟨"list", _, slot_list_getitem.lookup, ht.isList.typeIs, ?_⟩
  refine wpAny_getItem_list_slice ht.isList hs pl pu .none (by simp) ?_ (by rw [List.size_toArray] <;> omega)
  rw [slicePick_cut, ← hlen]
  refine ⟨.ref s.heap.objs.size, _, I.laid (t' := s.toks) (o := .lst (cutV xs lo hi)) (fun b ob q => Heap.get?_push_of_some _ q) (Nat.le_refl _) ?_, rfl, q _ (I.hok.fresh (Nat.le_refl _))⟩
  exact ⟨Nat.le_trans (cutV_length xs lo hi) hz, _, 0, (r.drop (HT.sIx xs.length 0 lo)).take (HT.sIx xs.length xs.length hi - HT.sIx xs.length 0 lo), Heap.get?_push_size _ rfl⟩
/-! ### in, not in: flat items -/
def flatV : V → Bool
  | .non => true
  | .bl _ => true
  | .int _ => true
  | .str _ => true
  | _ => false
/-- == of flat values -/
def eqV : V → V → Bool
  | .non, .non => true
  | .bl a, .bl b => a == b
  | .bl a, .int b => (if a then 1 else 0) == b
  | .int a, .bl b => a == (if b then 1 else 0)
  | .int a, .int b => a == b
  | .str a, .str b => a == b
  | _, _ => false
theorem eqAt_V {A : Around} {s : Shared} {y x : V} {u v : Value} (ry : RelV y u) (rx : RelV x v) (fy : flatV y = true) (fx : flatV x = true) : SeqAt.EqAt A s u v (eqV y x) := by
  cases y with
  | non =>
    cases ry
    cases x with
    | non => cases rx; exact SeqAt.EqAt.same _
    | bl b => cases rx; exact SeqAt.EqAt.none_bool b
    | int b => obtain ⟨t, rfl⟩ := rx; exact SeqAt.EqAt.none_int b t
    | str b => obtain ⟨t, rfl⟩ := rx; exact SeqAt.EqAt.none_str b t
    | _ => exact absurd (show false = true from fx) Bool.false_ne_true
  | bl a =>
    cases ry
    cases x with
    | non => cases rx; exact SeqAt.EqAt.bool_none a
    | bl b => cases rx; exact SeqAt.EqAt.bool_bool a b
    | int b => obtain ⟨t, rfl⟩ := rx; exact SeqAt.EqAt.bool_int a b t
    | str b => obtain ⟨t, rfl⟩ := rx; exact SeqAt.EqAt.bool_str a b t
    | _ => exact absurd (show false = true from fx) Bool.false_ne_true
  | int a =>
    obtain ⟨t', rfl⟩ := ry
    cases x with
    | non => cases rx; exact SeqAt.EqAt.int_none a t'
    | bl b => cases rx; exact SeqAt.EqAt.int_bool a t' b
    | int b => obtain ⟨t, rfl⟩ := rx; exact SeqAt.EqAt.int_int a t' b t
    | str b => obtain ⟨t, rfl⟩ := rx; exact SeqAt.EqAt.int_str a t' b t
    | _ => exact absurd (show false = true from fx) Bool.false_ne_true
  | str a =>
    obtain ⟨t', rfl⟩ := ry
    cases x with
    | non => cases rx; exact SeqAt.EqAt.str_none a t'
    | bl b => cases rx; exact SeqAt.EqAt.str_bool a t' b
    | int b => obtain ⟨t, rfl⟩ := rx; exact SeqAt.EqAt.str_int a t' b t
    | str b => obtain ⟨t, rfl⟩ := rx; exact SeqAt.EqAt.str_str a t' b t
    | _ => exact absurd (show false = true from fx) Bool.false_ne_true
  | _ => exact absurd (show false = true from fy) Bool.false_ne_true
/-- the items' answers, read off the values (a value's own answer does not lean on its token) -/
def eqU (x : V) (u : Value) : Bool := match u with
  | .none => eqV .non x
  | .bool b => eqV (.bl b) x
  | .int i _ => eqV (.int i) x
  | .str z _ => eqV (.str z) x
  | _ => false
theorem eqU_of {x y : V} {u : Value} (r : RelV y u) (f : flatV y = true) : eqU x u = eqV y x := by
  cases y with
  | non => cases r; rfl
  | bl b => cases r; rfl
  | int i => obtain ⟨t, rfl⟩ := r; rfl
  | str z => obtain ⟨t, rfl⟩ := r; rfl
  | _ => exact absurd (show false = true from f) Bool.false_ne_true
theorem any_eqU {x : V} : ∀ {xs : List V} {us : List Value}, Vals xs us → xs.all flatV = true → us.any (eqU x) = xs.any fun y => eqV y x
  | _, _, .nil, _ => rfl
  | y :: xs, u :: us, .cons r t, f => by
    rw [List.all_cons, Bool.and_eq_true] at f
    rw [List.any_cons, List.any_cons, eqU_of r f.1, any_eqU t f.2]
theorem mem_eqAt {A : Around} {s : Shared} {x : V} {v : Value} (rx : RelV x v) (fx : flatV x = true) : ∀ {xs : List V} {us : List Value}, Vals xs us → xs.all flatV = true → ∀ u ∈ us, SeqAt.EqAt A s u v (eqU x u)
  | _, _, .nil, _ => fun u hu => by cases hu
  | y :: xs, u :: us, .cons r t, f => fun u' hu => by
    rw [List.all_cons, Bool.and_eq_true] at f
    rcases List.mem_cons.mp hu with rfl | hu
    · rw [eqU_of r f.1]; exact eqAt_V r rx f.1 fx
    · exact mem_eqAt rx fx t f.2 u' hu
def inV (x : V) (xs : List V) : Bool := xs.any fun y => eqV y x
/-- x in a list or tuple of flat items -/
def rIn (K : PySem.W.Frag) (neg : Bool) : R2 := fun x y H Q => ∃ p xs, y = .ref p ∧ (SqL K H p xs ∨ SqT K H p xs) ∧ flatV x = true ∧ xs.all flatV = true ∧ Q (.bl (if neg then !inV x xs else inV x xs)) H
theorem op_in_seq : OpR X (compareOp .In) (rIn X.K false) := by
  intro pins s σ H x y v u Q I rx ry h
  obtain ⟨p, xs, rfl, hq, fx, fs, q⟩ := h
  cases ry
  rcases hq with hq | hq
  · obtain ⟨its, r, pl, hz⟩ := I.list hq
    refine SeqAt.in_listAt (eqU x) pl.isList (fun w hw => mem_eqAt rx fx r fs w (by simpa using hw)) ⟨.bl _, H, I, rfl, ?_⟩
    rw [show its.toArray.any (eqU x) = its.any (eqU x) by simp, any_eqU r fs]
    exact q
  · obtain ⟨its, r, pl, hz⟩ := I.tuple hq
    refine SeqAt.in_tupleAt (eqU x) pl (fun w hw => mem_eqAt rx fx r fs w (by simpa using hw)) ⟨.bl _, H, I, rfl, ?_⟩
    rw [show its.toArray.any (eqU x) = its.any (eqU x) by simp, any_eqU r fs]
    exact q
theorem op_notIn_seq : OpR X (compareOp .NotIn) (rIn X.K true) := by
  intro pins s σ H x y v u Q I rx ry h
  obtain ⟨p, xs, rfl, hq, fx, fs, q⟩ := h
  cases ry
  rcases hq with hq | hq
  · obtain ⟨its, r, pl, hz⟩ := I.list hq
    refine SeqAt.notIn_listAt (eqU x) pl.isList (fun w hw => mem_eqAt rx fx r fs w (by simpa using hw)) ⟨.bl _, H, I, rfl, ?_⟩
    rw [show its.toArray.any (eqU x) = its.any (eqU x) by simp, any_eqU r fs]
    exact q
  · obtain ⟨its, r, pl, hz⟩ := I.tuple hq
    refine SeqAt.notIn_tupleAt (eqU x) pl (fun w hw => mem_eqAt rx fx r fs w (by simpa using hw)) ⟨.bl _, H, I, rfl, ?_⟩
    rw [show its.toArray.any (eqU x) = its.any (eqU x) by simp, any_eqU r fs]
    exact q
/-! ### len, list(x), tuple(x) of any list or tuple that is read -/
theorem CallR.or {f : Value} {r r' : List V → Hp → VK → Prop} (h : CallR X f r) (h' : CallR X f r') : CallR X f (fun xs H Q => r xs H Q ∨ r' xs H Q) := by
  intro pins s σ H xs us Q I rs q
  rcases q with q | q
  · exact h pins s σ H xs us Q I rs q
  · exact h' pins s σ H xs us Q I rs q
theorem call_list_of : CallR X (.type "list") (fun xs H Q => ∃ p ys, xs = [.ref p] ∧ (SqL X.K H p ys ∨ SqT X.K H p ys) ∧ ∀ l, H l = none → Q (.ref l) (upd H l (.lst ys))) := by
  intro pins s σ H xs us Q I r h
  obtain ⟨p, ys, rfl, hq, q⟩ := h
  obtain ⟨u, rfl, rx⟩ := vals1 r
  cases rx
  have fin : ∀ (its : List Value), Vals ys its → ys.length ≤ sizeLine → ∀ (h' : Heap) (c' : Nat), (∀ b o', s.heap.get? b = some o' → h'.get? b = some o') →
      h'.get? s.heap.objs.size = some { cls := .type "list", dict := none, data := .seq its.toArray c', slots := #[] } → EP X pins σ Q (.ref s.heap.objs.size) { s with heap := h' } := fun its r' hz h' c' kp e =>
    ⟨.ref s.heap.objs.size, _, I.laid (t' := s.toks) kp (Nat.le_refl _) (show ObjOk X.prog X.w _ h' _ (.lst ys) from ⟨hz, its, c', r', e⟩), rfl, q _ (I.hok.fresh (Nat.le_refl _))⟩
  rcases hq with hq | hq
  · obtain ⟨its, r', pl, hz⟩ := I.list hq
    have hlen := r'.length
    obtain ⟨o, ho, hc, n, hd⟩ := pl.isList
    exact call_list_seq p (.inl rfl) ho hc hd (fun h' c' kp e => fin its r' hz h' c' kp e) (by simp only [List.size_toArray] <;> omega)
  · obtain ⟨its, r', pl, hz⟩ := I.tuple hq
    have hlen := r'.length
    obtain ⟨o, ho, hc, n, hd⟩ := pl
    exact call_list_seq p (.inr rfl) ho hc hd (fun h' c' kp e => fin its r' hz h' c' kp e) (by simp only [List.size_toArray] <;> omega)
theorem call_tuple_of : CallR X (.type "tuple") (fun xs H Q => ∃ p ys, xs = [.ref p] ∧ ((SqL X.K H p ys ∧ ∀ l, H l = none → Q (.ref l) (upd H l (.tup ys))) ∨ (SqT X.K H p ys ∧ Q (.ref p) H))) := by
  intro pins s σ H xs us Q I r h
  obtain ⟨p, ys, rfl, h⟩ := h
  obtain ⟨u, rfl, rx⟩ := vals1 r
  cases rx
  rcases h with ⟨hq, q⟩ | ⟨hq, q⟩
  · obtain ⟨its, r', pl, hz⟩ := I.list hq
    have hlen := r'.length
    refine call_tuple_list pl.isList (fun h' kp => ?_) (by simp only [List.size_toArray] <;> omega)
    have I1 : Inv X pins σ H { s with heap := h' } := I.kept (t' := s.toks) kp
    have I2 : Inv X pins σ (upd H h'.objs.size (.tup ys)) { s with heap := h'.push { cls := .type "tuple", data := .seq its.toArray } } :=
      I1.laid (t' := s.toks) (fun b o e => Heap.get?_push_of_some _ e) (Nat.le_refl _) (show ObjOk X.prog X.w _ _ _ (.tup ys) from ⟨hz, its, r', IsTup.new _ _⟩)
    exact ⟨.ref h'.objs.size, _, I2, rfl, q _ (I1.hok.fresh (Nat.le_refl _))⟩
  · obtain ⟨its, r', pl, hz⟩ := I.tuple hq
    exact call_tuple_same pl ⟨.ref p, H, I, rfl, q⟩
/-! ### the call of a builtin's method: o.m(..) -/
/-- the value is of that builtin type -/
def tyV (K : PySem.W.Frag) (T : String) (x : V) (H : Hp) : Prop := match x with
  | .str _ => T = "str"
  | .int _ => T = "int"
  | .ref p => (T = "list" ∧ ∃ xs, SqL K H p xs) ∨ (T = "tuple" ∧ ∃ o, K.lookup p = some o ∧ o.cls = .type "tuple" ∧ o.dict = none) ∨
      (T = "dict" ∧ ((∃ kvs, H p = some (.dK kvs)) ∨ ∃ kvs, H p = some (.dT kvs))) ∨ (T = "set" ∧ ∃ S n, H p = some (.set S n))
  | _ => False
theorem tyV_is {pins : List (Addr × Obj)} {σ : St} {H : Hp} {s : Shared} {T : String} {x : V} {v : Value} (I : Inv X pins σ H s) (r : RelV x v) (ty : tyV X.K T x H) :
    s.TypeIs v T ∧ ∀ a, v = .ref a → ∃ ob, s.heap.get? a = some ob ∧ ob.dict = none := by
  cases x with
  | str z =>
    obtain ⟨t, rfl⟩ := r
    cases (show T = "str" from ty)
    exact ⟨typeIs_str s z t, fun _ e => nomatch e⟩
  | int i =>
    obtain ⟨t, rfl⟩ := r
    cases (show T = "int" from ty)
    exact ⟨typeIs_int s i t, fun _ e => nomatch e⟩
  | ref p =>
    cases r
    rcases ty with ⟨rfl, xs, hq⟩ | ⟨rfl, o, hk, hc, hd⟩ | ⟨rfl, hk⟩ | ⟨rfl, S, n, hk⟩
    · obtain ⟨its, _, pl, _⟩ := I.list hq
      refine ⟨pl.isList.typeIs, fun a e => ?_⟩
      cases e
      obtain ⟨o, n, e, c, hd, _⟩ := pl
      exact ⟨o, e, hd⟩
    · refine ⟨⟨o, I.kIn p o hk, hc⟩, fun a e => ?_⟩
      cases e
      exact ⟨o, I.kIn _ o hk, hd⟩
    · have z : ∃ o, s.heap.get? p = some o ∧ o.ExactDict := by
        rcases hk with ⟨kvs, hk⟩ | ⟨kvs, hk⟩
        · obtain ⟨_, _, _, _, o, _, _, e, ex, _⟩ := I.hok p _ hk
          exact ⟨o, e, ex⟩
        · obtain ⟨_, _, _, _, o, _, _, e, ex, _⟩ := I.hok p _ hk
          exact ⟨o, e, ex⟩
      obtain ⟨o, e, ex⟩ := z
      refine ⟨⟨o, e, ex.1⟩, fun a e2 => ?_⟩
      cases e2
      exact ⟨o, e, ex.2.1⟩
    · obtain ⟨o, _, _, _, e, ex, _⟩ := I.hok p _ hk
      refine ⟨⟨o, e, ex.1⟩, fun a e2 => ?_⟩
      cases e2
      exact ⟨o, e, ex.2.1⟩
  | _ => exact False.elim ty
def tBM (K : PySem.W.Frag) (T : String) (r : V → List V → Hp → VK → Prop) (to : TE) (t : TA) : TE := fun σ H Q => to σ H fun x H1 => tyV K T x H1 ∧ t σ H1 fun xs H2 => r x xs H2 Q
variable {o e : Expr} {es : List Expr} {to : TE} {t : TA} {name : Str} {apos cpos : Pos} {T id : String} {r : V → List V → Hp → VK → Prop}
theorem pe_bm (pa : PlainAttrs T) (slot : Slot T name id) (hty : typeOf (.builtin id) = pure (.type "method_descriptor")) (hm : MtR X id r) (ho : PE X o to) (ha : PA X (e :: es) t)
    (hbase : attributeBase o name X.env (eval o X.env) = eval o X.env := by rfl)
    (hfew : ((backTo cpos (starEach (e :: es) X.env)).all (fun x => !x.1) && (backToKw cpos (keywordEach [] X.env)).all (fun x => x.1.isSome)
      && decide ((e :: es).length + ([] : List Keyword).length + (if ([] : List Keyword).isEmpty then 0 else 1) < 30)) = true := by rfl)
    (hline : (apos.endLine == cpos.line) = true := by rfl) (hs : starEach (e :: es) X.env = (false, eval e X.env) :: starEach es X.env := by rfl) (hplain : (backTo cpos (starEach es X.env)).any (·.1) = false := by rfl) :
    PE X (.Call (.Attribute o name apos) (e :: es) [] cpos) (tBM X.K T r to t) := by
  intro pins s σ H Q I h
  refine wpAny_Call_method_late hbase hfew hline rfl (thn (ho pins s σ H _ I h) fun v s1 ⟨x, H1, I1, r1, ty, q1⟩ => ?_)
  obtain ⟨h1, h2⟩ := tyV_is I1 r1 ty
  refine ⟨T, id, pa, slot, hty, h1, h2, ?_⟩
  have hA := ha cpos pins s1 σ H1 _ I1 q1
  rw [hs] at hA ⊢
  refine Calls.callWith_builtin (by show (false || (backTo cpos (starEach es X.env)).any (·.1)) = false; rw [hplain] <;> rfl) (Calls.evalArgs_plain ?_)
  exact thn hA fun us s2 ⟨vs, H2, I2, r2, q2⟩ => hm pins s2 σ H2 x vs v us Q I2 r1 r2 q2
/- xs.append(e), list.index on a module's tuple .. are MtR facts of 06m -/
end
end L2
namespace L2
open PySem PySem.Spec PyProof.Rows
def MtM (X : Cx) (id : String) (r : V → List V → Hp → VK → Prop) : Prop :=
  ∀ (pins : List (Addr × Obj)) (s : Shared) (σ : St) (H : Hp) (x : V) (xs : List V) (v : Value) (us : List Value) (Q : VK), Inv X pins σ H s → RelV x v → Vals xs us → r x xs H Q →
    wpAny (model X.prog X.w) X.A (call (.builtin id) (v :: us)) (EP X pins σ Q) X.xe s
/-! ### lists of values -/
theorem Vals.one : ∀ {x : V} {us : List Value}, Vals [x] us → ∃ u, us = [u] ∧ RelV x u
  | _, _, .cons r .nil => ⟨_, rfl, r⟩
theorem Vals.zero : ∀ {us : List Value}, Vals [] us → us = []
  | _, .nil => rfl
theorem Vals.dropLast {xs : List V} {us : List Value} (h : Vals xs us) : Vals xs.dropLast us.dropLast := by
  induction h with
  | nil => exact .nil
  | cons r t ih =>
    cases t with
    | nil => exact .nil
    | cons q t' => exact .cons r ih
theorem Vals.reverse {xs : List V} {us : List Value} (h : Vals xs us) : Vals xs.reverse us.reverse := by
  induction h with
  | nil => exact .nil
  | cons r t ih => rw [List.reverse_cons, List.reverse_cons]; exact Vals.append ih (.cons r .nil)
theorem Vals.rep {xs : List V} {us : List Value} (h : Vals xs us) : ∀ k : Nat, Vals (List.replicate k xs).flatten (List.replicate k us).flatten
  | 0 => .nil
  | k + 1 => by
    rw [List.replicate_succ, List.replicate_succ, List.flatten_cons, List.flatten_cons]
    exact Vals.append h (Vals.rep h k)
theorem erase_last {α : Type} (l : List α) : l.eraseIdx (l.length - 1) = l.dropLast := by
  induction l with
  | nil => rfl
  | cons a r ih =>
    cases r with
    | nil => rfl
    | cons b r =>
      have e : (a :: b :: r).length - 1 = ((b :: r).length - 1) + 1 := by
        have h1 : (a :: b :: r).length = r.length + 2 := rfl
        have h2 : (b :: r).length = r.length + 1 := rfl
        omega
      rw [e, List.eraseIdx_cons_succ, ih]
      all_goals rfl
theorem foldl_rep (its : List Value) : ∀ (k : Nat) (acc : List Value),
    List.foldl (fun x1 x2 => x1 ++ x2) acc.toArray (List.replicate k its.toArray) = (acc ++ (List.replicate k its).flatten).toArray
  | 0, acc => by simp
  | k + 1, acc => by
    have e : acc.toArray ++ its.toArray = (acc ++ its).toArray := by simp
    have e2 : (acc ++ its) ++ (List.replicate k its).flatten = acc ++ (List.replicate (k + 1) its).flatten := by
      rw [List.replicate_succ, List.flatten_cons, List.append_assoc]
    rw [← e2, ← foldl_rep its k (acc ++ its), ← e, List.replicate_succ, List.foldl_cons]
section
variable {X : Cx} {pins : List (Addr × Obj)} {σ : St} {H : Hp} {s : Shared} {l b : Addr} {xs ys zs : List V}
/-! ### the two steps: a tracked list is rewritten, a new list is laid -/
theorem Inv.lset {its its' : List Value} {n : Nat} {f : Array Value → Array Value} {t' : Nat} (I : Inv X pins σ H s) (hH : H l = some (.lst xs))
    (e : s.heap.get? l = some { cls := .type "list", data := .seq its.toArray n }) (hf : f its.toArray = its'.toArray) (hv : Vals ys its') (hz : ys.length ≤ sizeLine) :
    Inv X pins σ (upd H l (.lst ys)) { s with heap := s.heap.update l (Obj.mapSeq f), toks := t' } := by
  have q := PySem.IsL.update e f
  rw [hf] at q
  refine I.write (x := l) (e := l) (by rw [hH]; exact trivial) (.inl rfl) (fun b' u hb hu => (Heap.get?_update_other s.heap (Obj.mapSeq f) (Ne.symm hb)).trans hu) ⟨_, q⟩ ?_
  exact ⟨hz, its', _, hv, q⟩
theorem Inv.lnew {its : List Value} {t' : Nat} (I : Inv X pins σ H s) (hv : Vals ys its) (hz : ys.length ≤ sizeLine) :
    Inv X pins σ (upd H s.heap.objs.size (.lst ys)) { s with heap := s.heap.push { cls := .type "list", data := .seq its.toArray }, toks := t' } :=
  I.laid (fun _ _ q => Heap.get?_push_of_some _ q) (Nat.le_refl _) ⟨hz, its, 0, hv, Heap.get?_push_size _ rfl⟩
theorem Inv.fresh (I : Inv X pins σ H s) : H s.heap.objs.size = none := I.hok.fresh (Nat.le_refl _)
theorem Inv.lstM (I : Inv X pins σ H s) (hH : H l = some (.lst xs)) : xs.length ≤ sizeLine ∧ ∃ (its : List Value) (n : Nat), Vals xs its ∧ xs.length = its.length ∧ s.heap.get? l = some { cls := .type "list", data := .seq its.toArray n } := by
  obtain ⟨z, its, n, r, e⟩ := I.hok l _ hH
  exact ⟨z, its, n, r, r.length, e⟩
theorem notLongL {n : Nat} (h : n ≤ sizeLine) : Builtin.List.listTooLong n = false := by
  unfold Builtin.List.listTooLong
  exact decide_eq_false (by omega)
end
section
variable {X : Cx}
/-! ### methods -/
def rAppend : V → List V → Hp → VK → Prop := fun x vs H Q => ∃ l xs y, x = .ref l ∧ vs = [y] ∧ H l = some (.lst xs) ∧ xs.length < sizeLine ∧ Q .non (upd H l (.lst (xs ++ [y])))
theorem mt_append : MtM X "list.append" rAppend := by
  intro pins s σ H x vs v us Q I rx rv h
  obtain ⟨l, xs, y, rfl, rfl, hH, hz, q⟩ := h
  cases rx
  obtain ⟨u, rfl, ru⟩ := rv.one
  obtain ⟨z, its, n, r, hl, e⟩ := I.lstM hH
  refine call_meets F.slot_list_append ⟨_, e, rfl⟩ F.entry_list_append (F.args_list_append_2 _ _) (PySem.list_append l its.toArray n u (by rw [List.size_toArray]; omega)) ⟨e, ?_⟩
  refine ⟨.non, _, I.lset (its' := its ++ [u]) hH e (by simp) (r.append (.cons ru .nil)) ?_, rfl, q⟩
  rw [List.length_append, List.length_singleton]
  omega
def rExtend : V → List V → Hp → VK → Prop := fun x vs H Q => ∃ l b xs zs, x = .ref l ∧ vs = [.ref b] ∧ H l = some (.lst xs) ∧ H b = some (.lst zs) ∧ xs.length + zs.length ≤ sizeLine ∧ Q .non (upd H l (.lst (xs ++ zs)))
theorem mt_extend : MtM X "list.extend" rExtend := by
  intro pins s σ H x vs v us Q I rx rv h
  obtain ⟨l, b, xs, zs, rfl, rfl, hH, hB, hz, q⟩ := h
  cases rx
  obtain ⟨u, rfl, ru⟩ := rv.one
  cases ru
  obtain ⟨z, its, n, r, hl, e⟩ := I.lstM hH
  obtain ⟨z2, its2, n2, r2, hl2, e2⟩ := I.lstM hB
  have hsz : its.toArray.size + its2.toArray.size ≤ sizeLine := by rw [List.size_toArray, List.size_toArray]; omega
  have hlong : ¬ (!its.toArray.isEmpty && Builtin.List.listTooLong (its.toArray.size + its2.toArray.size)) = true := by
    rw [notLongL hsz, Bool.and_false]
    exact Bool.false_ne_true
  refine call_meets F.slot_list_extend ⟨_, e, rfl⟩ F.entry_list_extend (F.args_list_extend_2 _ _)
    (AutoSeq1.list_extend_list_list_0 l its.toArray n b its2.toArray n2 hlong (by rw [List.size_toArray]; omega) (by omega)) ⟨e, e2, ?_⟩
  refine ⟨.non, _, I.lset (its' := its ++ its2) hH e (by simp) (r.append r2) ?_, rfl, q⟩
  rw [List.length_append]
  omega
def rPop : V → List V → Hp → VK → Prop := fun x vs H Q => ∃ l xs y, x = .ref l ∧ vs = [] ∧ H l = some (.lst xs) ∧ xs[xs.length - 1]? = some y ∧ Q y (upd H l (.lst xs.dropLast))
theorem mt_pop : MtM X "list.pop" rPop := by
  intro pins s σ H x vs v us Q I rx rv h
  obtain ⟨l, xs, y, rfl, rfl, hH, hy, q⟩ := h
  cases rx
  have hus := rv.zero
  subst hus
  obtain ⟨z, its, n, r, hl, e⟩ := I.lstM hH
  obtain ⟨u, hu, ru⟩ := r.get hy
  have hy' : its.toArray[its.toArray.size - 1]? = some u := by
    show its.toArray[its.length - 1]? = some u
    rw [← Array.getElem?_toList, ← hl]
    exact hu
  refine call_meets F.slot_list_pop ⟨_, e, rfl⟩ F.entry_list_pop (F.args_list_pop_1 _) (MeetsSeq.list_pop_last l its.toArray n u hy' (by rw [List.size_toArray]; omega)) ⟨e, ?_⟩
  refine ⟨y, _, I.lset (its' := its.dropLast) hH e ?_ r.dropLast ?_, ru, q⟩
  · show its.toArray.eraseIdxIfInBounds (its.toArray.size - 1) = its.dropLast.toArray
    rw [List.size_toArray, List.eraseIdxIfInBounds_toArray, erase_last]
  · rw [List.length_dropLast]
    omega
def rReverse : V → List V → Hp → VK → Prop := fun x vs H Q => ∃ l xs, x = .ref l ∧ vs = [] ∧ H l = some (.lst xs) ∧ Q .non (upd H l (.lst xs.reverse))
theorem mt_reverse : MtM X "list.reverse" rReverse := by
  intro pins s σ H x vs v us Q I rx rv h
  obtain ⟨l, xs, rfl, rfl, hH, q⟩ := h
  cases rx
  have hus := rv.zero
  subst hus
  obtain ⟨z, its, n, r, hl, e⟩ := I.lstM hH
  refine call_meets F.slot_list_reverse ⟨_, e, rfl⟩ F.entry_list_reverse (F.args_list_reverse_1 _) (AutoSeq1.list_reverse_list_0 l its.toArray n (by rw [List.size_toArray]; omega)) ⟨e, ?_⟩
  refine ⟨.non, _, I.lset (its' := its.reverse) hH e (by simp) r.reverse ?_, rfl, q⟩
  rw [List.length_reverse]
  omega
def rClear : V → List V → Hp → VK → Prop := fun x vs H Q => ∃ l xs, x = .ref l ∧ vs = [] ∧ H l = some (.lst xs) ∧ Q .non (upd H l (.lst []))
theorem mt_clear : MtM X "list.clear" rClear := by
  intro pins s σ H x vs v us Q I rx rv h
  obtain ⟨l, xs, rfl, rfl, hH, q⟩ := h
  cases rx
  have hus := rv.zero
  subst hus
  obtain ⟨z, its, n, r, hl, e⟩ := I.lstM hH
  refine call_meets F.slot_list_clear ⟨_, e, rfl⟩ F.entry_list_clear (F.args_list_clear_1 _) (AutoSeq1.list_clear_list_0 l its.toArray n (by rw [List.size_toArray]; omega)) ⟨e, ?_⟩
  exact ⟨.non, _, I.lset (its' := []) (ys := []) hH e rfl .nil (Nat.zero_le _), rfl, q⟩
/-! ### list + list, list += list, list * int -/
def rCat : R2 := fun x y H Q => ∃ l b xs zs, x = .ref l ∧ y = .ref b ∧ H l = some (.lst xs) ∧ H b = some (.lst zs) ∧ xs.length + zs.length ≤ sizeLine ∧ ∀ p, H p = none → Q (.ref p) (upd H p (.lst (xs ++ zs)))
theorem op_cat : OpR X (binaryOp .Add) rCat := by
  intro pins s σ H x y v u Q I rx ry h
  obtain ⟨l, b, xs, zs, rfl, rfl, hH, hB, hz, q⟩ := h
  cases rx
  cases ry
  obtain ⟨z, its, n, r, hl, e⟩ := I.lstM hH
  obtain ⟨z2, its2, n2, r2, hl2, e2⟩ := I.lstM hB
  refine PySem.P.add_list e e2 ?_ (by rw [List.size_toArray, List.size_toArray]; omega)
  have ea : its.toArray ++ its2.toArray = (its ++ its2).toArray := by simp
  rw [ea]
  exact ⟨.ref _, _, I.lnew (t' := s.toks) (r.append r2) (by rw [List.length_append]; omega), rfl, q _ I.fresh⟩
/-- a list times an int (a negative one is nothing) -/
def rRep : R2 := fun x y H Q => ∃ l k xs, x = .ref l ∧ y = .int k ∧ H l = some (.lst xs) ∧ -(2 ^ 63) ≤ k ∧ k < 2 ^ 63 ∧ xs.length * k.toNat ≤ sizeLine ∧
  ∀ p, H p = none → Q (.ref p) (upd H p (.lst (List.replicate k.toNat xs).flatten))
theorem len_rep {α : Type} (xs : List α) (k : Nat) : (List.replicate k xs).flatten.length = k * xs.length := by
  induction k with
  | zero => simp
  | succ k ih => rw [List.replicate_succ, List.flatten_cons, List.length_append, ih, Nat.succ_mul, Nat.add_comm]
theorem op_rep : OpR X (binaryOp .Mult) rRep := by
  intro pins s σ H x y v u Q I rx ry h
  obtain ⟨l, k, xs, rfl, rfl, hH, h1, h2, hz, q⟩ := h
  cases rx
  obtain ⟨t, rfl⟩ := ry
  obtain ⟨z, its, n, r, hl, e⟩ := I.lstM hH
  have hlen : its.toArray.size * k.toNat ≤ sizeLine := by rw [List.size_toArray, ← hl]; exact hz
  have hcap : ¬ its.toArray.size * k.toNat > (2 ^ 63 - 1) / 8 := by
    have : (sizeLine : Nat) ≤ (2 ^ 63 - 1) / 8 := by decide
    omega
  have hfit : ¬ (!Builtin.List.listFitsIndex k) = true := by
    rw [fitsIndex_both h1 h2]
    exact Bool.false_ne_true
  have hlong : ¬ Builtin.List.listTooLong (its.toArray.size * k.toNat) = true := by
    rw [notLongL hlen]
    exact Bool.false_ne_true
  have hnew : List.foldl (fun x1 x2 => x1 ++ x2) #[] (List.replicate (if its.toArray.isEmpty = true then 0 else k.toNat) its.toArray) = (List.replicate k.toNat its).flatten.toArray := by
    have f0 : ∀ m : Nat, List.foldl (fun x1 x2 => x1 ++ x2) #[] (List.replicate m its.toArray) = (List.replicate m its).flatten.toArray := fun m => by
      have := foldl_rep its m []
      rw [List.nil_append] at this
      exact this
    rw [f0]
    cases its with
    | nil => simp
    | cons a r' => rw [if_neg (by simp)]
  refine wpAny_binaryOp_repeat_ref (T := "list") (U := "int") (by decide) ⟨_, e, rfl⟩ (fun s' => typeIs_int s' k t) noFill_list_mul F.fills_int_mul F.slot_int_rmul repeat_list F.slot_int_index.lookup
    (call_meets F.slot_int_rmul (typeIs_int s k t) F.entry_int_rmul (F.args_int_rmul_2 _ _) (int___rmul___int_list k t l its.toArray n)
      ⟨e, rfl, ⟨_, e, rfl⟩, call_meets F.slot_list_mul ⟨_, e, rfl⟩ F.entry_list_mul (F.args_list_mul_2 _ _) (AutoListH.list___mul___list_int_3 l its.toArray n k t hfit hcap hlong) ⟨e, ?_⟩⟩)
  rw [hnew]
  exact ⟨.ref _, _, I.lnew (t' := s.toks) (r.rep k.toNat) (by rw [len_rep, Nat.mul_comm]; exact hz), rfl, q _ I.fresh⟩
/-! ### del xs[i] -/
end
/-! ### xs[a:b] = ys -/
section
variable {prog : Program} {w : World} {A : Around} {E : Value → Shared → Prop} {s : Shared}
end
section
variable {X : Cx}
end
end L2
namespace Att
open PySem PySem.W PySem.Calls PyProof.Rows
/-! ### the script -/
theorem ints_of_wellAll {P : Params} {h : Heap} : ∀ (ns : List Int) (vs : List Value), WellAll P h vs (ns.map WData.int) → IntsAre vs ns := by
  intro ns
  induction ns with
  | nil =>
    intro vs w
    rw [List.map_nil] at w
    cases w
    exact .nil
  | cons n ns ih =>
    intro vs w
    rw [List.map_cons] at w
    cases w with
    | cons a b =>
      cases a
      exact .cons _ _ (ih _ b)
theorem script_of {l : OpenLaw} {n : Nat} (hn : l.most = some n) {P : Params} {h : Heap} {args : List WData} {vals : List Value}
    (hpre : l.row.toRowW.claim.pre args = true) (hwl : WellAll P h vals args) :
    ∃ a vs ns, vals = [Value.ref a] ∧ args = [WData.list (ns.map WData.int)] ∧ h.get? a = some { cls := .type "list", data := .seq vs.toArray } ∧ IntsAre vs ns ∧ ns.length ≤ n := by
  have hsh : WShape.hasAll [] args [.list .int] = true := (pre_splitW hpre).1
  have hc : l.pre.holds [] { args := args } = true := (pre_splitW hpre).2
  obtain ⟨d, r, rfl, h1, h2⟩ := hasAllW_cons hsh
  obtain rfl := hasAllW_nil h2
  obtain ⟨xs, rfl, h3⟩ := hasW_list h1
  obtain ⟨ns, rfl⟩ := items_int h3
  have hlen : ns.length ≤ n := by
    unfold OpenLaw.pre at hc
    have h4 : (WTm.not (.lt (.lit (.int (n : Int))) (.len (.arg 0)))).holds [] { args := [.list (ns.map .int)] } = true := by
      have h4 := (holds_andW hc).1
      rw [hn] at h4
      exact h4
    have h5 := condW_of h4 (w_not (w_lt w_lit (w_len_list (w_arg rfl))))
    rw [List.length_map] at h5
    refine Nat.le_of_not_lt fun q => ?_
    have q' : (n : Int) < ((ns.length : Nat) : Int) := by omega
    first
      | (rw [decide_eq_true q'] at h5; exact absurd h5 (by decide))
      | (simp at h5; omega)
  cases hwl with
  | cons w1 w2 =>
    cases w2
    cases w1 with
    | list ho hall => exact ⟨_, _, ns, rfl, rfl, ho, ints_of_wellAll ns _ hall, hlen⟩
theorem post_true (l : OpenLaw) (args : List WData) : l.row.toRowW.claim.post args (.bool true) args = true :=
  postW_of (r := l.row.toRowW) (X := (true == true))
    (show WShape.has [] (.bool true) .bool = true by first | rfl | decide | simp [WShape.has, WShape.arms, WShape.armsAll])
    (show (WTm.eq .res (.lit (.bool true))).value [] { args := args, res := some (.bool true), after := args } = some (.bool (true == true)) from w_eq_bool (w_res rfl) w_lit) rfl
/-! ### the attachment: holds_open's last premise (the goal 'hc' behind k_head) from a wpAny of the law's body -/
/-- the same from a codeAny of the CALL (for a layer whose function contracts speak of calls) -/
theorem attach_call {l : OpenLaw} {n : Nat} {q : Program} {loose : List Str} {XP : (Str → Option Value) → Heap → Prop} {YP : World → Heap → Prop} {d : DefRec}
    (hn : l.most = some n) (hdf : d.params.defaults = [])
    (call : ∀ (w : World) (s₀ s₁ : Shared) (mg mb : Str → Option Value) (fa : Addr) (o : Obj) (pm cd doc : Value) (a : Addr) (vs : List Value) (ns : List Int),
      Ground q loose [] XP w s₀ mg mb s₁.heap → YP w s₁.heap →
      s₁.heap.get? fa = some o → o.data = .func (docDef d.name d.params d.body d.scope pm cd doc) → s₁.heap.CodeRec cd d.name → mg d.name = some (.ref fa) →
      s₁.heap.get? a = some { cls := .type "list", data := .seq vs.toArray } → IntsAre vs ns → ns.length ≤ n → s₁.gens = #[] →
      codeAny (model l.prog w) callerA (.call (.ref fa) ⟨[.ref a], []⟩) (fun r s' => r = .ok (.ret (.bool true)) ∧ OldK s₁.heap s'.heap ∧ s'.os = s₁.os ∧ AllBare s'.gens) s₁) :
    WalkO q loose XP YP l.row.toRowW d [] (fun f vs => PySem.call f vs) := by
  intro w s₀ s₁ mg mb G Y fa o pm cd doc dV kV ho hd hcd hD hmg hg args vals as hpre hlay hrd hwl hlo
  obtain rfl : dV = .none := Dflts.none hD hdf
  obtain rfl : kV = .none := Dflts.noKw hD
  obtain ⟨a, vs, ns, rfl, rfl, hobj, hints, hlen⟩ := script_of hn hpre hwl
  refine enter_call (codeAny_mono (call w s₀ s₁ mg mb fa o pm cd doc a vs ns G Y ho (fd_plain hd) hcd hmg hobj hints hlen hg) fun r s' hq => ?_)
  obtain ⟨rfl, h2, h3, h4⟩ := hq
  exact ⟨.inl ⟨.bool true, .bool true, [], rfl, fun _ => rfl, .bool true, post_true l _, fun _ => ⟨List.Pairwise.nil, fun _ hm => (nomatch hm)⟩⟩, h2, h3, h4⟩
/-! ### rules over ANY heap (no ledger) from facts about the written part K: the library's own take a ledger (News) for what they write -/
section
variable {prog : Program} {w : World} {A : Around} {E : Value → Shared → Prop} {s : Shared} {K : Frag}
/-! the whole heap as the ledger: makes every rule that writes through a ledger a rule over any heap -/
end
end Att
namespace L2
open PySem PySem.Spec PyProof.Rows
theorem vals_ints : ∀ {vs : List Value} {ns : List Int}, IntsAre vs ns → Vals (ns.map V.int) vs
  | _, _, .nil => .nil
  | _, _, .cons n t h => .cons ⟨t, rfl⟩ (vals_ints h)
/-- nothing is tracked but the script, known to the object (or it is an object of the module) -/
def Only (H : Hp) : Prop := ∀ b, H b = none ∨ ∃ o xs, H b = some (.frz o (.lst xs))
/-- THE HEAD: the law's promise, at the heap behind the top. F, the promise of the law's def, may use that base is part of the heap (so K.In base, base.Ns mainGlobals mg stand in Mod) -/
theorem law_call {P : Program} {w : World} {K : PySem.W.Frag} {mg mb : Str → Option Value} {CX : CXT} {k : Nat} {fa a : Addr} {fd : FuncData} {x : Str} {sp : Sp} {s₁ : Shared} {vs : List Value} {ns : List Int}
    (KX : K.In s₁.heap) (hns : s₁.heap.Ns mainGlobals mg) (hb : s₁.heap.Ns builtinsNs mb) (hbb : ∀ x : Str, x ≠ "__name__" → mb x = bootBuiltins x) (hlim : s₁.heap.NoLimit) (hg : s₁.gens = #[])
    (ha : s₁.heap.get? a = some { cls := .type "list", data := .seq vs.toArray }) (hi : IntsAre vs ns) (hl : ns.length ≤ sizeLine) (hr : Room k callerA)
    (F : ∀ base : Heap, K.In base → base.Ns mainGlobals mg → FnOk P w K mg base CX k fa fd [x] sp) (hbind : ∀ (s : Shared) (u : Value), BindsTo s fd ⟨[u], []⟩ [(x, u)])
    (hsp : ∀ H : Hp, Only H → SqL K H a (ns.map V.int) → sp [.ref a] H (fun v _ => v = .bl true) fun _ _ _ => False)
    (hCX : ∀ H e s', CX [] H s₁ (fun _ _ _ => False) e s' → False) :
    codeAny (model P w) callerA (.call (.ref fa) ⟨[.ref a], []⟩) (fun r s' => r = .ok (.ret (.bool true)) ∧ OldK s₁.heap s'.heap ∧ s'.os = s₁.os ∧ AllBare s'.gens) s₁ := by
  have rv := vals_ints hi
  have lenV := hi.length
  -- from an abstract heap in which nothing but the script may be tracked
  have core : ∀ H : Hp, Only H → SqL K H a (ns.map V.int) → HOk P w H s₁.heap → (∀ b, H b ≠ none → b = a) → (H a ≠ none → K.lookup a = none) →
      codeAny (model P w) callerA (.call (.ref fa) ⟨[.ref a], []⟩) (fun r s' => r = .ok (.ret (.bool true)) ∧ OldK s₁.heap s'.heap ∧ s'.os = s₁.os ∧ AllBare s'.gens) s₁ := by
    intro H hO hS hok hA hK
    have base_of : ∀ {b : Addr} {o : Obj}, s₁.heap.get? b = some o → H b = none → (hidT s₁.heap H).get? b = some o := fun e n => hidT_get e n
    have noA : ∀ {b : Addr} {o : Obj} {es : Array DictEntry} {ep : Nat}, s₁.heap.get? b = some o → o.data = .dict es ep → H b = none := fun {b o es ep} e d => by
      cases q : H b with
      | none => rfl
      | some u =>
        have e' : b = a := hA b (by rw [q]; simp)
        subst e'
        rw [ha] at e; cases e
        have d' : Data.seq vs.toArray _ = Data.dict es ep := d
        cases d'
    have nsK : ∀ {b : Addr} {m : Str → Option Value}, s₁.heap.Ns b m → (hidT s₁.heap H).Ns b m := fun {b m} ⟨o, es, ep, e, d, r⟩ => ⟨o, es, ep, base_of e (noA e d), d, r⟩
    have hKb : K.In (hidT s₁.heap H) := fun b o e => base_of (KX b o e) (by
      cases q : H b with
      | none => rfl
      | some u =>
        have e' : b = a := hA b (by rw [q]; simp)
        subst e'
        rw [hK (by rw [q]; simp)] at e; cases e)
    have hM : Mod K mg (hidT s₁.heap H) := ⟨hKb, nsK hns, ⟨mb, nsK hb, hbb⟩, let ⟨mc, h1, h2⟩ := hlim; ⟨mc, nsK h1, h2⟩⟩
    have e0 : Env0 P w K mg (hidT s₁.heap H) callerA [] s₁ H := ⟨rfl, hM, fun b o e => of_hidT e, Nat.le_of_eq (hidT_size _ _), trivial, fun b hb => absurd (show b ∈ ([] : List Addr) from hb) (by simp), hok, .of_eq hg⟩
    refine codeAny_mono ((F _ hKb (nsK hns)).run callerA [] s₁ H ⟨[.ref a], []⟩ [.ref a] [.ref a] _ _ hr e0 (hbind s₁ (.ref a)) (.cons rfl .nil) (hsp H hO hS)) fun r s' h => ?_
    cases r with
    | error e => exact (hCX H e s' h).elim
    | ok fl =>
      cases fl with
      | next => exact False.elim h
      | brk => exact False.elim h
      | cont => exact False.elim h
      | ret u =>
        obtain ⟨v, H', os, bare, un, hok', r', q⟩ := h
        have q' : v = .bl true := q
        subst q'
        obtain rfl : u = Value.bool true := r'
        refine ⟨rfl, OldK.of_keep fun b o e => ?_, os, bare⟩
        cases q : H b with
        | none => exact un.keep b o e q (by intro z; exact absurd (show b ∈ ([] : List Addr) from z) (by simp)) (by simp)
        | some u =>
          rcases hO b with z | ⟨ob, xs, z⟩
          · rw [q] at z; cases z
          · have z2 := un.frzs b ob _ z
            obtain ⟨e1, _⟩ := hok b _ z
            obtain ⟨e2, _⟩ := hok' b _ z2
            rw [e] at e1; cases e1
            exact e2
  cases hk : K.lookup a with
  | some o =>
    -- the script is one of the module's own objects
    have e := KX a o hk
    rw [ha] at e
    cases e
    refine core (fun _ => none) (fun _ => .inl rfl) (.inr ⟨_, vs.toArray, _, hk, rfl, rfl, rfl, by rw [List.size_toArray, lenV]; exact hl, by simpa using rv⟩) (fun b u z => by have z' : (none : Option HO) = some u := z; cases z') (fun b z => absurd rfl z) fun z => absurd rfl z
  | none =>
    refine core (fun b => if b = a then some (.frz { cls := .type "list", data := .seq vs.toArray } (.lst (ns.map V.int))) else none) (fun b => ?_) (.inl (.inr ⟨{ cls := .type "list", data := .seq vs.toArray }, if_pos rfl⟩)) (fun b u z => ?_) (fun b z => ?_) fun _ => hk
    · by_cases hb : b = a
      · exact .inr ⟨_, _, if_pos hb⟩
      · exact .inl (if_neg hb)
    · by_cases hb : b = a
      · have z' := (if_pos hb).symm.trans z
        cases z'
        subst hb
        exact ⟨ha, by rw [List.length_map]; exact hl, vs, _, rv, ha⟩
      · have z' := (if_neg hb).symm.trans z
        cases z'
    · by_cases hb : b = a
      · exact hb
      · exact absurd (if_neg hb) z
end L2
namespace L2
open PySem PySem.Spec PyProof.Rows
/-- the goal that k_head leaves (case hc), from the law's promise. F gives the function object fd (K's own) once, then the promise over every base -/
theorem walk_of {l : PySem.W.OpenLaw} {n k : Nat} {q : Program} {loose : List Str} {XP : (Str → Option Value) → Heap → Prop} {YP : World → Heap → Prop} {d : DefRec} {K : Params → PySem.W.Frag} {CX : World → CXT} {sp : World → Sp} {x : Str}
    (hn : l.most = some n) (hn2 : n ≤ sizeLine) (hdf : d.params.defaults = []) (hr : Room k callerA)
    (hY : ∀ (w : World) (h : Heap), YP w h → (K w.params).In h)
    (F : ∀ (w : World) (mg : Str → Option Value) (fa : Addr) (h : Heap), (K w.params).In h → h.Ns mainGlobals mg → mg d.name = some (.ref fa) →
      ∃ fd : FuncData, (∀ (s : Shared) (u : Value), BindsTo s fd ⟨[u], []⟩ [(x, u)]) ∧
        ∀ base : Heap, (K w.params).In base → base.Ns mainGlobals mg → FnOk l.prog w (K w.params) mg base (CX w) k fa fd [x] (sp w))
    (hsp : ∀ (w : World) (H : Hp) (a : Addr) (ns : List Int), ns.length ≤ n → Only H → SqL (K w.params) H a (ns.map V.int) → sp w [.ref a] H (fun v _ => v = .bl true) fun _ _ _ => False)
    (hCX : ∀ (w : World) (H : Hp) (s : Shared) (e : Value) (s' : Shared), CX w [] H s (fun _ _ _ => False) e s' → False) :
    PySem.W.WalkO q loose XP YP l.row.toRowW d [] (fun f vs => PySem.call f vs) := by
  refine Att.attach_call hn hdf fun w s₀ s₁ mg mb fa o pm cd doc a vs ns G Y ho hd hcd hmg hobj hints hlen hg => ?_
  have KX := hY w _ Y
  obtain ⟨fd, hb, hF⟩ := F w mg fa _ KX G.T.g hmg
  exact law_call KX G.T.g G.T.b G.T.builtins G.T.nolimit hg hobj hints (Nat.le_trans hlen hn2) hr hF hb (fun H hO hS => hsp w H a ns hlen hO hS) fun H e s' => hCX w H s₁ e s'
end L2
/- THE LAST THEOREM (shape; LID, My.* are yours):
   My.Adr: a structure of the addresses that your layer names (classes, functions); My.Txt K t: a structure (Prop) of the equations over K;
   My.txt_mk : {K} {implicit addresses ..} (e1 : nsIn K mainGlobals "law" = some (some (.ref f))) (e2 : K.lookup f = some ⟨oc, od, .func (fnOf "law" "law" params body scope dV kV doc pm an cdv ct), sl⟩) (e3 : codeIn K cdv "law" = true) .. : ∃ t, My.Txt K t
set_option maxRecDepth 100000 in
set_option maxHeartbeats 0 in
theorem PySem.Challenge.cw_LID_holds : PySem.Challenge.rw_LID.Holds := by
  w_on; o_law; k_head; (case hw => w_witness2)
  k_fill
  refine L2.walk_of (l := PySem.Challenge.rw_LID) (n := 63) (k := 40) (x := "script") (CX := fun w => ..) (sp := fun _ => My.sp_law) rfl (by decide) rfl ⟨rfl, by decide, by decide⟩ (fun w h Y => PySem.W.kIn_of Y) ?F ?S ?C
  case F =>
    intro w mg fa h KX G hmg
    have T : ∃ t, My.Txt (L2.KOf KX) t := by
      dsimp only [L2.KOf]                          -- K must stand as «<heap const> w.params» for k_is
      refine' My.txt_mk ?e1 ?e2 ?e3 ..
      (case e1 => PySem.W.k_is)                    -- in the order: a name -> its address -> its object -> its parts
      (case e2 => PySem.W.k_is)
      ..
    obtain ⟨t, T⟩ := T
    have e0 := hmg.symm.trans (PySem.W.mg_of KX G T.law)
    cases e0                                       -- fa is the law's own address
    exact ⟨_, fun s u => .of_eq rfl, fun base kb nb => My.law_fn T kb nb⟩     -- if «.of_eq rfl» comes too early: refine' ⟨_, ?b, fun base kb nb => My.law_fn T kb nb⟩; exact fun s u => .of_eq rfl
  case S => exact fun w H a ns hl hO hS => ..
  case C => exact ..
(the tactic k_is has no namespace: write k_is) -/
/-! SHORT WORDS over the layer: a def of the text, its body, what a loop and a test want. -/
namespace L2
open PySem PySem.Spec PyProof.Rows
/-! ### the text by places -/
def defArgs (s : Stmt) : Arguments := match s with
  | .FunctionDef _ a _ _ _ _ _ _ _ _ => a
  | _ => { posonlyargs := [], args := [], vararg := none, kwonlyargs := [], kw_defaults := [], kwarg := none, defaults := [] }
def defBody (s : Stmt) : List Stmt := match s with
  | .FunctionDef _ _ b _ _ _ _ _ _ _ => b
  | _ => []
def defScope (s : Stmt) : Scope := match s with
  | .FunctionDef _ _ _ _ _ _ sc _ _ _ => sc
  | _ => { kind := .function, names := [], isGenerator := false, isCoroutine := false }
/-! ### no exception leaves a def -/
abbrev CX0 : CXT := fun _ _ _ _ _ _ => False
abbrev E0 : XK := fun _ _ _ => False
/-! ### a def (or method) of the text as it stands behind the top -/
structure Fun (K : PySem.W.Frag) (x qual : Str) (st : Stmt) (f : Addr) (fd : FuncData) : Prop where
  ex : ∃ (oc : Value) (od : Option Addr) (kV doc pm : Value) (an : Option Addr) (cdv ct : Value) (osl : Array (Option Value)),
    fd = PySem.W.fnOf x qual (defArgs st) (defBody st) (defScope st) .none kV doc pm an cdv ct ∧ K.lookup f = some ⟨oc, od, .func fd, osl⟩ ∧ PySem.W.codeIn K cdv qual = true
  kp : PySem.W.keepIn K (.ref f) = true
section
variable {P : Program} {w : World} {K : PySem.W.Frag} {mg : Str → Option Value} {base : Heap}
/-- how its arguments bind (no defaults): h is «fun _ _ _ _ _ _ us hl => match us, hl with | [_, _], _ => rfl», one _ a parameter -/
theorem Fun.binds {x qual : Str} {st : Stmt} {f : Addr} {fd : FuncData} {ps : List Str} (F : Fun K x qual st f fd)
    (h : ∀ (kV doc pm : Value) (an : Option Addr) (cdv ct : Value) (us : List Value), us.length = ps.length → bindArgs (PySem.W.fnOf x qual (defArgs st) (defBody st) (defScope st) .none kV doc pm an cdv ct) ⟨us, []⟩ = pure (ps.zip us)) : Binds K fd ps [] := by
  obtain ⟨oc, od, kV, doc, pm, an, cdv, ct, osl, rfl, lk, hcd⟩ := F.ex
  exact .all (h kV doc pm an cdv ct)
theorem fun_mk {x qual : Str} {st : Stmt} {f : Addr} {oc : Value} {od an : Option Addr} {osl : Array (Option Value)} {kV doc pm cdv ct : Value} (l : K.lookup f = some ⟨oc, od, .func (PySem.W.fnOf x qual (defArgs st) (defBody st) (defScope st) .none kV doc pm an cdv ct), osl⟩)
    (c : PySem.W.codeIn K cdv qual = true) (k : PySem.W.keepIn K (.ref f) = true) : Fun K x qual st f (PySem.W.fnOf x qual (defArgs st) (defBody st) (defScope st) .none kV doc pm an cdv ct) := ⟨⟨oc, od, kV, doc, pm, an, cdv, ct, osl, rfl, l, c⟩, k⟩
end
/-! ### expressions in short: the name that stands in the i-th slot -/
section
variable {X : Cx}
end
/-! ### tests -/
theorem iteF {A B : Prop} (h : B) : if false = true then A else B := by
  rw [if_neg Bool.false_ne_true]
  exact h
theorem iteT {A B : Prop} (h : A) : if true = true then A else B := by
  rw [if_pos rfl]
  exact h
theorem ite2 {c A B : Prop} [Decidable c] (h1 : c → A) (h2 : ¬ c → B) : if c then A else B := by
  by_cases h : c
  · rw [if_pos h]
    exact h1 h
  · rw [if_neg h]
    exact h2 h
/-! ### heaps -/
/-- all that was tracked is as it was -/
def Same (H H' : Hp) : Prop := ∀ b o, H b = some o → H' b = some o
theorem Same.refl (H : Hp) : Same H H := fun _ _ h => h
theorem Same.trans {H H1 H2 : Hp} (a : Same H H1) (b : Same H1 H2) : Same H H2 := fun c o h => b c o (a c o h)
theorem Same.free {H H' : Hp} (e : Same H H') {l : Addr} (h : H' l = Option.none) : H l = Option.none := by
  cases q : H l with
  | none => rfl
  | some o =>
    rw [e l o q] at h
    cases h
theorem Same.seq {K : PySem.W.Frag} {H H' : Hp} {a : Addr} {xs : List V} (e : Same H H') (h : SqL K H a xs) : SqL K H' a xs := by
  rcases h with (h | ⟨o, h⟩) | h
  · exact .inl (.inl (e _ _ h))
  · exact .inl (.inr ⟨o, e _ _ h⟩)
  · exact .inr h
end L2
set_option maxRecDepth 100000
namespace L2
open PySem PySem.Spec PyProof.Rows
/-! ### lists of pairs as tables -/
section
variable {κ : Type} [DecidableEq κ]
def valV (kvs : List (κ × V)) (k : κ) : Option V := (kvs.find? fun kv => decide (kv.1 = k)).map (·.2)
/-- in its place, or at the end -/
def putK (kvs : List (κ × V)) (k : κ) (v : V) : List (κ × V) :=
  if (kvs.any fun kv => decide (kv.1 = k)) = true then kvs.map (fun kv => if kv.1 = k then (kv.1, v) else kv) else kvs ++ [(k, v)]
end
/-! ### a tracked dict, its keys ints and texts or tuples of these -/
section
variable {P : Program} {w : World} {H : Hp} {h : Heap} {a : Addr}
end
/-- what the dict at a holds at the key y -/
def DGet (H : Hp) (a : Addr) (y : V) (r : Option V) : Prop :=
  (∃ kvs k, Rd H a (.dK kvs) ∧ y = kV k ∧ r = valV kvs k) ∨ ∃ kvs k b, Rd H a (.dT kvs) ∧ y = .ref b ∧ H b = some (.tup (k.map kV)) ∧ r = valV kvs k
/-- the heap behind a[y] = v -/
def DPut (H : Hp) (a : Addr) (y v : V) (H' : Hp) : Prop :=
  (∃ kvs k, H a = some (.dK kvs) ∧ y = kV k ∧ kvs.length < sizeLine ∧ H' = upd H a (.dK (putK kvs k v))) ∨
  ∃ kvs k b, H a = some (.dT kvs) ∧ y = .ref b ∧ H b = some (.tup (k.map kV)) ∧ kvs.length < sizeLine ∧ H' = upd H a (.dT (putK kvs k v))
section
variable {X : Cx} {pins : List (Addr × Obj)} {σ : St} {H : Hp} {s : Shared} {a : Addr} {y v : V} {u r : Value} {o : Option V} {A : Around} {E : Value → Shared → Prop}
end
section
variable {X : Cx} {pins : List (Addr × Obj)} {σ : St} {H : Hp} {s : Shared} {a : Addr} {kvs : List (Key × V)} {k : Key} {u : Value} {A : Around} {E : Value → Shared → Prop}
end
/-! ### readings and rules -/
/-- d[y] -/
def tDGet (td ty : TE) : TE := fun σ H Q => td σ H fun x H1 => ty σ H1 fun y H2 => ∃ a v, x = .ref a ∧ DGet H2 a y (some v) ∧ Q v H2
/-- y in d, y not in d -/
def tDIn (ty td : TE) : TE := fun σ H Q => ty σ H fun y H1 => td σ H1 fun x H2 => ∃ a o, x = .ref a ∧ DGet H2 a y o ∧ Q (.bl o.isSome) H2
def tDNotIn (ty td : TE) : TE := fun σ H Q => ty σ H fun y H1 => td σ H1 fun x H2 => ∃ a o, x = .ref a ∧ DGet H2 a y o ∧ Q (.bl (!o.isSome)) H2
/-- d[y] = v -/
def sDPut (td ty tv : TE) : TS := fun D σ H => tv σ H fun v H1 => td σ H1 fun x H2 => ty σ H2 fun y H3 => ∃ a H4, x = .ref a ∧ DPut H3 a y v H4 ∧ D.nx σ H4
section
variable {X : Cx} {o i e value : Expr} {pos pos' tpos : Pos} {td ty tv : TE}
end
/-! ### displays -/
def tDNewT : TE := fun _ H Q => ∀ p, H p = none → Q (.ref p) (upd H p (.dT []))
section
variable {X : Cx} {pos : Pos}
end
/-! ### methods -/
/-- a is a dict, whatever its keys -/
def IsD (H : Hp) (a : Addr) : Prop := (∃ kvs, Rd H a (.dK kvs)) ∨ ∃ kvs, Rd H a (.dT kvs)
section
variable {X : Cx} {pins : List (Addr × Obj)} {σ : St} {H : Hp} {s : Shared} {a : Addr} {y d : V} {u r : Value} {o : Option V} {A : Around} {E : Value → Shared → Prop}
end
def tDGet2 (td ty tx : TE) : TE := fun σ H Q => td σ H fun x H1 => ∃ a, x = .ref a ∧ IsD H1 a ∧ ty σ H1 fun y H2 => tx σ H2 fun z H3 => ∃ o, DGet H3 a y o ∧ Q (o.getD z) H3
section
variable {X : Cx} {o e f : Expr} {apos cpos : Pos} {td ty tx : TE}
end
end L2
set_option maxRecDepth 100000
set_option maxHeartbeats 4000000
namespace L2
open PySem PySem.Spec PyProof.Rows
/-! ### an untracked object of ours comes to be tracked -/
section
variable {X : Cx} {pins : List (Addr × Obj)} {σ : St} {H : Hp} {s : Shared} {a : Addr} {o : HO}
theorem Inv.track (I : Inv X pins σ H s) (hn : H a = none) (h0 : X.s₀.heap.objs.size ≤ a) (hL : a ≠ X.env.locals) (hC : ∀ x c, X.env.cells.lookup x = some c → c ≠ a)
    (hp : ∀ p ∈ X.pn ++ pins, p.1 ≠ a) (new : ObjOk X.prog X.w (upd H a o) s.heap a o) : Inv X pins σ (upd H a o) s := by
  have ne0 : ∀ b u, X.s₀.heap.get? b = some u → b ≠ a := fun b u e => Nat.ne_of_lt (Nat.lt_of_lt_of_le (Heap.lt_size e) h0)
  have neH : ∀ b u, H b = some u → b ≠ a := fun b u e => ne_of_none e hn
  refine ⟨I.ok, I.os, I.bare, ⟨I.base.keep, I.base.slot, fun b u e n hx => ?_, I.base.there, fun b xs e => ?_, fun b u xs e => ?_, fun b ps e => ?_⟩, I.loc, I.cell, ?_, fun x c e => ?_, fun p q => ?_, fun b u e => ?_, I.len⟩
  · rw [upd_ne (ne0 b u e)]; exact I.base.free b u e n hx
  · have z := I.base.tups b xs e
    rw [upd_ne (neH b _ z)]; exact z
  · have z := I.base.frzs b u xs e
    rw [upd_ne (neH b _ z)]; exact z
  · obtain ⟨m, z⟩ := I.base.tbls b ps e
    exact ⟨m, by rw [upd_ne (neH b _ z)]; exact z⟩
  · rw [upd_ne (Ne.symm hL)]; exact I.free
  · rw [upd_ne (hC x c e)]; exact I.freeC x c e
  · obtain ⟨z1, z2, z3⟩ := I.pin p q
    exact ⟨z1, by rw [upd_ne (hp p q)]; exact z2, z3⟩
  · by_cases hb : b = a
    · subst hb; rw [upd_same] at e; cases e; exact new
    · rw [upd_ne hb] at e
      exact (I.hok b u e).stay (fun _ _ _ q => q) (fun c q => by rw [upd_ne (neH c _ q)]; exact q) fun c xs q => by rw [upd_ne (neH c _ q)]; exact q
end
/-! ### the cells that a block takes along -/
def closL (cells : List (Str × Addr)) : List (Str × NameKind) → List (Str × Addr) → List (Str × Addr)
  | [], acc => acc
  | (n, k) :: r, acc => closL cells r (if k = .free then (n, (cells.lookup n).getD 0) :: acc else acc)
theorem closureFor_go (env : Env) : ∀ (names : List (Str × NameKind)) (acc : List (Str × Addr)), (∀ y ∈ names, y.2 = .free → ∃ c, env.cells.lookup y.1 = some c) →
    (forIn names acc (fun (x : Str × NameKind) (cs : List (Str × Addr)) => match x with
      | (name, kind) => if (kind == NameKind.free) = true then do let a ← cellOf env name; pure (ForInStep.yield ((name, a) :: cs)) else pure (ForInStep.yield cs)) : Sem (List (Str × Addr))) = pure (closL env.cells names acc)
  | [], acc, _ => rfl
  | (n, k) :: r, acc, h => by
    have hr := fun acc' => closureFor_go env r acc' fun y hy => h y (List.mem_cons_of_mem _ hy)
    rw [List.forIn_cons]
    by_cases hk : k = .free
    · subst hk
      obtain ⟨c, e⟩ := h (n, .free) List.mem_cons_self rfl
      have e' : cellOf env n = pure c := by unfold cellOf; rw [e]
      have ec : closL env.cells ((n, .free) :: r) acc = closL env.cells r ((n, c) :: acc) := by simp [closL, e]
      rw [ec, ← hr]
      simp [e']
    · have hb : (k == NameKind.free) = false := by simpa using hk
      have ec : closL env.cells ((n, k) :: r) acc = closL env.cells r acc := by simp [closL, hk]
      rw [ec, ← hr]
      simp [hb]
theorem closureFor_of {scope : Scope} {env : Env} (h : ∀ y ∈ scope.names, y.2 = .free → ∃ c, env.cells.lookup y.1 = some c) : closureFor scope env = pure (closL env.cells scope.names []) := by
  have := closureFor_go env scope.names [] h
  simp only [closureFor]
  rw [← this]
  simp
theorem closL_look {cells : List (Str × Addr)} : ∀ (names : List (Str × NameKind)) (acc : List (Str × Addr)) (x : Str) (c : Addr), (closL cells names acc).lookup x = some c → (acc.lookup x = some c) ∨ ((x, .free) ∈ names ∧ (cells.lookup x).getD 0 = c)
  | [], acc, x, c, h => .inl h
  | (n, k) :: r, acc, x, c, h => by
    simp only [closL] at h
    rcases closL_look r _ x c h with z | ⟨z1, z2⟩
    · by_cases hk : k = .free
      · subst hk
        simp only [if_true] at z
        rw [List.lookup_cons] at z
        by_cases hx : x == n
        · simp only [hx] at z
          have hxn : x = n := eq_of_beq hx
          subst hxn
          exact .inr ⟨List.mem_cons_self, Option.some.inj z⟩
        · have hx' : (x == n) = false := by simpa using hx
          simp only [hx'] at z
          exact .inl z
      · simp only [if_neg hk] at z
        exact .inl z
    · exact .inr ⟨List.mem_cons_of_mem _ z1, z2⟩
theorem closL_has {cells : List (Str × Addr)} : ∀ (names : List (Str × NameKind)) (acc : List (Str × Addr)) (x : Str), ((x, NameKind.free) ∈ names ∨ ∃ c, acc.lookup x = some c) → ∃ c, (closL cells names acc).lookup x = some c
  | [], acc, x, h => by
    rcases h with h | h
    · cases h
    · exact h
  | (n, k) :: r, acc, x, h => by
    simp only [closL]
    refine closL_has r _ x ?_
    rcases h with h | ⟨c, h⟩
    · rcases List.mem_cons.mp h with e | h
      · cases e
        refine .inr ?_
        simp [List.lookup_cons]
      · exact .inl h
    · refine .inr ?_
      by_cases hk : k = .free
      · simp only [if_pos hk, List.lookup_cons]
        cases hx : x == n
        · exact ⟨c, h⟩
        · exact ⟨_, rfl⟩
      · simp only [if_neg hk]; exact ⟨c, h⟩
theorem relabel_look {env : Env} : ∀ (names : List (Str × NameKind)) (x : Str),
    (names.map fun (n, k) => if (k == NameKind.free && env.scope.kind == .function && env.kindOf n == some .cell) then (n, NameKind.cell) else (n, k)).lookup x =
      (names.lookup x).map fun k => if (k == NameKind.free && env.scope.kind == .function && env.kindOf x == some .cell) then NameKind.cell else k
  | [], _ => rfl
  | (n, k) :: r, x => by
    have ih := relabel_look (env := env) r x
    show List.lookup x ((if (k == NameKind.free && env.scope.kind == .function && env.kindOf n == some .cell) = true then (n, NameKind.cell) else (n, k)) :: _) = _
    cases hx : x == n with
    | true =>
      have e : x = n := eq_of_beq hx
      subst e
      by_cases hc : (k == NameKind.free && env.scope.kind == .function && env.kindOf x == some .cell) = true
      · rw [if_pos hc]; simp only [List.lookup_cons, beq_self_eq_true, Option.map_some]; rw [if_pos hc]
      · rw [if_neg hc]; simp only [List.lookup_cons, beq_self_eq_true, Option.map_some]; rw [if_neg hc]
    | false =>
      by_cases hc : (k == NameKind.free && env.scope.kind == .function && env.kindOf n == some .cell) = true
      · rw [if_pos hc]; simp only [List.lookup_cons, hx]; exact ih
      · rw [if_neg hc]; simp only [List.lookup_cons, hx]; exact ih
/-! ### the loop of a list comprehension, any target, no exception -/
section
variable {prog : Program} {w : World} {A : Around} {R : Result → Shared → Prop} {s : Shared}
theorem compLoop_any {elt target iter : Expr} {ifs : List Expr} {scope : Scope} {pos : Pos} {it acc : Value} {env : Env} (I : Nat → Shared → Prop)
    (turn : ∀ n s, I n s → wpAny (model prog w) A (pyNext it) (fun r s₁ => match r with
      | none => R (.ok .next) s₁
      | some v => wpAny (model prog w) A (letOwnedTupleGo target it v) (fun _ s₁' => wpAny (model prog w) A (assign target env v) (fun _ s₂ =>
          wpAny (model prog w) A (forIn ifs true fun c r => if r = true then do let ok ← isTrue c env (eval c env); pure (ForInStep.yield ok) else pure (ForInStep.yield r)) (fun ok s₃ =>
            if ok = true then wpAny (model prog w) A (eval elt env) (fun x s₄ =>
              wpAny (model prog w) A (call (.builtin "list.append") [acc, x]) (fun _ s₅ => ∃ m, m < n ∧ I m s₅) (fun _ _ => False) s₄) (fun _ _ => False) s₃
            else ∃ m, m < n ∧ I m s₃) (fun _ _ => False) s₂) (fun _ _ => False) s₁') (fun _ _ => False) s₁) (fun _ _ => False) s)
    (n : Nat) (h : I n s) : codeAny (model prog w) A (.compLoop (.ListComp elt [⟨target, iter, ifs, 0⟩] scope pos) 0 it acc env) R s := by
  refine codeAny_loop rfl I (fun n s hI => ?_) n h
  show wpAny _ A ((compTurn (.ListComp elt [⟨target, iter, ifs, 0⟩] scope pos) 0 it acc env).onRaise (fun x => do noteFrame x env; theTreesLotGoes x)) _ _ s
  refine wpAny_noted ?_
  rw [compTurn_list]
  refine wpAny_bind (wpAny_standAt (wpAny_bind (wpAny_mono (turn n s hI) (fun r s₁ h₁ => ?_) fun _ _ h' => h'.elim)))
  cases r with
  | none => exact wpAny_pure h₁
  | some v =>
    refine wpAny_bind (wpAny_mono h₁ (fun _ s₁' h₁' => ?_) fun _ _ h' => h'.elim)
    refine wpAny_bind (wpAny_mono h₁' (fun _ s₂ h₂ => wpAny_bind (wpAny_mono h₂ (fun ok s₃ h₃ => ?_) fun _ _ h' => h'.elim)) fun _ _ h' => h'.elim)
    cases ok with
    | false => exact wpAny_pure ⟨rfl, h₃⟩
    | true =>
      exact wpAny_bind (wpAny_bind (wpAny_mono h₃ (fun x s₄ h₄ => wpAny_bind (wpAny_mono h₄ (fun _ s₅ h₅ => wpAny_pure (wpAny_pure ⟨rfl, h₅⟩)) fun _ _ h' => h'.elim)) fun _ _ h' => h'.elim))
end
/-! ### the context of a block -/
def compCx (X : Cx) (scope : Scope) (N : List Str) (ex : List Addr) (C : Addr) (s : Shared) (H : Hp) : Cx where
  prog := X.prog
  w := X.w
  K := X.K
  mg := X.mg
  base := X.base
  A := X.A
  N := N
  s₀ := s
  H₀ := H
  env := compEnvC scope (closL X.env.cells scope.names []) C X.env
  outer := X.stack
  stack := X.stack
  ex := ex
  fn := fun _ => false
  calm := X.calm
  pn := []
  xe := fun _ _ => False
/-- what the scope of a block must be like: fv are the names that it takes from around, with their slots there -/
structure CompOk (X : Cx) (scope : Scope) (ln : List Str) (fv : List (Str × Nat)) : Prop where
  kind : scope.kind = .function
  nocell : ∀ y ∈ scope.names, y.2 ≠ .cell
  locals : ∀ y ∈ scope.names, y.2 = .local → scope.names.lookup y.1 = some .local
  free : ∀ y ∈ scope.names, y.2 = .free → (X.env.kindOf y.1 = some .cell ∨ X.env.kindOf y.1 = some .free)
  fvs : ∀ p ∈ fv, X.N[p.2]? = some p.1 ∧ scope.names.lookup p.1 = some .free
def fvals (σ : St) (fv : List (Str × Nat)) : St := fv.map fun p => (σ[p.2]?).join
/-- the targets of a block: one name, or a tuple of n names -/
def tgtK (K : PySem.W.Frag) : Option Nat → V → Hp → (List V → Prop) → Prop
  | none, x, _, Q => Q [x]
  | some n, x, H, Q => ∃ a xs, x = .ref a ∧ SqT K H a xs ∧ xs.length = n ∧ Q xs
/-- a block's test -/
def tCond : Option TT → TT
  | none => fun _ H k => k true H
  | some t => t
def tComp (K : PySem.W.Frag) (wi : TI) (tk : Option Nat) (fv : List (Str × Nat)) (tc : Option TT) (te : TE) : TE := fun σ H Q =>
  wi σ H fun J H1 => ∃ W : Nat → Nat → List V → Hp → Prop, (∃ m, W 0 m [] H1) ∧ ∀ i m ys H2, W i m ys H2 →
    (J.stop i H2 ∧ ∀ p, H2 p = none → Q (.ref p) (upd H2 p (.lst ys))) ∨
    (J.go i H2 ∧ ∀ x H3, J.yld i H2 x H3 → tgtK K tk x H3 fun xs =>
      tCond tc (xs.map some ++ fvals σ fv) H3 fun b H5 =>
        if b = true then te (xs.map some ++ fvals σ fv) H5 fun y H6 => ys.length < sizeLine ∧ ∃ m', m' < m ∧ W (i + 1) m' (ys ++ [y]) H6
        else ∃ m', m' < m ∧ W (i + 1) m' ys H5)
section
variable {X : Cx} {pins : List (Addr × Obj)} {σ : St} {H : Hp} {s₂ s₃ : Shared} {scope : Scope} {ln : List Str} {fv : List (Str × Nat)} {fp : List Addr} {h₁ : Heap} {D C : Addr} {m : Str → Option Value} {t : Nat}
theorem CompOk.cells (S : CompOk X scope ln fv) (I : Inv X pins σ H s₂) {x : Str} {c : Addr} (h : (closL X.env.cells scope.names []).lookup x = some c) : X.env.cells.lookup x = some c ∧ (x, NameKind.free) ∈ scope.names := by
  rcases closL_look _ _ _ _ h with z | ⟨z1, z2⟩
  · cases z
  · obtain ⟨c', e⟩ := I.ok.has x (S.free _ z1 rfl)
    rw [e] at z2
    have z3 : c' = c := z2
    subst z3
    exact ⟨e, z1⟩
theorem CompOk.clos (S : CompOk X scope ln fv) (I : Inv X pins σ H s₂) : closureFor scope X.env = pure (closL X.env.cells scope.names []) :=
  closureFor_of fun y hy hk => I.ok.has y.1 (S.free y hy hk)
theorem comp_inv (S : CompOk X scope ln fv) (I : Inv X pins σ H s₂) (f2 : ∀ b ∈ fp, FpOk X pins H b) (hob : ∀ b ∈ fp, ∃ o, s₂.heap.get? b = some o)
    (os : s₃.os = s₂.os) (gens : s₃.gens = s₂.gens) (k3 : ∀ b o, s₂.heap.get? b = some o → s₃.heap.get? b = some o) (hD : D = s₂.heap.objs.size) (h3 : s₃.heap.objs.size = s₂.heap.objs.size + 1) (hC : C = s₃.heap.objs.size)
    (k4 : ∀ b o, s₃.heap.get? b = some o → h₁.get? b = some o) (hns : h₁.Ns C m) :
    Inv (compCx X scope (ln ++ fv.map (·.1)) (D :: fp) C s₃ H) [] (ln.map (fun _ => none) ++ fvals σ fv) H { s₃ with heap := h₁, toks := t } := by
  have cl : ∀ {x c}, (closL X.env.cells scope.names []).lookup x = some c → X.env.cells.lookup x = some c := fun h => (S.cells I h).1
  have ltc : ∀ {x c}, (closL X.env.cells scope.names []).lookup x = some c → c < s₂.heap.objs.size := fun h => by
    obtain ⟨v, q⟩ := I.cell _ _ (cl h)
    exact q.lt
  have ltf : ∀ b ∈ fp, b < s₂.heap.objs.size := fun b hb => by obtain ⟨o, e⟩ := hob b hb; exact Heap.lt_size e
  have exb : ∀ b ∈ D :: fp, b ≤ s₂.heap.objs.size := fun b hb => by
    rcases List.mem_cons.mp hb with e | hb
    · rw [e, hD]; exact Nat.le_refl _
    · exact Nat.le_of_lt (ltf b hb)
  have klook : ∀ x, (relabel scope X.env).names.lookup x = (scope.names.lookup x).map fun k => if (k == NameKind.free && X.env.scope.kind == .function && X.env.kindOf x == some .cell) then NameKind.cell else k := fun x => relabel_look scope.names x
  have kfree : ∀ x, scope.names.lookup x = some .free → ((relabel scope X.env).names.lookup x = some .cell ∨ (relabel scope X.env).names.lookup x = some .free) := fun x e => by
    rw [klook, e]
    simp only [Option.map_some]
    split
    · exact .inl rfl
    · exact .inr rfl
  have kback : ∀ x, ((relabel scope X.env).names.lookup x = some .cell ∨ (relabel scope X.env).names.lookup x = some .free) → (x, NameKind.free) ∈ scope.names := fun x e => by
    rw [klook] at e
    cases q : scope.names.lookup x with
    | none => rw [q] at e; rcases e with e | e <;> cases e
    | some k =>
      rw [q] at e
      have hm : (x, k) ∈ scope.names := PySem.mem_of_lookup q
      simp only [Option.map_some] at e
      by_cases hk : k = .free
      · rw [hk] at hm; exact hm
      · have hb : (k == NameKind.free) = false := by simpa using hk
        simp only [hb, Bool.false_and, Bool.false_eq_true, if_false] at e
        rcases e with e | e
        · exact absurd (Option.some.inj e) (S.nocell _ hm)
        · exact absurd (Option.some.inj e) hk
  refine ⟨⟨I.ok.mod, S.kind, I.ok.glob, I.ok.blt, Nat.le_of_eq hC.symm, fun x y c h1 h2 => I.ok.inj x y c (cl h1) (cl h2), fun x hx => closL_has _ _ x (.inl (kback x hx)), fun x c h _ => (by cases h), I.ok.hd, I.ok.frames, .inl rfl, fun b hb => ⟨?_, fun x c e => ?_⟩, fun b o e => ⟨k3 b o (I.bs b o e).1, (I.bs b o e).2⟩, ?_, fun b o e hb => ?_, fun b hb hf => ?_, ?_, I.stkFree⟩,
    rfl, ?_, Un.kept fun b u e => k4 b u e, ⟨m, hns, fun i x v e1 e2 e3 => ?_⟩, fun x c e => ?_, I.hok.fresh ?_, fun x c e => I.freeC x c (cl e), fun p hp => absurd (show p ∈ ([] : List (Addr × Obj)) from hp) (by simp), I.hok.kept fun b u e => k4 b u (k3 b u e), ?_⟩
  · show b ≠ C
    have := exb b hb
    rw [hC, h3]; exact Nat.ne_of_lt (Nat.lt_succ_of_le this)
  · have q1 := ltc e
    rcases List.mem_cons.mp hb with z | z
    · rw [z, hD]; exact Nat.ne_of_lt q1
    · exact (f2 b z).2.2.2.2.1 x c (cl e)
  · show X.base.objs.size ≤ s₃.heap.objs.size
    have := Nat.le_trans I.ok.bsz I.sz
    omega
  · have e2 := (I.bs b o e).1
    have hb' : b ∈ D :: fp := hb
    rcases List.mem_cons.mp hb' with z | z
    · have := Heap.lt_size e2
      rw [z, hD] at this; exact Nat.lt_irrefl _ this
    · rcases (f2 b z).2.2.2.1 with q | q
      · exact I.ok.noex b o e q
      · exact absurd (Nat.lt_of_lt_of_le (Heap.lt_size (I.ok.bs b o e).1) q) (Nat.lt_irrefl _)
  · have hf' : b ∈ frs X.stack := hf
    have hb' : b ∈ D :: fp := hb
    rcases List.mem_cons.mp hb' with z | z
    · rcases List.mem_cons.mp (I.stkSub b hf') with q | q
      · have := I.lt
        rw [← q, z, hD] at this; exact Nat.lt_irrefl _ this
      · exact I.nofs (by rw [z, hD]; exact Nat.le_refl _) q
    · rcases List.mem_cons.mp (I.stkSub b hf') with q | q
      · exact (f2 b z).2.1 q
      · exact (f2 b z).2.2.1 q
  · exact PySem.Heap.FunFrames.of_keeps (fun b o e _ => ⟨o, k3 b o e, rfl⟩) I.stack
  · show AllBare s₃.gens
    rw [gens]; exact I.bare
  · have hi : ln.length ≤ i := by
      by_cases hi : i < ln.length
      · exfalso
        rw [List.getElem?_append_left (by simpa using hi), List.getElem?_map] at e2
        cases q : ln[i]? with
        | none => rw [q] at e2; cases e2
        | some y => rw [q] at e2; cases e2
      · omega
    have e1' : (ln ++ fv.map (·.1))[i]? = some x := e1
    rw [List.getElem?_append_right hi, List.getElem?_map] at e1'
    rw [List.getElem?_append_right (by simpa using hi), List.length_map] at e2
    unfold fvals at e2
    rw [List.getElem?_map] at e2
    cases q : fv[i - ln.length]? with
    | none => rw [q] at e1'; cases e1'
    | some p =>
      rw [q] at e1' e2
      have ex : p.1 = x := Option.some.inj e1'
      have ev : (σ[p.2]?).join = some v := Option.some.inj e2
      obtain ⟨g1, g2⟩ := S.fvs p (List.mem_of_getElem? q)
      rw [ex] at g1 g2
      have ev' : σ[p.2]? = some (some v) := by
        cases z : σ[p.2]? with
        | none => rw [z] at ev; cases ev
        | some o => rw [z] at ev; rw [show o = some v from ev]
      have hk := S.free _ (PySem.mem_of_lookup g2) rfl
      obtain ⟨m2, hn2, hl⟩ := I.loc
      obtain ⟨u, r, l⟩ := hl p.2 x v g1 ev' (by rcases hk with k | k; exact .inr (.inl k); exact .inr (.inr k))
      refine ⟨u, r, .inr ?_⟩
      rcases l with ⟨k, _⟩ | ⟨_, c, ec, z⟩
      · rcases hk with k' | k' <;> (rw [k] at k'; cases k')
      · refine ⟨kfree x g2, c, ?_, ?_⟩
        · obtain ⟨c', e'⟩ := closL_has (cells := X.env.cells) scope.names [] x (.inl (PySem.mem_of_lookup g2))
          have := cl e'
          rw [ec] at this; cases this
          exact e'
        · obtain ⟨o, ho, hd⟩ := z
          exact ⟨o, k4 c o (k3 c o ho), hd⟩
  · obtain ⟨v, o, ho, hd⟩ := I.cell x c (cl e)
    exact ⟨v, o, k4 c o (k3 c o ho), hd⟩
  · show s₂.heap.objs.size ≤ C
    rw [hC, h3]; exact Nat.le_succ _
  · show (ln.map (fun _ => none) ++ fvals σ fv).length = (ln ++ fv.map (·.1)).length
    simp [fvals]
end
/-! ### walking, under a wish for the context -/
structure TurnP (Φ : Cx → Prop) (P : Program) (w : World) (K : PySem.W.Frag) (tg : Expr) (J : It) (fp : List Addr) (it : Addr) (tn : Nat → Heap → Prop) : Prop where
  mem : it ∈ fp
  obj : ∀ i h, tn i h → ∀ b ∈ fp, ∃ o, h.get? b = some o ∧ ∀ v, o.data ≠ .cell v
  keep : ∀ i h h', tn i h → (∀ b ∈ fp, ∀ o, h.get? b = some o → h'.get? b = some o) → tn i h'
  item : ∀ (X : Cx), X.prog = P → X.w = w → X.K = K → Φ X → ∀ (i : Nat) (pins : List (Addr × Obj)) (s : Shared) (σ : St) (H : Hp) (E : Value → Shared → Prop), Inv X pins σ H s → (∀ b ∈ fp, FpOk X pins H b) → tn i s.heap → J.go i H →
    wpAny (model P w) X.A (pyNext (.ref it)) (fun r s1 => ∃ u, r = some u ∧
      wpAny (model P w) X.A (letOwnedTupleGo tg (.ref it) u) (fun _ s2 => ∃ x H', Inv X pins σ H' s2 ∧ RelV x u ∧ J.yld i H x H' ∧ tn (i + 1) s2.heap ∧ ∀ b ∈ fp, H' b = none) E s1) E s
  done : ∀ (X : Cx), X.prog = P → X.w = w → X.K = K → Φ X → ∀ (i : Nat) (pins : List (Addr × Obj)) (s : Shared) (σ : St) (H : Hp) (E : Value → Shared → Prop), Inv X pins σ H s → (∀ b ∈ fp, FpOk X pins H b) → tn i s.heap → J.stop i H →
    wpAny (model P w) X.A (pyNext (.ref it)) (fun r s1 => r = none ∧ Inv X pins σ H s1) E s
  self : ∀ (A : Around) (i : Nat) (s : Shared) (Q : Value → Shared → Prop) (E : Value → Shared → Prop), tn i s.heap → Q (.ref it) s → wpAny (model P w) A (pyIter (.ref it)) Q E s
def PIP (Φ : Cx → Prop) (X : Cx) (tg iter : Expr) (wi : TI) : Prop :=
  ∀ (pins : List (Addr × Obj)) (s : Shared) (σ : St) (H : Hp) (R : It → Hp → Prop), Inv X pins σ H s → wi σ H R →
    wpAny (model X.prog X.w) X.A (eval iter X.env) (fun v s1 => wpAny (model X.prog X.w) X.A (pyIter v) (fun itv s2 =>
      ∃ (it : Addr) (fp : List Addr) (tn : Nat → Heap → Prop) (J : It) (H' : Hp), itv = .ref it ∧ Inv X pins σ H' s2 ∧ TurnP Φ X.prog X.w X.K tg J fp it tn ∧ tn 0 s2.heap ∧ (∀ b ∈ fp, FpOk X pins H' b) ∧ R J H') X.xe s1) X.xe s
abbrev Calm (X : Cx) : Prop := X.calm = true
theorem PI.p {X : Cx} {tg iter : Expr} {wi : TI} (h : PI X tg iter wi) : PIP Calm X tg iter wi := fun pins s σ H R I q =>
  thn (h pins s σ H R I q) fun v s1 h1 => thn h1 fun itv s2 ⟨it, fp, tn, J, H', e, I', T, st, f, r⟩ => ⟨it, fp, tn, J, H', e, I', ⟨T.mem, T.obj, T.keep, T.item, T.done, T.self⟩, st, f, r⟩
/-! ### the block itself -/
section
variable {X : Cx} {pins : List (Addr × Obj)} {σ : St} {H : Hp} {s₂ : Shared} {scope : Scope} {ln : List Str} {fv : List (Str × Nat)} {elt tg iter : Expr} {ifs : List Expr} {pos : Pos}
  {J : It} {fp : List Addr} {it : Addr} {tn : Nat → Heap → Prop} {tk : Option Nat} {tc : Option TT} {te : TE} {Qv : VK} {RR : Value → Addr → Result → Shared → Prop} {E : Value → Shared → Prop}
/-- the target stores what tgtK says -/
def TgtOkP (Ψ : Hp → Prop) (X : Cx) (scope : Scope) (ln : List Str) (fv : List (Str × Nat)) (tg : Expr) (tk : Option Nat) : Prop :=
  ∀ (ex : List Addr) (C : Addr) (s : Shared) (H : Hp), Ψ H → ∃ g, PG (compCx X scope (ln ++ fv.map (·.1)) ex C s H) tg g ∧
    ∀ (x : V) (pre φ : St) (H' : Hp) (Q : St → Hp → Prop), pre.length = ln.length → tgtK X.K tk x H' (fun xs => xs.length = ln.length → Q (xs.map some ++ φ) H') → g x (pre ++ φ) H' Q
def TgtOk (X : Cx) (scope : Scope) (ln : List Str) (fv : List (Str × Nat)) (tg : Expr) (tk : Option Nat) : Prop :=
  ∀ (ex : List Addr) (C : Addr) (s : Shared) (H : Hp), ∃ g, PG (compCx X scope (ln ++ fv.map (·.1)) ex C s H) tg g ∧
    ∀ (x : V) (pre φ : St) (H' : Hp) (Q : St → Hp → Prop), pre.length = ln.length → tgtK X.K tk x H' (fun xs => xs.length = ln.length → Q (xs.map some ++ φ) H') → g x (pre ++ φ) H' Q
def IfsOk (X : Cx) (scope : Scope) (N : List Str) (ifs : List Expr) (tc : Option TT) : Prop :=
  match tc with
  | none => ifs = []
  | some t => ∃ c, ifs = [c] ∧ ∀ (ex : List Addr) (C : Addr) (s : Shared) (H : Hp), PT (compCx X scope N ex C s H) c t
theorem comp_block {Φ : Cx → Prop} {Ψ : Hp → Prop} (S : CompOk X scope ln fv) (hc : ∀ Xc : Cx, Xc.A = X.A → Xc.calm = X.calm → Xc.H₀ = H → Φ Xc) (hΨ : Ψ H) (hg : TgtOkP Ψ X scope ln fv tg tk) (ht : IfsOk X scope (ln ++ fv.map (·.1)) ifs tc)
    (he : ∀ (ex : List Addr) (C : Addr) (s : Shared) (H : Hp), PE (compCx X scope (ln ++ fv.map (·.1)) ex C s H) elt te)
    (I : Inv X pins σ H s₂) (T : TurnP Φ X.prog X.w X.K tg J fp it tn) (st : tn 0 s₂.heap) (f2 : ∀ b ∈ fp, FpOk X pins H b)
    (h : ∃ W : Nat → Nat → List V → Hp → Prop, (∃ m, W 0 m [] H) ∧ ∀ i m ys H2, W i m ys H2 →
      (J.stop i H2 ∧ ∀ p, H2 p = none → Qv (.ref p) (upd H2 p (.lst ys))) ∨
      (J.go i H2 ∧ ∀ x H3, J.yld i H2 x H3 → tgtK X.K tk x H3 fun xs =>
        tCond tc (xs.map some ++ fvals σ fv) H3 fun b H5 =>
          if b = true then te (xs.map some ++ fvals σ fv) H5 fun y H6 => ys.length < sizeLine ∧ ∃ m', m' < m ∧ W (i + 1) m' (ys ++ [y]) H6
          else ∃ m', m' < m ∧ W (i + 1) m' ys H5))
    (hRR : ∀ D C H' s' m, Inv X pins σ H' s' → s'.heap.Ns C m → H' C = none → C ≠ X.env.locals → X.s₀.heap.objs.size ≤ C → (∀ x c, X.env.cells.lookup x = some c → c ≠ C) → (∀ p ∈ X.pn ++ pins, p.1 ≠ C) → Qv (.ref D) H' → RR (.ref D) C (.ok .next) s') :
    wpAny (model X.prog X.w) X.A (newList []) (fun acc s₃ => wpAny (model X.prog X.w) X.A (newFunctionEnv scope X.env.globals (closL X.env.cells scope.names []) [] X.env.qual none .none (some X.env)) (fun cenv s₄ =>
      codeAny (model X.prog X.w) X.A (.compStart (.ListComp elt [⟨tg, iter, ifs, 0⟩] scope pos) 0 (.ref it) acc { cenv with scope := relabel scope X.env }) (RR acc cenv.locals) s₄) E s₃) E s₂ := by
  obtain ⟨W, ⟨m0, w0⟩, turn⟩ := h
  refine wpAny_newObj_type (wpAny_newFunctionEnv S.nocell (by intro y hy; simp at hy) (fun h₁ hns₁ hsb₁ => ?_) S.kind)
  dsimp only at hns₁ hsb₁ ⊢
  generalize hs3 : ({ s₂ with heap := s₂.heap.push { cls := .type "list", dict := none, data := .seq ([] : List Value).toArray } } : Shared) = s₃
  have hH3 : s₂.heap.push { cls := .type "list", dict := none, data := .seq ([] : List Value).toArray } = s₃.heap := by rw [← hs3]
  rw [hH3] at hns₁ hsb₁ ⊢
  have os3 : s₃.os = s₂.os := by rw [← hs3]
  have ge3 : s₃.gens = s₂.gens := by rw [← hs3]
  have sz3 : s₃.heap.objs.size = s₂.heap.objs.size + 1 := by rw [← hH3, Heap.size_push]
  have k3 : ∀ b o, s₂.heap.get? b = some o → s₃.heap.get? b = some o := fun b o e => by rw [← hH3]; exact Heap.get?_push_of_some _ e
  have k4 : ∀ b o, s₃.heap.get? b = some o → h₁.get? b = some o := fun b o e => hsb₁.extBut b o (Nat.ne_of_lt (Heap.lt_size e)) (Heap.get?_push_of_some _ e)
  have gD : s₃.heap.get? s₂.heap.objs.size = some { cls := .type "list", dict := none, data := .seq ([] : List Value).toArray } := by rw [← hH3]; exact Heap.get?_push_size _ rfl
  generalize eD : s₂.heap.objs.size = D at gD
  generalize eC : s₃.heap.objs.size = C at hns₁ hsb₁ ⊢
  have hDC : D ≠ C := by rw [← eD, ← eC, sz3]; exact Nat.ne_of_lt (Nat.lt_succ_self _)
  have hob : ∀ b ∈ fp, ∃ o, s₂.heap.get? b = some o := fun b hb => by obtain ⟨o, e, _⟩ := T.obj 0 _ st b hb; exact ⟨o, e⟩
  have hbD : ∀ b ∈ fp, b ≠ D := fun b hb => by obtain ⟨o, e⟩ := hob b hb; rw [← eD]; exact Nat.ne_of_lt (Heap.lt_size e)
  have hbC : ∀ b ∈ fp, b ≠ C := fun b hb => by
    obtain ⟨o, e⟩ := hob b hb
    have := Heap.lt_size e
    rw [← eC, sz3]; exact Nat.ne_of_lt (Nat.lt_succ_of_lt this)
  generalize eX : compCx X scope (ln ++ fv.map (·.1)) (D :: fp) C s₃ H = Xc
  have I4 : ∀ t, Inv Xc [] (ln.map (fun _ => none) ++ fvals σ fv) H { s₃ with heap := h₁, toks := t } := fun t => by
    rw [← eX]
    exact comp_inv S I f2 hob os3 ge3 k3 eD.symm sz3 eC.symm k4 hns₁
  have xL : Xc.env.locals = C := by rw [← eX]; rfl
  have xex : Xc.ex = D :: fp := by rw [← eX]; rfl
  have xfs : Xc.fs = frs X.stack := by rw [← eX]; rfl
  have xP : Xc.prog = X.prog := by rw [← eX]; rfl
  have xw : Xc.w = X.w := by rw [← eX]; rfl
  have xK : Xc.K = X.K := by rw [← eX]; rfl
  have xA : Xc.A = X.A := by rw [← eX]; rfl
  have xc : Φ Xc := hc Xc xA (by rw [← eX]; rfl) (by rw [← eX]; rfl)
  have xpn : Xc.pn = [] := by rw [← eX]; rfl
  have xxe : Xc.xe = fun _ _ => False := by rw [← eX]; rfl
  have xcell : Xc.env.cells = closL X.env.cells scope.names [] := by rw [← eX]; rfl
  have xenv : Xc.env = compEnvC scope (closL X.env.cells scope.names []) C X.env := by rw [← eX]; rfl
  have cD : ∀ x c, Xc.env.cells.lookup x = some c → c ≠ D := fun x c e => by
    rw [xcell] at e
    obtain ⟨v, q⟩ := I.cell x c (S.cells I e).1
    rw [← eD]; exact Nat.ne_of_lt q.lt
  have cF : ∀ x c, Xc.env.cells.lookup x = some c → ∀ b ∈ fp, c ≠ b := fun x c e b hb => by
    rw [xcell] at e
    exact (f2 b hb).2.2.2.2.1 x c (S.cells I e).1
  have sF : ∀ b ∈ D :: fp, b ∉ Xc.fs := fun b hb hf => by
    have := (I4 0).ok.exfs b (by rw [xex]; exact hb)
    exact this hf
  -- the iterator's objects, the list
  have stat : ∀ {H' : Hp} {oD : Obj}, (∀ b ∈ fp, H' b = none) → ∀ b ∈ fp, FpOk Xc [(D, oD)] H' b := fun hn b hb =>
    ⟨hn b hb, by rw [xL]; exact hbC b hb, sF b (List.mem_cons_of_mem _ hb), .inl (by rw [xex]; exact List.mem_cons_of_mem _ hb), fun x c e => cF x c e b hb, fun p hp => by
      rw [xpn] at hp
      rcases List.mem_singleton.mp (show p ∈ [(D, _)] from hp) with rfl
      exact (hbD b hb).symm⟩
  have loop : ∀ s₄ : Shared, s₄ = { s₃ with heap := h₁, toks := s₃.toks + ([] : List (Str × Value)).length } →
      codeAny (model X.prog X.w) X.A (.compLoop (.ListComp elt [⟨tg, iter, ifs, 0⟩] scope pos) 0 (.ref it) (.ref D) (compEnvC scope (closL X.env.cells scope.names []) C X.env)) (RR (.ref D) C) s₄ := by
    rintro s₄ rfl
    refine compLoop_any (fun n s' => ∃ i pre ys its nn H', Inv Xc [(D, { cls := .type "list", data := .seq (List.toArray its) nn })] (pre ++ fvals σ fv) H' s' ∧ pre.length = ln.length ∧ tn i s'.heap ∧ (∀ b ∈ fp, H' b = none) ∧ Vals ys its ∧ ys.length ≤ sizeLine ∧ W i n ys H') ?_ m0
      ⟨0, ln.map (fun _ => none), [], [], 0, H, (I4 _).pins_of (fun p hp => ?_), by simp, T.keep 0 _ _ st (fun b _ o e => k4 b o (k3 b o e)), fun b hb => (f2 b hb).1, .nil, Nat.zero_le _, w0⟩
    rotate_left
    · have hp' := List.mem_singleton.mp hp
      subst hp'
      refine ⟨k4 _ _ gD, I.hok.fresh (Nat.le_of_eq eD), by rw [xL]; exact hDC, sF D List.mem_cons_self, fun v z => by cases z⟩
    rintro n s' ⟨i, pre, ys, its, nn, H', I', hpre, st', fr', hv, hz, w'⟩
    have pinD := I'.pin (D, _) (List.mem_append_right _ List.mem_cons_self)
    rcases turn i n ys H' w' with ⟨stop, qn⟩ | ⟨go, step⟩
    · have td := T.done Xc xP xw xK xc i _ s' _ H' (fun _ _ => False) I' (stat fr') st' stop
      rw [xA] at td
      refine thn td fun r s1 ⟨hr, I1⟩ => ?_
      subst hr
      have pinD1 := I1.pin (D, _) (List.mem_append_right _ List.mem_cons_self)
      have b1 := I1.base
      rw [xfs, xex] at b1
      have hs0 : Xc.s₀ = s₃ := by rw [← eX]; rfl
      have hH0 : Xc.H₀ = H := by rw [← eX]; rfl
      rw [hs0, hH0] at b1
      have nD : ∀ b o, s₂.heap.get? b = some o → b ∉ fp → b ∉ D :: fp := fun b o e hb hm => by
        rcases List.mem_cons.mp hm with z | z
        · have := Heap.lt_size e
          rw [z, eD] at this; exact Nat.lt_irrefl _ this
        · exact hb z
      have un : Un (frs X.stack) fp H H' s₂.heap s1.heap := ⟨fun b o e nb hb hx => b1.keep b o (k3 b o e) nb hb (nD b o e hx), fun b o e nb hb hx => b1.slot b o (k3 b o e) nb hb (nD b o e hx), fun b o e nb hx => b1.free b o (k3 b o e) nb (nD b o e hx),
        fun b o e hx => b1.there b o (k3 b o e) (nD b o e hx), b1.tups, b1.frzs, b1.tbls⟩
      have os1 : s1.os = s₂.os := by rw [I1.os, hs0, os3]
      have hok1 := I1.hok
      rw [xP, xw] at hok1
      have J1 : Inv X pins σ H' s1 := I.call' os1 un hok1 I1.bare fun b hb => ⟨(f2 b hb).2.2.2.1, (f2 b hb).2.1, (f2 b hb).2.2.2.2.1, (f2 b hb).2.2.2.2.2⟩
      have cD' : ∀ x c, X.env.cells.lookup x = some c → c ≠ D := fun x c e => by
        obtain ⟨v, q⟩ := I.cell x c e
        rw [← eD]; exact Nat.ne_of_lt q.lt
      have cC' : ∀ x c, X.env.cells.lookup x = some c → c ≠ C := fun x c e => by
        obtain ⟨v, q⟩ := I.cell x c e
        rw [← eC, sz3]; exact Nat.ne_of_lt (Nat.lt_succ_of_lt q.lt)
      have pD : ∀ p ∈ X.pn ++ pins, p.1 ≠ D := fun p hp => by rw [← eD]; exact Nat.ne_of_lt (Heap.lt_size (I.pin p hp).1)
      have pC : ∀ p ∈ X.pn ++ pins, p.1 ≠ C := fun p hp => by
        rw [← eC, sz3]; exact Nat.ne_of_lt (Nat.lt_succ_of_lt (Heap.lt_size (I.pin p hp).1))
      have lD : D ≠ X.env.locals := by rw [← eD]; exact Nat.ne_of_gt I.lt
      have lC : C ≠ X.env.locals := by
        rw [← eC, sz3]; exact Nat.ne_of_gt (Nat.lt_succ_of_lt I.lt)
      have J2 : Inv X pins σ (upd H' D (.lst ys)) s1 := Inv.track J1 pinD1.2.1 (by rw [← eD]; exact I.sz) lD cD' pD ⟨hz, its, nn, hv, pinD1.1⟩
      obtain ⟨mC, nsC, _⟩ := I1.loc
      rw [xL] at nsC
      have fC : H' C = none := by have := I1.free; rw [xL] at this; exact this
      exact hRR D C _ s1 mC J2 nsC (by rw [upd_ne (Ne.symm hDC)]; exact fC) lC (by rw [← eC, sz3]; exact Nat.le_succ_of_le I.sz) cC' pC (qn D pinD1.2.1)
    · have ti := T.item Xc xP xw xK xc i _ s' _ H' (fun _ _ => False) I' (stat fr') st' go
      rw [xA] at ti
      refine thn ti fun r s4 ⟨u, hr, h4⟩ => ?_
      subst hr
      refine thn h4 fun _ s5 ⟨x, H5, I5, r5, y5, st5, fr5⟩ => ?_
      have I5' := I5.pinned (stat fr5) (T.obj _ _ st5)
      obtain ⟨g, pg, gq⟩ := hg (D :: fp) C s₃ H hΨ
      rw [eX] at pg
      have rd := step x H5 y5
      have as1 := pg _ s5 _ H5 x u (fun σ6 H6 => ∃ xs : List V, σ6 = xs.map some ++ fvals σ fv ∧ xs.length = ln.length ∧ H6 = H5 ∧
          tCond tc (xs.map some ++ fvals σ fv) H5 fun b H5 =>
          if b = true then te (xs.map some ++ fvals σ fv) H5 fun y H6 => ys.length < sizeLine ∧ ∃ m', m' < n ∧ W (i + 1) m' (ys ++ [y]) H6
          else ∃ m', m' < n ∧ W (i + 1) m' ys H5) I5' r5 (gq x pre (fvals σ fv) H5 _ hpre (by
            cases tk with
            | none => exact fun hl => ⟨_, rfl, hl, rfl, rd⟩
            | some k =>
              obtain ⟨a, xs, e1, e2, e3, rd⟩ := rd
              exact ⟨a, xs, e1, e2, e3, fun hl => ⟨xs, rfl, hl, rfl, rd⟩⟩))
      rw [xA, xP, xw, xxe, xenv] at as1
      refine thn as1 fun _ s6 ⟨σ6, H6, I6, xs, e6, hxs, eH, rd6⟩ => ?_
      subst e6 eH
      have pinsK : ∀ {H7 : Hp} {σ7 : St} {s7 : Shared}, Inv Xc ([(D, { cls := .type "list", data := .seq (List.toArray its) nn })] ++ pinsAt fp s5.heap) σ7 H7 s7 → tn (i + 1) s7.heap ∧ (∀ b ∈ fp, H7 b = none) ∧ s7.heap.get? D = some { cls := .type "list", data := .seq (List.toArray its) nn } ∧ H7 D = none := fun {H7 σ7 s7} I7 => by
        refine ⟨T.keep _ _ _ st5 fun b hb o e => (I7.pin (b, o) (List.mem_append_right _ (List.mem_append_right _ (mem_pinsAt hb e)))).1, fun b hb => ?_, ?_, ?_⟩
        · obtain ⟨o, e, d⟩ := T.obj _ _ st5 b hb
          exact (I7.pin (b, o) (List.mem_append_right _ (List.mem_append_right _ (mem_pinsAt hb e)))).2.1
        · exact (I7.pin (D, _) (List.mem_append_right _ (List.mem_append_left _ List.mem_cons_self))).1
        · exact (I7.pin (D, _) (List.mem_append_right _ (List.mem_append_left _ List.mem_cons_self))).2.1
      -- the tests
      have tests : wpAny (model X.prog X.w) X.A (forIn ifs true fun c r => if r = true then do let ok ← isTrue c (compEnvC scope (closL X.env.cells scope.names []) C X.env) (eval c (compEnvC scope (closL X.env.cells scope.names []) C X.env)); pure (ForInStep.yield ok) else pure (ForInStep.yield r))
          (fun ok s7 => ∃ H7, Inv Xc ([(D, { cls := .type "list", data := .seq (List.toArray its) nn })] ++ pinsAt fp s5.heap) (xs.map some ++ fvals σ fv) H7 s7 ∧
            if ok = true then te (xs.map some ++ fvals σ fv) H7 fun y H6 => ys.length < sizeLine ∧ ∃ m', m' < n ∧ W (i + 1) m' (ys ++ [y]) H6
            else ∃ m', m' < n ∧ W (i + 1) m' ys H7) (fun _ _ => False) s6 := by
        cases tc with
        | none =>
          have hif : ifs = [] := ht
          subst hif
          exact wpAny_tests_nil ⟨_, I6, rd6⟩
        | some t =>
          obtain ⟨c, hif, pt⟩ := (show ∃ c, ifs = [c] ∧ ∀ (ex : List Addr) (C : Addr) (s : Shared) (H : Hp), PT (compCx X scope (ln ++ fv.map (·.1)) ex C s H) c t from ht)
          subst hif
          have pt' := pt (D :: fp) C s₃ H
          rw [eX] at pt'
          have q := pt' _ s6 _ _ _ I6 rd6
          rw [xA, xP, xw, xxe, xenv] at q
          exact wpAny_tests_one (thn q fun b s7 ⟨H7, I7, q7⟩ => ⟨H7, I7, q7⟩)
      refine thn tests fun ok s7 ⟨H7, I7, q7⟩ => ?_
      cases ok with
      | false =>
        simp only [Bool.false_eq_true, if_false] at q7 ⊢
        obtain ⟨m', hm, w7⟩ := q7
        obtain ⟨t7, f7, d7, n7⟩ := pinsK I7
        refine ⟨m', hm, i + 1, xs.map some, ys, its, nn, H7, I7.pins_of (fun p hp => ?_), by simpa using hxs, t7, f7, hv, hz, w7⟩
        exact I7.pin p (List.mem_append_right _ (List.mem_append_left _ hp))
      | true =>
        simp only [if_true] at q7 ⊢
        have q := he (D :: fp) C s₃ H
        rw [eX] at q
        have q := q _ s7 _ H7 _ I7 q7
        rw [xA, xP, xw, xxe, xenv] at q
        refine thn q fun uy s8 ⟨y, H8, I8, r8, hlt, m', hm, w8⟩ => ?_
        obtain ⟨t8, f8, d8, n8⟩ := pinsK I8
        have hl := hv.length
        refine call_meets F.slot_list_append ⟨_, d8, rfl⟩ F.entry_list_append (F.args_list_append_2 _ _) (PySem.list_append D its.toArray nn uy (by rw [List.size_toArray]; omega)) ⟨d8, ?_⟩
        have I9 : ∀ t, Inv Xc [] (xs.map some ++ fvals σ fv) H8 { s8 with heap := s8.heap.update D (Obj.mapSeq (·.push uy)), toks := t } := fun t =>
          (I8.pins_of (pins' := []) (fun p hp => absurd hp (by simp))).turned (it := D) (t' := t) (fun b o hb e => (Heap.get?_update_other s8.heap (Obj.mapSeq (·.push uy)) (Ne.symm hb)).trans e) n8 (by rw [xL]; exact hDC) (.inl (by rw [xex]; exact List.mem_cons_self)) cD
            (fun p hp => by rw [xpn] at hp; exact absurd hp (by simp))
        have g9 := PySem.IsL.update d8 (·.push uy)
        obtain ⟨n9, g9'⟩ : ∃ n9, (s8.heap.update D (Obj.mapSeq (·.push uy))).get? D = some { cls := .type "list", data := .seq (its ++ [uy]).toArray n9 } :=
          ⟨_, by rw [show (its ++ [uy]).toArray = its.toArray.push uy by simp]; exact g9⟩
        refine ⟨m', hm, i + 1, xs.map some, ys ++ [y], its ++ [uy], n9, H8, (I9 _).pins_of (fun p hp => ?_), by simpa using hxs, ?_, f8, hv.append (.cons r8 .nil), ?_, w8⟩
        · have hp' := List.mem_singleton.mp hp
          subst hp'
          exact ⟨g9', n8, by rw [xL]; exact hDC, sF D List.mem_cons_self, fun v z => by cases z⟩
        · exact T.keep _ _ _ t8 fun b hb o e => (Heap.get?_update_other s8.heap (Obj.mapSeq (·.push uy)) (Ne.symm (hbD b hb))).trans e
        · rw [List.length_append, List.length_singleton]; omega
  have st4 : tn 0 h₁ := T.keep 0 _ _ st fun b _ o e => k4 b o (k3 b o e)
  have e4 : ({ s₂ with heap := h₁, toks := s₂.toks + ([] : List (Str × Value)).length } : Shared) = { s₃ with heap := h₁, toks := s₃.toks + ([] : List (Str × Value)).length } := by rw [← hs3]
  exact codeAny_compStart_list (loop _ e4) (T.self X.A 0 _ _ _ st4 (loop _ e4))
end
section
variable {X : Cx} {scope : Scope} {ln : List Str} {fv : List (Str × Nat)} {elt tg iter : Expr} {ifs : List Expr} {pos : Pos} {wi : TI} {tk : Option Nat} {tc : Option TT} {te : TE}
/-- [elt for tg in iter if ..] -/
theorem pe_compP {Φ : Cx → Prop} {Ψ : Hp → Prop} (S : CompOk X scope ln fv) (hc : ∀ H, Ψ H → ∀ Xc : Cx, Xc.A = X.A → Xc.calm = X.calm → Xc.H₀ = H → Φ Xc) (hΨ : ∀ pins σ H s, Inv X pins σ H s → Ψ H) (hi : PIP Φ X tg iter wi) (hg : TgtOkP Ψ X scope ln fv tg tk) (ht : IfsOk X scope (ln ++ fv.map (·.1)) ifs tc)
    (he : ∀ (ex : List Addr) (C : Addr) (s : Shared) (H : Hp), PE (compCx X scope (ln ++ fv.map (·.1)) ex C s H) elt te) (hs : ∀ x, foldedSetIterable iter X.env x = pure x := by intro _; rfl) :
    PE X (.ListComp elt [⟨tg, iter, ifs, 0⟩] scope pos) (tComp X.K wi tk fv tc te) := by
  intro pins s σ H Q I h
  rw [eval_ListComp]
  refine wpAny_comprehension_free (use := none) rfl hs (S.clos I) S.kind S.locals (thn (hi pins s σ H _ I h) fun v s1 h1 => thn h1 fun itv s2 h2 => ?_)
  obtain ⟨it, fp, tn, J, H2, e, I2, T, st2, f2, hW⟩ := h2
  subst e
  refine comp_block (RR := fun acc C => compPost (model X.prog X.w) X.A X.xe none (EP X pins σ Q) acc C) S (hc H2 (hΨ _ _ _ _ I2)) (hΨ _ _ _ _ I2) hg ht he I2 T st2 f2 hW ?_
  intro D C H' s' m I' ns hn hL h0 hcl hp q
  refine ⟨m, ns, fun h' sb => ⟨.ref D, H', ?_, rfl, q⟩⟩
  exact I'.turned (it := C) (t' := s'.toks) (fun b o hb e => sb.extBut b o hb e) hn hL (.inr h0) hcl hp
/-- y = [elt for ..], stored ahead of the block's end -/
theorem ps_setCompP {Φ : Cx → Prop} {Ψ : Hp → Prop} {i : Nat} {y : Str} {py spos : Pos} (hN : X.N.Nodup) (hi' : X.N[i]? = some y) (hy : Loc X.env.scope y) (hsw : swapsWith (.ListComp elt [⟨tg, iter, ifs, 0⟩] scope pos) (some (.Name y py)) spos.line X.env = pure true)
    (S : CompOk X scope ln fv) (hc : ∀ H, Ψ H → ∀ Xc : Cx, Xc.A = X.A → Xc.calm = X.calm → Xc.H₀ = H → Φ Xc) (hΨ : ∀ pins σ H s, Inv X pins σ H s → Ψ H) (hi : PIP Φ X tg iter wi) (hg : TgtOkP Ψ X scope ln fv tg tk) (ht : IfsOk X scope (ln ++ fv.map (·.1)) ifs tc)
    (he : ∀ (ex : List Addr) (C : Addr) (s : Shared) (H : Hp), PE (compCx X scope (ln ++ fv.map (·.1)) ex C s H) elt te) (hs : ∀ x, foldedSetIterable iter X.env x = pure x := by intro _; rfl)
    (hf : X.fn y = true ∨ X.env.scope.names.lookup y = some .local := by first | exact .inl rfl | exact .inr rfl | assumption) :
    PS X (.Assign [.Name y py] (.ListComp elt [⟨tg, iter, ifs, 0⟩] scope pos) spos) (tAsg (tComp X.K wi tk fv tc te) (gName i)) := by
  intro pins s σ H D I h
  rw [exec_Assign_Name_used _ _ _ _ hsw]
  refine wpAny_bind (wpAny_standAt (wpAny_bind ?_))
  show wpAny _ X.A (do let _ ← comprehension (.ListComp elt [⟨tg, iter, ifs, 0⟩] scope pos) scope X.env _ (newList []) false (eval iter X.env) (some (assign (.Name y py) X.env))) _ _ s
  refine wpAny_bind (wpAny_mono (wpAny_comprehension_free (use := some (assign (.Name y py) X.env)) (Q := fun _ s' => SP X pins D .next s') rfl hs (S.clos I) S.kind S.locals
    (thn (hi pins s σ H _ I h) fun v s1 h1 => thn h1 fun itv s2 h2 => ?_)) (fun _ s' hq => wpAny_pure (wpAny_pure hq)) fun _ _ e => e)
  obtain ⟨it, fp, tn, J, H2, e, I2, T, st2, f2, hW⟩ := h2
  subst e
  refine comp_block (Qv := fun x H1 => gName i x σ H1 D.nx) (RR := fun acc C => compPost (model X.prog X.w) X.A X.xe (some (assign (.Name y py) X.env)) (fun _ s' => SP X pins D .next s') acc C) S (hc H2 (hΨ _ _ _ _ I2)) (hΨ _ _ _ _ I2) hg ht he I2 T st2 f2 hW ?_
  intro Da C H' s' m I' ns hn hL h0 hcl hp q
  show wpAny _ X.A (assign (.Name y py) X.env (.ref Da)) _ _ _
  refine wpAny_assign_Name (store_ok2 I' hN hi' hy (v := .ref Da) rfl (fun s4 I4 ⟨a, sb, ha⟩ => ?_) hf)
  have hCa : C ≠ a := by
    rcases ha with z | z
    · rw [z]; exact hL
    · exact Ne.symm (hcl _ _ z)
  refine ⟨m, ns.sameBut sb hCa, fun h' sb' => ⟨_, H', ?_, q⟩⟩
  exact I4.turned (it := C) (t' := s4.toks) (fun b o hb e => sb'.extBut b o hb e) hn hL (.inr h0) hcl hp
theorem pe_comp (S : CompOk X scope ln fv) (hc : X.calm = true) (hi : PI X tg iter wi) (hg : TgtOk X scope ln fv tg tk) (ht : IfsOk X scope (ln ++ fv.map (·.1)) ifs tc)
    (he : ∀ (ex : List Addr) (C : Addr) (s : Shared) (H : Hp), PE (compCx X scope (ln ++ fv.map (·.1)) ex C s H) elt te) (hs : ∀ x, foldedSetIterable iter X.env x = pure x := by intro _; rfl) :
    PE X (.ListComp elt [⟨tg, iter, ifs, 0⟩] scope pos) (tComp X.K wi tk fv tc te) :=
  pe_compP (Φ := Calm) (Ψ := fun _ => True) S (fun _ _ Xc _ e _ => e.trans hc) (fun _ _ _ _ _ => trivial) hi.p (fun ex C s H _ => hg ex C s H) ht he hs
end
/-! ### targets of a block -/
section
variable {X : Cx} {scope : Scope} {fv : List (Str × Nat)}
theorem tgt_name {x : Str} {px : Pos} (hl : scope.names.lookup x = some .local) (hnd : (x :: fv.map (·.1)).Nodup) : TgtOk X scope [x] fv (.Name x px) none := by
  intro ex C s H
  have hloc : Loc (compCx X scope ([x] ++ fv.map (·.1)) ex C s H).env.scope x := .inl (lookup_relabel_local hl)
  refine ⟨gName 0, pg_name (X := compCx X scope ([x] ++ fv.map (·.1)) ex C s H) hnd rfl hloc (.inr (lookup_relabel_local hl)), fun v pre φ H' Q hp h => ?_⟩
  obtain ⟨a, rfl⟩ : ∃ a, pre = [a] := by
    match pre, hp with
    | [a], _ => exact ⟨a, rfl⟩
  exact h rfl
theorem tgt_two {x y : Str} {px py pos : Pos} {k : Nat} (hc : X.calm = true) (hx : scope.names.lookup x = some .local) (hy : scope.names.lookup y = some .local) (hnd : (x :: y :: fv.map (·.1)).Nodup) : TgtOk X scope [x, y] fv (.Tuple [.Name x px, .Name y py] k pos) (some 2) := by
  intro ex C s H
  generalize eX : compCx X scope ([x, y] ++ fv.map (·.1)) ex C s H = Xc
  have xN : Xc.N = x :: y :: fv.map (·.1) := by rw [← eX]; rfl
  have xc : Xc.calm = true := by rw [← eX]; exact hc
  have lx : Xc.env.scope.names.lookup x = some .local := by rw [← eX]; exact lookup_relabel_local hx
  have ly : Xc.env.scope.names.lookup y = some .local := by rw [← eX]; exact lookup_relabel_local hy
  have p1 : PG Xc (.Name x px) (gName 0) := pg_name (by rw [xN]; exact hnd) (by rw [xN]; rfl) (.inl lx) (.inr lx)
  have p2 : PG Xc (.Name y py) (gName 1) := pg_name (by rw [xN]; exact hnd) (by rw [xN]; rfl) (.inl ly) (.inr ly)
  have xK : Xc.K = X.K := by rw [← eX]; rfl
  refine ⟨gTup Xc.K 2 (gCons (gName 0) (gCons (gName 1) gNil)), pg_tup xc (pgs_cons p1 (pgs_cons p2 pgs_nil)), fun v pre φ H' Q hp h => ?_⟩
  obtain ⟨a, b, rfl⟩ : ∃ a b, pre = [a, b] := by
    match pre, hp with
    | [a, b], _ => exact ⟨a, b, rfl⟩
  obtain ⟨a', xs, rfl, e2, e3, q⟩ := h
  obtain ⟨v1, v2, rfl⟩ : ∃ v1 v2, xs = [v1, v2] := by
    match xs, e3 with
    | [v1, v2], _ => exact ⟨v1, v2, rfl⟩
  exact ⟨a', _, rfl, by rw [xK]; exact e2, rfl, v1, _, rfl, v2, _, rfl, rfl, q rfl⟩
end
end L2
set_option maxRecDepth 100000
set_option maxHeartbeats 4000000
namespace L2
open PySem PySem.Spec PyProof.Rows
section
variable {X : Cx}
theorem OpR.imp {f : Value → Value → Sem Value} {r r' : R2} (h : OpR X f r) (i : ∀ x y H Q, r' x y H Q → r x y H Q) : OpR X f r' := fun pins s σ H x y v u Q I rx ry q => h pins s σ H x y v u Q I rx ry (i _ _ _ _ q)
theorem CallR.imp {f : Value} {r r' : List V → Hp → VK → Prop} (h : CallR X f r) (i : ∀ xs H Q, r' xs H Q → r xs H Q) : CallR X f r' := fun pins s σ H xs us Q I rv q => h pins s σ H xs us Q I rv (i _ _ _ q)
/-! ### + of ints, texts, lists, tuples -/
def rAddV (K : PySem.W.Frag) : R2 := fun x y H Q => match x, y with
  | .int i, .int j => Q (.int (i + j)) H
  | .str i, .str j => i.length + j.length ≤ sizeLine ∧ Q (.str (i ++ j)) H
  | .ref l, .ref b => rCat (.ref l) (.ref b) H Q ∨ rCatT K (.ref l) (.ref b) H Q
  | _, _ => False
theorem op_addV : OpR X (binaryOp .Add) (rAddV X.K) := by
  refine OpR.imp ((op_add.or op_add_str).or (op_cat.or op_catT)) fun x y H Q h => ?_
  cases x <;> cases y <;> first
    | exact False.elim h
    | exact .inl (.inl ⟨_, _, rfl, rfl, h⟩)
    | exact .inl (.inr ⟨_, _, rfl, rfl, h⟩)
    | exact .inr h
/-! ### ints -/
def rI2 (C : Int → Int → Prop) (g : Int → Int → V) : R2 := fun x y H Q => match x, y with
  | .int i, .int j => C i j ∧ Q (g i j) H
  | _, _ => False
theorem rI2_imp {C : Int → Int → Prop} {g : Int → Int → V} (x y : V) (H : Hp) (Q : VK) (h : rI2 C g x y H Q) : rI C g x y H Q := by
  cases x <;> cases y <;> first
    | exact False.elim h
    | exact ⟨_, _, rfl, rfl, h⟩
theorem rI2_imp0 {g : Int → Int → V} (x y : V) (H : Hp) (Q : VK) (h : rI2 (fun _ _ => True) g x y H Q) : rI0 g x y H Q := by
  cases x <;> cases y <;> first
    | exact False.elim h
    | exact ⟨_, _, rfl, rfl, h.2⟩
/-! ### * of ints, a list times an int -/
def rMulV : R2 := fun x y H Q => match x, y with
  | .int i, .int j => CMul i j ∧ Q (.int (i * j)) H
  | .ref l, .int k => rRep (.ref l) (.int k) H Q
  | _, _ => False
theorem op_mulV : OpR X (binaryOp .Mult) rMulV := by
  refine OpR.imp (op_mul.or op_rep) fun x y H Q h => ?_
  cases x <;> cases y <;> first
    | exact False.elim h
    | exact .inl ⟨_, _, rfl, rfl, h⟩
    | exact .inr h
def rBin (K : PySem.W.Frag) : Operator → R2
  | .Add => rAddV K
  | .Sub => rI2 (fun _ _ => True) fun i j => .int (i - j)
  | .Mult => rMulV
  | .FloorDiv => rI2 CDiv fun i j => .int (i / j)
  | .Mod => rI2 (fun _ j => 0 < j) fun i j => .int (i % j)
  | .Pow => rI2 CPow fun i j => .int (i ^ j.toNat)
  | _ => fun _ _ _ _ => False
theorem op_bin (op : Operator) : OpR X (binaryOp op) (rBin X.K op) := by
  cases op <;> first
    | exact op_addV
    | exact OpR.imp op_sub rI2_imp0
    | exact op_mulV
    | exact OpR.imp op_fdiv rI2_imp
    | exact OpR.imp op_mod rI2_imp
    | exact OpR.imp op_pow rI2_imp
    | exact fun _ _ _ _ _ _ _ _ _ _ _ _ h => False.elim h
/-! ### data of any depth, by the abstract heap -/
mutual
def Is (H : Hp) : PyData → V → Prop
  | .none, v => v = .non
  | .bool b, v => v = .bl b
  | .int i, v => v = .int i
  | .str x, v => v = .str x
  | .list xs, v => ∃ a vs, v = .ref a ∧ H a = some (.lst vs) ∧ IsL H xs vs
  | .tuple xs, v => ∃ a vs, v = .ref a ∧ H a = some (.tup vs) ∧ IsL H xs vs
  | .dict _, _ => False
def IsL (H : Hp) : List PyData → List V → Prop
  | [], vs => vs = []
  | d :: ds, vs => ∃ v r, vs = v :: r ∧ Is H d v ∧ IsL H ds r
end
mutual
theorem Is.reads {pins : List (Addr × Obj)} {σ : St} {H : Hp} {s : Shared} (I : Inv X pins σ H s) : ∀ (d : PyData) (v : V) (u : Value), Is H d v → RelV v u → ∃ as, Reads s.heap u d as
  | .none, v, u, h, r => by rw [show v = .non from h] at r; rw [show u = .none from r]; exact ⟨_, .none⟩
  | .bool b, v, u, h, r => by rw [show v = .bl b from h] at r; rw [show u = .bool b from r]; exact ⟨_, .bool b⟩
  | .int i, v, u, h, r => by rw [show v = .int i from h] at r; obtain ⟨t, e⟩ := r; rw [e]; exact ⟨_, .int i t⟩
  | .str x, v, u, h, r => by rw [show v = .str x from h] at r; obtain ⟨t, e⟩ := r; rw [e]; exact ⟨_, .str x t⟩
  | .list xs, v, u, h, r => by
    obtain ⟨a, vs, e, hH, hl⟩ := (show ∃ a vs, v = .ref a ∧ H a = some (.lst vs) ∧ IsL H xs vs by simpa only [Is] using h)
    rw [e] at r
    rw [show u = .ref a from r]
    obtain ⟨_, its, n, hv, hg⟩ := I.hok a _ hH
    obtain ⟨as, q⟩ := IsL.reads I xs vs its hl hv
    exact ⟨_, .list hg rfl rfl (by simpa using q)⟩
  | .tuple xs, v, u, h, r => by
    obtain ⟨a, vs, e, hH, hl⟩ := (show ∃ a vs, v = .ref a ∧ H a = some (.tup vs) ∧ IsL H xs vs by simpa only [Is] using h)
    rw [e] at r
    rw [show u = .ref a from r]
    obtain ⟨_, its, hv, o, hg, hc, n, hd⟩ := I.hok a _ hH
    obtain ⟨as, q⟩ := IsL.reads I xs vs its hl hv
    exact ⟨_, .tuple hg hc hd (by simpa using q)⟩
  | .dict _, v, u, h, r => by simp only [Is] at h
theorem IsL.reads {pins : List (Addr × Obj)} {σ : St} {H : Hp} {s : Shared} (I : Inv X pins σ H s) : ∀ (ds : List PyData) (vs : List V) (us : List Value), IsL H ds vs → Vals vs us → ∃ as, ReadsAll s.heap us ds as
  | [], vs, us, h, r => by
    rw [show vs = [] from h] at r
    cases r
    exact ⟨_, .nil⟩
  | d :: ds, vs, us, h, r => by
    obtain ⟨v, q, e, h1, h2⟩ := (show ∃ v r, vs = v :: r ∧ Is H d v ∧ IsL H ds r by simpa only [IsL] using h)
    rw [e] at r
    cases r with
    | cons r1 r2 =>
      obtain ⟨as, q1⟩ := Is.reads I d v _ h1 r1
      obtain ⟨bs, q2⟩ := IsL.reads I ds q _ h2 r2
      exact ⟨_, .cons q1 q2⟩
end
/-! ### ==, != -/
/-- what is like itself, whatever its token -/
def likeV : V → Bool
  | .flt _ => false
  | .byt _ => false
  | _ => true
/-- two lists with the same items -/
def rSameL : R2 := fun x y H Q => ∃ a b xs, x = .ref a ∧ y = .ref b ∧ H a = some (.lst xs) ∧ H b = some (.lst xs) ∧ xs.all likeV = true ∧ Q (.bl true) H
def rEqV (neg : Bool) : R2 := fun x y H Q => match scal x y with
  | true => Q (.bl (neg ^^ decide (x = y))) H
  | false => ∃ d e, Is H d x ∧ Is H e y ∧ SeqAt.shaped d = true ∧ SeqAt.shaped e = true ∧ Q (.bl (neg ^^ PyData.eqv d e)) H
/-- == of anything, or of two lists with the same items -/
def rEqW : R2 := fun x y H Q => rEqV false x y H Q ∨ rSameL x y H Q
theorem op_eqV (hu : X.A.units + 64 < cLine) : OpR X (compareOp .Eq) (rEqV false) := by
  intro pins s σ H x y v u Q I rx ry h
  unfold rEqV at h
  by_cases hs : scal x y = true
  · rw [hs] at h
    simp only [Bool.false_xor] at h
    exact op_eq pins s σ H x y v u Q I rx ry ⟨hs, h⟩
  · rw [show scal x y = false by simpa using hs] at h
    obtain ⟨d, e, h1, h2, h3, h4, q⟩ := h
    rw [Bool.false_xor] at q
    obtain ⟨as, r1⟩ := Is.reads I d x v h1 rx
    obtain ⟨bs, r2⟩ := Is.reads I e y u h2 ry
    exact eq_dataH r1 r2 h3 h4 hu ⟨.bl _, H, I, rfl, q⟩
theorem op_neV (hu : X.A.units + 64 < cLine) : OpR X (compareOp .NotEq) (rEqV true) := by
  intro pins s σ H x y v u Q I rx ry h
  unfold rEqV at h
  by_cases hs : scal x y = true
  · rw [hs] at h
    simp only [Bool.true_xor] at h
    exact op_ne pins s σ H x y v u Q I rx ry ⟨hs, h⟩
  · rw [show scal x y = false by simpa using hs] at h
    obtain ⟨d, e, h1, h2, h3, h4, q⟩ := h
    rw [Bool.true_xor] at q
    obtain ⟨as, r1⟩ := Is.reads I d x v h1 rx
    obtain ⟨bs, r2⟩ := Is.reads I e y u h2 ry
    exact ne_dataH r1 r2 h3 h4 hu ⟨.bl _, H, I, rfl, q⟩
/-! ### is, in -/
theorem dict_eq_no_str (l : Addr) (o : Obj) (es : Array DictEntry) (ep : Nat) (hc : o.cls = .type "dict") (hd : o.data = .dict es ep) (b : Str) (u : Tok) :
    Meets (Builtin.«dict.__eq__» ⟨[.ref l, .str b u], []⟩) (fun _ R s => s.heap.get? l = some o ∧ R (.ok (.ret .notImplemented)) s) :=
  .of_wp fun prog w A R s h => by obtain ⟨hp, g, d, tk, os⟩ := s; obtain ⟨hl, h⟩ := h; obtain ⟨cls, dd, data, sl⟩ := o; simp only at hc hd; subst hc hd; have f1 := F.sub_str_dict; wp_walk using AutoSeq1.wpAny_loadPart' hl; exact ⟨_, rfl, h⟩
theorem str_eq_no_dict (b : Str) (u : Tok) (l : Addr) (o : Obj) (es : Array DictEntry) (ep : Nat) (hc : o.cls = .type "dict") (hd : o.data = .dict es ep) :
    Meets (Builtin.«str.__eq__» ⟨[.str b u, .ref l], []⟩) (fun _ R s => s.heap.get? l = some o ∧ R (.ok (.ret .notImplemented)) s) :=
  .of_wp fun prog w A R s h => by obtain ⟨hp, g, d, tk, os⟩ := s; obtain ⟨hl, h⟩ := h; obtain ⟨cls, dd, data, sl⟩ := o; simp only at hc hd; subst hc hd; wp_walk using AutoSeq1.wpAny_loadPart' hl, wpAny_load hl; exact ⟨_, rfl, h⟩
theorem eqAt_str_dict {A : Around} {s : Shared} {l : Addr} {o : Obj} {es : Array DictEntry} {ep : Nat} (b : Str) (u : Tok) (ho : s.heap.get? l = some o) (hc : o.cls = .type "dict") (hd : o.data = .dict es ep) (hu : A.units < cLine) : SeqAt.EqAt A s (.str b u) (.ref l) false := fun prog w E Q h => by
  have rc : SeqAt.RcAt A s (.str b u) (.ref l) false := fun prog w E Q h =>
    SeqAt.rc_eq_decline_or (k := false) (typeIs_str s b u) ⟨_, ho, hc⟩ (by decide) F.sub_dict_str F.slot_str_eq F.slot_dict_eq_refl
      (fun _ hq => call_meets F.slot_str_eq (typeIs_str s b u) F.entry_str_eq (F.args_str_eq_2 _ _) (str_eq_no_dict b u l o es ep hc hd) ⟨ho, hq⟩)
      (fun _ hq => call_meets F.slot_dict_eq_refl ⟨_, ho, hc⟩ F.entry_dict_eq (F.args_dict_eq_2 _ _) (dict_eq_no_str l o es ep hc hd b u) ⟨ho, hq⟩)
      (fun _ hq => wpAny_of_eq (rfl : isSame (.str b u) (.ref l) = pure false) hq) (.inr hu) h
  unfold eqBool
  refine wpAny_holding ?_
  refine wpAny_ite_split (fun hab => absurd (eq_of_beq hab) nofun) (fun _ => ?_)
  exact wpAny_bind (rc prog w E _ (wpAny_truthy_bool h))
/-- a list, a tuple or a dict -/
def Cont (K : PySem.W.Frag) (H : Hp) (a : Addr) : Prop := (∃ xs, SqL K H a xs) ∨ (∃ xs, SqT K H a xs) ∨ ∃ kvs, H a = some (.dK kvs)
theorem str_no_cont {pins : List (Addr × Obj)} {σ : St} {H : Hp} {s : Shared} {a : Addr} (I : Inv X pins σ H s) (hc : Cont X.K H a) (hu : X.A.units + 64 < cLine) : ∀ {ts : List Str} {us : List Value}, Vals (ts.map V.str) us → ∀ u ∈ us, SeqAt.EqAt X.A.in1 s u (.ref a) false
  | [], _, .nil => fun u hu => by cases hu
  | t :: ts, u :: us, .cons r rs => fun u' hu' => by
    rcases List.mem_cons.mp hu' with rfl | hu'
    · obtain ⟨k, rfl⟩ := (show ∃ k, _ = Value.str t k from r)
      have hu1 : X.A.in1.units < cLine := by show X.A.units + 1 < cLine; omega
      rcases hc with ⟨xs, hc⟩ | ⟨xs, hc⟩ | ⟨kvs, hc⟩
      · obtain ⟨its, _, pl, _⟩ := I.list hc
        exact SeqAt.EqAt.str_list t k pl.isList hu1
      · obtain ⟨its, _, pl, _⟩ := I.tuple hc
        exact SeqAt.EqAt.str_tuple t k pl hu1
      · obtain ⟨_, _, vs, _, o, es, ep, ho, hx, hd, _⟩ := (show ObjOk X.prog X.w H s.heap a (.dK kvs) from I.hok a _ hc)
        exact eqAt_str_dict t k ho hx.1 hd hu1
    · exact str_no_cont I hc hu rs u' hu'
def rInV (K : PySem.W.Frag) (neg : Bool) : R2 := fun x y H Q => match y with
  | .str j => ∃ i, x = .str i ∧ Q (.bl (if neg then !(!(Builtin.Str.occurrences j i 0 j.length 1).isEmpty) else !(Builtin.Str.occurrences j i 0 j.length 1).isEmpty)) H
  | .ref p => match x with
    | .ref a => ∃ ts : List Str, (SqL K H p (ts.map V.str) ∨ SqT K H p (ts.map V.str)) ∧ Cont K H a ∧ Q (.bl neg) H
    | x => rIn K neg x (.ref p) H Q
  | _ => False
theorem op_inV (hu : X.A.units + 64 < cLine) : OpR X (compareOp .In) (rInV X.K false) := by
  intro pins s σ H x y v u Q I rx ry h
  cases y with
  | str j =>
    obtain ⟨i, e, q⟩ := h
    exact op_in_str pins s σ H x _ v u Q I rx ry ⟨i, j, e, rfl, q⟩
  | ref p =>
    cases x with
    | ref a =>
      obtain ⟨ts, hq, hc, q⟩ := h
      cases rx
      cases ry
      rcases hq with hq | hq
      · obtain ⟨its, r, pl, hz⟩ := I.list hq
        refine SeqAt.in_listAt (fun _ => false) pl.isList (fun w hw => str_no_cont I hc hu r w (by simpa using hw)) ⟨.bl _, H, I, rfl, ?_⟩
        rw [show (its.toArray.any fun _ => false) = false by simp]; exact q
      · obtain ⟨its, r, pl, hz⟩ := I.tuple hq
        refine SeqAt.in_tupleAt (fun _ => false) pl (fun w hw => str_no_cont I hc hu r w (by simpa using hw)) ⟨.bl _, H, I, rfl, ?_⟩
        rw [show (its.toArray.any fun _ => false) = false by simp]; exact q
    | _ => exact op_in_seq pins s σ H _ _ v u Q I rx ry h
  | _ => exact False.elim h
theorem op_notInV (hu : X.A.units + 64 < cLine) : OpR X (compareOp .NotIn) (rInV X.K true) := by
  intro pins s σ H x y v u Q I rx ry h
  cases y with
  | str j =>
    obtain ⟨i, e, q⟩ := h
    exact op_notin_str pins s σ H x _ v u Q I rx ry ⟨i, j, e, rfl, q⟩
  | ref p =>
    cases x with
    | ref a =>
      obtain ⟨ts, hq, hc, q⟩ := h
      cases rx
      cases ry
      rcases hq with hq | hq
      · obtain ⟨its, r, pl, hz⟩ := I.list hq
        refine SeqAt.notIn_listAt (fun _ => false) pl.isList (fun w hw => str_no_cont I hc hu r w (by simpa using hw)) ⟨.bl _, H, I, rfl, ?_⟩
        rw [show (its.toArray.any fun _ => false) = false by simp]; exact q
      · obtain ⟨its, r, pl, hz⟩ := I.tuple hq
        refine SeqAt.notIn_tupleAt (fun _ => false) pl (fun w hw => str_no_cont I hc hu r w (by simpa using hw)) ⟨.bl _, H, I, rfl, ?_⟩
        rw [show (its.toArray.any fun _ => false) = false by simp]; exact q
    | _ => exact op_notIn_seq pins s σ H _ _ v u Q I rx ry h
  | _ => exact False.elim h
theorem is_bool_gen {M : Model} {A : Around} {E : Value → Shared → Prop} {s : Shared} {Q : Value → Shared → Prop} {v : Value} {d : Bool} (hv : ∀ id, v ≠ .builtin id) (h : Q (.bool (v == .bool d)) s) : wpAny M A (compareOp .Is v (.bool d)) Q E s := by
  cases v <;> first | exact wpAny_pure h | exact absurd rfl (hv _)
theorem isnot_bool_gen {M : Model} {A : Around} {E : Value → Shared → Prop} {s : Shared} {Q : Value → Shared → Prop} {v : Value} {d : Bool} (hv : ∀ id, v ≠ .builtin id) (h : Q (.bool (!(v == .bool d))) s) : wpAny M A (compareOp .IsNot v (.bool d)) Q E s := by
  cases v <;> first | exact wpAny_pure h | exact absurd rfl (hv _)
def rIsV : R2 := fun x y H Q => match y with
  | .bl b => Q (.bl (decide (x = .bl b))) H
  | _ => y = .non ∧ Q (.bl (decide (x = .non))) H
def rIsNotV : R2 := fun x y H Q => match y with
  | .bl b => Q (.bl (!decide (x = .bl b))) H
  | _ => y = .non ∧ Q (.bl (!decide (x = .non))) H
theorem op_isV : OpR X (compareOp .Is) rIsV := by
  intro pins s σ H x y v u Q I rx ry h
  cases y with
  | bl b =>
    cases ry
    have nb : ∀ id, v ≠ .builtin id := fun id z => by
      subst z
      cases x <;> first
        | (obtain ⟨t, e⟩ := rx; cases e; done)
        | (cases rx; done)
    refine is_bool_gen nb (fin_bl I (show Q (.bl (decide (x = .bl b))) H from h) ?_)
    cases x <;> first
      | (cases rx; rfl)
      | (obtain ⟨t, rfl⟩ := rx; rfl)
      | (cases rx; rename_i a; cases a <;> cases b <;> rfl)
  | _ => exact op_isN pins s σ H x _ v u Q I rx ry h
theorem op_isNotV : OpR X (compareOp .IsNot) rIsNotV := by
  intro pins s σ H x y v u Q I rx ry h
  cases y with
  | bl b =>
    cases ry
    have nb : ∀ id, v ≠ .builtin id := fun id z => by
      subst z
      cases x <;> first
        | (obtain ⟨t, e⟩ := rx; cases e; done)
        | (cases rx; done)
    refine isnot_bool_gen nb (fin_bl I (show Q (.bl (!decide (x = .bl b))) H from h) ?_)
    cases x <;> first
      | (cases rx; rfl)
      | (obtain ⟨t, rfl⟩ := rx; rfl)
      | (cases rx; rename_i a; cases a <;> cases b <;> rfl)
  | _ => exact op_notN pins s σ H x _ v u Q I rx ry h
/-! ### all comparisons -/
def rCmp (K : PySem.W.Frag) : CmpOp → R2
  | .Eq => rEqV false
  | .NotEq => rEqV true
  | .Lt => rI2 (fun _ _ => True) fun i j => .bl (decide (i < j))
  | .LtE => rI2 (fun _ _ => True) fun i j => .bl (decide (i ≤ j))
  | .Gt => rI2 (fun _ _ => True) fun i j => .bl (decide (j < i))
  | .GtE => rI2 (fun _ _ => True) fun i j => .bl (decide (j ≤ i))
  | .In => rInV K false
  | .NotIn => rInV K true
  | .Is => rIsV
  | .IsNot => rIsNotV
theorem op_cmp (hu : X.A.units + 64 < cLine) (op : CmpOp) : OpR X (compareOp op) (rCmp X.K op) := by
  cases op with
  | Eq => exact op_eqV hu
  | NotEq => exact op_neV hu
  | Lt => exact OpR.imp op_lt rI2_imp0
  | LtE => exact OpR.imp op_le rI2_imp0
  | Gt => exact OpR.imp op_gt rI2_imp0
  | GtE => exact OpR.imp op_ge rI2_imp0
  | In => exact op_inV hu
  | NotIn => exact op_notInV hu
  | Is => exact op_isV
  | IsNot => exact op_isNotV
/-! ### isinstance(x, T), T one of Python's own -/
inductive Ty where | int | str | bool | list | tuple | dict
  deriving DecidableEq
def Ty.nm : Ty → String
  | .int => "int" | .str => "str" | .bool => "bool" | .list => "list" | .tuple => "tuple" | .dict => "dict"
def isiV (T : Ty) (x : V) (H : Hp) (Q : Bool → Prop) : Prop := match x with
  | .non => Q false
  | .bl _ => Q (T == .bool || T == .int)
  | .int _ => Q (T == .int)
  | .str _ => Q (T == .str)
  | .ref a => match H a with
    | some (.lst _) => Q (T == .list)
    | some (.frz _ (.lst _)) => Q (T == .list)
    | some (.tup _) => Q (T == .tuple)
    | some (.dK _) => Q (T == .dict)
    | some (.dT _) => Q (T == .dict)
    | _ => False
  | _ => False
theorem kit_tys (K : PySem.W.Frag) (S T : Ty) : PySem.W.kitOne K (.type S.nm) (.type T.nm) = some (S == T || (S == .bool && T == .int)) := by
  cases S <;> cases T <;> rfl
theorem kit_none (K : PySem.W.Frag) (T : Ty) : PySem.W.kitOne K (.type "NoneType") (.type T.nm) = some false := by
  cases T <;> rfl
/-! ### sum of ints -/
theorem call_sumI (hc : X.calm = true) : CallR X (.builtin "sum") (fun xs H Q => ∃ (p : Addr) (ns : List Int), xs = [.ref p] ∧ SqL X.K H p (ns.map V.int) ∧ Q (.int ns.sum) H) := by
  intro pins s σ H xs us Q I r h
  obtain ⟨p, ns, rfl, hq, q⟩ := h
  obtain ⟨u, rfl, ru⟩ := vals1 r
  cases ru
  obtain ⟨its, rv, pl, hz⟩ := I.list hq
  have hi := intsAre_of rv
  obtain ⟨xs, hx⟩ := hi.allInts.items
  have hl' : s.heap.IsList p (intItems xs) := hx ▸ pl.isList
  refine sum_intListG (I.ok.hd hc) hl' fun h' tk t' hk => ?_
  have e1 : ns = xs.toList.map (·.1) := by
    rw [← nums_intItems, ← hx]
    exact (show numsOf its.toArray.toList = ns from hi.numsOf).symm
  have e2 : preSum (numAt xs) xs.size = ns.sum := by
    rw [preSum_eq, List.take_of_length_le (by simp), e1]
  rw [e2]
  exact ⟨.int ns.sum, H, I.kept (t' := tk) hk, ⟨t', rfl⟩, q⟩
/-! ### texts -/
theorem strs_of : ∀ {ts : List Str} {us : List Value}, Vals (ts.map V.str) us → ∃ l : List (Str × Tok), us = strValues l ∧ l.map (·.1) = ts
  | [], _, .nil => ⟨[], rfl, rfl⟩
  | x :: ts, _, .cons ⟨t, e⟩ r => by
    obtain ⟨l, e1, e2⟩ := strs_of r
    subst e e1
    exact ⟨(x, t) :: l, rfl, by simp [e2]⟩
def rJoin (K : PySem.W.Frag) : V → List V → Hp → VK → Prop := fun x vs H Q => ∃ (sep : Str) (p : Addr) (ts : List Str), x = .str sep ∧ vs = [.ref p] ∧ SqL K H p (ts.map V.str) ∧ JoinOk sep ts = true ∧ Q (.str (Txt.join sep ts)) H
theorem mt_join : MtR X "str.join" (rJoin X.K) := by
  intro pins s σ H x vs v us Q I rx rv h
  obtain ⟨sep, p, ts, rfl, rfl, hq, hj, q⟩ := h
  obtain ⟨t, rfl⟩ := rx
  obtain ⟨u, rfl, ru⟩ := vals1 rv
  cases ru
  obtain ⟨its, rv, pl, hz⟩ := I.list hq
  obtain ⟨l, rfl, e2⟩ := strs_of rv
  exact SC.join pl.isList e2 hj fun t' k => ⟨.str _, H, I.tok k, ⟨t', rfl⟩, q⟩
def rLstrip : V → List V → Hp → VK → Prop := fun x vs H Q => ∃ z y, x = .str z ∧ vs = [.str y] ∧ z.length ≤ sizeLine ∧ Q (.str (Txt.lstripChars z y)) H
theorem mt_lstrip : MtR X "str.lstrip" rLstrip := by
  intro pins s σ H x vs v us Q I rx rv h
  obtain ⟨z, y, rfl, rfl, hz, q⟩ := h
  obtain ⟨t, rfl⟩ := rx
  obtain ⟨u, rfl, ⟨t2, rfl⟩⟩ := vals1 rv
  refine call_gives F.slot_str_lstrip (typeIs_str _ _ _) F.entry_str_lstrip (F.args_str_lstrip_2 _ _) (gives_str_lstrip_chars z y t t2) (post_val_or_made (fun _ => fits_stripped _ _ _ hz) fun t' k => ?_)
  exact ⟨.str _, H, I.tok k, ⟨t', rfl⟩, q⟩
def rStarts : V → List V → Hp → VK → Prop := fun x vs H Q => ∃ z y i, x = .str z ∧ vs = [.str y, .int i] ∧ Q (.bl (decide (fromIndex z.length i + y.length ≤ z.length) && Builtin.Str.subAt z y (fromIndex z.length i))) H
theorem mt_starts : MtR X "str.startswith" rStarts := by
  intro pins s σ H x vs v us Q I rx rv h
  obtain ⟨z, y, i, rfl, rfl, q⟩ := h
  obtain ⟨t, rfl⟩ := rx
  obtain ⟨u, w, rfl, ⟨t2, rfl⟩, ⟨t3, rfl⟩⟩ := vals2 rv
  exact call_gives F.slot_str_startswith (typeIs_str _ _ _) F.entry_str_startswith (F.args_str_startswith_3 _ _ _) (gives_str_startswith_from z y i t t2 t3) ⟨.bl _, H, I, rfl, q⟩
/-! ### z[lo:hi] -/
def cutL {α : Type} (xs : List α) (lo hi : Option Int) : List α := (xs.drop (HT.sIx xs.length 0 lo)).take (HT.sIx xs.length xs.length hi - HT.sIx xs.length 0 lo)
def cutS (z : Str) (lo hi : Option Int) : Str := ⟨(cutL z.cps.toList lo hi).toArray⟩
theorem picked_cut (z : Str) (lo hi : Option Int) : ((Builtin.Str.strSliceIndices lo hi 1 z.length).filterMap (z.cps[·]?)) = cutL z.cps.toList lo hi := by
  obtain ⟨h1, h2, h3⟩ := slice_bounds lo hi z.length
  have e0 : Builtin.Str.strSliceIndices lo hi 1 z.length = sliceRange (sliceBounds lo hi none z.length).1 (sliceBounds lo hi none z.length).2.1 (sliceBounds lo hi none z.length).2.2 := rfl
  have hz : z.cps.toList.length = z.length := by simp [Str.length]
  rw [e0, h1, h2, h3, sliceRange_one, pick_run]
  unfold cutL
  rw [hz]
end
end L2
set_option maxRecDepth 100000
set_option maxHeartbeats 4000000
namespace L2
open PySem PySem.Spec PyProof.Rows
/-! ### x in a list of data -/
section
variable {X : Cx}
def rInD (K : PySem.W.Frag) (neg : Bool) : R2 := fun x y H Q => ∃ p xs d es, y = .ref p ∧ SqL K H p xs ∧ Is H d x ∧ IsL H es xs ∧ SeqAt.shaped d = true ∧ d.depth ≤ 60 ∧ (∀ e ∈ es, SeqAt.shaped e = true) ∧ Q (.bl (neg ^^ es.any fun e => PyData.eqv e d)) H
open Classical in
end
end L2
set_option maxRecDepth 100000
set_option maxHeartbeats 4000000
namespace L2
open PySem PySem.Spec PyProof.Rows
/-! ### exceptions: what a reading says of them -/
/-- a caught exception stays as it is -/
def excU : HO := .ext fun _ => True
structure ExcObj (ob : Obj) (cls : Value) (vs : Array Value) : Prop where
  cls : ob.cls = cls
  data : ob.data = .fields vs
  noCx : vs[2]? = some .none
  dict : ob.dict = none
/-- the exception at ea, of the class at D -/
def ExcAt (H : Hp) (ea D : Addr) : Prop := ∃ ob vs, H ea = some (.frz ob excU) ∧ ExcObj ob (.ref D) vs
/-- a class of exceptions -/
structure ExcCls (K : PySem.W.Frag) (D : Addr) : Prop where
  hga : PySem.W.findIn K (.ref D) "__getattribute__" = some (some (.builtin "BaseException.__getattribute__"))
  hgn : PySem.W.findIn K (.ref D) "__getattr__" = some none
  hk : (PySem.W.clsIn K D).isSome = true
  ha : PySem.W.findIn K (.ref D) "__class__" = some (some (.builtin "object.__class__"))
  hn : PySem.W.specialIn K (.builtin "object.__class__") "__get__" = some (some (.builtin "getset_descriptor.__get__"))
  htk : PySem.W.takesIn K (.builtin "object.__class__") = some true
  hm : PySem.W.mroIn K D (.type "object") = some true
  hb : PySem.W.mroIn K D (.type "BaseException") = some true
def cV : V → Value
  | .ref a => .ref a
  | .ty n => .type n
  | _ => .none
def rIsx (K : PySem.W.Frag) : List V → Hp → VK → Prop
  | [.ref ea, c], H, Q => ∃ D b, ExcAt H ea D ∧ ExcCls K D ∧ ((∃ C, c = .ref C) ∨ ∃ n, c = .ty n) ∧ PySem.W.kitOne K (.ref D) (cV c) = some b ∧ Q (.bl b) H
  | _, _, _ => False
/-- f(e), f a def that an except suite calls -/
def tWrd (sp : Sp) (hv : Option Addr) (t : TA) : TE := fun σ H Q => t σ H fun vs H1 => (∃ ea D, hv = some ea ∧ ExcAt H1 ea D) ∧ sp vs H1 Q E0
def sRaise (C : Addr) (E : XK) (t : TA) : TS := fun _ σ H => t σ H fun vs H1 => vs.length ≤ sizeLine ∧ E (.ref C) none H1
/-- try: ..; except C as n: .. (which returns) -/
def eTry (K : PySem.W.Frag) (C : Addr) (i n : Nat) (th : Addr → TS) (D : Ends) : XK := fun cls _ H' => PySem.W.exmOne K cls (.ref C) = some true ∧
  ∀ (ea : Addr) (ob : Obj) (vs : Array Value) (σ' : St), H' ea = none → σ'.length = n → ExcObj ob cls vs → th ea { nx := fun _ _ => False, rt := D.rt } (σ'.set i (some (.ref ea))) (upd H' ea (.frz ob excU))
def sTry (K : PySem.W.Frag) (C : Addr) (i n : Nat) (tb : XK → TS) (th : Addr → TS) : TS := fun D σ H => tb (eTry K C i n th D) { nx := D.nx, rt := D.rt } σ H
/-! ### a short language for the program's own rows, and how it is read -/
inductive Blt where | len | min | max | sum | int | list | tuple | abs
  deriving DecidableEq
inductive Mth where | append | pop | extend | join | lstrip | starts | reverse | clear | index | find | count | cntL | idxL
  deriving DecidableEq
inductive IK where | list | tup | rng | rng2 | zip | enm | txt | zipT
  deriving DecidableEq
inductive RE where
  | v (i : Nat) | c (x : V) | g (j : Nat)
  | bin (op : Operator) (a b : RE) | neg (a : RE)
  | cmp (op : CmpOp) (a b : RE) | cmp2 (op op' : CmpOp) (a b d : RE) | cmp3 (op op' op2 : CmpOp) (a b d f : RE)
  | and (as : List RE) | or (as : List RE) | not (a : RE) | ife (t a b : RE)
  | call (j : Nat) (as : List RE) | blt (b : Blt) (as : List RE) | isi (T : Ty) (a : RE)
  | mth (m : Mth) (o : RE) (as : List RE)
  | ix (a b : RE) | sl (a : RE) (lo hi : Option RE)
  | tup (as : List RE) | lst (as : List RE)
  | comp (tk : Option Nat) (fv : List (Str × Nat)) (k : IK) (its : List RE) (cond : Option RE) (elt : RE)
  | isx (a c : RE) | wrd (j : Nat) (a : RE) | dct | same (a b : RE)
  | dnewT | dget (a b : RE) | din (a b : RE) | dnin (a b : RE) | dgetD (o a b : RE) | inD (a b : RE) | ninD (a b : RE)
  | xt (T : PySem.W.Frag → TA → TE) (as : List RE) | xm (T : PySem.W.Frag → TE → TA → TE) (o : RE) (as : List RE)
  | fld (o : RE) (f : Str) | meth (j : Nat) (m : Str) (o : RE) (as : List RE) | make (j : Nat) (as : List RE)
inductive RS where
  | asg (i : Nat) (e : RE) | asgC (i : Nat) (e : RE) | set (o ix e : RE)
  | drop (e : RE) | ret (e : RE) | retN
  | ite (c : RE) (t e : List RS)
  | for1 (i : Nat) (k : IK) (its : List RE) (body : List RS)
  | forT (is : List Nat) (k : IK) (its : List RE) (body : List RS)
  | whl (c : RE) (body : List RS)
  | pass | brk | cont | never
  | setSl (o lo hi e : RE) | setf (o : RE) (f : Str) (e : RE)
  | asgT (is : List Nat) (e : RE) | dput (o i e : RE) | rais (j : Nat) (as : List RE) | tryr (n i j : Nat) (body su : List RS)
structure RCx where
  K : PySem.W.Frag
  fs : Nat → Sp
  gv : Nat → V
  E : XK
  sd : Addr → List (Key × V) → Prop
  ms : Nat → Addr × Sp
  kt : Nat → Addr × Sp
  ex : Nat → Addr
  hs : Nat → Sp
  hv : Option Addr
abbrev RCx.calm (Γ : RCx) : RCx := { Γ with E := E0 }
/-- a value's truth -/
def tru (K : PySem.W.Frag) (x : V) (H : Hp) (Q : Bool → Prop) : Prop := match x with
  | .non => Q false
  | .bl b => Q b
  | .int i => Q (i != 0)
  | .str y => y.length ≤ sizeLine ∧ Q ((y.length : Int) != 0)
  | .ref p => (∃ xs, SqL K H p xs ∧ Q (!xs.isEmpty)) ∨ (∃ xs, SqT K H p xs ∧ Q (!xs.isEmpty)) ∨ ∃ kvs, H p = some (.dK kvs) ∧ Q (!kvs.isEmpty)
  | _ => False
theorem tru_of {K : PySem.W.Frag} {x : V} {H : Hp} {Q : Bool → Prop} (h : tru K x H Q) : ∃ k, TruV K x H k ∧ Q k := by
  cases x with
  | non => exact ⟨_, rfl, h⟩
  | bl b => exact ⟨_, rfl, h⟩
  | int i => exact ⟨_, rfl, h⟩
  | str y => exact ⟨_, ⟨h.1, rfl⟩, h.2⟩
  | ref p =>
    rcases h with ⟨xs, h1, h2⟩ | ⟨xs, h1, h2⟩ | ⟨xs, h1, h2⟩
    · exact ⟨_, .inl ⟨xs, h1, rfl⟩, h2⟩
    · exact ⟨_, .inr (.inl ⟨xs, h1, rfl⟩), h2⟩
    · exact ⟨_, .inr (.inr ⟨xs, h1, rfl⟩), h2⟩
  | _ => exact False.elim h
def tTru (K : PySem.W.Frag) (t : TE) : TT := fun σ H Q => t σ H fun x H1 => tru K x H1 fun b => Q b H1
def tNotE (K : PySem.W.Frag) (t : TE) : TE := fun σ H Q => t σ H fun x H1 => tru K x H1 fun b => Q (.bl (!b)) H1
def rNeg : V → Hp → VK → Prop := fun x H Q => match x with | .int i => Q (.int (-i)) H | _ => False
def lenV (K : PySem.W.Frag) (x : V) (H : Hp) (Q : Nat → Prop) : Prop := match x with
  | .str y => y.length ≤ sizeLine ∧ Q y.length
  | .ref p => (∃ xs, SqL K H p xs ∧ Q xs.length) ∨ ∃ xs, SqT K H p xs ∧ Q xs.length
  | _ => False
/-- the signs of a text, each a text -/
def signs (x : Str) : List V := x.cps.toList.map fun c => V.str ⟨#[c]⟩
/-- {} -/
def tNewD : TE := fun _ H Q => ∀ p, H p = none → Q (.ref p) (upd H p (.dK []))
def rBlt (K : PySem.W.Frag) : Blt → List V → Hp → VK → Prop
  | .len, [x], H, Q => lenV K x H fun n => Q (.int n) H
  | .min, [.int i, .int j], H, Q => Q (.int (if j < i then j else i)) H
  | .max, [.int i, .int j], H, Q => Q (.int (if j > i then j else i)) H
  | .min, [.ref p], H, Q => ∃ ns : List Int, SqL K H p (ns.map V.int) ∧ ns ≠ [] ∧ ∀ m : Int, m ∈ ns → (∀ n ∈ ns, m ≤ n) → Q (.int m) H
  | .max, [.ref p], H, Q => ∃ ns : List Int, SqL K H p (ns.map V.int) ∧ ns ≠ [] ∧ ∀ m : Int, m ∈ ns → (∀ n ∈ ns, n ≤ m) → Q (.int m) H
  | .sum, [.ref p], H, Q => ∃ ns : List Int, SqL K H p (ns.map V.int) ∧ Q (.int ns.sum) H
  | .int, [.int i], H, Q => Q (.int i) H
  | .int, [.bl k], H, Q => Q (.int (if k then 1 else 0)) H
  | .list, [.ref p], H, Q => ∃ ys, (SqL K H p ys ∨ SqT K H p ys) ∧ ∀ l, H l = none → Q (.ref l) (upd H l (.lst ys))
  | .list, [.str x], H, Q => x.length ≤ sizeLine ∧ ∀ l, H l = none → Q (.ref l) (upd H l (.lst (signs x)))
  | .tuple, [.str x], H, Q => x.length ≤ sizeLine ∧ ∀ l, H l = none → Q (.ref l) (upd H l (.tup (signs x)))
  | .abs, [.int i], H, Q => Q (.int (if i < 0 then -i else i)) H
  | .tuple, [.ref p], H, Q => ∃ ys, (SqL K H p ys ∧ ∀ l, H l = none → Q (.ref l) (upd H l (.tup ys))) ∨ (SqT K H p ys ∧ Q (.ref p) H)
  | _, _, _, _ => False
def rIsi (T : Ty) : List V → Hp → VK → Prop
  | [x, .ty n], H, Q => n = T.nm ∧ isiV T x H fun b => Q (.bl b) H
  | _, _, _ => False
def rMth (K : PySem.W.Frag) : Mth → V → List V → Hp → VK → Prop
  | .append, .ref l, [y], H, Q => ∃ xs, H l = some (.lst xs) ∧ xs.length < sizeLine ∧ Q .non (upd H l (.lst (xs ++ [y])))
  | .pop, .ref l, [], H, Q => ∃ xs y, H l = some (.lst xs) ∧ xs[xs.length - 1]? = some y ∧ Q y (upd H l (.lst xs.dropLast))
  | .extend, .ref l, [.ref b], H, Q => ∃ xs zs, H l = some (.lst xs) ∧ H b = some (.lst zs) ∧ xs.length + zs.length ≤ sizeLine ∧ Q .non (upd H l (.lst (xs ++ zs)))
  | .join, .str sep, [.ref p], H, Q => ∃ ts : List Str, SqL K H p (ts.map V.str) ∧ JoinOk sep ts = true ∧ Q (.str (Txt.join sep ts)) H
  | .lstrip, .str z, [.str y], H, Q => z.length ≤ sizeLine ∧ Q (.str (Txt.lstripChars z y)) H
  | .starts, .str z, [.str y, .int i], H, Q => Q (.bl (decide (fromIndex z.length i + y.length ≤ z.length) && Builtin.Str.subAt z y (fromIndex z.length i))) H
  | .find, .str z, [.str y], H, Q => Q (.int (match Builtin.Str.occurrences z y 0 z.length 1 with | i :: _ => (i : Int) | [] => -1)) H
  | .find, .str z, [.str y, .int i], H, Q => Q (.int (match Builtin.Str.occurrences z y (fromIndex z.length i) z.length 1 with | k :: _ => (k : Int) | [] => -1)) H
  | .count, .str z, [.str y], H, Q => Q (.int (Builtin.Str.occurrences z y 0 z.length (z.length + 1)).length) H
  | .reverse, .ref l, [], H, Q => ∃ xs, H l = some (.lst xs) ∧ Q .non (upd H l (.lst xs.reverse))
  | .index, .ref l, [.str y], H, Q => ∃ ts : List Str, SqL K H l (ts.map V.str) ∧ y ∈ ts ∧ Q (.int (ts.idxOf y : Nat)) H
  | .clear, .ref l, [], H, Q => ∃ xs, H l = some (.lst xs) ∧ Q .non (upd H l (.lst []))
  | .cntL, .ref l, [y], H, Q => ∃ xs, SqL K H l xs ∧ flatV y = true ∧ xs.all flatV = true ∧ Q (.int (xs.countP (fun z => eqV z y) : Nat)) H
  | .idxL, .ref l, [y], H, Q => ∃ xs, SqL K H l xs ∧ flatV y = true ∧ xs.all flatV = true ∧ inV y xs = true ∧ Q (.int (xs.findIdx (fun z => eqV z y) : Nat)) H
  | _, _, _, _, _ => False
def mthTy : Mth → String
  | .join | .lstrip | .starts | .find | .count => "str"
  | _ => "list"
def tMth (K : PySem.W.Frag) (m : Mth) (to : TE) (t : TA) : TE := fun σ H Q => to σ H fun x H1 => tyV K (mthTy m) x H1 ∧ t σ H1 fun xs H2 => rMth K m x xs H2 Q
def rSl (K : PySem.W.Frag) : V → Option Int → Option Int → Hp → VK → Prop := fun x lo hi H Q => match x with
  | .str z => z.length ≤ sizeLine ∧ Q (.str (cutS z lo hi)) H
  | .ref a => (∃ xs, SqL K H a xs ∧ ∀ p, H p = none → Q (.ref p) (upd H p (.lst (cutV xs lo hi)))) ∨
    (∃ xs, SqT K H a xs ∧ ¬ (HT.sIx xs.length 0 lo = 0 ∧ HT.sIx xs.length xs.length hi = xs.length) ∧ ∀ p, H p = none → Q (.ref p) (upd H p (.tup (cutV xs lo hi))))
  | _ => False
/-- the value that a table has for a key -/
def valK (kvs : List (Key × V)) (k : Key) : Option V := (kvs.find? fun kv => decide (kv.1 = k)).map (·.2)
def rIxD (sd : Addr → List (Key × V) → Prop) : R2 := fun x y H Q => ∃ p kvs k v, x = .ref p ∧ y = kV k ∧ sd p kvs ∧ valK kvs k = some v ∧ Q v H
def rIx2 (K : PySem.W.Frag) (sd : Addr → List (Key × V) → Prop) : R2 := fun x y H Q => rIxL K x y H Q ∨ rIxT K x y H Q ∨ rIxS x y H Q ∨ rIxD sd x y H Q
/-- a < b < c < d, as a test -/
def tChain3 (r r' r2 : R2) (ta tb tc td : TE) : TT := fun σ H Q => ta σ H fun x H1 => tb σ H1 fun y H2 => r x y H2 fun z H3 => ∃ k, z = .bl k ∧
  (if k = true then tc σ H3 fun w H4 => r' y w H4 fun z2 H5 => ∃ k2, z2 = .bl k2 ∧ (if k2 = true then td σ H5 fun u H6 => r2 w u H6 fun z3 H7 => ∃ k3, z3 = .bl k3 ∧ Q k3 H7 else Q false H5) else Q false H3)
/-- two lists side by side -/
def Itz (K : PySem.W.Frag) (a b : Addr) : It :=
  ⟨fun i H => ∃ xs ys, SqL K H a xs ∧ SqL K H b ys ∧ i < xs.length ∧ i < ys.length,
   fun i H x H' => ∃ T, H T = none ∧ x = .ref T ∧ ∀ xs ys u v, SqL K H a xs → SqL K H b ys → xs[i]? = some u → ys[i]? = some v → H' = upd H T (.tup [u, v]),
   fun i H => ∃ xs ys, SqL K H a xs ∧ SqL K H b ys ∧ i = min xs.length ys.length⟩
/-- a list's items, each with its number -/
def Itn (K : PySem.W.Frag) (a : Addr) : It :=
  ⟨fun i H => ∃ xs, SqL K H a xs ∧ i < xs.length,
   fun i H x H' => ∃ T, H T = none ∧ x = .ref T ∧ ∀ xs u, SqL K H a xs → xs[i]? = some u → H' = upd H T (.tup [.int (i : Nat), u]),
   fun i H => ∃ xs, SqL K H a xs ∧ i = xs.length⟩
def iEnm (K : PySem.W.Frag) (ta : TA) : TI := fun σ H R => ta σ H fun vs H1 => ∃ a, vs = [.ref a] ∧ (∃ xs, SqL K H1 a xs) ∧ R (Itn K a) H1
def iZip (K : PySem.W.Frag) (ta : TA) : TI := fun σ H R => ta σ H fun vs H1 => ∃ a b, vs = [.ref a, .ref b] ∧ (∃ xs, SqL K H1 a xs) ∧ (∃ ys, SqL K H1 b ys) ∧ R (Itz K a b) H1
/-- two tuples side by side -/
def Itzt (K : PySem.W.Frag) (a b : Addr) : It :=
  ⟨fun i H => ∃ xs ys, SqT K H a xs ∧ SqT K H b ys ∧ i < xs.length ∧ i < ys.length,
   fun i H x H' => ∃ T, H T = none ∧ x = .ref T ∧ ∀ xs ys u v, SqT K H a xs → SqT K H b ys → xs[i]? = some u → ys[i]? = some v → H' = upd H T (.tup [u, v]),
   fun i H => ∃ xs ys, SqT K H a xs ∧ SqT K H b ys ∧ i = min xs.length ys.length⟩
def iZipT (K : PySem.W.Frag) (ta : TA) : TI := fun σ H R => ta σ H fun vs H1 => ∃ a b, vs = [.ref a, .ref b] ∧ (∃ xs, SqT K H1 a xs) ∧ (∃ ys, SqT K H1 b ys) ∧ R (Itzt K a b) H1
/-- a text's signs -/
def Its (z : Str) : It := ⟨fun i _ => i < z.length, fun i H x H' => H' = H ∧ ∃ c, z.cps[i]? = some c ∧ x = .str ⟨#[c]⟩, fun i _ => i = z.length⟩
def iTxt (ta : TE) : TI := fun σ H R => ta σ H fun x H1 => ∃ z, x = .str z ∧ R (Its z) H1
mutual
def rdE (Γ : RCx) : RE → TE
  | .v i => tVar i
  | .c x => tC x
  | .g j => tC (Γ.gv j)
  | .bin op a b => tOp (rBin Γ.K op) (rdE Γ a) (rdE Γ b)
  | .neg a => tUn rNeg (rdE Γ a)
  | .cmp op a b => tOp (rCmp Γ.K op) (rdE Γ a) (rdE Γ b)
  | .cmp2 op op' a b d => tChain (rCmp Γ.K op) (rCmp Γ.K op') (rdE Γ a) (rdE Γ b) (rdE Γ d)
  | .cmp3 _ _ _ _ _ _ _ => fun _ _ _ => False
  | .and as => rdAnd Γ as
  | .or as => rdOr Γ as
  | .not a => tNotE Γ.K (rdE Γ a)
  | .ife t a b => tIf (rdT Γ t) (rdE Γ a) (rdE Γ b)
  | .call j as => tCall (Γ.fs j) [] Γ.E (rdA Γ as)
  | .blt b as => tCB (rBlt Γ.K b) (rdA Γ as)
  | .isi T a => tCB (rIsi T) (tCons (rdE Γ a) (tCons (tC (.ty T.nm)) tNil))
  | .mth m o as => tMth Γ.K m (rdE Γ o) (rdA Γ as)
  | .ix a b => tOp (rIx2 Γ.K Γ.sd) (rdE Γ a) (rdE Γ b)
  | .sl a lo hi => tSl (rSl Γ.K) (rdE Γ a) (rdO Γ lo) (rdO Γ hi)
  | .tup as => tTup (rdA Γ as)
  | .lst as => tLst (rdA Γ as)
  | .comp tk fv k its cond elt => tComp Γ.K (rdI Γ k its) tk fv (rdC Γ.calm cond) (rdE Γ.calm elt)
  | .isx a c => tCB (rIsx Γ.K) (tCons (rdE Γ a) (tCons (rdE Γ c) tNil))
  | .dct => tNewD
  | .same a b => tOp rEqW (rdE Γ a) (rdE Γ b)
  | .inD a b => tOp (rInD Γ.K false) (rdE Γ a) (rdE Γ b)
  | .ninD a b => tOp (rInD Γ.K true) (rdE Γ a) (rdE Γ b)
  | .dnewT => tDNewT
  | .dget a b => tDGet (rdE Γ a) (rdE Γ b)
  | .din a b => tDIn (rdE Γ a) (rdE Γ b)
  | .dnin a b => tDNotIn (rdE Γ a) (rdE Γ b)
  | .dgetD o a b => tDGet2 (rdE Γ o) (rdE Γ a) (rdE Γ b)
  | .xt T as => T Γ.K (rdA Γ as)
  | .xm T o as => T Γ.K (rdE Γ o) (rdA Γ as)
  | .wrd j a => tWrd (Γ.hs j) Γ.hv (tCons (rdE Γ a) tNil)
  | .fld o f => tFld Γ.K (rdE Γ o) f
  | .meth j m o as => tMeth (Γ.ms j).1 m (Γ.ms j).2 [] Γ.E (rdE Γ o) (rdA Γ as)
  | .make j as => tMake (Γ.kt j).1 (Γ.kt j).2 [] Γ.E (rdA Γ as)
def rdT (Γ : RCx) : RE → TT
  | .not a => tNot (rdT Γ a)
  | .inD a b => tTest (tOp (rInD Γ.K false) (rdE Γ a) (rdE Γ b))
  | .ninD a b => tTest (tOp (rInD Γ.K true) (rdE Γ a) (rdE Γ b))
  | .din a b => tB (tDIn (rdE Γ a) (rdE Γ b))
  | .dnin a b => tB (tDNotIn (rdE Γ a) (rdE Γ b))
  | .and as => rdTAnd Γ as
  | .or as => rdTOr Γ as
  | .cmp op a b => tTest (tOp (rCmp Γ.K op) (rdE Γ a) (rdE Γ b))
  | .cmp2 op op' a b d => tTest (tChain (rCmp Γ.K op) (rCmp Γ.K op') (rdE Γ a) (rdE Γ b) (rdE Γ d))
  | .cmp3 op op' op2 a b d f => tChain3 (rCmp Γ.K op) (rCmp Γ.K op') (rCmp Γ.K op2) (rdE Γ a) (rdE Γ b) (rdE Γ d) (rdE Γ f)
  | .v i => tTru Γ.K (tVar i)
  | .call j as => tTru Γ.K (tCall (Γ.fs j) [] Γ.E (rdA Γ as))
  | .isi T a => tTru Γ.K (tCB (rIsi T) (tCons (rdE Γ a) (tCons (tC (.ty T.nm)) tNil)))
  | .isx a c => tTru Γ.K (tCB (rIsx Γ.K) (tCons (rdE Γ a) (tCons (rdE Γ c) tNil)))
  | .mth m o as => tTru Γ.K (tMth Γ.K m (rdE Γ o) (rdA Γ as))
  | .ix a b => tTru Γ.K (tOp (rIx2 Γ.K Γ.sd) (rdE Γ a) (rdE Γ b))
  | .bin op a b => tTru Γ.K (tOp (rBin Γ.K op) (rdE Γ a) (rdE Γ b))
  | .fld o f => tTru Γ.K (tFld Γ.K (rdE Γ o) f)
  | .xt T as => tTru Γ.K (T Γ.K (rdA Γ as))
  | .xm T o as => tTru Γ.K (T Γ.K (rdE Γ o) (rdA Γ as))
  | .meth j m o as => tTru Γ.K (tMeth (Γ.ms j).1 m (Γ.ms j).2 [] Γ.E (rdE Γ o) (rdA Γ as))
  | _ => fun _ _ _ => False
def rdA (Γ : RCx) : List RE → TA
  | [] => tNil
  | a :: r => tCons (rdE Γ a) (rdA Γ r)
def rdAnd (Γ : RCx) : List RE → TE
  | [] => fun _ _ _ => False
  | [a] => rdE Γ a
  | a :: r => tAndV (rdE Γ a) (rdAnd Γ r)
def rdOr (Γ : RCx) : List RE → TE
  | [] => fun _ _ _ => False
  | [a] => rdE Γ a
  | a :: r => tOrV (rdE Γ a) (rdOr Γ r)
def rdTAnd (Γ : RCx) : List RE → TT
  | [] => fun _ _ _ => False
  | [a] => rdT Γ a
  | a :: r => tAnd (rdT Γ a) (rdTAnd Γ r)
def rdTOr (Γ : RCx) : List RE → TT
  | [] => fun _ _ _ => False
  | [a] => rdT Γ a
  | a :: r => tOr (rdT Γ a) (rdTOr Γ r)
def rdO (Γ : RCx) : Option RE → TO
  | none => tNoPart
  | some a => tPart (rdE Γ a)
def rdC (Γ : RCx) : Option RE → Option TT
  | none => none
  | some a => some (rdT Γ a)
def rdI (Γ : RCx) (k : IK) : List RE → TI
  | [] => fun _ _ _ => False
  | a :: r => match k with
    | .list => iList Γ.K (rdE Γ a)
    | .tup => iTup Γ.K (rdE Γ a)
    | .rng => iRng1 (tCons (rdE Γ a) (rdA Γ r))
    | .rng2 => iRng2 (tCons (rdE Γ a) (rdA Γ r))
    | .zip => iZip Γ.K (tCons (rdE Γ a) (rdA Γ r))
    | .enm => iEnm Γ.K (tCons (rdE Γ a) (rdA Γ r))
    | .txt => iTxt (rdE Γ a)
    | .zipT => iZipT Γ.K (tCons (rdE Γ a) (rdA Γ r))
end
end L2
set_option maxRecDepth 100000
set_option maxHeartbeats 4000000
namespace L2
open PySem PySem.Spec PyProof.Rows
/-! ### is this the reading of that row? -/
structure SCx where
  N : List Str
  sc : Scope
  fn : List Str
  gn : List Str
  bl : List Str
  mn : List Str
  kn : List Str
  en : List Str
  hn : List Str
  md : Nat
def vis (sc : Scope) (x : Str) : Bool := match sc.names.lookup x with
  | some .local => true | some .cell => true | some .free => true | _ => false
def loc (sc : Scope) (x : Str) : Bool := match sc.names.lookup x with
  | some .local => true | some .cell => true | _ => false
def glo (sc : Scope) (x : Str) : Bool := match sc.names.lookup x with
  | some .globalImplicit => true | _ => false
theorem vis_of {sc : Scope} {x : Str} (h : vis sc x = true) : Vis sc x := by
  unfold vis at h
  unfold Vis
  cases e : sc.names.lookup x with
  | none => rw [e] at h; cases h
  | some k => rw [e] at h; cases k <;> first | exact .inl rfl | exact .inr (.inl rfl) | exact .inr (.inr rfl) | cases h
theorem loc_of {sc : Scope} {x : Str} (h : loc sc x = true) : Loc sc x := by
  unfold loc at h
  unfold Loc
  cases e : sc.names.lookup x with
  | none => rw [e] at h; cases h
  | some k => rw [e] at h; cases k <;> first | exact .inl rfl | exact .inr rfl | cases h
theorem glo_of {sc : Scope} {x : Str} (h : glo sc x = true) : sc.names.lookup x = some .globalImplicit := by
  unfold glo at h
  cases e : sc.names.lookup x with
  | none => rw [e] at h; cases h
  | some k => rw [e] at h; cases k <;> first | rfl | cases h
structure CompP where
  elt : Expr
  tg : Expr
  iter : Expr
  ifs : List Expr
  sc : Scope
def Blt.nm : Blt → Str
  | .len => "len" | .min => "min" | .max => "max" | .sum => "sum" | .int => "int" | .list => "list" | .tuple => "tuple" | .abs => "abs"
def Mth.nm : Mth → Str
  | .append => "append" | .pop => "pop" | .extend => "extend" | .join => "join" | .lstrip => "lstrip" | .starts => "startswith" | .reverse => "reverse" | .clear => "clear" | .index => "index" | .find => "find" | .count => "count" | .cntL => "count" | .idxL => "index"
def noSuper : Expr → Bool
  | .Call (.Name _ _) [] [] _ => false
  | _ => true
def noStar : Expr → Bool
  | .Starred .. => false
  | _ => true
def noSet : Expr → Bool
  | .Set .. => false
  | _ => true
def relabelS (sc' sc : Scope) : Scope :=
  { sc' with names := sc'.names.map fun (n, k) => if (k == .free && sc.kind == .function && sc.names.lookup n == some .cell) then (n, .cell) else (n, k) }
/-- the names of a block's target -/
def tgNames (tk : Option Nat) (tg : Expr) : Option (List Str) := match tk, tg with
  | none, .Name x _ => some [x]
  | some 2, .Tuple [.Name x _, .Name y _] _ _ => some [x, y]
  | _, _ => none
def compS (S : SCx) (c : CompP) (ln : List Str) (fv : List (Str × Nat)) : SCx := { S with N := ln ++ fv.map (·.1), sc := relabelS c.sc S.sc, en := [], md := if S.md = 0 then 0 else 2 }
def compB (S : SCx) (c : CompP) (ln : List Str) (fv : List (Str × Nat)) : Bool :=
  decide (c.sc.kind = .function) && c.sc.names.all (fun y => decide (y.2 ≠ .cell)) && c.sc.names.all (fun y => decide (y.2 ≠ .local) || decide (c.sc.names.lookup y.1 = some .local))
  && c.sc.names.all (fun y => decide (y.2 ≠ .free) || decide (S.sc.names.lookup y.1 = some .cell) || decide (S.sc.names.lookup y.1 = some .free))
  && fv.all (fun p => decide (S.N[p.2]? = some p.1) && decide (c.sc.names.lookup p.1 = some .free))
  && ln.all (fun x => decide (c.sc.names.lookup x = some .local)) && decide ((ln ++ fv.map (·.1)).Nodup) && noSet c.iter
end L2
set_option maxRecDepth 100000
set_option maxHeartbeats 4000000
namespace L2
open PySem PySem.Spec PyProof.Rows
/-! ### for .. in zip(xs, ys), the target a tuple -/
theorem boot_zip : bootBuiltins "zip" = some (.type "zip") := by decide +kernel
/-! ### for .. in enumerate(xs), the target a tuple -/
end L2
set_option maxRecDepth 100000
set_option maxHeartbeats 400000
namespace L2
open PySem PySem.Spec PyProof.Rows
/-! ### within an except suite: a new exception takes the caught one as its context -/
/-- nothing is being handled, or an exception that bears no context -/
def Hdl (A : Around) (h : Heap) : Prop := A.handled = none ∨ ∃ e o vs, A.handled = some (.ref e) ∧ h.get? e = some o ∧ o.data = .fields vs ∧ vs[2]? = some .none
theorem Hdl.keeps {A : Around} {h h' : Heap} (x : Hdl A h) (k : ∀ b o vs, h.get? b = some o → o.data = .fields vs → vs[2]? = some .none → h'.get? b = some o) : Hdl A h' := by
  rcases x with x | ⟨e, o, vs, a, b, c, d⟩
  · exact .inl x
  · exact .inr ⟨e, o, vs, a, k e o vs b c d, c, d⟩
theorem entry_unchain : entryFor table "proto.unchain" = some Builtin.«proto.unchain» := entryFor_of_fast (by kernel_rfl)
section
variable {prog : Program} {w : World} {A : Around} {E : Value → Shared → Prop} {s : Shared}
theorem wpAny_updateField {a : Addr} {o : Obj} {vs : Array Value} {i : Nat} {v : Value} {Q : Unit → Shared → Prop} (ho : s.heap.get? a = some o) (hd : o.data = .fields vs) (hi : i < vs.size) (h : Q () { s with heap := s.heap.update a (Obj.mapFields (·.setIfInBounds i v)) }) :
    wpAny (model prog w) A (updateField a i v) Q E s := by
  unfold updateField
  refine wpAny_bind (wpAny_load ho ?_)
  rw [hd]
  show wpAny _ _ (if i < vs.size then _ else _) _ _ s
  rw [if_pos hi]
  exact wpAny_update ho h
theorem wpAny_raiseNew_h {α : Type} {a : Addr} {o : Obj} {vs : Array Value} {Q : α → Shared → Prop} (hh : Hdl A s.heap) (ho : s.heap.get? a = some o) (hd : o.data = .fields vs) (h2 : 2 < vs.size) (hne : ∀ e, A.handled = some (.ref e) → e ≠ a)
    (hE : ∀ h', Heap.SameBut a s.heap h' → (∃ o', h'.get? a = some o' ∧ o'.cls = o.cls) → E (.ref a) { s with heap := h' }) : wpAny (model prog w) A (raiseNew (.ref a) : Sem α) Q E s := by
  unfold raiseNew
  refine wpAny_bind (wpAny_handled ?_)
  rcases hh with hh | ⟨e, oe, ve, hh, he, hde, hve⟩
  · rw [hh]
    exact wpAny_bind (wpAny_pure (wpAny_throw (hE s.heap (Heap.SameBut.refl ..) ⟨o, ho, rfl⟩)))
  · rw [hh]
    have ne : e ≠ a := hne e hh
    have hb : ((Value.ref e) != (Value.ref a)) = true := by
      simp only [bne_iff_ne, ne_eq, Value.ref.injEq]
      exact ne
    dsimp only
    rw [if_pos hb]
    refine wpAny_bind (wpAny_holding (wpAny_runValue (codeAny_builtin entry_unchain ?_)))
    unfold Builtin.«proto.unchain»
    dsimp only
    refine wpAny_bind (wpAny_field he hde hve ?_)
    rw [if_pos (by rfl)]
    refine wpAny_bind (wpAny_pure (wpAny_pure ?_))
    dsimp only
    refine wpAny_bind (wpAny_updateField ho hd h2 ?_)
    refine wpAny_throw (hE _ (Heap.SameBut.update ..) ⟨_, Heap.get?_update_self _ ho (Obj.isFreed_of_fields (Obj.data_mapFields hd _)), Obj.cls_mapFields ..⟩)
theorem stop_h {it : Addr} {f : Obj → Obj} {Qf : Fin → Shared → Prop} {Q : Option Value → Shared → Prop} (hh : Hdl A s.heap) (hn : ∀ vs : Array Value, ¬ ∃ o, s.heap.get? it = some o ∧ o.data = .fields vs ∧ vs[2]? = some .none)
    (hQ : ∀ h', Heap.ExtBut it s.heap h' → Q none { s with heap := h' }) :
    wpAny (model prog w) A.in1 Builtin.SmallTypes.stopIteration Qf (fun e s' => wpAny (model prog w) A (do let b ← isInstance e (.type "StopIteration"); if b = true then pure none else throw e) Q E s') { s with heap := s.heap.update it f } := by
  show wpAny _ _ (newExc (.type "StopIteration") [] >>= _) _ _ _
  refine wpAny_bind ?_
  simp only [newExc, newTuple]
  refine wpAny_bind (wpAny_newObj_type ?_ (by size_fits))
  refine wpAny_bind (m := firstArgMember _ _) (wpAny_of_eq (a := Value.none) (by first | rfl | (simp only [firstArgMember]; rfl)) ?_)
  refine wpAny_newObj_type ?_ (by size_fits)
  dsimp only
  have lt : ∀ b o, s.heap.get? b = some o → b ≠ it → (s.heap.update it f).get? b = some o := fun b o e hb => (Heap.get?_update_other _ _ (Ne.symm hb)).trans e
  have hh' : Hdl A.in1 (((s.heap.update it f).push { cls := .type "tuple", data := .seq ([] : List Value).toArray }).push
      { cls := .type "StopIteration", data := .fields (#[.ref (s.heap.update it f).objs.size, .none, .none, .none, .bool false, .none] ++ ownMembersOf (.type "StopIteration") []) }) := by
    rcases hh with hh | ⟨e, oe, ve, h1, h2, h3, h4⟩
    · exact .inl hh
    · refine .inr ⟨e, oe, ve, h1, Heap.get?_push_of_some _ (Heap.get?_push_of_some _ (lt e oe h2 fun z => ?_)), h3, h4⟩
      subst z
      exact hn ve ⟨oe, h2, h3, h4⟩
  refine wpAny_raiseNew_h hh' (Heap.get?_push_size _ rfl) rfl (Nat.lt_of_lt_of_le (show 2 < 6 by decide) (by rw [Array.size_append]; exact Nat.le_add_right 6 _)) (fun e he => ?_) (fun h' sb ⟨o', q1, q2⟩ => ?_)
  · rcases hh with hh | ⟨e', oe, ve, h1, h2, h3, h4⟩
    · rw [show A.in1.handled = none from hh] at he; cases he
    · rw [show A.in1.handled = _ from h1] at he
      cases he
      have := Heap.lt_size h2
      refine Nat.ne_of_lt (Nat.lt_of_lt_of_le this ?_)
      rw [Heap.size_push, Heap.size_update]
      exact Nat.le_succ _
  · refine wpAny_bind (wpAny_isInstance (T := "StopIteration") (b := true) ⟨_, q1, q2⟩ isSubtype_stop ?_)
    refine wpAny_pure (hQ _ fun b o hb e => ?_)
    have e3 := lt b o e hb
    have e4 := Heap.get?_push_of_some { cls := .type "StopIteration", data := .fields (#[.ref (s.heap.update it f).objs.size, .none, .none, .none, .bool false, .none] ++ ownMembersOf (.type "StopIteration") []) } (Heap.get?_push_of_some { cls := .type "tuple", data := .seq ([] : List Value).toArray } e3)
    refine (sb.2 b (Nat.ne_of_lt (Nat.lt_of_lt_of_le (Heap.lt_size e3) ?_))).trans e4
    rw [Heap.size_push]
    exact Nat.le_succ _
theorem next_list_end_h {it l : Addr} {i : Nat} {items} {Q : Option Value → Shared → Prop} (hh : Hdl A s.heap)
    (hit : s.heap.IsListIter it l i) (hl : s.heap.IsList l items) (hx : items[i]? = none)
    (hQ : ∀ h', Heap.ExtBut it s.heap h' → Q none { s with heap := h' }) : wpAny (model prog w) A (pyNext (.ref it)) Q E s := by
  obtain ⟨o, ho, hc, hd⟩ := id hit
  obtain ⟨ol, hol, _, nl, hdl⟩ := hl
  unfold pyNext
  refine wpAny_bind (wpAny_attempt (wpAny_callSpecial?_slot (name := Str.ofString "__next__") hit.typeIs slot_listiter_next
    (wpAny_call_entry slot_listiter_next hit.typeIs entry_listiter_next ?_ (args_listiter_next _))))
  show wpAny _ _ (field (.ref it) 0 >>= _) _ _ s
  refine wpAny_bind (wpAny_field ho hd (x := .ref l) rfl ?_)
  show wpAny _ _ (if (Value.ref l == Value.none) = true then _ else _) _ _ s
  rw [if_neg (show ¬ ((Value.ref l == Value.none) = true) from Bool.false_ne_true)]
  show wpAny _ _ (field (.ref it) 1 >>= _) _ _ s
  refine wpAny_bind (wpAny_field ho hd (x := .int i 0) rfl ?_)
  show wpAny _ _ (seqItems? (.ref l) >>= _) _ _ s
  refine wpAny_bind (wpAny_seqItems hol hdl ?_)
  simp only [Int.toNat_natCast, hx]
  refine wpAny_bind (wpAny_rule (wpAny_bind (wpAny_setField ho hd (by simp) ?_)))
  exact stop_h hh (fun vs z => by obtain ⟨o', h1, h2, h3⟩ := z; rw [ho] at h1; cases h1; rw [hd] at h2; cases h2; cases h3) hQ
theorem next_tuple_end_h {it t : Addr} {i : Nat} {items} {Q : Option Value → Shared → Prop} (hh : Hdl A s.heap)
    (hit : IsTupIter s.heap it t i) (ht : IsTup s.heap t items) (hx : items[i]? = none)
    (hQ : ∀ h', Heap.ExtBut it s.heap h' → Q none { s with heap := h' }) : wpAny (model prog w) A (pyNext (.ref it)) Q E s := by
  obtain ⟨o, ho, hc, hd⟩ := id hit
  obtain ⟨ol, hol, _, nl, hdl⟩ := ht
  unfold pyNext
  refine wpAny_bind (wpAny_attempt (wpAny_callSpecial?_slot (name := Str.ofString "__next__") hit.typeIs slot_tupleiter_next
    (wpAny_call_entry slot_tupleiter_next hit.typeIs entry_tupleiter_next ?_ (args_tupleiter_next _))))
  show wpAny _ _ (field (.ref it) 0 >>= _) _ _ s
  refine wpAny_bind (wpAny_field ho hd (x := .ref t) rfl ?_)
  show wpAny _ _ (if (Value.ref t == Value.none) = true then _ else _) _ _ s
  rw [if_neg (show ¬ ((Value.ref t == Value.none) = true) from Bool.false_ne_true)]
  show wpAny _ _ (field (.ref it) 1 >>= _) _ _ s
  refine wpAny_bind (wpAny_field ho hd (x := .int i 0) rfl ?_)
  show wpAny _ _ (seqItems? (.ref t) >>= _) _ _ s
  refine wpAny_bind (wpAny_seqItems hol hdl ?_)
  simp only [Int.toNat_natCast, hx]
  refine wpAny_bind (wpAny_rule (wpAny_bind (wpAny_setField ho hd (by simp) ?_)))
  exact stop_h hh (fun vs z => by obtain ⟨o', h1, h2, h3⟩ := z; rw [ho] at h1; cases h1; rw [hd] at h2; cases h2; cases h3) hQ
theorem unpackItems_tuple_h {t : Addr} {items : Array Value} {Q : List Value → Shared → Prop} (hh : Hdl A s.heap) (ht : IsTup s.heap t items)
    (hQ : ∀ h', Heap.ExtBut s.heap.objs.size s.heap h' → Q items.toList { s with heap := h' }) : wpAny (model prog w) A (unpackItems (.ref t) items.size none) Q E s := by
  have hlt : t ≠ s.heap.objs.size := by obtain ⟨o, ho, _⟩ := ht; exact Nat.ne_of_lt (Heap.lt_size ho)
  unfold unpackItems
  refine wpAny_bind ?_
  · unfold notIterableAtAll
    refine wpAny_bind (wpAny_specialOf ht.typeIs slot_tuple_iter.lookup ?_)
    refine wpAny_pure ?_
    simp only [Bool.false_eq_true, if_false]
    refine wpAny_bind (wpAny_holding (iter_tuple ht ?_))
    refine wpAny_bind (wpAny_holding (draw_tuple hlt items.size 0 _ _ ⟨_, Heap.get?_push_size _ rfl, rfl, rfl⟩ (ht.push _) (by omega) fun h₁ hit₁ hs₁ => ?_))
    have hall : List.take items.size (List.drop 0 items.toList) = items.toList := by
      rw [List.drop_zero]; exact List.take_of_length_le (by simp)
    rw [hall]
    rw [if_neg (by simp)]
    have ht₁ : IsTup h₁ t items := (ht.push _).extBut hs₁.extBut hlt
    have hh₁ : Hdl A h₁ := hh.keeps fun b o vs e _ _ => hs₁.extBut b o (Nat.ne_of_lt (Heap.lt_size e)) (Heap.get?_push_of_some _ e)
    refine wpAny_bind (wpAny_holding (next_tuple_end_h hh₁ hit₁ ht₁ (by simp) fun h₂ he₂ => ?_))
    simp only [Option.isSome_none, Bool.false_eq_true, if_false]
    refine wpAny_pure (hQ h₂ fun b o hb e => he₂ b o hb (hs₁.extBut b o hb (Heap.get?_push_of_some _ e)))
theorem assign_Tuple_tuple_h {env : Env} {elts : List Expr} {x1} {pos : Pos} {t : Addr} {items : Array Value} {Q : Unit → Shared → Prop} (hh : Hdl A s.heap) (ht : IsTup s.heap t items)
    (hn : (assignEach elts env).length = items.size) (hstar : (assignEach elts env).findIdx? (·.1) = none)
    (h : ∀ h', Heap.ExtBut s.heap.objs.size s.heap h' → wpAny (model prog w) A (assignInOrder ((assignEach elts env).map (·.2)) items.toList) Q E { s with heap := h' }) :
    wpAny (model prog w) A (assign (.Tuple elts x1 pos) env (.ref t)) Q E s := by
  rw [assign_Tuple]
  refine wpAny_bind (wpAny_standAt ?_)
  unfold unpack
  rw [hn, hstar]
  exact wpAny_bind (wpAny_holding (unpackItems_tuple_h hh ht h))
end
end L2
set_option maxRecDepth 100000
set_option maxHeartbeats 1000000
namespace L2
open PySem PySem.Spec PyProof.Rows PySem.W
section
variable {prog : Program} {w : World} {A : Around} {E : Value → Shared → Prop} {s : Shared} {K : Frag} {x D : Addr} {ox : Obj}
theorem exc_class {Q : Option Value → Shared → Prop} (X : K.In s.heap) (I : PySem.W.InstAt s.heap x ox D none) (hga : findIn K (.ref D) "__getattribute__" = some (some (.builtin "BaseException.__getattribute__"))) (hgn : findIn K (.ref D) "__getattr__" = some none)
    (hk : (clsIn K D).isSome = true) (ha : findIn K (.ref D) "__class__" = some (some (.builtin "object.__class__"))) (hn : specialIn K (.builtin "object.__class__") "__get__" = some (some (.builtin "getset_descriptor.__get__"))) (htk : takesIn K (.builtin "object.__class__") = some true)
    (hm : mroIn K D (.type "object") = some true) (hb : mroIn K D (.type "BaseException") = some true)
    (h : Q (some (.ref D)) { s with toks := s.toks + 1 }) : wpAny (model prog w) A (getAttr? (.ref x) "__class__") Q E s := by
  have hf : findObj K D none "__class__" = some (.bind (.builtin "getset_descriptor.__get__") (.builtin "object.__class__")) := by
    obtain ⟨cd, hc⟩ := Option.isSome_iff_exists.mp hk
    unfold findObj
    rw [hc, Option.bind_some, ha, Option.bind_some]
    simp only [hn, htk, Option.bind_some]
  obtain ⟨hh, g, d, t, os⟩ := s
  have L0 := I.type (M := model prog w)
  have L1 := looks_findIn (M := model prog w) X hga
  have L2 := looks_findIn (M := model prog w) X hgn
  have L3 := looks_find (M := model prog w) X I hf
  unfold getAttr? getAttrBy? getAttrBy
  refine wpAny_bind (wpAny_mkText (wpAny_bind (wpAny_attempt (wpAny_holding (wpAny_bind (L0.at (wpAny_bind (L1.at ?_))))))))
  have hx2 : (Value.builtin "BaseException.__getattribute__" == Value.builtin "object.__getattribute__") = false := by decide +kernel
  show wpAny _ _ (if (onTheHeap (Value.ref D) && Value.builtin "BaseException.__getattribute__" == Value.builtin "object.__getattribute__") = true then _ else _) _ _ _
  rw [hx2, Bool.and_false, if_neg (by decide)]
  unfold getAttrByItsOwn hookBefore
  refine wpAny_bind (L2.at ?_)
  refine wpAny_bind (wpAny_attempt (wpAny_holding ?_))
  show wpAny _ _ (boundAndCalled _ _ _) _ _ _
  unfold boundAndCalled
  rw [F.excAttr_ValueError.ga.bind (.ref x)]
  refine wpAny_bind (wpAny_pure ?_)
  refine wpAny_call (codeAny_call_builtin F.excAttr_ValueError.ga.plain F.entry_bexc_ga ?_)
  have L4 := looks_mroIn (M := model prog w) X hb
  have hk' : builtinKind "BaseException.__getattribute__" = some .slot := by decide +kernel
  have hsplit : splitId "BaseException.__getattribute__" = some ("BaseException", "__getattribute__") := by decide +kernel
  have hargs := F.args_bexc_ga (.ref x) (.str "__class__" t)
  simp only [checkBuiltinCall, hk', hsplit]
  have L5 : Looks (model prog w) hh (isInstance (.ref x) (.type "BaseException")) true := L0.andThen L4
  refine wpAny_bind (L5.at ?_)
  repeat (any_goals (first | assumption | (with_reducible refine wpAny_loadPart_at I.at_ ?_; rw [I.cls]; refine wpAny_pure (wpAny_bind (L3.at ?_))) | wp_step))
  refine class_get (s := ⟨hh, g, d, t + 1, os⟩) (ox := ox) (od := none) X I hm ?_
  exact wpAny_pure (wpAny_pure (wpAny_pure h))
/-- the type of an exception of an own class, for isinstance -/
theorem kitx_exc (hga : findIn K (.ref D) "__getattribute__" = some (some (.builtin "BaseException.__getattribute__"))) (hgn : findIn K (.ref D) "__getattr__" = some none)
    (hk : (clsIn K D).isSome = true) (ha : findIn K (.ref D) "__class__" = some (some (.builtin "object.__class__"))) (hn : specialIn K (.builtin "object.__class__") "__get__" = some (some (.builtin "getset_descriptor.__get__"))) (htk : takesIn K (.builtin "object.__class__") = some true)
    (hm : mroIn K D (.type "object") = some true) (hb : mroIn K D (.type "BaseException") = some true) : KitX K (.ref x) (.ref D) (fun h => PySem.W.InstAt h x ox D none) where
  ty := fun _ _ _ I => I.type
  it := fun _ _ X _ => by
    obtain ⟨cdD, hcD⟩ := Option.isSome_iff_exists.mp hk
    unfold clsIn at hcD
    split at hcD
    · rename_i c' d' cd' sl' ho
      intro A' Q' E' s' k q
      unfold isType loadHead
      exact wpAny_bind (wpAny_loadPart (k _ _ (X _ _ ho)) (wpAny_pure q))
    · cases hcD
  ne := fun h tp dd its n sl X htp => by
    obtain ⟨cdD, hcD⟩ := Option.isSome_iff_exists.mp hk
    refine Bool.eq_false_iff.mpr fun q => ?_
    have e : D = tp := Value.ref.inj (beq_iff_eq.mp q)
    subst e
    unfold clsIn at hcD
    split at hcD
    · rename_i c' d' cd' sl' ho
      have z := (X _ _ ho).symm.trans htp
      cases z
    · cases hcD
  ca := fun X I k => exc_class X I hga hgn hk ha hn htk hm hb k
end
end L2
set_option maxRecDepth 100000
set_option maxHeartbeats 400000
namespace L2
open PySem PySem.Spec PyProof.Rows
/-! ### what a tree without calls never touches -/
inductive KeepsT (J : Shared → Prop) {α : Type} : Sem α → Prop
  | pure (a : α) : KeepsT J (.pure a)
  | raise (e : Value) : KeepsT J (.raise e)
  | unsupported (w : String) : KeepsT J (.unsupported w)
  | rule {t : String} {k : Unit → Sem α} : KeepsT J (k ()) → KeepsT J (.rule t k)
  | load {a : Addr} {p : Option Value} {k : Obj → Sem α} : (∀ o, KeepsT J (k o)) → KeepsT J (.load a p k)
  | update {a : Addr} {p : Option Value} {f : Obj → Obj} {k : Unit → Sem α} : (∀ s, J s → J { s with heap := s.heap.update a f }) → KeepsT J (k ()) → KeepsT J (.update a p f k)
  | alloc {o : Obj} {k : Addr → Sem α} : (∀ s, J s → J { s with heap := s.heap.push o }) → (∀ a, KeepsT J (k a)) → KeepsT J (.alloc o k)
  | stack {k : List (Code × Pos) → Sem α} : (∀ t, KeepsT J (k t)) → KeepsT J (.stack k)
theorem wp_keepsT {M : Model} {Γ : PySem.Ctx} {J : Shared → Prop} {α : Type} {t : Sem α} (kt : KeepsT J t) : ∀ {Q : α → Pos → Shared → Prop} {E : Value → Pos → Shared → Prop} {p : Pos} {s : Shared}, J s → Sem.wp M Γ t Q E p s →
    Sem.wp M Γ t (fun a p s => Q a p s ∧ J s) (fun e p s => E e p s ∧ J s) p s := by
  induction kt with
  | pure a => intro Q E p s j h; rw [Sem.wp] at h ⊢; exact ⟨h, j⟩
  | raise e => intro Q E p s j h; rw [Sem.wp] at h ⊢; exact ⟨h, j⟩
  | unsupported w => intro Q E p s j h; rw [Sem.wp] at h; exact h.elim
  | rule _ ih => intro Q E p s j h; rw [Sem.wp] at h ⊢; exact ih j h
  | load _ ih => intro Q E p s j h; rw [Sem.wp] at h ⊢; obtain ⟨o, e, h⟩ := h; exact ⟨o, e, ih o j h⟩
  | update f _ ih => intro Q E p s j h; rw [Sem.wp] at h ⊢; exact ⟨h.1, ih (f _ j) h.2⟩
  | alloc f _ ih => intro Q E p s j h; rw [Sem.wp] at h ⊢; exact ih _ (f _ j) h
  | stack _ ih => intro Q E p s j h; rw [Sem.wp] at h ⊢; exact ih _ j h
theorem wpAny_keepsT {M : Model} {A : Around} {J : Shared → Prop} {α : Type} {t : Sem α} {Q : α → Shared → Prop} {E : Value → Shared → Prop} {s : Shared} (k : KeepsT J t) (j : J s) (h : wpAny M A t Q E s) :
    wpAny M A t (fun a s => Q a s ∧ J s) (fun e s => E e s ∧ J s) s := fun Γ p hΓ => wp_keepsT k j (h Γ p hΓ)
/-- no context is told of the exception at e -/
def NoCx (e : Addr) (s : Shared) : Prop := ∃ o vs, s.heap.get? e = some o ∧ o.data = .fields vs ∧ vs[2]? = some .none ∧ o.dict = none
theorem dict_mapFields (f : Array Value → Array Value) (o : Obj) : (Obj.mapFields f o).dict = o.dict := by
  unfold Obj.mapFields
  split <;> rfl
theorem noCx_set {e a : Addr} {i : Nat} {v : Value} (hi : i ≠ 2) (s : Shared) (j : NoCx e s) : NoCx e { s with heap := s.heap.update a (Obj.mapFields (·.setIfInBounds i v)) } := by
  obtain ⟨o, vs, h1, h2, h3, h4⟩ := j
  by_cases z : a = e
  · subst z
    have d := Obj.data_mapFields h2 (·.setIfInBounds i v)
    exact ⟨_, _, Heap.get?_update_self _ h1 (Obj.isFreed_of_fields d), d, by rw [Array.getElem?_setIfInBounds_ne hi]; exact h3, (dict_mapFields _ _).trans h4⟩
  · exact ⟨o, vs, (Heap.get?_update_other _ _ z).trans h1, h2, h3, h4⟩
theorem noCx_slots {e a : Addr} {f : Obj → Obj} (hf : ∀ o, (f o).data = o.data ∧ (f o).dict = o.dict) (s : Shared) (j : NoCx e s) : NoCx e { s with heap := s.heap.update a f } := by
  obtain ⟨o, vs, h1, h2, h3, h4⟩ := j
  by_cases z : a = e
  · subst z
    exact ⟨_, vs, Heap.get?_update_self _ h1 (Obj.isFreed_of_fields ((hf o).1.trans h2)), (hf o).1.trans h2, h3, (hf o).2.trans h4⟩
  · exact ⟨o, vs, (Heap.get?_update_other _ _ z).trans h1, h2, h3, h4⟩
theorem noCx_push {e : Addr} {ob : Obj} (s : Shared) (j : NoCx e s) : NoCx e { s with heap := s.heap.push ob } := by
  obtain ⟨o, vs, h1, h2, h3, h4⟩ := j
  exact ⟨o, vs, Heap.get?_push_of_some _ h1, h2, h3, h4⟩
end L2
set_option maxRecDepth 100000
set_option maxHeartbeats 400000
namespace L2
open PySem PySem.Spec PyProof.Rows
theorem KeepsT.bind {J : Shared → Prop} {α β : Type} {t : Sem α} {f : α → Sem β} (kt : KeepsT J t) (h : ∀ a, KeepsT J (f a)) : KeepsT J (t >>= f) := by
  show KeepsT J (t.bind f)
  induction kt with
  | pure a => exact h a
  | raise e => exact .raise e
  | unsupported w => exact .unsupported w
  | rule _ ih => exact .rule ih
  | load _ ih => exact .load ih
  | update g _ ih => exact .update g ih
  | alloc g _ ih => exact .alloc g ih
  | stack _ ih => exact .stack ih
section
variable {e : Addr}
theorem kt_load {a : Addr} : KeepsT (NoCx e) (load a) := .load fun o => .pure o
theorem kt_setField {v x : Value} {i : Nat} (hi : i ≠ 2) : KeepsT (NoCx e) (setField v i x) := by
  unfold setField
  split
  · rename_i a
    unfold updateField
    refine kt_load.bind fun o => ?_
    split
    · split
      · exact .update (fun s j => noCx_set hi s j) (.pure ())
      · exact .unsupported _
    · exact .unsupported _
  · exact .unsupported _
theorem kt_fieldsOf {v : Value} : KeepsT (NoCx e) (fieldsOf v) := by
  unfold fieldsOf
  split
  · refine kt_load.bind fun o => ?_
    split
    · exact .pure _
    · exact .unsupported _
  · exact .unsupported _
theorem kt_field {v : Value} {i : Nat} : KeepsT (NoCx e) (field v i) := by
  unfold field
  refine kt_fieldsOf.bind fun vs => ?_
  split
  · exact .pure _
  · exact .unsupported _
theorem kt_flight {v : Value} {f : Option Addr} : KeepsT (NoCx e) (setFlight v f) := by
  unfold setFlight
  refine kt_field.bind fun tb => ?_
  split
  · exact kt_setField (by decide)
  · exact .pure _
theorem kt_stack : KeepsT (NoCx e) stack := .stack fun t => .pure t
theorem kt_newFields {ty : String} {vs : List Value} : KeepsT (NoCx e) (newFields ty vs) := by
  unfold newFields newObj newObjAsIs
  show KeepsT (NoCx e) (if vs.toArray.size > sizeLine + 2 then (unsupported "record:memory" >>= _) else _)
  split
  · exact .unsupported _
  · exact KeepsT.bind (.alloc (fun s j => noCx_push s j) fun a => .pure a) fun a => .pure _
theorem kt_place {f : Addr} {b : Bool} : KeepsT (NoCx e) (entryPlaceOf f b) := by
  unfold entryPlaceOf
  refine kt_stack.bind fun acts => ?_
  split
  · exact .pure _
  · exact .pure _
theorem kt_ready : ∀ l : List Env, KeepsT (NoCx e) (readyFrames l)
  | [] => .pure _
  | env :: outer => by
    unfold readyFrames
    split
    · refine kt_load.bind fun o => ?_
      split
      · exact .pure _
      · refine KeepsT.bind ?_ fun im => KeepsT.bind ?_ fun bk => KeepsT.bind (.update (fun s j => noCx_slots (by intro o; exact ⟨rfl, rfl⟩) s j) (.pure ())) fun _ => kt_ready outer
        · unfold behindIsImport
          split
          · exact .pure _
          · split
            · exact .pure _
            · exact kt_field.bind fun _ => .pure _
        · unfold keptBack
          split
          · split
            · exact .pure _
            · unfold underTheClaimsCaller
              exact KeepsT.bind (kt_stack.bind fun _ => .pure _) fun _ => .pure _
          · exact .pure _
    · exact .unsupported _
theorem kt_frameOf {env : Env} : KeepsT (NoCx e) (PySem.frameOf env) := by
  unfold PySem.frameOf frameEnvs
  refine KeepsT.bind (kt_stack.bind fun _ => .pure _) fun l => ?_
  refine KeepsT.bind ?_ fun r => ?_
  · unfold frameObject
    split
    · exact .pure _
    · exact (kt_ready _).bind fun _ => .pure _
  · split
    · exact .pure _
    · exact .unsupported _
theorem kt_note {v : Value} {env : Env} : KeepsT (NoCx e) (noteFrame v env) := by
  unfold noteFrame
  split
  · rename_i x d hq
    refine kt_field.bind fun hd => ?_
    have tail : KeepsT (NoCx e) (do let a ← PySem.frameOf env; let pl ← entryPlaceOf d (hd != .none); let b ← EntryCells.newEntry hd a .none (rawInt d) .none pl; setField v 1 b) :=
      kt_frameOf.bind fun a => kt_place.bind fun pl => KeepsT.bind kt_newFields fun b => kt_setField (by decide)
    dsimp only
    split
    · refine kt_field.bind fun x => ?_
      split
      · exact .pure _
      · exact (kt_setField (by decide)).bind fun _ => tail
    · exact tail
  · exact .unsupported _
theorem kt_leaving {v : Value} {env : Env} : KeepsT (NoCx e) (leaving env v) := by
  unfold leaving
  exact kt_note.bind fun _ => kt_flight
end
end L2
set_option maxRecDepth 100000
set_option maxHeartbeats 4000000
namespace L2
open PySem PySem.Spec PyProof.Rows
/-! ### an exception on its way -/
theorem ObjOk.have' {P : Program} {w : World} {H : Hp} {h : Heap} {a : Addr} {o : HO} (x : ObjOk P w H h a o) : ∃ ob, h.get? a = some ob := by
  cases o with
  | lst xs => obtain ⟨_, _, _, _, e⟩ := x; exact ⟨_, e⟩
  | tup xs => obtain ⟨_, _, _, ob, e, _⟩ := x; exact ⟨_, e⟩
  | dK kvs => obtain ⟨_, _, _, _, o, _, _, e, _⟩ := x; exact ⟨_, e⟩
  | dT kvs => obtain ⟨_, _, _, _, o, _, _, e, _⟩ := x; exact ⟨_, e⟩
  | set S n => obtain ⟨o, _, _, _, e, _⟩ := x; exact ⟨_, e⟩
  | ins C dx fs => obtain ⟨_, _, _, e, _⟩ := x; exact ⟨_, e⟩
  | own y => obtain ⟨_, e⟩ := x; exact ⟨_, e⟩
  | xd fs => obtain ⟨_, ⟨_, _, _, e, _⟩, _⟩ := x; exact ⟨_, e⟩
  | rng lo hi => obtain ⟨_, _, _, e⟩ := x; exact ⟨_, e⟩
  | frz ob u => obtain ⟨e, _⟩ := x; exact ⟨_, e⟩
  | tbl ps => exact ⟨_, (show h.get? a = some _ from x)⟩
  | met f y => exact ⟨_, (show h.get? a = some _ from x)⟩
  | ext φ => obtain ⟨_, ⟨_, e⟩, _⟩ := x; exact ⟨_, e⟩
/-- the tracked things stay where all their objects do -/
theorem HOk.stay' {P : Program} {w : World} {H : Hp} {h h' : Heap} (ok : HOk P w H h) (k : ∀ b u, H b ≠ none → h.get? b = some u → h'.get? b = some u) : HOk P w H h' := fun a o e =>
  (ok a o e).stay (fun b u hb hu => k b u (by
    rcases hb with rfl | hb
    · rw [e]; exact Option.some_ne_none _
    · rw [hb]; exact Option.some_ne_none _) hu) (fun _ z => z) (fun _ _ z => z)
/-- where an exception is: raised in a call made at (H, s), behind which the frames of outer stand -/
def CXe (P : Program) (w : World) : CXT := fun outer H s E e s' => ∃ (ea : Addr) (cls : Value) (t : Addr) (B : Heap) (H' : Hp),
  e = .ref ea ∧ s'.os = s.os ∧ AllBare s'.gens ∧ Un (frs outer) [] H H' s.heap s'.heap ∧ HOk P w H' s'.heap ∧ Heap.FlyingW B outer ea cls (.ref t) s'.heap ∧ NoCx ea s' ∧ H' ea = none ∧
  (∀ b, H' b ≠ none → ∀ o, s'.heap.get? b = some o → B.get? b = some o) ∧ (∀ b o, s.heap.get? b = some o → b ∉ frs outer → ∀ o', s'.heap.get? b = some o' → B.get? b = some o') ∧ E cls none H'
theorem cxe_none {P : Program} {w : World} {outer : List Env} {H : Hp} {s : Shared} {e : Value} {s' : Shared} (h : CXe P w outer H s E0 e s') : False := by
  obtain ⟨_, _, _, _, _, _, _, _, _, _, _, _, _, _, _, h⟩ := h
  exact h
section
variable {P : Program} {w : World} {K : PySem.W.Frag} {mg : Str → Option Value} {base : Heap} {N : List Str} {qual : Str} {scope : Scope} {f : Addr} {cd : Value} {A : Around} {outer : List Env} {s₀ : Shared} {H₀ : Hp} {E : XK}
/-- an exception that came out of a call leaves the frame -/
theorem passE : Passes (CXe P w) (cxOf (CXe P w) P w K mg base N qual scope f cd A outer s₀ H₀ E) E := by
  intro pins σ H s e s' I hx
  obtain ⟨ea, cls, t, B, H', rfl, os, bare, u, hok, fl, ncx, hea, c1, c2, hE⟩ := hx
  have hfr := I.ok.frames
  have hL : s₀.heap.objs.size ≤ (envOfC qual scope s₀.heap.objs.size f cd).locals := I.ok.above
  have nL : ∀ b o, s₀.heap.get? b = some o → b ∉ frs outer → b ∉ frs (envOfC qual scope s₀.heap.objs.size f cd :: outer) := fun b o hb hn hm => by
    have hm' : b ∈ (envOfC qual scope s₀.heap.objs.size f cd).locals :: frs outer := hm
    rcases List.mem_cons.mp hm' with rfl | z
    · exact absurd (Heap.lt_size hb) (Nat.not_lt.mpr hL)
    · exact hn z
  have stk : ∀ b ∈ frs (envOfC qual scope s₀.heap.objs.size f cd :: outer), H' b = none := fun b hb => by
    obtain ⟨o, ho, _⟩ := (I.stack.mem hb).2
    exact u.free b o ho (I.stkFree b hb) List.not_mem_nil
  refine wpAny_mono (wpAny_keepsT kt_leaving ncx (wpAny_leaves_onW (Q := fun _ s'' => ∃ h', s'' = { s' with heap := h' } ∧ Heap.FlyingW B outer ea cls (.ref t) h' ∧ s'.heap.UpToSlots h') (E := fun _ _ => False) hfr rfl fl fun h' fl' up => ⟨h', rfl, fl', up⟩))
    (fun _ s'' hq => ?_) (fun _ _ z => z.1.elim)
  obtain ⟨⟨h', rfl, fl', up⟩, nc'⟩ := hq
  have into : ∀ b o, s.heap.get? b = some o → b ∉ frs (envOfC qual scope s₀.heap.objs.size f cd :: outer) → ∀ o', s'.heap.get? b = some o' → h'.get? b = some o' := fun b o hb hn o' ho' => fl'.1 b o' (c2 b o hb hn o' ho')
  have trk : ∀ b o, H' b ≠ none → s'.heap.get? b = some o → h'.get? b = some o := fun b o hb ho => fl'.1 b o (c1 b hb o ho)
  have frm : ∀ b ∈ frs (envOfC qual scope s₀.heap.objs.size f cd :: outer), ∀ o, s'.heap.get? b = some o → ∃ sl, h'.get? b = some { o with slots := sl } := fun b hb o ho => by
    obtain ⟨o1, ho1, hd⟩ := (fl.2.2.1.mem hb).2
    rw [ho] at ho1
    cases ho1
    exact up b o ho hd
  refine ⟨ea, cls, t, B, H', rfl, os.trans I.os, bare, ⟨fun b o q n hn _ => ?_, fun b o q n hn _ => ?_, fun b o q n _ => ?_, fun b o q _ => ?_, fun b xs q => u.tups b xs (I.base.tups b xs q), fun b o v q => u.frzs b o v (I.base.frzs b o v q), fun b ps q => ?_⟩,
    hok.stay' (fun b o hb ho => trk b o hb ho), fl', nc', hea, fun b hb o ho => ?_, fun b o q hn o' ho' => ?_, hE⟩
  · have q1 := I.base.keep b o q n hn List.not_mem_nil
    have n1 := I.base.free b o q n List.not_mem_nil
    have hn1 := nL b o q hn
    exact into b o q1 hn1 o (u.keep b o q1 n1 hn1 List.not_mem_nil)
  · obtain ⟨sl, q1⟩ := I.base.slot b o q n hn List.not_mem_nil
    have n1 := I.base.free b o q n List.not_mem_nil
    have hn1 : b ∈ frs (envOfC qual scope s₀.heap.objs.size f cd :: outer) := List.mem_cons_of_mem _ hn
    obtain ⟨sl2, q2⟩ := u.slot b _ q1 n1 hn1 List.not_mem_nil
    obtain ⟨sl3, q3⟩ := frm b hn1 _ q2
    exact ⟨sl3, q3⟩
  · obtain ⟨o1, q1⟩ := I.base.there b o q List.not_mem_nil
    exact u.free b o1 q1 (I.base.free b o q n List.not_mem_nil) List.not_mem_nil
  · obtain ⟨o1, q1⟩ := I.base.there b o q List.not_mem_nil
    obtain ⟨o2, q2⟩ := u.there b o1 q1 List.not_mem_nil
    by_cases hm : b ∈ frs (envOfC qual scope s₀.heap.objs.size f cd :: outer)
    · obtain ⟨sl, q3⟩ := frm b hm o2 q2
      exact ⟨_, q3⟩
    · exact ⟨o2, into b o1 q1 hm o2 q2⟩
  · obtain ⟨m1, e1⟩ := I.base.tbls b ps q
    obtain ⟨m2, e2⟩ := u.tbls b _ e1
    exact ⟨m1 ++ m2, by rw [e2, Array.append_assoc]⟩
  · obtain ⟨ho2, hH⟩ := Option.ne_none_iff_exists'.mp hb
    obtain ⟨o2, q2⟩ := (hok b ho2 hH).have'
    have q3 := trk b o2 hb q2
    have q3' : h'.get? b = some o := ho
    rw [q3] at q3'
    cases q3'
    exact c1 b hb _ q2
  · obtain ⟨o1, q1⟩ := I.base.there b o q List.not_mem_nil
    obtain ⟨o2, q2⟩ := u.there b o1 q1 List.not_mem_nil
    have hn1 := nL b o q hn
    have q3 := into b o1 q1 hn1 o2 q2
    have q3' : h'.get? b = some o' := ho'
    rw [q3] at q3'
    cases q3'
    exact c2 b o1 q1 hn1 _ q2
/-- a new exception that leaves the frame -/
def Raises (X : Cx) (E : XK) : Prop := ∀ (pins : List (Addr × Obj)) (σ : St) (H : Hp) (s : Shared) (h' : Heap) (e : Addr) (cls : Value) (vs : List Value), Inv X pins σ H s → Heap.MadeExcOf s.heap h' e cls vs → E cls none H → X.xe (.ref e) { s with heap := h' }
theorem raiseE : Raises (cxOf (CXe P w) P w K mg base N qual scope f cd A outer s₀ H₀ E) E := by
  intro pins σ H s h1 e cls vs I hx hE
  have hfr := I.ok.frames
  have hL : s₀.heap.objs.size ≤ (envOfC qual scope s₀.heap.objs.size f cd).locals := I.ok.above
  have nL : ∀ b o, s₀.heap.get? b = some o → b ∉ frs outer → b ∉ frs (envOfC qual scope s₀.heap.objs.size f cd :: outer) := fun b o hb hn hm => by
    have hm' : b ∈ (envOfC qual scope s₀.heap.objs.size f cd).locals :: frs outer := hm
    rcases List.mem_cons.mp hm' with rfl | z
    · exact absurd (Heap.lt_size hb) (Nat.not_lt.mpr hL)
    · exact hn z
  have hin : ∀ env ∈ (envOfC qual scope s₀.heap.objs.size f cd :: outer), ∀ b, env.frame = some b → b ∈ frs (envOfC qual scope s₀.heap.objs.size f cd :: outer) := fun env he b hb => List.mem_filterMap.mpr ⟨env, he, hb⟩
  have ncx : NoCx e { s with heap := h1 } := by
    obtain ⟨t, ht, _, _⟩ := hx.there
    exact ⟨_, _, ht, rfl, rfl, rfl⟩
  refine wpAny_mono (wpAny_keepsT kt_leaving ncx (wpAny_leaves_madeW (Q := fun _ s'' => ∃ h' t, s'' = { s with heap := h' } ∧ Heap.FlyingW (PySem.W.hideAll s.heap (frs (envOfC qual scope s₀.heap.objs.size f cd :: outer))) outer e cls (.ref t) h' ∧ h1.UpToSlots h') (E := fun _ _ => False)
    hfr rfl (fun b o q => PySem.W.of_hideAll _ q) (PySem.W.funFrames_hide I.stack hin) hx fun h' t fl' _ _ up => ⟨h', t, rfl, fl', up⟩)) (fun _ s'' hq => ?_) (fun _ _ z => z.1.elim)
  obtain ⟨⟨h', t, rfl, fl', up⟩, nc'⟩ := hq
  have into : ∀ b o, s.heap.get? b = some o → b ∉ frs (envOfC qual scope s₀.heap.objs.size f cd :: outer) → h'.get? b = some o := fun b o hb hn => fl'.1 b o (PySem.W.hideAll_get _ hb hn)
  have ntr : ∀ b, H b ≠ none → b ∉ frs (envOfC qual scope s₀.heap.objs.size f cd :: outer) := fun b hb hm => hb (I.stkFree b hm)
  have frm : ∀ b ∈ frs (envOfC qual scope s₀.heap.objs.size f cd :: outer), ∀ o, s.heap.get? b = some o → ∃ sl, h'.get? b = some { o with slots := sl } := fun b hb o ho => by
    obtain ⟨o1, ho1, hd⟩ := (I.stack.mem hb).2
    rw [ho] at ho1
    cases ho1
    exact up b o (hx.keeps b o ho) hd
  refine ⟨e, cls, t, _, H, rfl, I.os, I.bare, ⟨fun b o q n hn _ => ?_, fun b o q n hn _ => ?_, fun b o q n _ => I.base.free b o q n List.not_mem_nil, fun b o q _ => ?_, I.base.tups, I.base.frzs, I.base.tbls⟩,
    I.hok.stay' (fun b o hb ho => into b o ho (ntr b hb)), fl', nc', ?_, fun b hb o ho => ?_, fun b o q hn o' ho' => ?_, hE⟩
  · exact into b o (I.base.keep b o q n hn List.not_mem_nil) (nL b o q hn)
  · obtain ⟨sl, q1⟩ := I.base.slot b o q n hn List.not_mem_nil
    obtain ⟨sl3, q3⟩ := frm b (List.mem_cons_of_mem _ hn) _ q1
    exact ⟨sl3, q3⟩
  · obtain ⟨o1, q1⟩ := I.base.there b o q List.not_mem_nil
    by_cases hm : b ∈ frs (envOfC qual scope s₀.heap.objs.size f cd :: outer)
    · obtain ⟨sl, q3⟩ := frm b hm o1 q1
      exact ⟨_, q3⟩
    · exact ⟨o1, into b o1 q1 hm⟩
  · cases q : H e with
    | none => rfl
    | some ho =>
      obtain ⟨o2, q2⟩ := (I.hok e ho q).have'
      rw [hx.new] at q2
      cases q2
  · obtain ⟨ho2, hH⟩ := Option.ne_none_iff_exists'.mp hb
    obtain ⟨o2, q2⟩ := (I.hok b ho2 hH).have'
    have q3 := into b o2 q2 (ntr b hb)
    have q3' : h'.get? b = some o := ho
    rw [q3] at q3'
    cases q3'
    exact PySem.W.hideAll_get _ q2 (ntr b hb)
  · obtain ⟨o1, q1⟩ := I.base.there b o q List.not_mem_nil
    have hn1 := nL b o q hn
    have q3 := into b o1 q1 hn1
    have q3' : h'.get? b = some o' := ho'
    rw [q3] at q3'
    cases q3'
    exact PySem.W.hideAll_get _ q1 hn1
end
section
variable {X : Cx}
/-- raise C(..) of an own class -/
theorem ps_raise {x : Str} {C : Addr} {bm : List Value} {B newId initId : String} {e : Expr} {es : List Expr} {t : TA} {np cpos pos : Pos} {E : XK} (hc : X.calm = true) (O : OwnCls x C bm newId X.mg X.base) (FB : ExcBaseFacts B newId initId bm) (hgl : Gl X x)
    (hd : (x == ("__debug__" : Str)) = false) (ha : PA X (e :: es) t) (hs : starEach (e :: es) X.env = (false, eval e X.env) :: starEach es X.env) (h1 : (backTo cpos (starEach es X.env)).any (·.1) = false) (hR : Raises X E) :
    PS X (.Raise (some (.Call (.Name x np) (e :: es) [] cpos)) none pos) (sRaise C E t) := by
  intro pins s σ H D I h
  obtain ⟨tl, N, nm, q, bs, hdct, sn, sub, ab, col, dd, k0, k1, k2, k3, k5, mN, hC, hN, hni, T⟩ := O.obj
  have hg : PE X (.Name x np) (tC (.ref C)) := pe_glob hgl O.bound rfl hd
  refine wpAny_Raise_call_subT (C := C) (nm := nm) (q := q) (N := N) (bs := bs) (bm := tl) (hdct := hdct) (sn := sn) (sub := sub) (ab := ab) (col := col) (dd := dd) (k0 := k0) (k1 := k1) (k2 := k2) (k3 := k3) (k5 := k5)
    FB (mN := mN) (T.hasType FB.hasBase) (I.ok.hd hc) (by rw [hs]; show (false || (backTo cpos (starEach es X.env)).any (·.1)) = false; rw [h1]; rfl) hni
    (thn (hg pins s σ H (fun v H1 => v = .ref C ∧ sRaise C E t D σ H1) I ⟨rfl, h⟩) fun f s1 ⟨v, H1, I1, r1, ev, q1⟩ => ?_)
  subst ev
  obtain rfl : f = Value.ref C := r1
  refine ⟨rfl, ?_⟩
  have hA := ha cpos pins s1 σ H1 _ I1 q1
  rw [hs] at hA ⊢
  refine Calls.evalArgs_plain (thn hA fun us s2 ⟨vs, H2, I2, r2, hl, q2⟩ => ⟨rfl, ?_, I2.bk _ _ hC, hN.keeps I2.bk, T.keeps I2.bk, fun h' e' hm => hR pins σ H2 s2 h' e' _ _ I2 hm q2⟩)
  have := r2.length
  show us.length ≤ sizeLine
  omega
end
end L2
set_option maxRecDepth 100000
set_option maxHeartbeats 4000000
namespace L2
open PySem PySem.Spec PyProof.Rows
theorem cxe_move {P : Program} {w : World} {l : List Env} {H H' : Hp} {h h1 h' B : Heap} (u : Un (frs l) [] H H' h h1) (hok : HOk P w H' h1) (fr : h1.FunFrames B l)
    (c1 : ∀ b, H' b ≠ none → ∀ o, h1.get? b = some o → B.get? b = some o) (c2 : ∀ b o, h.get? b = some o → b ∉ frs l → ∀ o', h1.get? b = some o' → B.get? b = some o') (st : B.StaysIn h') (up : h1.UpToSlots h') :
    Un (frs l) [] H H' h h' ∧ HOk P w H' h' ∧ (∀ b, H' b ≠ none → ∀ o, h'.get? b = some o → B.get? b = some o) ∧ (∀ b o, h.get? b = some o → b ∉ frs l → ∀ o', h'.get? b = some o' → B.get? b = some o') := by
  have trk : ∀ b o, H' b ≠ none → h1.get? b = some o → h'.get? b = some o := fun b o hb ho => st b o (c1 b hb o ho)
  have into : ∀ b o, h.get? b = some o → b ∉ frs l → ∀ o', h1.get? b = some o' → h'.get? b = some o' := fun b o hb hn o' ho' => st b o' (c2 b o hb hn o' ho')
  have frm : ∀ b ∈ frs l, ∀ o, h1.get? b = some o → ∃ sl, h'.get? b = some { o with slots := sl } := fun b hb o ho => by
    obtain ⟨o1, ho1, hd⟩ := (fr.mem hb).2
    rw [ho] at ho1
    cases ho1
    exact up b o ho hd
  refine ⟨⟨fun b o q n hn _ => into b o q hn o (u.keep b o q n hn List.not_mem_nil), fun b o q n hn _ => ?_, u.free, fun b o q _ => ?_, u.tups, u.frzs, u.tbls⟩, hok.stay' (fun b o hb ho => trk b o hb ho), fun b hb o ho => ?_, fun b o q hn o' ho' => ?_⟩
  · obtain ⟨sl, q1⟩ := u.slot b o q n hn List.not_mem_nil
    obtain ⟨sl2, q2⟩ := frm b hn _ q1
    exact ⟨sl2, q2⟩
  · obtain ⟨o1, q1⟩ := u.there b o q List.not_mem_nil
    by_cases hm : b ∈ frs l
    · obtain ⟨sl, q3⟩ := frm b hm o1 q1
      exact ⟨_, q3⟩
    · exact ⟨o1, into b o q hm o1 q1⟩
  · obtain ⟨ho2, hH⟩ := Option.ne_none_iff_exists'.mp hb
    obtain ⟨o2, q2⟩ := (hok b ho2 hH).have'
    have q3 := trk b o2 hb q2
    rw [q3] at ho
    cases ho
    exact c1 b hb _ q2
  · obtain ⟨o2, q2⟩ := u.there b o q List.not_mem_nil
    have q3 := into b o q hn o2 q2
    rw [q3] at ho'
    cases ho'
    exact c2 b o q hn _ q2
/-- another way of going on from the same state -/
def Cx.alt (X : Cx) (A : Around) (calm : Bool) (pn : List (Addr × Obj)) (xe : Value → Shared → Prop) : Cx := { X with A := A, calm := calm, pn := pn, xe := xe }
theorem Inv.alt {X : Cx} {pins pins' pn' : List (Addr × Obj)} {σ : St} {H : Hp} {s : Shared} {A' : Around} {calm' : Bool} {xe' : Value → Shared → Prop} (I : Inv X pins σ H s) (hf : A'.frames = X.A.frames) (hc : calm' = true → A'.handled = none) (hp : ∀ p ∈ pn' ++ pins', p ∈ X.pn ++ pins) :
    Inv (X.alt A' calm' pn' xe') pins' σ H s where
  ok := ⟨I.ok.mod, I.ok.kind, I.ok.glob, I.ok.blt, I.ok.above, I.ok.inj, I.ok.has, I.ok.cab, hc, hf.trans I.ok.frames, I.ok.stk, I.ok.exf, I.ok.bs, I.ok.bsz, I.ok.noex, I.ok.exfs, I.ok.funs, I.ok.frf⟩
  os := I.os
  bare := I.bare
  base := I.base
  loc := I.loc
  cell := I.cell
  free := I.free
  freeC := I.freeC
  pin := fun p h => I.pin p (hp p h)
  hok := I.hok
  len := I.len
/-- back again -/
theorem Inv.unalt {X : Cx} {pins pins' pn' : List (Addr × Obj)} {σ : St} {H : Hp} {s : Shared} {A' : Around} {calm' : Bool} {xe' : Value → Shared → Prop} (ok : X.Ok) (I : Inv (X.alt A' calm' pn' xe') pins' σ H s) (hp : ∀ p ∈ X.pn ++ pins, p ∈ pn' ++ pins') :
    Inv X pins σ H s where
  ok := ok
  os := I.os
  bare := I.bare
  base := I.base
  loc := I.loc
  cell := I.cell
  free := I.free
  freeC := I.freeC
  pin := fun p h => I.pin p (hp p h)
  hok := I.hok
  len := I.len
theorem excO_ok {P : Program} {w : World} {H : Hp} {h : Heap} {ea : Addr} {ob : Obj} (h1 : h.get? ea = some ob) : ObjOk P w H h ea (.frz ob excU) :=
  ⟨h1, trivial, ⟨ob, h1⟩, fun _ _ _ _ => trivial⟩
/-- a new thing is tracked -/
theorem HOk.more {P : Program} {w : World} {H : Hp} {h : Heap} {a : Addr} {o : HO} (ok : HOk P w H h) (ha : H a = none) (x : ObjOk P w (upd H a o) h a o) : HOk P w (upd H a o) h := fun b u e => by
  by_cases z : b = a
  · subst z
    rw [upd_same] at e
    cases e
    exact x
  · rw [upd_ne z] at e
    exact (ok b u e).stay (fun _ _ _ q => q) (fun c q => by rw [upd_ne (ne_of_none q ha)]; exact q) (fun c xs q => by rw [upd_ne (ne_of_none q ha)]; exact q)
section
variable {X : Cx}
theorem Inv.unname {pins : List (Addr × Obj)} {σ : St} {H : Hp} {s : Shared} {h' : Heap} {m' : Str → Option Value} {tk : Nat} (I : Inv X pins σ H s) (hn : h'.Ns X.env.locals m') (sb : Heap.SameBut X.env.locals s.heap h') :
    Inv X pins (List.replicate X.N.length none) H { s with heap := h', toks := tk } where
  ok := I.ok
  os := I.os
  bare := I.bare
  base := by
    have ne : ∀ b o, X.s₀.heap.get? b = some o → b ≠ X.env.locals := fun b o q z => by
      rw [z] at q
      exact absurd (Heap.lt_size q) (Nat.not_lt.mpr I.ok.above)
    refine ⟨fun b o q n hn hx => (sb.2 b (ne b o q)).trans (I.base.keep b o q n hn hx), fun b o q n hn hx => ?_, I.base.free, fun b o q hx => ?_, I.base.tups, I.base.frzs, I.base.tbls⟩
    · obtain ⟨sl, e⟩ := I.base.slot b o q n hn hx
      exact ⟨sl, (sb.2 b (ne b o q)).trans e⟩
    · obtain ⟨o', e⟩ := I.base.there b o q hx
      exact ⟨o', (sb.2 b (ne b o q)).trans e⟩
  loc := ⟨m', hn, fun i x v h1 h2 => by
    rw [List.getElem?_replicate] at h2
    split at h2 <;> cases h2⟩
  cell := fun x c h => by
    obtain ⟨v, o, e, d⟩ := I.cell x c h
    refine ⟨v, o, (sb.2 c (fun z => ?_)).trans e, d⟩
    obtain ⟨m, ⟨o2, es, ep, e2, d2, _⟩, _⟩ := I.loc
    rw [z, e2] at e
    cases e
    rw [d] at d2
    cases d2
  free := I.free
  freeC := I.freeC
  pin := fun p hp => by
    obtain ⟨a, b, c, d, e⟩ := I.pin p hp
    exact ⟨(sb.2 _ c).trans a, b, c, d, e⟩
  hok := I.hok.stay' fun b u hb hu => (sb.2 b (fun z => hb (by rw [z]; exact I.free))).trans hu
  len := List.length_replicate
theorem ps_try {x n : Str} {C : Addr} {i : Nat} {body : List Stmt} {b₀ : Stmt} {suite : List Stmt} {tb : XK → TS} {th : Addr → TS} {np hpos pos : Pos} (hst : X.stack = X.env :: X.outer) (hfr : X.env.frame = some X.env.locals) (hex : X.ex = [])
    (hgl : Gl X x) (hd : (x == ("__debug__" : Str)) = false) (hmg : X.mg x = some (.ref C)) (nd : X.N.Nodup) (hN : X.N[i]? = some n) (hlo : X.env.scope.names.lookup n = some .local)
    (hb : ∀ (pn : List (Addr × Obj)) (xe : Value → Shared → Prop) (E : XK), PassesOwn (model X.prog X.w) X.A X.env xe → Passes (CXe X.prog X.w) (X.alt X.A X.calm pn xe) E → PSs (X.alt X.A X.calm pn xe) body (tb E))
    (hh : ∀ (ea : Addr) (pn : List (Addr × Obj)), PSs (X.alt (X.A.mark (some (.ref ea))) false pn fun _ _ => False) (b₀ :: suite) (th ea)) :
    PS X (.Try body [.ExceptHandler (some (.Name x np)) (some n) (b₀ :: suite) hpos] [] [] pos) (sTry X.K C i X.N.length tb th) := by
  intro pins s σ H D I h
  refine wpAny_Try_except ?_
  have P1 : Passes (CXe X.prog X.w) (X.alt X.A X.calm (X.pn ++ pins) fun e s₁ => wpAny (model X.prog X.w) X.A (noteFrame e X.env) (fun _ s₂ => wpAny (model X.prog X.w) X.A (setFlight e none) (fun _ s₃ => wpAny (model X.prog X.w) X.A (handleBy e X.env [.ExceptHandler (some (.Name x np)) (some n) (b₀ :: suite) hpos]) (SP X pins D) X.xe s₃) X.xe s₂) X.xe s₁) (eTry X.K C i X.N.length th D) := by
    intro pins' σ' H1 s1 e' s' I1 hx
    obtain ⟨ea, cls, t, B, H', rfl, os, bare, u, hok, fl, ncx, hea, c1, c2, hm, hth⟩ := hx
    have hfrm : X.A.frames = some (X.env :: X.outer) := by rw [I.ok.frames, hst]
    have fl' : Heap.FlyingW B (X.env :: X.outer) ea cls (.ref t) s'.heap := by rw [← hst]; exact fl
    refine wpAny_mono (wpAny_keepsT kt_note ncx (wpAny_looks_onW (Q := fun _ s'' => ∃ h', s'' = { s' with heap := h' } ∧ Heap.HeldW B (X.env :: X.outer) ea cls (.ref t) X.env.locals h' ∧ s'.heap.UpToSlots h') (E := fun _ _ => False) hfrm hfr fl' fun h4 hd4 up4 => ⟨h4, rfl, hd4, up4⟩))
      (fun _ s4 hq => ?_) (fun _ _ z => z.1.elim)
    obtain ⟨⟨h4, rfl, hd4, up4⟩, nc4⟩ := hq
    refine wpAny_mono (wpAny_keepsT kt_flight nc4 (wpAny_landsW (s := { s' with heap := h4 }) (Q := fun _ s'' => ∃ h', s'' = { s' with heap := h' } ∧ Heap.FlyingW B (X.env :: X.outer) ea cls (.ref t) h' ∧ h4.UpToSlots h') (E := fun _ _ => False) hd4 fun h5 fl5 up5 => ⟨h5, rfl, fl5, up5⟩))
      (fun _ s5 hq => ?_) (fun _ _ z => z.1.elim)
    obtain ⟨⟨h5, rfl, fl5', up5⟩, nc5⟩ := hq
    have fl5 : Heap.FlyingW B X.stack ea cls (.ref t) h5 := by rw [hst]; exact fl5'
    obtain ⟨u5, ok5, c15, c25⟩ := cxe_move (l := X.stack) u hok fl.2.2.1 c1 c2 fl5.1 (up4.trans up5)
    obtain ⟨oe, ws, hoe, hoec, hoed, hoe0⟩ := fl5.first
    have I5 := I1.call' (s' := { s' with heap := h5 }) (ch := []) os u5 ok5 bare (fun b z => absurd z List.not_mem_nil)
    refine wpAny_handleBy_cons (codeAny_handlers_test ?_) (by intro q; cases q)
    have I5' : Inv (X.alt (X.A.mark (some (.ref ea))) false (X.pn ++ pins) fun _ _ => False) [] σ' H' { s' with heap := h5 } := I5.alt (A' := X.A.mark (some (.ref ea))) (calm' := false) (pn' := X.pn ++ pins) (pins' := []) rfl (fun z => nomatch z) (fun p hp => List.mem_append.mpr (.inl (by rw [List.append_nil] at hp; exact hp)))
    refine ld_glob I5' hgl hmg ?_ hd
    have LT : PySem.W.Looks (model X.prog X.w) h5 (typeOf (.ref ea)) cls := by
      subst hoec
      exact (PySem.W.Looks.ld hoe).andThen .now
    refine (PySem.W.exm_one I5.kIn LT hm).here ?_
    refine codeAny_handlers_suite_as ?_
    refine wpAny_mono (wpAny_keepsT kt_flight nc5 (lands_againW (s := { s' with heap := h5 }) (Q := fun _ s'' => ∃ h', s'' = { s' with heap := h' } ∧ Heap.FlyingW B X.stack ea cls (.ref t) h' ∧ h5.UpToSlots h') (E := fun _ _ => False) fl5 fun h6 fl6 up6 => ⟨h6, rfl, fl6, up6⟩))
      (fun _ s6 hq => ?_) (fun _ _ z => z.1.elim)
    obtain ⟨⟨h6, rfl, fl6, up6⟩, nc6⟩ := hq
    obtain ⟨u6, ok6, c16, c26⟩ := cxe_move (l := X.stack) u5 ok5 fl5.2.2.1 c15 c25 fl6.1 up6
    obtain ⟨oe6, ws6, hoe6, hoec6, hoed6, _⟩ := fl6.first
    have hn6 : ExcObj oe6 cls ws6 := by
      obtain ⟨o', vs', q1, q2, q3, q4⟩ := nc6
      have q1' : h6.get? ea = some o' := q1
      rw [hoe6] at q1'
      cases q1'
      rw [hoed6] at q2
      cases q2
      exact ⟨hoec6, hoed6, q3, q4⟩
    have ne1 : s1.heap.get? ea = none := by
      cases q : s1.heap.get? ea with
      | none => rfl
      | some o1 =>
        by_cases hmm : ea ∈ frs X.stack
        · obtain ⟨o2, ho2, hd2⟩ := (fl6.2.2.1.mem hmm).2
          rw [hoe6] at ho2
          cases ho2
          exact (hd2 _ hoed6).elim
        · have := c26 ea o1 q hmm oe6 hoe6
          rw [fl6.2.1] at this
          cases this
    have u7 : Un (frs X.stack) [] H1 (upd H' ea (.frz oe6 excU)) s1.heap h6 := ⟨u6.keep, u6.slot, fun b o q n hx => by
        rw [upd_ne (fun z => by rw [z, ne1] at q; cases q)]; exact u6.free b o q n hx, u6.there, fun b xs q => by
        have q' := u6.tups b xs q
        rw [upd_ne (ne_of_none q' hea)]; exact q', fun b o v q => by
        have q' := u6.frzs b o v q
        rw [upd_ne (ne_of_none q' hea)]; exact q', fun b ps q => by
        obtain ⟨more, q'⟩ := u6.tbls b ps q
        exact ⟨more, by rw [upd_ne (ne_of_none q' hea)]; exact q'⟩⟩
    have ok7 : HOk X.prog X.w (upd H' ea (.frz oe6 excU)) h6 := ok6.more hea (excO_ok hoe6)
    have I7 := I1.call' (s' := { s' with heap := h6 }) (ch := []) os u7 ok7 bare (fun b z => absurd z List.not_mem_nil)
    have I8 : Inv (X.alt (X.A.mark (some (.ref ea))) false (X.pn ++ pins) fun _ _ => False) [] σ' (upd H' ea (.frz oe6 excU)) { s' with heap := h6 } := I7.alt (A' := X.A.mark (some (.ref ea))) (calm' := false) (pn' := X.pn ++ pins) (pins' := []) rfl (fun z => nomatch z) (fun p hp => List.mem_append.mpr (.inl (by rw [List.append_nil] at hp; exact hp)))
    refine store_ok (X := X.alt (X.A.mark (some (.ref ea))) false (X.pn ++ pins) fun _ _ => False) (v := .ref ea) I8 nd hN (.inl hlo) rfl (fun s9 I9 => ?_) (.inr hlo)
    refine wpAny_mono (hh ea (X.pn ++ pins) [] s9 _ _ { nx := fun _ _ => False, rt := D.rt } I9 (hth ea oe6 ws6 σ' hea I1.len hn6)) (fun f s10 hs => ?_) fun _ _ z => z.elim
    cases f with
    | next => obtain ⟨_, _, _, z⟩ := hs; exact z.elim
    | brk => obtain ⟨_, _, _, z⟩ := hs; exact z.elim
    | cont => obtain ⟨_, _, _, z⟩ := hs; exact z.elim
    | ret v =>
      obtain ⟨v', σ'', H10, I10, r, q⟩ := hs
      have I11 : Inv X pins σ'' H10 s10 := I10.unalt I.ok (fun p hp => by simpa using hp)
      obtain ⟨m, hn, _⟩ := I11.loc
      refine wpAny_nameGoes hlo hn (by rw [I.ok.kind]; rfl) fun h' m' hn' sb => ?_
      exact ⟨v', _, H10, I11.unname hn' sb, r, q⟩
  refine wpAny_mono (hb _ _ _ PassesOwn.looking P1 [] s σ H { nx := D.nx, rt := D.rt } (I.alt rfl I.ok.hd (fun p hp => by simpa using hp)) h) (fun f s1 hs => ?_) fun e' s' hx => hx
  cases f with
  | next =>
    obtain ⟨σ', H', I', q⟩ := hs
    exact pss_nil pins s1 σ' H' D (I'.unalt I.ok (fun p hp => by simpa using hp)) q
  | brk => obtain ⟨_, _, _, z⟩ := hs; exact z.elim
  | cont => obtain ⟨_, _, _, z⟩ := hs; exact z.elim
  | ret v =>
    obtain ⟨v', σ', H', I', r, q⟩ := hs
    exact ⟨v', σ', H', I'.unalt I.ok (fun p hp => by simpa using hp), r, q⟩
end
end L2
set_option maxRecDepth 100000
set_option maxHeartbeats 4000000
namespace L2
open PySem PySem.Spec PyProof.Rows
/-! ### defs that an except suite calls -/
def HdAt (A : Around) (H : Hp) : Prop := ∃ e D, A.handled = some (.ref e) ∧ ExcAt H e D
def Hd (X : Cx) : Prop := HdAt X.A X.H₀
theorem ExcAt.keeps {H H' : Hp} {e D : Addr} (h : ExcAt H e D) (k : ∀ b o u, H b = some (.frz o u) → H' b = some (.frz o u)) : ExcAt H' e D := by
  obtain ⟨ob, vs, h1, h2⟩ := h
  exact ⟨ob, vs, k _ _ _ h1, h2⟩
theorem HdAt.keeps {A : Around} {H H' : Hp} (h : HdAt A H) (k : ∀ b o u, H b = some (.frz o u) → H' b = some (.frz o u)) : HdAt A H' := by
  obtain ⟨e, D, h1, h2⟩ := h
  exact ⟨e, D, h1, h2.keeps k⟩
theorem HdAt.hdl {P : Program} {w : World} {A : Around} {H : Hp} {h : Heap} (x : HdAt A H) (ok : HOk P w H h) : Hdl A h := by
  obtain ⟨e, D, h1, ob, vs, h2, h3⟩ := x
  exact .inr ⟨e, ob, vs, h1, (ok e _ h2).1, h3.data, h3.noCx⟩
section
variable {X : Cx} {pins : List (Addr × Obj)} {σ : St} {H : Hp} {s : Shared}
theorem Hd.at (h : Hd X) (I : Inv X pins σ H s) : HdAt X.A H := HdAt.keeps h I.base.frzs
theorem Hd.hdl (h : Hd X) (I : Inv X pins σ H s) : Hdl X.A s.heap := (h.at I).hdl I.hok
end
theorem turn_listH {P : Program} {w : World} {K : PySem.W.Frag} {tg : Expr} (a it : Addr) : TurnP Hd P w K tg (Itl K a) [it] it (fun i h => h.IsListIter it a i) where
  mem := by simp
  obj := (turn_list (P := P) (w := w) (K := K) (tg := tg) a it).obj
  keep := (turn_list (P := P) (w := w) (K := K) (tg := tg) a it).keep
  item := by
    intro X hP hw hK hc i pins s σ H E I hf st hg
    subst hP hw hK
    obtain ⟨xs, x, hq, hx⟩ := hg
    obtain ⟨its, rv, p, hz⟩ := I.list hq
    obtain ⟨u, hu, ru⟩ := rv.get hx
    obtain ⟨f0, f1, f2, f3, f4, f5⟩ := hf it (by simp)
    refine wpAny_pyNext_list_item st p.isList (x := u) (by simpa using hu) fun h' st' sb => ?_
    have I1 : Inv X pins σ H { s with heap := h' } := I.turned (t' := s.toks) (fun b o hb e => (sb.2 b hb).trans e) f0 f1 f3 f4 f5
    obtain ⟨o, e, c, d⟩ := id st'
    exact ⟨u, rfl, go_of (s := { s with heap := h' }) e c d (by decide) ⟨x, H, I1, ru, ⟨rfl, fun ys hy => by rw [I.list_inj hy hq]; exact hx⟩, st', fun b hb => (hf b hb).1⟩⟩
  done := by
    intro X hP hw hK hc i pins s σ H E I hf st hg
    subst hP hw hK
    obtain ⟨xs, hq, hx⟩ := hg
    obtain ⟨its, rv, p, hz⟩ := I.list hq
    obtain ⟨f0, f1, f2, f3, f4, f5⟩ := hf it (by simp)
    have hl := rv.length
    exact next_list_end_h (hc.hdl I) st p.isList (by simp; omega) fun h' eb => ⟨rfl, I.turned (t' := s.toks) (fun b o hb e => eb b o hb e) f0 f1 f3 f4 f5⟩
  self := (turn_list (P := P) (w := w) (K := K) (tg := tg) a it).self
section
variable {X : Cx} {tg : Expr}
theorem pi_listH {l : Expr} {tl : TE} (hl : PE X l tl) : PIP Hd X tg l (iList X.K tl) := by
  intro pins s σ H R I h
  refine thn (hl pins s σ H _ I h) fun v s1 ⟨x, H1, I1, r1, q1⟩ => ?_
  obtain ⟨a, e, ⟨xs, hq⟩, q⟩ := q1
  subst e
  cases r1
  obtain ⟨its, rv, p, hz⟩ := I1.list hq
  refine wpAny_pyIter_list p.isList ?_
  refine ⟨s1.heap.objs.size, [s1.heap.objs.size], _, _, H1, rfl, I1.kept (t' := s1.toks) fun b o e => Heap.get?_push_of_some _ e, turn_listH a _, ⟨_, Heap.get?_push_size _ rfl, rfl, rfl⟩, fun b hb => ?_, q⟩
  have e : b = s1.heap.objs.size := by simpa using hb
  subst e
  exact I1.fpOk (Nat.le_refl _) (I1.hok.fresh (Nat.le_refl _))
theorem pg_tupH {pos : Pos} {es : List Expr} {k : Nat} {t : TGs} {n : Nat} (hd : Hd X) (h : PGs X es t)
    (hn : (assignEach es X.env).length = n := by rfl) (hst : (assignEach es X.env).findIdx? (·.1) = none := by rfl) : PG X (.Tuple es k pos) (gTup X.K n t) := by
  intro pins s σ H v u Q I r hw
  obtain ⟨a, xs, e1, hq, hl, hw⟩ := hw
  subst e1
  cases r
  obtain ⟨its, rv, ht, hz⟩ := I.tuple hq
  refine assign_Tuple_tuple_h (hd.hdl I) ht (by simp [hn, ← hl, rv.length]) hst fun h' hx => ?_
  have I1 : Inv X pins σ H { s with heap := h' } := I.kept (t' := s.toks) fun b o e => hx b o (Nat.ne_of_lt (Heap.lt_size e)) e
  exact h pins _ σ H xs _ Q I1 (by simpa using rv) hw
theorem tgt_twoH {scope : Scope} {fv : List (Str × Nat)} {x y : Str} {px py pos : Pos} {k : Nat} (hx : scope.names.lookup x = some .local) (hy : scope.names.lookup y = some .local) (hnd : (x :: y :: fv.map (·.1)).Nodup) : TgtOkP (HdAt X.A) X scope [x, y] fv (.Tuple [.Name x px, .Name y py] k pos) (some 2) := by
  intro ex C s H hH
  generalize eX : compCx X scope ([x, y] ++ fv.map (·.1)) ex C s H = Xc
  have xN : Xc.N = x :: y :: fv.map (·.1) := by rw [← eX]; rfl
  have xd : Hd Xc := by rw [← eX]; exact hH
  have lx : Xc.env.scope.names.lookup x = some .local := by rw [← eX]; exact lookup_relabel_local hx
  have ly : Xc.env.scope.names.lookup y = some .local := by rw [← eX]; exact lookup_relabel_local hy
  have p1 : PG Xc (.Name x px) (gName 0) := pg_name (by rw [xN]; exact hnd) (by rw [xN]; rfl) (.inl lx) (.inr lx)
  have p2 : PG Xc (.Name y py) (gName 1) := pg_name (by rw [xN]; exact hnd) (by rw [xN]; rfl) (.inl ly) (.inr ly)
  have xK : Xc.K = X.K := by rw [← eX]; rfl
  refine ⟨gTup Xc.K 2 (gCons (gName 0) (gCons (gName 1) gNil)), pg_tupH xd (pgs_cons p1 (pgs_cons p2 pgs_nil)), fun v pre φ H' Q hp h => ?_⟩
  obtain ⟨a, b, rfl⟩ : ∃ a b, pre = [a, b] := by
    match pre, hp with
    | [a, b], _ => exact ⟨a, b, rfl⟩
  obtain ⟨a', xs, rfl, e2, e3, q⟩ := h
  obtain ⟨v1, v2, rfl⟩ : ∃ v1 v2, xs = [v1, v2] := by
    match xs, e3 with
    | [v1, v2], _ => exact ⟨v1, v2, rfl⟩
  exact ⟨a', _, rfl, by rw [xK]; exact e2, rfl, v1, _, rfl, v2, _, rfl, rfl, q rfl⟩
theorem hd_comp {X : Cx} : ∀ H, HdAt X.A H → ∀ Xc : Cx, Xc.A = X.A → Xc.calm = X.calm → Xc.H₀ = H → Hd Xc := fun H h Xc a _ b => by
  show HdAt Xc.A Xc.H₀
  rw [a, b]; exact h
/-- isinstance(e, C) of a caught exception -/
theorem call_isx : CallR X (.builtin "isinstance") (rIsx X.K) := by
  intro pins s σ H xs us Q I r h
  match xs, h with
  | [.ref ea, c], h =>
    obtain ⟨D, b, ⟨ob, vs, h1, h2⟩, hC, hc, hk, hq⟩ := h
    cases r with
    | cons r1 r =>
      cases r with
      | cons r2 r =>
        cases r
        rename_i u1 u2
        cases (show u1 = Value.ref ea from r1)
        have e2 : u2 = cV c := by
          rcases hc with ⟨C, rfl⟩ | ⟨n, rfl⟩
          · exact r2
          · exact r2
        subst e2
        have at_ := (I.hok ea _ h1).1
        have inst : PySem.W.InstAt s.heap ea ob D none := ⟨at_, h2.cls, by unfold PySem.W.notCls; rw [h2.data], by rw [h2.dict]; trivial⟩
        exact PySem.W.kia_one (kitx_exc hC.hga hC.hgn hC.hk hC.ha hC.hn hC.htk hC.hm hC.hb) I.kIn inst hk (fun z => nomatch z) fun tk => ⟨.bl b, H, I.tok tk, rfl, hq⟩
end
structure RoomH (k : Nat) (A : Around) : Prop where
  dp : A.depth + 3 * k + 5 < recursionLimit
  un : A.units + 16 * k + 200 < cLine
theorem Room.h {k : Nat} {A : Around} (r : Room k A) : RoomH k A := ⟨r.dp, r.un⟩
theorem RoomH.mark {k : Nat} {A : Around} (r : RoomH k A) (v : Option Value) : RoomH k (A.mark v) := ⟨r.dp, r.un⟩
theorem RoomH.deeper {k : Nat} {A : Around} (r : RoomH (k + 1) A) (env : Env) : RoomH k (A.deeper env) :=
  ⟨by have := r.dp; show A.depth + 1 + 3 * k + 5 < _; omega, by have := r.un; show A.units + 3 + 16 * k + 200 < _; omega⟩
theorem RoomH.depth {k : Nat} {A : Around} (r : RoomH k A) : A.depth < recursionLimit := by have := r.dp; omega
theorem RoomH.units {k : Nat} {A : Around} (r : RoomH k A) : A.units + 64 < cLine := by have := r.un; omega
def CRH (outer : List Env) (P : Program) (w : World) (H : Hp) (s : Shared) (Q : VK) (r : Result) (s' : Shared) : Prop :=
  match r with
  | .ok (.ret u) => CE outer P w H s Q u s'
  | _ => False
structure FnOkH (P : Program) (w : World) (K : PySem.W.Frag) (mg : Str → Option Value) (base : Heap) (k : Nat) (f : Addr) (fd : FuncData) (ps : List Str) (sp : Sp) : Prop where
  len : ∀ vs H Q E, sp vs H Q E → vs.length = ps.length
  run : ∀ (A : Around) (outer : List Env) (s : Shared) (H : Hp) (args : Args) (us : List Value) (vs : List V) (Q : VK), RoomH k A → HdAt A H → Env0 P w K mg base A outer s H → BindsTo s fd args (ps.zip us) → Vals vs us → sp vs H Q E0 →
    codeAny (model P w) A (.call (.ref f) args) (CRH outer P w H s Q) s
theorem FnOkH.mono {P : Program} {w : World} {K : PySem.W.Frag} {mg : Str → Option Value} {base : Heap} {j k : Nat} {f : Addr} {fd : FuncData} {ps : List Str} {sp : Sp} (F : FnOkH P w K mg base j f fd ps sp) (h : j ≤ k) : FnOkH P w K mg base k f fd ps sp :=
  ⟨F.len, fun A outer s H args us vs Q hr => F.run A outer s H args us vs Q ⟨by have := hr.dp; omega, by have := hr.un; omega⟩⟩
/-- the context of such a def's body -/
def cxOfH (CX : CXT) (P : Program) (w : World) (K : PySem.W.Frag) (mg : Str → Option Value) (base : Heap) (N : List Str) (qual : Str) (scope : Scope) (f : Addr) (cd : Value) (A : Around) (outer : List Env) (s : Shared) (H : Hp) : Cx :=
  (cxOf CX P w K mg base N qual scope f cd { A with handled := none } outer s H E0).alt (A.deeper (envOfC qual scope s.heap.objs.size f cd)) false [] fun _ _ => False
theorem fn_ofH {CX : CXT} {P : Program} {w : World} {K : PySem.W.Frag} {mg : Str → Option Value} {base : Heap} {k : Nat} {f : Addr} {name qual : Str} {params : Arguments} {body : List Stmt} {scope : Scope} {dV kV doc pm cdv ct oc : Value} {an od : Option Addr}
    {osl : Array (Option Value)} {N ps : List Str} {sp : Sp} (lk : K.lookup f = some ⟨oc, od, .func (PySem.W.fnOf name qual params body scope dV kV doc pm an cdv ct), osl⟩) (hcd : PySem.W.codeIn K cdv qual = true) (S : FnScope N ps scope)
    (len : ∀ vs H Q E, sp vs H Q E → vs.length = ps.length)
    (hbody : ∀ (A : Around) (outer : List Env) (s : Shared) (H : Hp) (vs : List V) (Q : VK), RoomH k (A.deeper (envOfC qual scope s.heap.objs.size f cdv)) → HdAt A H → sp vs H Q E0 →
      ∃ t, PSs (cxOfH CX P w K mg base N qual scope f cdv A outer s H) body t ∧ t { nx := fun _ H' => Q .non H', rt := Q } (start N vs) H) :
    FnOkH P w K mg base (k + 1) f (PySem.W.fnOf name qual params body scope dV kV doc pm an cdv ct) ps sp := by
  refine ⟨len, fun A outer s H args us vs Q hr hh e0 hb r hsp => ?_⟩
  have hl := len _ _ _ _ hsp
  have KX : K.In s.heap := e0.mod.kin.keeps fun b o e => (e0.bs b o e).1
  have lim : s.heap.NoLimit := e0.mod.nolimit.keeps fun b o e => (e0.bs b o e).1
  have hkind : ∀ y ∈ ps.zip us, scope.names.lookup y.1 = some .local ∨ (scope.names.lookup y.1 = some .cell ∧ ((cellsFrom (s.heap.objs.size + 1) scope.names []).lookup y.1).isSome = true) := fun ⟨n, v⟩ hy => by
    rcases S.par n (List.of_mem_zip hy).1 with q | q
    · exact .inl q
    · exact .inr ⟨q, PySem.W.cellsFrom_some _ _ _ (.inl q)⟩
  refine codeAny_call_function hr.depth (KX _ _ lk) rfl S.co S.gen rfl (PySem.W.codeRec_of KX hcd) (hb _ _ _ _ ?_)
  refine wpAny_newFunctionEnv_cells S.kind hkind fun env he s1 x => ?_
  subst he
  refine ⟨lim.keeps x.toInCall.keep, codeAny_func ?_⟩
  obtain ⟨t, ht, hq⟩ := hbody A outer s H vs Q (hr.deeper _) hh hsp
  have e00 : Env0 P w K mg base { A with handled := none } outer s H := ⟨e0.frames, e0.mod, e0.bs, e0.bsz, e0.funs, e0.frf, e0.hok, e0.bare⟩
  have I0 : Inv (cxOf CX P w K mg base N qual scope f cdv { A with handled := none } outer s H E0) [] (start N vs) H s1 := inv_start S rfl e00 hl r x
  have I : Inv (cxOfH CX P w K mg base N qual scope f cdv A outer s H) [] (start N vs) H s1 := I0.alt rfl (fun z => nomatch z) (fun p hp => hp)
  refine wpAny_mono (ht [] s1 (start N vs) H _ I hq) (fun fl s' hs => ?_) fun e s' hs => hs.elim
  have fin : ∀ {σ' : St} {H' : Hp} {v : V} {u : Value}, Inv (cxOfH CX P w K mg base N qual scope f cdv A outer s H) [] σ' H' s' → RelV v u → Q v H' → CE outer P w H s Q u s' :=
    fun {σ' H' v u} J rv q => ⟨v, H', J.os, J.bare, J.base, J.hok, rv, q⟩
  cases fl with
  | ret u =>
    obtain ⟨v, σ', H', J, rv, q⟩ := hs
    exact fin J rv q
  | next =>
    obtain ⟨σ', H', J, q⟩ := hs
    exact fin (v := V.non) (u := Value.none) J rfl q
  | brk =>
    obtain ⟨_, _, _, q⟩ := hs
    exact False.elim q
  | cont =>
    obtain ⟨_, _, _, q⟩ := hs
    exact False.elim q
theorem hd_cxOfH {CX : CXT} {P : Program} {w : World} {K : PySem.W.Frag} {mg : Str → Option Value} {base : Heap} {N : List Str} {qual : Str} {scope : Scope} {f : Addr} {cd : Value} {A : Around} {outer : List Env} {s : Shared} {H : Hp} (h : HdAt A H) : Hd (cxOfH CX P w K mg base N qual scope f cd A outer s H) := h
section
variable {X : Cx} {k : Nat} {f : Addr} {fd : FuncData} {ps : List Str} {sp : Sp} {x : Str} {p pos : Pos} {e : Expr} {ta : TE} {hv : Option Addr}
theorem pe_callH (F : FnOkH X.prog X.w X.K X.mg X.base k f fd ps sp) (hr : RoomH k X.A) (hg : Gl X x) (hm : X.mg x = some (.ref f)) (hk : PySem.W.keepIn X.K (.ref f) = true) (hb : Binds X.K fd ps []) (hh : ∀ e, hv = some e → X.A.handled = some (.ref e))
    (ha : PE X e ta) (hs : noStar e = true) (hdb : (x == ("__debug__" : Str)) = false) : PE X (.Call (.Name x p) [e] [] pos) (tWrd sp hv (tCons ta tNil)) := by
  intro pins s σ H Q I h
  have he : starEach [e] X.env = (false, eval e X.env) :: starEach [] X.env := by cases e <;> first | rfl | cases hs
  refine wpAny_Call_Name_kw (ld_glob I hg hm ?_ hdb)
  have hA : PA X [e] (tCons ta tNil) := pa_cons ha pa_nil he
  refine PySem.W.callWith_K (h₀ := X.base) I.ok.mod.kin hk (thn (hA pos pins s σ H _ I h) fun us s1 ⟨vs, H1, I1, r, ⟨ea, D, h1, h2⟩, q⟩ => ⟨I1.kIn, ?_⟩) he rfl
  have r2 : Vals vs us := r
  have hl : us.length = ps.length := by rw [← r2.length]; exact F.len _ _ _ _ q
  have hb' := hb s1 us I1.kIn (by rw [List.append_nil]; exact hl)
  rw [List.append_nil] at hb'
  refine wpAny_call (codeAny_mono (F.run X.A X.stack s1 H1 ⟨us, []⟩ us vs Q hr ⟨ea, D, hh ea h1, h2⟩ I1.env0 hb' r2 q) fun r s' hq => ?_)
  cases r with
  | error e => exact False.elim hq
  | ok fl =>
    cases fl with
    | ret u => exact I1.after hq
    | next => exact False.elim hq
    | brk => exact False.elim hq
    | cont => exact False.elim hq
end
end L2
set_option maxRecDepth 100000
set_option maxHeartbeats 4000000
namespace L2
open PySem PySem.Spec PyProof.Rows
def FnFor (CX : CXT) (X : Cx) (x : Str) (sp : Sp) : Prop :=
  ∃ k f fd ps, FnOk X.prog X.w X.K X.mg X.base CX k f fd ps sp ∧ Room k X.A ∧ X.mg x = some (.ref f) ∧ PySem.W.keepIn X.K (.ref f) = true ∧ Binds X.K fd ps []
def MtFor (CX : CXT) (X : Cx) (C : Addr) (m : Str) (sp : Sp) : Prop :=
  Cls X.K C ∧ ∃ k f fd ps, Meth X.K C m f ∧ FnOk X.prog X.w X.K X.mg X.base CX k f fd ps sp ∧ Room k X.A ∧ Binds X.K fd ps []
def MkFor (CX : CXT) (X : Cx) (x : Str) (C : Addr) (sp : Sp) : Prop :=
  ∃ k f fd ps, Mk X.K C f ∧ FnOk X.prog X.w X.K X.mg X.base CX k f fd ps sp ∧ Room (k + 1) X.A ∧ X.mg x = some (.ref C) ∧ Binds X.K fd ps []
def FnForH (X : Cx) (x : Str) (sp : Sp) : Prop :=
  ∃ k f fd ps, FnOkH X.prog X.w X.K X.mg X.base k f fd ps sp ∧ RoomH k X.A ∧ X.mg x = some (.ref f) ∧ PySem.W.keepIn X.K (.ref f) = true ∧ Binds X.K fd ps []
def ExFor (X : Cx) (x : Str) (C : Addr) : Prop := ∃ bm B newId initId, OwnCls x C bm newId X.mg X.base ∧ ExcBaseFacts B newId initId bm
structure Good (CX : CXT) (S : SCx) (Γ : RCx) (X : Cx) : Prop where
  N : X.N = S.N
  sc : X.env.scope = S.sc
  K : X.K = Γ.K
  calm : S.md = 0 → X.calm = true
  units : X.A.units + 64 < cLine
  fns : S.md = 0 → ∀ j x, S.fn[j]? = some x → FnFor CX X x (Γ.fs j)
  gvs : ∀ j x, S.gn[j]? = some x → ∃ u, X.mg x = some u ∧ RelV (Γ.gv j) u
  bls : ∀ x, S.bl.contains x = true → X.mg x = none
  pass : Passes CX X Γ.E
  noE : ∀ outer H s e s', CX outer H s E0 e s' → False
  sds : ∀ p kvs, Γ.sd p kvs → ∀ h : Heap, X.K.In h → ∃ vs, KV kvs vs ∧ h.DictOf (mixKind X.prog X.w) p vs
  mts : S.md = 0 → ∀ j m, S.mn[j]? = some m → MtFor CX X (Γ.ms j).1 m (Γ.ms j).2
  mks : S.md = 0 → ∀ j x, S.kn[j]? = some x → MkFor CX X x (Γ.kt j).1 (Γ.kt j).2
  exs : ∀ j x, S.en[j]? = some x → ExFor X x (Γ.ex j)
  hsf : ∀ j x, S.hn[j]? = some x → FnForH X x (Γ.hs j)
  hvo : ∀ e, Γ.hv = some e → X.A.handled = some (.ref e)
  hdo : S.md = 1 → Hd X
theorem md_zero {S : SCx} (h : (if S.md = 0 then 0 else 2) = 0) : S.md = 0 := by
  split at h
  · assumption
  · cases h
section
variable {CX : CXT} {S : SCx} {Γ : RCx} {X : Cx}
theorem Good.inner (G : Good CX S Γ X) (c : CompP) (ln : List Str) (fv : List (Str × Nat)) (ex : List Addr) (C : Addr) (s : Shared) (H : Hp) :
    Good CX (compS S c ln fv) Γ.calm (compCx X c.sc (ln ++ fv.map (·.1)) ex C s H) where
  N := rfl
  sc := by
    show relabel c.sc X.env = relabelS c.sc S.sc
    rw [← G.sc]; rfl
  K := G.K
  calm := fun h => G.calm (md_zero h)
  units := G.units
  fns := fun m j x h => G.fns (md_zero m) j x h
  gvs := G.gvs
  bls := G.bls
  pass := fun _ _ _ _ _ _ _ h => (G.noE _ _ _ _ _ h).elim
  noE := G.noE
  sds := G.sds
  mts := fun z j m h => G.mts (md_zero z) j m h
  mks := fun z j x h => G.mks (md_zero z) j x h
  exs := fun j x h => by simp [compS] at h
  hsf := fun j x h => G.hsf j x h
  hvo := fun e h => G.hvo e h
  hdo := fun h => by
    have h' : (if S.md = 0 then 0 else 2) = 1 := h
    split at h' <;> cases h'
theorem Good.gl (G : Good CX S Γ X) {x : Str} (h : glo S.sc x = true) : Gl X x := by
  show X.env.scope.names.lookup x = _
  rw [G.sc]; exact glo_of h
theorem star_cons {e : Expr} {es : List Expr} {env : Env} (h : noStar e = true) : starEach (e :: es) env = (false, eval e env) :: starEach es env := by
  cases e <;> first | rfl | cases h
theorem base_of {o : Expr} {x : Str} {env : Env} (h : noSuper o = true) : attributeBase o x env (eval o env) = eval o env := by
  unfold attributeBase
  split
  · cases h
  · rfl
theorem set_of {e : Expr} {env : Env} (h : noSet e = true) : ∀ x, foldedSetIterable e env x = pure x := by
  intro x
  cases e <;> first | rfl | cases h
def nst (es : List Expr) : Bool := es.all noStar
theorem stars_of (env : Env) (pos : Pos) : ∀ (es : List Expr), nst es = true → (backTo pos (starEach es env)).any (·.1) = false
  | [], h => rfl
  | e :: es, h => by
    simp only [nst, List.all_cons, Bool.and_eq_true] at h
    rw [star_cons h.1]
    have ih := stars_of env pos es h.2
    show (false || (backTo pos (starEach es env)).any (·.1)) = false
    rw [ih]; rfl
theorem few_of (env : Env) (pos : Pos) : ∀ (es : List Expr), nst es = true → (backTo pos (starEach es env)).all (fun x => !x.1) = true
  | [], h => rfl
  | e :: es, h => by
    simp only [nst, List.all_cons, Bool.and_eq_true] at h
    rw [star_cons h.1]
    have ih := few_of env pos es h.2
    show (!false && (backTo pos (starEach es env)).all (fun x => !x.1)) = true
    rw [ih]; rfl
theorem nst_cons {e : Expr} {es : List Expr} (h : nst (e :: es) = true) : noStar e = true ∧ nst es = true := by
  simp only [nst, List.all_cons, Bool.and_eq_true] at h
  exact h
theorem CompB_ok (G : Good CX S Γ X) {c : CompP} {ln : List Str} {fv : List (Str × Nat)} (h : compB S c ln fv = true) :
    CompOk X c.sc ln fv ∧ (∀ x ∈ ln, c.sc.names.lookup x = some .local) ∧ (ln ++ fv.map (·.1)).Nodup ∧ noSet c.iter = true := by
  simp only [compB, Bool.and_eq_true, decide_eq_true_eq, List.all_eq_true, Bool.or_eq_true] at h
  obtain ⟨⟨⟨⟨⟨⟨⟨h1, h2⟩, h3⟩, h4⟩, h5⟩, h6⟩, h7⟩, h8⟩ := h
  refine ⟨⟨h1, fun y hy => h2 y hy, fun y hy hl => ?_, fun y hy hf => ?_, fun p hp => ?_⟩, h6, h7, h8⟩
  · rcases h3 y hy with z | z
    · exact absurd hl z
    · exact z
  · show X.env.scope.names.lookup y.1 = _ ∨ X.env.scope.names.lookup y.1 = _
    rw [G.sc]
    rcases h4 y hy with (z | z) | z
    · exact absurd hf z
    · exact .inl z
    · exact .inr z
  · rw [G.N]; exact h5 p hp
theorem tgt_ok (hc : X.calm = true) {c : CompP} {tk : Option Nat} {ln : List Str} {fv : List (Str × Nat)} (h : tgNames tk c.tg = some ln) (hl : ∀ x ∈ ln, c.sc.names.lookup x = some .local) (hn : (ln ++ fv.map (·.1)).Nodup) :
    TgtOk X c.sc ln fv c.tg tk := by
  unfold tgNames at h
  split at h
  · rename_i x p he
    cases h
    rw [he]
    exact tgt_name (hl x (by simp)) hn
  · rename_i x p y q k pos he
    cases h
    rw [he]
    exact tgt_two hc (hl x (by simp)) (hl y (by simp)) hn
  · cases h
theorem rBlt_int {xs : List V} {H : Hp} {Q : VK} {K : PySem.W.Frag} (h : rBlt K .int xs H Q) : (∃ i, xs = [.int i] ∧ Q (.int i) H) ∨ ∃ k, xs = [.bl k] ∧ Q (.int (if k then 1 else 0)) H := by
  match xs, h with
  | [.int i], h => exact .inl ⟨i, rfl, h⟩
  | [.bl k], h => exact .inr ⟨k, rfl, h⟩
theorem lenV_of {K : PySem.W.Frag} {x : V} {H : Hp} {Q : Nat → Prop} (h : lenV K x H Q) : ∃ n, LenV K x H n ∧ Q n := by
  match x, h with
  | .str y, h => exact ⟨_, ⟨h.1, rfl⟩, h.2⟩
  | .ref p, .inl ⟨xs, a, b⟩ => exact ⟨_, .inl ⟨xs, a, rfl⟩, b⟩
  | .ref p, .inr ⟨xs, a, b⟩ => exact ⟨_, .inr ⟨xs, a, rfl⟩, b⟩
/-! ### what stands for each built-in name -/
inductive BltIs (X : Cx) (b : Blt) : Prop where
  | fn (id : String) (hv : bootBuiltins b.nm = some (.builtin id)) (hc : CallR X (.builtin id) (rBlt X.K b))
  | ty (T : String) (hv : bootBuiltins b.nm = some (.type T)) (hc : CallR X (.type T) (rBlt X.K b))
theorem boot_min : bootBuiltins "min" = some (.builtin "min") := by decide +kernel
theorem boot_max : bootBuiltins "max" = some (.builtin "max") := by decide +kernel
theorem boot_abs : bootBuiltins "abs" = some (.builtin "abs") := by decide +kernel
theorem boot_sum : bootBuiltins "sum" = some (.builtin "sum") := by decide +kernel
theorem boot_isi : bootBuiltins "isinstance" = some (.builtin "isinstance") := by decide +kernel
theorem boot_intT : bootBuiltins "int" = some (.type "int") := by decide +kernel
theorem boot_listT : bootBuiltins "list" = some (.type "list") := by decide +kernel
theorem boot_tupleT : bootBuiltins "tuple" = some (.type "tuple") := by decide +kernel
theorem best_le (f : Nat → Int) (lt : Nat → Nat → Bool) (h : ∀ i j, lt i j = decide (f i < f j)) : ∀ n, argBest lt n ≤ n ∧ ∀ i, i ≤ n → f (argBest lt n) ≤ f i
  | 0 => ⟨Nat.le_refl _, fun i hi => by
      obtain rfl : i = 0 := by omega
      exact Int.le_refl _⟩
  | n + 1 => by
    obtain ⟨a, b⟩ := best_le f lt h n
    have e : argBest lt (n + 1) = if lt (n + 1) (argBest lt n) = true then n + 1 else argBest lt n := rfl
    rw [e, h]
    split
    · rename_i q
      have q := of_decide_eq_true q
      refine ⟨Nat.le_refl _, fun i hi => ?_⟩
      by_cases z : i = n + 1
      · rw [z]; exact Int.le_refl _
      · have := b i (by omega); omega
    · rename_i q
      have q : ¬ f (n + 1) < f (argBest lt n) := fun z => q (decide_eq_true z)
      refine ⟨by omega, fun i hi => ?_⟩
      by_cases z : i = n + 1
      · rw [z]; omega
      · exact b i (by omega)
theorem num_at {xs : Array (Int × Tok)} {i : Nat} (h : i < xs.size) : numAt xs i = xs[i].1 := by
  unfold numAt
  rw [Array.getElem?_eq_getElem h]; rfl
theorem num_mem {xs : Array (Int × Tok)} {i : Nat} (h : i < xs.size) : numAt xs i ∈ xs.toList.map (·.1) := by
  rw [num_at h]
  exact List.mem_map.mpr ⟨xs[i], by simp, rfl⟩
theorem mem_num {xs : Array (Int × Tok)} {n : Int} (h : n ∈ xs.toList.map (·.1)) : ∃ i, i < xs.size ∧ n = numAt xs i := by
  obtain ⟨y, hy, rfl⟩ := List.mem_map.mp h
  obtain ⟨i, hi, rfl⟩ := List.getElem_of_mem hy
  have hi' : i < xs.size := by simpa using hi
  exact ⟨i, hi', by rw [num_at hi']; simp⟩
theorem items_of {pins : List (Addr × Obj)} {σ : St} {H : Hp} {s : Shared} {p : Addr} {ns : List Int} (I : Inv X pins σ H s) (hq : SqL X.K H p (ns.map V.int)) : ∃ xs : Array (Int × Tok), s.heap.IsList p (intItems xs) ∧ ns = xs.toList.map (·.1) := by
  obtain ⟨its, rv, pl, hz⟩ := I.list hq
  have hi := intsAre_of rv
  obtain ⟨xs, hx⟩ := hi.allInts.items
  refine ⟨xs, hx ▸ pl.isList, ?_⟩
  rw [← nums_intItems, ← hx]
  exact (show numsOf its.toArray.toList = ns from hi.numsOf).symm
theorem call_minL (hc : X.calm = true) : CallR X (.builtin "min") (fun xs H Q => ∃ (p : Addr) (ns : List Int), xs = [.ref p] ∧ SqL X.K H p (ns.map V.int) ∧ ns ≠ [] ∧ ∀ m : Int, m ∈ ns → (∀ n ∈ ns, m ≤ n) → Q (.int m) H) := by
  intro pins s σ H xs us Q I r h
  obtain ⟨p, ns, rfl, hq, hne, q⟩ := h
  obtain ⟨u, rfl, ru⟩ := vals1 r
  cases ru
  obtain ⟨xs, hl, rfl⟩ := items_of I hq
  have sz : 0 < xs.size := Nat.pos_of_ne_zero fun z => hne (by rw [Array.eq_empty_of_size_eq_zero z]; rfl)
  refine min_intList (I.ok.hd hc) hl sz fun v h' tk hv hk => ?_
  obtain ⟨t, rfl⟩ := intItems_at hv
  obtain ⟨b1, b2⟩ := best_le (numAt xs) (fun i j => decide (numAt xs i < numAt xs j)) (fun _ _ => rfl) (xs.size - 1)
  refine ⟨.int _, H, I.kept (t' := tk) hk, ⟨t, rfl⟩, q _ (num_mem (by omega)) fun n hn => ?_⟩
  obtain ⟨i, hi, rfl⟩ := mem_num hn
  exact b2 i (by omega)
theorem call_maxL (hc : X.calm = true) : CallR X (.builtin "max") (fun xs H Q => ∃ (p : Addr) (ns : List Int), xs = [.ref p] ∧ SqL X.K H p (ns.map V.int) ∧ ns ≠ [] ∧ ∀ m : Int, m ∈ ns → (∀ n ∈ ns, n ≤ m) → Q (.int m) H) := by
  intro pins s σ H xs us Q I r h
  obtain ⟨p, ns, rfl, hq, hne, q⟩ := h
  obtain ⟨u, rfl, ru⟩ := vals1 r
  cases ru
  obtain ⟨xs, hl, rfl⟩ := items_of I hq
  have sz : 0 < xs.size := Nat.pos_of_ne_zero fun z => hne (by rw [Array.eq_empty_of_size_eq_zero z]; rfl)
  refine max_intList (I.ok.hd hc) hl sz fun v h' tk hv hk => ?_
  obtain ⟨t, rfl⟩ := intItems_at hv
  obtain ⟨b1, b2⟩ := best_le (fun i => - numAt xs i) (fun i j => decide (numAt xs i > numAt xs j)) (fun i j => decide_eq_decide.mpr (by omega)) (xs.size - 1)
  refine ⟨.int _, H, I.kept (t' := tk) hk, ⟨t, rfl⟩, q _ (num_mem (by omega)) fun n hn => ?_⟩
  obtain ⟨i, hi, rfl⟩ := mem_num hn
  have := b2 i (by omega)
  omega
theorem signs_vals {x : Str} {acc : Array Value} (h : ItemsOf (SignAt x) acc x.cps.size) : Vals (signs x) acc.toList := by
  have go : ∀ (l : List Nat) (us : List Value), us.length = l.length → (∀ (j : Nat) (v : Value), us[j]? = some v → ∃ (c : Nat) (t : Tok), l[j]? = some c ∧ v = Value.str ⟨#[c]⟩ t) → Vals (l.map fun c => V.str ⟨#[c]⟩) us := by
    intro l
    induction l with
    | nil =>
      intro us hl _
      rw [List.length_eq_zero_iff.mp hl]
      exact .nil
    | cons c l ih =>
      intro us hl hv
      cases us with
      | nil => cases hl
      | cons u us =>
        obtain ⟨c', t, e1, e2⟩ := hv 0 u rfl
        have e1' : c = c' := by simpa using e1
        subst e1'
        exact .cons ⟨t, e2⟩ (ih us (by simpa using hl) fun j v hj => by
          obtain ⟨c2, t2, g1, g2⟩ := hv (j + 1) v (by simpa using hj)
          exact ⟨c2, t2, by simpa using g1, g2⟩)
  refine go x.cps.toList acc.toList ?_ fun j v hj => ?_
  · have := h.1; simpa using this
  · obtain ⟨c, t, e1, e2⟩ := h.2 j v (by simpa using hj)
    exact ⟨c, t, by simpa using e1, e2⟩
theorem signs_len (x : Str) : (signs x).length = x.length := by simp [signs, Str.length]
theorem call_list_strV (hc : X.calm = true) : CallR X (.type "list") (fun xs H Q => ∃ x, xs = [.str x] ∧ x.length ≤ sizeLine ∧ ∀ l, H l = none → Q (.ref l) (upd H l (.lst (signs x)))) := by
  intro pins s σ H xs us Q I r h
  obtain ⟨x, rfl, hx, q⟩ := h
  obtain ⟨u, rfl, t, rfl⟩ := vals1 r
  refine call_list_str (I.ok.hd hc) x t (fun h' tk acc' c' hk e hacc => ?_) hx
  have rv := signs_vals hacc
  exact ⟨.ref s.heap.objs.size, _, I.laid (t' := tk) hk (Nat.le_refl _) (show ObjOk X.prog X.w _ h' _ (.lst (signs x)) from ⟨by rw [signs_len]; exact hx, acc'.toList, c', rv, by simpa using e⟩), rfl, q _ (I.hok.fresh (Nat.le_refl _))⟩
theorem call_tuple_strV (hc : X.calm = true) : CallR X (.type "tuple") (fun xs H Q => ∃ x, xs = [.str x] ∧ x.length ≤ sizeLine ∧ ∀ l, H l = none → Q (.ref l) (upd H l (.tup (signs x)))) := by
  intro pins s σ H xs us Q I r h
  obtain ⟨x, rfl, hx, q⟩ := h
  obtain ⟨u, rfl, t, rfl⟩ := vals1 r
  refine call_tuple_str (I.ok.hd hc) x t (fun h' tk acc hk hacc => ?_) hx
  have rv := signs_vals hacc
  have I1 : Inv X pins σ H { s with heap := h', toks := tk } := I.kept (t' := tk) hk
  have I2 : Inv X pins σ (upd H h'.objs.size (.tup (signs x))) { s with heap := h'.push { cls := .type "tuple", data := .seq acc }, toks := tk } :=
    I1.laid (t' := tk) (fun b o e => Heap.get?_push_of_some _ e) (Nat.le_refl _) (show ObjOk X.prog X.w _ _ _ (.tup (signs x)) from ⟨by rw [signs_len]; exact hx, acc.toList, rv, by simpa using IsTup.new _ _⟩)
  exact ⟨.ref h'.objs.size, _, I2, rfl, q _ (I1.hok.fresh (Nat.le_refl _))⟩
theorem blt_is (hc : X.calm = true) (b : Blt) : BltIs X b := by
  cases b with
  | len => exact .fn "len" boot_len (CallR.imp call_len fun xs H Q h => by
      match xs, h with
      | [x], h => obtain ⟨n, h1, h2⟩ := lenV_of (Q := fun n => Q (.int n) H) h; exact ⟨x, n, rfl, h1, h2⟩)
  | min => exact .fn "min" boot_min (CallR.imp ((call_min2 hc).or (call_minL hc)) fun xs H Q h => by
      match xs, h with
      | [.int i, .int j], h => exact .inl ⟨i, j, rfl, h⟩
      | [.ref p], ⟨ns, h1, h2, h3⟩ => exact .inr ⟨p, ns, rfl, h1, h2, h3⟩)
  | max => exact .fn "max" boot_max (CallR.imp ((call_max2 hc).or (call_maxL hc)) fun xs H Q h => by
      match xs, h with
      | [.int i, .int j], h => exact .inl ⟨i, j, rfl, h⟩
      | [.ref p], ⟨ns, h1, h2, h3⟩ => exact .inr ⟨p, ns, rfl, h1, h2, h3⟩)
  | sum => exact .fn "sum" boot_sum (CallR.imp (call_sumI hc) fun xs H Q h => by
      match xs, h with
      | [.ref p], ⟨ns, h1, h2⟩ => exact ⟨p, ns, rfl, h1, h2⟩)
  | abs => exact .fn "abs" boot_abs (CallR.imp call_abs fun xs H Q h => by
      match xs, h with
      | [.int i], h => exact ⟨i, rfl, h⟩)
  | int => exact .ty "int" boot_intT (CallR.imp call_int1 fun xs H Q h => rBlt_int h)
  | list => exact .ty "list" boot_listT (CallR.imp (call_list_of.or (call_list_strV hc)) fun xs H Q h => by
      match xs, h with
      | [.ref p], ⟨ys, h1, h2⟩ => exact .inl ⟨p, ys, rfl, h1, h2⟩
      | [.str x], ⟨h1, h2⟩ => exact .inr ⟨x, rfl, h1, h2⟩)
  | tuple => exact .ty "tuple" boot_tupleT (CallR.imp (call_tuple_of.or (call_tuple_strV hc)) fun xs H Q h => by
      match xs, h with
      | [.ref p], ⟨ys, h1⟩ => exact .inl ⟨p, ys, rfl, h1⟩
      | [.str x], ⟨h1, h2⟩ => exact .inr ⟨x, rfl, h1, h2⟩)
/-! ### what stands for each method -/
structure MthIs (X : Cx) (m : Mth) (id : String) : Prop where
  pa : PlainAttrs (mthTy m)
  slot : Slot (mthTy m) m.nm id
  ty : typeOf (.builtin id) = pure (.type "method_descriptor")
  mt : MtR X id (rMth X.K m)
theorem kV_isK {P : Program} {w : World} {k : Key} {u : Value} (r : RelV (kV k) u) : (mixKind P w).is k u = true := by
  cases k with
  | inl i => obtain ⟨t, e⟩ := (show ∃ t, u = Value.int i t from r); subst e; exact mixKind_int P w i t
  | inr x => obtain ⟨t, e⟩ := (show ∃ t, u = Value.str x t from r); subst e; exact mixKind_str P w x t
theorem kvval {kvs : List (Key × V)} {vs : List (Key × Value)} (r : KV kvs vs) (k : Key) {v : V} (h : valK kvs k = some v) : ∃ u, valueAt vs k = some u ∧ RelV v u := by
  unfold KV at r
  induction r with
  | nil => cases h
  | @cons p q ps qs hh t ih =>
    obtain ⟨h1, h2⟩ := hh
    by_cases e : p.1 = k
    · have e' : q.1 = k := h1.symm.trans e
      have b : valueAt (q :: qs) k = some q.2 := by simp [valueAt, List.find?_cons, e']
      have a : valK (p :: ps) k = some p.2 := by simp [valK, List.find?_cons, e]
      rw [a] at h
      cases h
      exact ⟨_, b, h2⟩
    · have e' : ¬ q.1 = k := fun z => e (h1.trans z)
      have b : valueAt (q :: qs) k = valueAt qs k := by simp [valueAt, List.find?_cons, e']
      have a : valK (p :: ps) k = valK ps k := by simp [valK, List.find?_cons, e]
      rw [a] at h
      rw [b]
      exact ih h
theorem ix_sd {sd : Addr → List (Key × V) → Prop} (hsd : ∀ p kvs, sd p kvs → ∀ h : Heap, X.K.In h → ∃ vs, KV kvs vs ∧ h.DictOf (mixKind X.prog X.w) p vs) : IxR X (rIxD sd) := by
  intro value slice pins s σ H x y v u Q I rx ry h hs
  obtain ⟨p, kvs, k, z, rfl, rfl, hq, he, q⟩ := h
  cases rx
  obtain ⟨vs, r, dd⟩ := hsd p kvs hq s.heap I.kIn
  obtain ⟨w, ew, rw'⟩ := kvval r k he
  exact subscriptTail_builtinR (x := w) dd.mapOf.typeIs PySem.F.slot_dict_getitem.lookup
    (wpAny_getItem_of (Q := fun r s' => r = w ∧ EP X pins σ Q r s') (kV_isK ry) dd.mapOf ew ⟨rfl, z, H, I.tok _, rw', q⟩) hs
theorem ix_any {sd : Addr → List (Key × V) → Prop} (hsd : ∀ p kvs, sd p kvs → ∀ h : Heap, X.K.In h → ∃ vs, KV kvs vs ∧ h.DictOf (mixKind X.prog X.w) p vs) : IxR X (rIx2 X.K sd) := ix_list.or (ix_tup.or (ix_str.or (ix_sd hsd)))
theorem isStr_at (y : Str) : ∀ {ts : List Str} {us : List Value}, Vals (ts.map V.str) us → ∀ (j : Nat) (h1 : j < us.length) (h2 : j < ts.length), (Value.isStrOf y us[j] = (ts[j] == y))
  | [], _, .nil, j, h1, _ => absurd h1 (Nat.not_lt_zero _)
  | t :: ts, _, .cons r rs, 0, _, _ => by
    obtain ⟨k, rfl⟩ := (show ∃ k, _ = Value.str t k from r)
    rfl
  | t :: ts, _, .cons r rs, j + 1, h1, h2 => isStr_at y rs j (Nat.lt_of_succ_lt_succ h1) (Nat.lt_of_succ_lt_succ h2)
theorem lt_idxOf_ne {y : Str} : ∀ {ts : List Str} {j : Nat}, j < ts.idxOf y → ∀ (h2 : j < ts.length), (ts[j] == y) = false
  | n :: r, 0, h, _ => by
    by_cases e : n = y
    · subst e; simp at h
    · simpa using e
  | n :: r, j + 1, h, h2 => by
    by_cases e : n = y
    · subst e; simp at h
    · have hb : (n == y) = false := by simpa using e
      have h' : j < r.idxOf y := by
        rw [List.idxOf_cons, hb] at h
        exact Nat.lt_of_succ_lt_succ h
      exact lt_idxOf_ne h' (Nat.lt_of_succ_lt_succ h2)
theorem mt_index : MtR X "list.index" (fun x vs H Q => ∃ (l : Addr) (y : Str) (ts : List Str), x = .ref l ∧ vs = [.str y] ∧ SqL X.K H l (ts.map V.str) ∧ y ∈ ts ∧ Q (.int (ts.idxOf y : Nat)) H) := by
  intro pins s σ H x vs v us Q I rx rv h
  obtain ⟨l, y, ts, rfl, rfl, hq, hy, q⟩ := h
  cases rx
  obtain ⟨u, rfl, ⟨t, rfl⟩⟩ := vals1 rv
  obtain ⟨its, r, ⟨⟨cls, dd, data, sl⟩, n, ho, hc, hd0, hd⟩, hz⟩ := I.list hq
  simp only at hc hd
  subst hc hd
  have hlen := r.length
  rw [List.length_map] at hlen hz
  have hj : ts.idxOf y < ts.length := List.idxOf_lt_length_iff.mpr hy
  have hn := line63
  refine call_meets PySem.F.slot_list_index ⟨_, ho, rfl⟩ PySem.F.entry_list_index (PySem.F.args_list_index_2 _ _)
    (PySem.SeqAt.list_indexAt l its.toArray n dd sl (.str y t) (Value.isStrOf y) (ts.idxOf y) (by simp; omega) (by omega) ?_ ?_) ⟨ho, fun z hz' => ?_, ⟨.int _, H, I.tok _, ⟨_, rfl⟩, q⟩⟩
  · show Value.isStrOf y its[ts.idxOf y] = true
    rw [isStr_at y r _ (by omega) hj]
    simpa using List.getElem_idxOf hj
  · intro j hjs hlt
    show Value.isStrOf y its[j] = false
    rw [isStr_at y r j (by simpa using hjs) (by omega)]
    exact lt_idxOf_ne hlt _
  · have hm : z ∈ its := by simpa using hz'
    obtain ⟨j, hj1, rfl⟩ := List.getElem_of_mem hm
    have hjt : j < ts.length := by omega
    have e := isStr_at y r j hj1 hjt
    obtain ⟨k, ek⟩ := (r.get (i := j) (x := .str ts[j]) (by simp [hjt]))
    obtain ⟨ek1, k2, ek2⟩ := ek
    have ek3 : its[j] = .str ts[j] k2 := by
      have := List.getElem?_eq_getElem hj1
      rw [ek1] at this
      exact (Option.some.inj this).symm.trans ek2
    rw [e, ek3]
    exact PySem.SeqAt.EqAt.str_str _ _ _ _
theorem countP_eqU {x : V} : ∀ {xs : List V} {us : List Value}, Vals xs us → xs.all flatV = true → us.countP (eqU x) = xs.countP fun y => eqV y x
  | _, _, .nil, _ => rfl
  | y :: xs, u :: us, .cons r t, f => by
    rw [List.all_cons, Bool.and_eq_true] at f
    rw [List.countP_cons, List.countP_cons, eqU_of r f.1, countP_eqU t f.2]
theorem mt_cntL : MtR X "list.count" (fun x vs H Q => ∃ (l : Addr) (y : V) (xs : List V), x = .ref l ∧ vs = [y] ∧ SqL X.K H l xs ∧ flatV y = true ∧ xs.all flatV = true ∧ Q (.int (xs.countP (fun z => eqV z y) : Nat)) H) := by
  intro pins s σ H x vs v us Q I rx rv h
  obtain ⟨l, y, xs, rfl, rfl, hq, fy, fs, q⟩ := h
  cases rx
  obtain ⟨u, rfl, ru⟩ := vals1 rv
  obtain ⟨its, r, ⟨⟨cls, dd, data, sl⟩, n, ho, hc, hd0, hd⟩, hz⟩ := I.list hq
  simp only at hc hd
  subst hc hd
  rw [← countP_eqU r fs] at q
  exact call_meets PySem.F.slot_list_count ⟨_, ho, rfl⟩ PySem.F.entry_list_count (PySem.F.args_list_count_2 _ _)
    (PySem.SeqAt.list_countAt l its.toArray n dd sl u (eqU y)) ⟨ho, fun z hz' => mem_eqAt ru fy r fs z (by simpa using hz'), ⟨.int _, H, I.tok _, ⟨_, rfl⟩, q⟩⟩
theorem mt_idxL : MtR X "list.index" (fun x vs H Q => ∃ (l : Addr) (y : V) (xs : List V), x = .ref l ∧ vs = [y] ∧ SqL X.K H l xs ∧ flatV y = true ∧ xs.all flatV = true ∧ inV y xs = true ∧ Q (.int (xs.findIdx (fun z => eqV z y) : Nat)) H) := by
  intro pins s σ H x vs v us Q I rx rv h
  obtain ⟨l, y, xs, rfl, rfl, hq, fy, fs, hin, q⟩ := h
  cases rx
  obtain ⟨u, rfl, ru⟩ := vals1 rv
  obtain ⟨its, r, ⟨⟨cls, dd, data, sl⟩, n, ho, hc, hd0, hd⟩, hz⟩ := I.list hq
  simp only at hc hd
  subst hc hd
  have hlen := r.length
  have e : ∀ j (h1 : j < its.length) (h2 : j < xs.length), eqU y its[j] = eqV xs[j] y := fun j h1 h2 => by
    obtain ⟨w, e1, r1⟩ := r.get (i := j) (x := xs[j]) (by simp [h2])
    have e2 := List.getElem?_eq_getElem h1
    rw [e1] at e2
    rw [← Option.some.inj e2]
    exact eqU_of r1 (List.all_eq_true.mp fs _ (List.getElem_mem h2))
  have hj : xs.findIdx (fun z => eqV z y) < xs.length := List.findIdx_lt_length.mpr (List.any_eq_true.mp hin)
  have hn := line63
  refine call_meets PySem.F.slot_list_index ⟨_, ho, rfl⟩ PySem.F.entry_list_index (PySem.F.args_list_index_2 _ _)
    (PySem.SeqAt.list_indexAt l its.toArray n dd sl u (eqU y) (xs.findIdx fun z => eqV z y) (by simp; omega) (by omega) ?_ ?_) ⟨ho, fun z hz' => mem_eqAt ru fy r fs z (by simpa using hz'), ⟨.int _, H, I.tok _, ⟨_, rfl⟩, q⟩⟩
  · show eqU y its[xs.findIdx fun z => eqV z y] = true
    rw [e _ (by omega) hj]
    exact List.findIdx_getElem (w := hj)
  · intro j hjs hlt
    show eqU y its[j] = false
    rw [e j (by simpa using hjs) (by omega)]
    simpa using List.not_of_lt_findIdx hlt
theorem mth_is (m : Mth) : ∃ id, MthIs X m id := by
  cases m with
  | append => exact ⟨_, F.plainAttrs_list, F.slot_list_append, F.type_list_append, fun pins s σ H x xs v us Q I rx rv h => by
      match x, xs, h with
      | .ref l, [y], ⟨zs, h1, h2, h3⟩ => exact mt_append pins s σ H _ _ v us Q I rx rv ⟨l, zs, y, rfl, rfl, h1, h2, h3⟩⟩
  | pop => exact ⟨_, F.plainAttrs_list, F.slot_list_pop, F.type_list_pop, fun pins s σ H x xs v us Q I rx rv h => by
      match x, xs, h with
      | .ref l, [], ⟨zs, y, h1, h2, h3⟩ => exact mt_pop pins s σ H _ _ v us Q I rx rv ⟨l, zs, y, rfl, rfl, h1, h2, h3⟩⟩
  | extend => exact ⟨_, F.plainAttrs_list, F.slot_list_extend, F.type_list_extend, fun pins s σ H x xs v us Q I rx rv h => by
      match x, xs, h with
      | .ref l, [.ref b], ⟨ys, zs, h1, h2, h3, h4⟩ => exact mt_extend pins s σ H _ _ v us Q I rx rv ⟨l, b, ys, zs, rfl, rfl, h1, h2, h3, h4⟩⟩
  | join => exact ⟨_, F.plainAttrs_str, F.slot_str_join, F.type_str_join, fun pins s σ H x xs v us Q I rx rv h => by
      match x, xs, h with
      | .str z, [.ref p], ⟨ts, h1, h2, h3⟩ => exact mt_join pins s σ H _ _ v us Q I rx rv ⟨z, p, ts, rfl, rfl, h1, h2, h3⟩⟩
  | lstrip => exact ⟨_, F.plainAttrs_str, F.slot_str_lstrip, F.type_str_lstrip, fun pins s σ H x xs v us Q I rx rv h => by
      match x, xs, h with
      | .str z, [.str y], ⟨h1, h2⟩ => exact mt_lstrip pins s σ H _ _ v us Q I rx rv ⟨z, y, rfl, rfl, h1, h2⟩⟩
  | starts => exact ⟨_, F.plainAttrs_str, F.slot_str_startswith, F.type_str_startswith, fun pins s σ H x xs v us Q I rx rv h => by
      match x, xs, h with
      | .str z, [.str y, .int i], h1 => exact mt_starts pins s σ H _ _ v us Q I rx rv ⟨z, y, i, rfl, rfl, h1⟩⟩
  | find => exact ⟨_, F.plainAttrs_str, F.slot_str_find, F.type_str_find, fun pins s σ H x xs v us Q I rx rv h => by
      match x, xs, h with
      | .str z, [.str y], h1 =>
        obtain ⟨t, rfl⟩ := rx
        obtain ⟨u, rfl, ⟨t2, rfl⟩⟩ := vals1 rv
        exact call_gives F.slot_str_find (typeIs_str _ _ _) F.entry_str_find (F.args_str_find_2 _ _) (gives_str_find z y t t2) ⟨.int _, H, I.tok _, ⟨_, rfl⟩, h1⟩
      | .str z, [.str y, .int i], h1 =>
        obtain ⟨t, rfl⟩ := rx
        obtain ⟨u, w', rfl, ⟨t2, rfl⟩, ⟨t3, rfl⟩⟩ := vals2 rv
        exact call_gives F.slot_str_find (typeIs_str _ _ _) F.entry_str_find (F.args_str_find_3 _ _ _) (gives_str_find_from z y i t t2 t3) ⟨.int _, H, I.tok _, ⟨_, rfl⟩, h1⟩⟩
  | count => exact ⟨_, F.plainAttrs_str, F.slot_str_count, F.type_str_count, fun pins s σ H x xs v us Q I rx rv h => by
      match x, xs, h with
      | .str z, [.str y], h1 =>
        obtain ⟨t, rfl⟩ := rx
        obtain ⟨u, rfl, ⟨t2, rfl⟩⟩ := vals1 rv
        exact call_gives F.slot_str_count (typeIs_str _ _ _) F.entry_str_count (F.args_str_count_2 _ _) (gives_str_count z y t t2) ⟨.int _, H, I.tok _, ⟨_, rfl⟩, h1⟩⟩
  | reverse => exact ⟨_, F.plainAttrs_list, F.slot_list_reverse, F.type_list_reverse, fun pins s σ H x xs v us Q I rx rv h => by
      match x, xs, h with
      | .ref l, [], ⟨zs, h1, h2⟩ => exact mt_reverse pins s σ H _ _ v us Q I rx rv ⟨l, zs, rfl, rfl, h1, h2⟩⟩
  | index => exact ⟨_, F.plainAttrs_list, F.slot_list_index, F.type_list_index, fun pins s σ H x xs v us Q I rx rv h => by
      match x, xs, h with
      | .ref l, [.str y], ⟨ts, h1, h2, h3⟩ => exact mt_index pins s σ H _ _ v us Q I rx rv ⟨l, y, ts, rfl, rfl, h1, h2, h3⟩⟩
  | cntL => exact ⟨_, F.plainAttrs_list, F.slot_list_count, F.type_list_count, fun pins s σ H x xs v us Q I rx rv h => by
      match x, xs, h with
      | .ref l, [y], ⟨zs, h1, h2, h3, h4⟩ => exact mt_cntL pins s σ H _ _ v us Q I rx rv ⟨l, y, zs, rfl, rfl, h1, h2, h3, h4⟩⟩
  | idxL => exact ⟨_, F.plainAttrs_list, F.slot_list_index, F.type_list_index, fun pins s σ H x xs v us Q I rx rv h => by
      match x, xs, h with
      | .ref l, [y], ⟨zs, h1, h2, h3, h4, h5⟩ => exact mt_idxL pins s σ H _ _ v us Q I rx rv ⟨l, y, zs, rfl, rfl, h1, h2, h3, h4, h5⟩⟩
  | clear => exact ⟨_, F.plainAttrs_list, F.slot_list_clear, F.type_list_clear, fun pins s σ H x xs v us Q I rx rv h => by
      match x, xs, h with
      | .ref l, [], ⟨zs, h1, h2⟩ => exact mt_clear pins s σ H _ _ v us Q I rx rv ⟨l, zs, rfl, rfl, h1, h2⟩⟩
/-! ### isinstance -/
theorem isi_ok {pins : List (Addr × Obj)} {σ : St} {H : Hp} {s : Shared} {T : Ty} {x : V} {u : Value} {Qb : Bool → Prop} {Q : Value → Shared → Prop} {E : Value → Shared → Prop} (I : Inv X pins σ H s) (rx : RelV x u) (h : isiV T x H Qb)
    (hq : ∀ b tk, Qb b → Q (.bool b) { s with toks := tk }) : wpAny (model X.prog X.w) X.A (call (.builtin "isinstance") [u, .type T.nm]) Q E s := by
  match x, rx, h with
  | .non, rx, h => exact isinst_ok I rx (.non) (kit_none _ T) fun tk => hq _ _ h
  | .bl b, rx, h => exact isinst_ok I rx (.bl b) (kit_tys X.K .bool T) fun tk => hq _ _ (by cases T <;> exact h)
  | .int i, rx, h => exact isinst_ok I rx (.int i) (kit_tys X.K .int T) fun tk => hq _ _ (by cases T <;> exact h)
  | .str i, rx, h => exact isinst_ok I rx (.str i) (kit_tys X.K .str T) fun tk => hq _ _ (by cases T <;> exact h)
  | .ref a, rx, h =>
    cases e : H a with
    | none => simp only [isiV, e] at h
    | some o =>
      match o, e with
      | .lst xs, e => simp only [isiV, e] at h; exact isinst_ok I rx (.lst e) (kit_tys X.K .list T) fun tk => hq _ _ (by cases T <;> exact h)
      | .frz ob (.lst xs), e => simp only [isiV, e] at h; exact isinst_ok I rx (.frz e) (kit_tys X.K .list T) fun tk => hq _ _ (by cases T <;> exact h)
      | .tup xs, e => simp only [isiV, e] at h; exact isinst_ok I rx (.tup e) (kit_tys X.K .tuple T) fun tk => hq _ _ (by cases T <;> exact h)
      | .dK xs, e => simp only [isiV, e] at h; exact isinst_ok I rx (.dK e) (kit_tys X.K .dict T) fun tk => hq _ _ (by cases T <;> exact h)
      | .dT xs, e => simp only [isiV, e] at h; exact isinst_ok I rx (.dT e) (kit_tys X.K .dict T) fun tk => hq _ _ (by cases T <;> exact h)
      | .set _ _, e => simp only [isiV, e] at h
      | .ins _ _ _, e => simp only [isiV, e] at h
      | .own _, e => simp only [isiV, e] at h
      | .xd _, e => simp only [isiV, e] at h
      | .met _ _, e => simp only [isiV, e] at h
      | .rng _ _, e => simp only [isiV, e] at h
      | .tbl _, e => simp only [isiV, e] at h
      | .ext _, e => simp only [isiV, e] at h
      | .frz ob (.tup xs), e => simp only [isiV, e] at h
      | .frz ob (.dK xs), e => simp only [isiV, e] at h
      | .frz ob (.dT xs), e => simp only [isiV, e] at h
      | .frz ob (.set _ _), e => simp only [isiV, e] at h
      | .frz ob (.ins _ _ _), e => simp only [isiV, e] at h
      | .frz ob (.own _), e => simp only [isiV, e] at h
      | .frz ob (.xd _), e => simp only [isiV, e] at h
      | .frz ob (.met _ _), e => simp only [isiV, e] at h
      | .frz ob (.rng _ _), e => simp only [isiV, e] at h
      | .frz ob (.tbl _), e => simp only [isiV, e] at h
      | .frz ob (.ext _), e => simp only [isiV, e] at h
      | .frz ob (.frz _ _), e => simp only [isiV, e] at h
theorem boot_ty (T : Ty) : bootBuiltins (Str.ofString T.nm) = some (.type T.nm) := by cases T <;> decide +kernel
theorem call_isi (T : Ty) : CallR X (.builtin "isinstance") (rIsi T) := by
  intro pins s σ H xs us Q I r h
  match xs, r, h with
  | [x, .ty n], r, ⟨e, h⟩ =>
    subst e
    obtain ⟨u, w', rfl, ru, rw'⟩ := vals2 r
    cases rw'
    exact isi_ok I ru h fun b tk hb => ⟨.bl b, H, I.tok tk, rfl, hb⟩
/-- isinstance(e, T): the call -/
theorem pe_isi {T : Ty} {a : Expr} {ta : TE} {p q pos : Pos} (ha : PE X a ta) (hs : noStar a = true) (hg : Gl X "isinstance") (hm : X.mg "isinstance" = none) (hgT : Gl X (Str.ofString T.nm)) (hmT : X.mg (Str.ofString T.nm) = none) :
    PE X (.Call (.Name "isinstance" p) [a, .Name (Str.ofString T.nm) q] [] pos) (tCB (rIsi T) (tCons ta (tCons (tC (.ty T.nm)) tNil))) := by
  have hT : PE X (.Name (Str.ofString T.nm) q) (tC (.ty T.nm)) := pe_bltn hgT hmT (boot_ty T) rfl (by cases T <;> decide) (by cases T <;> decide)
  exact pe_callB (call_isi T) hg hm boot_isi (pa_cons ha (pa_cons hT pa_nil rfl) (star_cons hs)) (by decide) (by decide) (star_cons hs) rfl
end
/-! ### slices -/
section
variable {X : Cx}
theorem sl_all : SlR X (rSl X.K) := by
  intro pins s σ H x v vl vu lo hi sl Q I rx hs pl pu h
  match x, rx, h with
  | .ref a, rx, .inl ⟨xs, h1, h2⟩ => exact sl_list pins s σ H _ v vl vu lo hi sl Q I rx hs pl pu ⟨a, xs, rfl, h1, h2⟩
  | .ref a, rx, .inr ⟨xs, h1, h2, h3⟩ => exact sl_tup pins s σ H _ v vl vu lo hi sl Q I rx hs pl pu ⟨a, xs, rfl, h1, h2, h3⟩
  | .str z, rx, ⟨h1, h2⟩ =>
    obtain ⟨t, rfl⟩ := rx
    obtain ⟨l, el, ml⟩ : ∃ l : Option (Int × Tok), vl = partValue l ∧ l.map (·.1) = lo := by
      cases pl with
      | none => exact ⟨none, rfl, rfl⟩
      | int i t => exact ⟨some (i, t), rfl, rfl⟩
    obtain ⟨u, eu, mu⟩ : ∃ u : Option (Int × Tok), vu = partValue u ∧ u.map (·.1) = hi := by
      cases pu with
      | none => exact ⟨none, rfl, rfl⟩
      | int i t => exact ⟨some (i, t), rfl, rfl⟩
    subst el eu
    refine ⟨"str", _, F.slot_str_getitem.lookup, typeIs_str _ _ _, ?_⟩
    refine wpAny_getItem_str_slice (l := l) (u := u) (st := none) hs rfl ?_
    obtain ⟨b1, b2, b3⟩ := slice_bounds lo hi z.length
    have hp : slicePicked z l u none = (List.range (HT.sIx z.length z.length hi - HT.sIx z.length 0 lo)).map (HT.sIx z.length 0 lo + ·) := by
      show Builtin.Str.strSliceIndices (l.map (·.1)) (u.map (·.1)) 1 z.length = _
      rw [ml, mu]
      have e0 : Builtin.Str.strSliceIndices lo hi 1 z.length = sliceRange (sliceBounds lo hi none z.length).1 (sliceBounds lo hi none z.length).2.1 (sliceBounds lo hi none z.length).2.2 := rfl
      rw [e0, b1, b2, b3, sliceRange_one]
    have hc : ((slicePicked z l u none).filterMap (z.cps[·]?)) = cutL z.cps.toList lo hi := by
      show (Builtin.Str.strSliceIndices (l.map (·.1)) (u.map (·.1)) 1 z.length).filterMap (z.cps[·]?) = _
      rw [ml, mu, picked_cut]
    have hz : z.cps.toList.length = z.length := by simp [Str.length]
    have hA := HT.sIx_le z.length 0 (Nat.zero_le _) lo
    have hB := HT.sIx_le z.length z.length (Nat.le_refl _) hi
    unfold sliceMade
    refine post_val_or_made (fun _ => ?_) fun t' k => ?_
    · show (List.toArray ((slicePicked z l u none).filterMap (z.cps[·]?))).size ≤ sizeLine
      rw [hc, List.size_toArray]
      have : (cutL z.cps.toList lo hi).length ≤ z.cps.toList.length := by unfold cutL; simp only [List.length_take, List.length_drop]; omega
      omega
    · have e : (if (((none : Option (Int × Tok)).map (·.1)).getD 1 == 1 && (slicePicked z l u none).length == z.length) = true then z else ⟨((slicePicked z l u none).filterMap (z.cps[·]?)).toArray⟩) = cutS z lo hi := by
        split
        · rename_i hq
          simp only [Bool.and_eq_true, beq_iff_eq] at hq
          have hq2 := hq.2
          rw [hp, List.length_map, List.length_range] at hq2
          have a0 : HT.sIx z.length 0 lo = 0 := by omega
          have b0 : HT.sIx z.length z.length hi = z.length := by omega
          unfold cutS cutL
          rw [hz, a0, b0, ← hz, Nat.sub_zero, List.drop_zero, List.take_length]
        · rw [hc]; rfl
      rw [e]
      exact ⟨.str _, H, I.tok k, ⟨t', rfl⟩, h2⟩
theorem un_negV : UnR X (unaryOp .USub) rNeg := by
  intro pins s σ H x v Q I rx h
  match x, rx, h with
  | .int i, rx, h => exact un_neg pins s σ H _ v Q I rx ⟨i, rfl, h⟩
theorem pe_notE {a : Expr} {ta : TE} {pos : Pos} (ha : PE X a ta) : PE X (.UnaryOp .Not a pos) (tNotE X.K ta) := by
  intro pins s σ H Q I h
  refine UnaryOp_ (thn (ha pins s σ H _ I h) fun v s1 ⟨x, H1, I1, r1, q1⟩ => not_of ?_)
  exact thn (tru_ok pins s1 σ H1 x v (fun b H2 => Q (.bl (!b)) H2) I1 r1 (tru_of q1)) fun b s2 ⟨H2, I2, q2⟩ => ⟨.bl (!b), H2, I2, rfl, q2⟩
theorem pt_tru {a : Expr} {ta : TE} (ha : PE X a ta) (he : ∀ whole, isTrue a X.env whole = (do let v ← whole; standAt a.pos; holding [v] (truthy v))) : PT X a (tTru X.K ta) := by
  intro pins s σ H Q I h
  exact isTrue_plain (thn (ha pins s σ H _ I h) fun v s1 ⟨x, H1, I1, r1, q1⟩ => tru_ok pins s1 σ H1 x v Q I1 r1 (tru_of q1)) (he _)
theorem pe_mth {m : Mth} {o e : Expr} {es : List Expr} {to : TE} {t : TA} {apos cpos : Pos} (ho : PE X o to) (ha : PA X (e :: es) t) (hb : noSuper o = true) (hl : (apos.endLine == cpos.line) = true) (hn : (e :: es).length < 29)
    (hs : starEach (e :: es) X.env = (false, eval e X.env) :: starEach es X.env) (h1 : (backTo cpos (starEach es X.env)).any (·.1) = false) (h2 : (backTo cpos (starEach (e :: es) X.env)).all (fun x => !x.1) = true) :
    PE X (.Call (.Attribute o m.nm apos) (e :: es) [] cpos) (tMth X.K m to t) := by
  obtain ⟨id, M⟩ := mth_is (X := X) m
  exact pe_bm M.pa M.slot M.ty M.mt ho ha (base_of hb) (by
    rw [h2]
    show (true && true && decide ((e :: es).length + 0 + 0 < 30)) = true
    rw [decide_eq_true (by omega)]; rfl) hl hs h1
end
/-! ### methods and makers of own classes -/
section
variable {X : Cx} {CX : CXT}
end
end L2
set_option maxRecDepth 100000
set_option maxHeartbeats 4000000
namespace L2
open PySem PySem.Spec PyProof.Rows
section
variable {prog : Program} {w : World} {A : Around} {E : Value → Shared → Prop} {s : Shared}
end
/-- (a, b, ..) = a tuple or a list of that length -/
def gSeq (K : PySem.W.Frag) (n : Nat) (t : TGs) : TG := fun v σ H Q => ∃ a xs, v = .ref a ∧ (SqT K H a xs ∨ SqL K H a xs) ∧ xs.length = n ∧ t xs σ H Q
end L2
set_option maxRecDepth 100000
set_option maxHeartbeats 4000000
namespace L2
open PySem PySem.Spec PyProof.Rows
/-! ### a row's own derivation, part by part -/
def gNames : List Nat → TGs
  | [] => gNil
  | i :: r => gCons (gName i) (gNames r)
/-- o[lo:hi] = .. -/
def gSl (to : TE) (tl th : TO) : TG := fun v σ H Q => to σ H fun o H1 => tl σ H1 fun i H2 => th σ H2 fun j H3 => ∃ l b xs ys a c, o = .ref l ∧ v = .ref b ∧ i = some a ∧ j = some c ∧ H3 l = some (.lst xs) ∧ H3 b = some (.lst ys) ∧ l ≠ b ∧
  0 ≤ a ∧ a ≤ c ∧ c ≤ xs.length ∧ xs.length + ys.length ≤ sizeLine ∧ Q σ (upd H3 l (.lst (xs.take a.toNat ++ ys ++ xs.drop c.toNat)))
mutual
def rdS (Γ : RCx) : RS → TS
  | .asg i e => tAsg (rdE Γ e) (gName i)
  | .asgC i e => tAsg (rdE Γ e) (gName i)
  | .set o ix e => tAsg (rdE Γ e) (gSub (rdE Γ o) (rdE Γ ix) rSetL)
  | .dput o i e => sDPut (rdE Γ o) (rdE Γ i) (rdE Γ e)
  | .drop e => tDrop (rdE Γ e)
  | .ret e => tRet (rdE Γ e)
  | .retN => tRetN
  | .ite c t e => tIfS (rdT Γ c) (rdSs Γ t) (rdSs Γ e)
  | .for1 i k its body => tFor (rdI Γ k its) (gName i) (rdSs Γ body)
  | .forT is k its body => tFor (rdI Γ k its) (gSeq Γ.K is.length (gNames is)) (rdSs Γ body)
  | .whl c body => tWhile (rdT Γ c) (rdSs Γ body)
  | .pass => tNext
  | .brk => tBreak
  | .cont => tCont
  | .never => tNever
  | .setSl o lo hi e => tAsg (rdE Γ e) (gSl (rdE Γ o) (tPart (rdE Γ lo)) (tPart (rdE Γ hi)))
  | .setf o f e => sFld Γ.K (rdE Γ o) (rdE Γ e) f
  | .asgT is e => tAsg (rdE Γ e) (gSeq Γ.K is.length (gNames is))
  | .rais j as => sRaise (Γ.ex j) Γ.E (rdA Γ as)
  | .tryr n i j body su => fun D σ H => ∃ C, Γ.gv j = .ref C ∧ sTry Γ.K C i n (fun E => rdSs { Γ with E := E } body) (fun ea => rdSs { Γ with E := E0, hv := some ea } su) D σ H
def rdSs (Γ : RCx) : List RS → TS
  | [] => tNext
  | s :: r => tSeq (rdS Γ s) (rdSs Γ r)
end
def noSl : Expr → Bool
  | .Slice .. => false | _ => true
def noComp : Expr → Bool
  | .ListComp .. => false | .SetComp .. => false | .DictComp .. => false | _ => true
def swapB (sc : Scope) (x : Str) (line : Nat) (s : Scope) (p : Pos) : Bool :=
  decide (sc.kind = .function) && decide (sc.names.lookup x = some .local) && (line == p.line) && !(s.names.any fun (n, k) => n == x && (k == .local || k == .cell))
structure GoodS (CX : CXT) (S : SCx) (Γ : RCx) (X : Cx) : Prop extends Good CX S Γ X where
  nd : S.N.Nodup
  fnt : ∀ x, X.fn x = true
  own : PassesOwn (model X.prog X.w) X.A X.env X.xe
  fun' : X.env.scope.kind = .function
  rs : ∀ (j : Nat) (x : Str), S.en[j]? = some x → Raises X Γ.E
  stk : X.stack = X.env :: X.outer
  frm : X.env.frame = some X.env.locals
  exn : X.ex = []
  hcx : CX = CXe X.prog X.w
def qV (S : SCx) (i : Nat) (x : Str) : Bool := decide (S.N[i]? = some x) && vis S.sc x && !(x == ("__debug__" : Str)) && !(x == ("__classdict__" : Str))
def kG (S : SCx) (j : Nat) (x : Str) : Bool := decide (S.gn[j]? = some x) && glo S.sc x && !(x == ("__debug__" : Str))
def kF (S : SCx) (j : Nat) (x : Str) : Bool := decide (S.fn[j]? = some x) && glo S.sc x && !(x == ("__debug__" : Str))
def kB (S : SCx) (x y : Str) : Bool := decide (x = y) && glo S.sc x && S.bl.contains x
def kM (o : Expr) (m : Str) (x : Str) (n : Nat) (a c : Pos) : Bool := decide (x = m) && noSuper o && (a.endLine == c.line) && decide (n < 29)
def kL (S : SCx) (i : Nat) (x : Str) : Bool := decide (S.N[i]? = some x) && loc S.sc x
section
variable {CX : CXT} {S : SCx} {Γ : RCx} {X : Cx} {e e2 a b c d : Expr} {es : List Expr} {x : Str} {p q pos : Pos} {r ra rb rc : RE} {rs : List RE} {i j : Nat}
theorem d_v (G : Good CX S Γ X) (h : qV S i x = true) : PE X (.Name x p) (rdE Γ (.v i)) := by
  simp only [qV, Bool.and_eq_true, decide_eq_true_eq, Bool.not_eq_true'] at h
  exact pe_var (by rw [G.N]; exact h.1.1.1) (by rw [G.sc]; exact vis_of h.1.1.2) h.1.2 h.2
theorem d_ci {v : Int} {k : Nat} : PE X (.Constant (.int v) k p) (rdE Γ (.c (.int v))) := pe_int
theorem d_cs {v : Str} {k : Nat} : PE X (.Constant (.str v) k p) (rdE Γ (.c (.str v))) := pe_str
theorem d_cb {v : Bool} {k : Nat} : PE X (.Constant (.bool v) k p) (rdE Γ (.c (.bl v))) := pe_bl
theorem d_cn {k : Nat} : PE X (.Constant .none k p) (rdE Γ (.c .non)) := pe_non
theorem d_g (G : Good CX S Γ X) (h : kG S j x = true) : PE X (.Name x p) (rdE Γ (.g j)) := by
  simp only [kG, Bool.and_eq_true, decide_eq_true_eq, Bool.not_eq_true'] at h
  obtain ⟨u, hm, r⟩ := G.gvs j x h.1.1
  exact pe_glob (G.gl h.1.2) hm r h.2
theorem d_bin {op : Operator} (G : Good CX S Γ X) (ha : PE X a (rdE Γ ra)) (hb : PE X b (rdE Γ rb)) : PE X (.BinOp a op b p) (rdE Γ (.bin op ra rb)) := by
  show PE X _ (tOp (rBin Γ.K op) (rdE Γ ra) (rdE Γ rb))
  rw [← G.K]
  exact pe_op (op_bin op) ha hb
theorem d_neg (ha : PE X a (rdE Γ ra)) : PE X (.UnaryOp .USub a p) (rdE Γ (.neg ra)) := pe_un un_negV ha
theorem d_cmp {op : CmpOp} (G : Good CX S Γ X) (hm : behindInMarks op b = false) (ha : PE X a (rdE Γ ra)) (hb : PE X b (rdE Γ rb)) : PE X (.Compare a [op] [b] p) (rdE Γ (.cmp op ra rb)) := by
  show PE X _ (tOp (rCmp Γ.K op) (rdE Γ ra) (rdE Γ rb))
  rw [← G.K]
  exact pe_cmpR (op_cmp G.units op) ha hb hm
theorem d_cmp2 {op op' : CmpOp} (G : Good CX S Γ X) (hm : lastMarks [op, op'] [b, c] = false) (ha : PE X a (rdE Γ ra)) (hb : PE X b (rdE Γ rb)) (hc : PE X c (rdE Γ rc)) : PE X (.Compare a [op, op'] [b, c] p) (rdE Γ (.cmp2 op op' ra rb rc)) := by
  show PE X _ (tChain (rCmp Γ.K op) (rCmp Γ.K op') (rdE Γ ra) (rdE Γ rb) (rdE Γ rc))
  rw [← G.K]
  exact pe_chain (op_cmp G.units op) (op_cmp G.units op') ha hb hc hm
theorem d_and1 (h : PE X e (rdE Γ r)) : PE X (.BoolOp .And [e] p) (rdE Γ (.and [r])) := pe_one h
theorem d_and {r2 : RE} (h : PE X e (rdE Γ r)) (t : PE X (.BoolOp .And (e2 :: es) p) (rdE Γ (.and (r2 :: rs)))) : PE X (.BoolOp .And (e :: e2 :: es) p) (rdE Γ (.and (r :: r2 :: rs))) := pe_and h t
theorem d_or1 (h : PE X e (rdE Γ r)) : PE X (.BoolOp .Or [e] p) (rdE Γ (.or [r])) := pe_one h
theorem d_or {r2 : RE} (h : PE X e (rdE Γ r)) (t : PE X (.BoolOp .Or (e2 :: es) p) (rdE Γ (.or (r2 :: rs)))) : PE X (.BoolOp .Or (e :: e2 :: es) p) (rdE Γ (.or (r :: r2 :: rs))) := pe_or h t
theorem d_not (G : Good CX S Γ X) (ha : PE X a (rdE Γ ra)) : PE X (.UnaryOp .Not a p) (rdE Γ (.not ra)) := by
  show PE X _ (tNotE Γ.K (rdE Γ ra))
  rw [← G.K]
  exact pe_notE ha
theorem d_ife (hc : PT X c (rdT Γ rc)) (ha : PE X a (rdE Γ ra)) (hb : PE X b (rdE Γ rb)) : PE X (.IfExp c a b p) (rdE Γ (.ife rc ra rb)) := pe_ifExp hc ha hb
theorem d_nil : PA X [] (rdA Γ []) := pa_nil
theorem d_cons (hs : noStar e = true) (h : PE X e (rdE Γ r)) (t : PA X es (rdA Γ rs)) : PA X (e :: es) (rdA Γ (r :: rs)) := pa_cons h t (star_cons hs)
theorem d_call (G : Good CX S Γ X) (h : kF S j x = true) (hn : nst (e :: es) = true) (hA : PA X (e :: es) (rdA Γ (r :: rs))) (hq : S.md = 0 := by rfl) : PE X (.Call (.Name x p) (e :: es) [] pos) (rdE Γ (.call j (r :: rs))) := by
  simp only [kF, Bool.and_eq_true, decide_eq_true_eq, Bool.not_eq_true'] at h
  obtain ⟨k, f, fd, ps, F, hr, hm, hk, hb⟩ := G.fns hq j x h.1.1
  exact pe_call F hr (G.gl h.1.2) hm hk hb .nil G.pass hA h.2 (star_cons (nst_cons hn).1) (stars_of _ _ es (nst_cons hn).2)
theorem d_blt {t : Blt} (G : Good CX S Γ X) (h : kB S x t.nm = true) (hn : nst (e :: es) = true) (hA : PA X (e :: es) (rdA Γ (r :: rs))) (hq : S.md = 0 := by rfl) : PE X (.Call (.Name x p) (e :: es) [] pos) (rdE Γ (.blt t (r :: rs))) := by
  simp only [kB, Bool.and_eq_true, decide_eq_true_eq] at h
  obtain ⟨⟨rfl, h2⟩, h3⟩ := h
  have n1 : t.nm ≠ "__name__" := by cases t <;> decide
  have n2 : (t.nm == ("__debug__" : Str)) = false := by cases t <;> decide
  show PE X _ (tCB (rBlt Γ.K t) (rdA Γ (r :: rs)))
  rw [← G.K]
  cases blt_is (X := X) (G.calm hq) t with
  | fn id hv hc => exact pe_callB hc (G.gl h2) (G.bls _ h3) hv hA n1 n2 (star_cons (nst_cons hn).1) (stars_of _ _ es (nst_cons hn).2)
  | ty T hv hc => exact pe_callTy hc (G.gl h2) (G.bls _ h3) hv hA n1 n2 (star_cons (nst_cons hn).1) (stars_of _ _ es (nst_cons hn).2)
theorem d_isi {T : Ty} {y : Str} (G : Good CX S Γ X) (h : kB S x "isinstance" = true) (h2 : kB S y (Str.ofString T.nm) = true) (hs : noStar a = true) (ha : PE X a (rdE Γ ra)) : PE X (.Call (.Name x p) [a, .Name y q] [] pos) (rdE Γ (.isi T ra)) := by
  simp only [kB, Bool.and_eq_true, decide_eq_true_eq] at h h2
  obtain ⟨⟨rfl, g2⟩, g3⟩ := h
  obtain ⟨⟨rfl, k2⟩, k3⟩ := h2
  exact pe_isi ha hs (G.gl g2) (G.bls _ g3) (G.gl k2) (G.bls _ k3)
/-- isinstance(e, C) of an exception; f(e) within a suite; a built-in class -/
theorem d_isx (G : Good CX S Γ X) (h : kB S x "isinstance" = true) (hn : nst [a, b] = true) (ha : PE X a (rdE Γ ra)) (hb : PE X b (rdE Γ rb)) : PE X (.Call (.Name x p) [a, b] [] pos) (rdE Γ (.isx ra rb)) := by
  simp only [kB, Bool.and_eq_true, decide_eq_true_eq] at h
  obtain ⟨⟨rfl, g2⟩, g3⟩ := h
  show PE X _ (tCB (rIsx Γ.K) (tCons (rdE Γ ra) (tCons (rdE Γ rb) tNil)))
  rw [← G.K]
  exact pe_callB call_isx (G.gl g2) (G.bls _ g3) boot_isi (pa_cons ha (pa_cons hb pa_nil (star_cons (nst_cons (nst_cons hn).2).1)) (star_cons (nst_cons hn).1)) (by decide) (by decide) (star_cons (nst_cons hn).1) (stars_of _ _ _ (nst_cons hn).2)
theorem d_ty {n : String} (G : Good CX S Γ X) (h : kB S x (Str.ofString n) = true) (hv : bootBuiltins (Str.ofString n) = some (.type n)) (h1 : Str.ofString n ≠ "__name__") (h2 : (Str.ofString n == ("__debug__" : Str)) = false) : PE X (.Name x p) (rdE Γ (.c (.ty n))) := by
  simp only [kB, Bool.and_eq_true, decide_eq_true_eq] at h
  obtain ⟨⟨rfl, g2⟩, g3⟩ := h
  exact pe_bltn (G.gl g2) (G.bls _ g3) hv rfl h1 h2
def kH (S : SCx) (j : Nat) (x : Str) : Bool := decide (S.hn[j]? = some x) && glo S.sc x && !(x == ("__debug__" : Str))
theorem d_wrd (G : Good CX S Γ X) (h : kH S j x = true) (hs : noStar a = true) (ha : PE X a (rdE Γ ra)) : PE X (.Call (.Name x p) [a] [] pos) (rdE Γ (.wrd j ra)) := by
  simp only [kH, Bool.and_eq_true, decide_eq_true_eq, Bool.not_eq_true'] at h
  obtain ⟨k, f, fd, ps, F, hr, hm, hk, hb⟩ := G.hsf j x h.1.1
  exact pe_callH F hr (G.gl h.1.2) hm hk hb G.hvo ha hs h.2
theorem d_mth {m : Mth} {o : Expr} {ro : RE} {ap : Pos} (G : Good CX S Γ X) (h : kM o m.nm x (es.length + 1) ap pos = true) (hn : nst (e :: es) = true) (ho : PE X o (rdE Γ ro)) (hA : PA X (e :: es) (rdA Γ (r :: rs))) : PE X (.Call (.Attribute o x ap) (e :: es) [] pos) (rdE Γ (.mth m ro (r :: rs))) := by
  simp only [kM, Bool.and_eq_true, decide_eq_true_eq] at h
  obtain ⟨⟨⟨rfl, h2⟩, h3⟩, h4⟩ := h
  show PE X _ (tMth Γ.K m (rdE Γ ro) (rdA Γ (r :: rs)))
  rw [← G.K]
  exact pe_mth ho hA h2 h3 h4 (star_cons (nst_cons hn).1) (stars_of _ _ es (nst_cons hn).2) (few_of _ _ (e :: es) hn)
theorem plain_of (h : noSl b = true) : PlainIx b := fun o i => by cases b <;> first | rfl | cases h
theorem d_ix (G : Good CX S Γ X) (h : noSl b = true) (ha : PE X a (rdE Γ ra)) (hb : PE X b (rdE Γ rb)) : PE X (.Subscript a b p) (rdE Γ (.ix ra rb)) := by
  show PE X _ (tOp (rIx2 Γ.K Γ.sd) (rdE Γ ra) (rdE Γ rb))
  rw [← G.K]
  exact pe_ix (ix_any G.sds) ha hb (plain_of h)
theorem d_sl {lo hi : Option Expr} {rl rh : Option RE} (G : Good CX S Γ X) (ha : PE X a (rdE Γ ra)) (hl : PO X lo (rdO Γ rl)) (hh : PO X hi (rdO Γ rh)) : PE X (.Subscript a (.Slice lo hi none q) p) (rdE Γ (.sl ra rl rh)) := by
  show PE X _ (tSl (rSl Γ.K) (rdE Γ ra) (rdO Γ rl) (rdO Γ rh))
  rw [← G.K]
  exact pe_slice sl_all ha hl hh
theorem d_no : PO X none (rdO Γ none) := po_none
theorem d_some (ha : PE X a (rdE Γ ra)) : PO X (some a) (rdO Γ (some ra)) := po_some ha
theorem d_tup {k} (hA : PA X es (rdA Γ rs)) : PE X (.Tuple es k p) (rdE Γ (.tup rs)) := pe_tup hA
theorem d_lst (hA : PA X es (rdA Γ rs)) : PE X (.List es p) (rdE Γ (.lst rs)) := pe_lst hA
/-- a block's test -/
def dIfs (CX : CXT) (S : SCx) (Γ : RCx) (cond : Option RE) (ifs : List Expr) : Prop := match cond with
  | none => ifs = []
  | some r => ∃ e0, ifs = [e0] ∧ ∀ X, Good CX S Γ X → PT X e0 (rdT Γ r)
theorem d_if0 : dIfs CX S Γ none [] := rfl
theorem d_if1 (h : ∀ X, Good CX S Γ X → PT X e (rdT Γ r)) : dIfs CX S Γ (some r) [e] := ⟨e, rfl, h⟩
def kC (S : SCx) (tk : Option Nat) (tg iter : Expr) (sc : Scope) (k : IK) (ln : List Str) (fv : List (Str × Nat)) : Bool := decide (tgNames tk tg = some ln) && (decide (k ≠ .zip) || tk.isSome) && compB S ⟨.Constant .none 0 ⟨0, 0, 0, 0⟩, tg, iter, [], sc⟩ ln fv
abbrev cS (S : SCx) (sc : Scope) (ln : List Str) (fv : List (Str × Nat)) : SCx := { S with N := ln ++ fv.map (·.1), sc := relabelS sc S.sc, en := [], md := if S.md = 0 then 0 else 2 }
theorem d_comp {tk : Option Nat} {fv : List (Str × Nat)} {k : IK} {its : List RE} {cond : Option RE} {elt : RE} {el tg iter : Expr} {ifs : List Expr} {sc : Scope} {ln : List Str} (G : Good CX S Γ X) (h : kC S tk tg iter sc k ln fv = true) (hi : PI X tg iter (rdI Γ k its))
    (hc : dIfs CX (cS S sc ln fv) Γ.calm cond ifs) (he : ∀ X, Good CX (cS S sc ln fv) Γ.calm X → PE X el (rdE Γ.calm elt)) (hq : S.md = 0 := by rfl) : PE X (.ListComp el [⟨tg, iter, ifs, 0⟩] sc p) (rdE Γ (.comp tk fv k its cond elt)) := by
  simp only [kC, Bool.and_eq_true, decide_eq_true_eq] at h
  obtain ⟨⟨h1, h2⟩, h3⟩ := h
  obtain ⟨o1, o2, o3, o4⟩ := CompB_ok (c := ⟨.Constant .none 0 ⟨0, 0, 0, 0⟩, tg, iter, [], sc⟩) G h3
  show PE X _ (tComp Γ.K (rdI Γ k its) tk fv (rdC Γ.calm cond) (rdE Γ.calm elt))
  rw [← G.K]
  refine pe_comp o1 (G.calm hq) hi (tgt_ok (c := ⟨.Constant .none 0 ⟨0, 0, 0, 0⟩, tg, iter, [], sc⟩) (G.calm hq) h1 o2 o3) ?_ (fun ex C s H => he _ (G.inner ⟨.Constant .none 0 ⟨0, 0, 0, 0⟩, tg, iter, [], sc⟩ ln fv ex C s H)) (set_of o4)
  cases cond with
  | none => exact hc
  | some r =>
    obtain ⟨e0, q, hq⟩ := hc
    exact ⟨e0, q, fun ex C s H => hq _ (G.inner ⟨.Constant .none 0 ⟨0, 0, 0, 0⟩, tg, iter, [], sc⟩ ln fv ex C s H)⟩
/-! tests -/
theorem t_not (h : PT X a (rdT Γ ra)) : PT X (.UnaryOp .Not a p) (rdT Γ (.not ra)) := pt_not h
theorem t_and1 (h : PT X e (rdT Γ r)) : PW X (.BoolOp .And [e] p) (rdT Γ (.and [r])) := pw_and1 h
theorem t_and {r2 : RE} (h : PT X e (rdT Γ r)) (t : PW X (.BoolOp .And (e2 :: es) p) (rdT Γ (.and (r2 :: rs)))) : PW X (.BoolOp .And (e :: e2 :: es) p) (rdT Γ (.and (r :: r2 :: rs))) := pw_and h t
theorem t_or1 (h : PT X e (rdT Γ r)) : PW X (.BoolOp .Or [e] p) (rdT Γ (.or [r])) := pw_or1 h
theorem t_or {r2 : RE} (h : PT X e (rdT Γ r)) (t : PW X (.BoolOp .Or (e2 :: es) p) (rdT Γ (.or (r2 :: rs)))) : PW X (.BoolOp .Or (e :: e2 :: es) p) (rdT Γ (.or (r :: r2 :: rs))) := pw_or h t
theorem t_cmp {op : CmpOp} (G : Good CX S Γ X) (hm : behindInMarks op b = false) (ha : PE X a (rdE Γ ra)) (hb : PE X b (rdE Γ rb)) : PT X (.Compare a [op] [b] p) (rdT Γ (.cmp op ra rb)) := by
  show PT X _ (tTest (tOp (rCmp Γ.K op) (rdE Γ ra) (rdE Γ rb)))
  rw [← G.K]
  exact pt_cmpR (op_cmp G.units op) ha hb hm
theorem t_cmp2 {op op' : CmpOp} (G : Good CX S Γ X) (hm : lastMarks [op, op'] [b, c] = false) (ha : PE X a (rdE Γ ra)) (hb : PE X b (rdE Γ rb)) (hc : PE X c (rdE Γ rc)) : PT X (.Compare a [op, op'] [b, c] p) (rdT Γ (.cmp2 op op' ra rb rc)) := by
  show PT X _ (tTest (tChain (rCmp Γ.K op) (rCmp Γ.K op') (rdE Γ ra) (rdE Γ rb) (rdE Γ rc)))
  rw [← G.K]
  exact pt_chain (op_cmp G.units op) (op_cmp G.units op') ha hb hc hm
theorem t_v (G : Good CX S Γ X) (h : PE X (.Name x p) (rdE Γ (.v i))) : PT X (.Name x p) (rdT Γ (.v i)) := by
  show PT X _ (tTru Γ.K (rdE Γ (.v i)))
  rw [← G.K]
  exact pt_tru h fun _ => rfl
theorem t_call (G : Good CX S Γ X) (h : PE X (.Call a es [] p) (rdE Γ (.call j rs))) : PT X (.Call a es [] p) (rdT Γ (.call j rs)) := by
  show PT X _ (tTru Γ.K (rdE Γ (.call j rs)))
  rw [← G.K]
  exact pt_tru h fun _ => rfl
theorem t_isx (G : Good CX S Γ X) (h : PE X (.Call a es [] p) (rdE Γ (.isx ra rb))) : PT X (.Call a es [] p) (rdT Γ (.isx ra rb)) := by
  show PT X _ (tTru Γ.K (rdE Γ (.isx ra rb)))
  rw [← G.K]
  exact pt_tru h fun _ => rfl
theorem t_isi {T : Ty} (G : Good CX S Γ X) (h : PE X (.Call a es [] p) (rdE Γ (.isi T ra))) : PT X (.Call a es [] p) (rdT Γ (.isi T ra)) := by
  show PT X _ (tTru Γ.K (rdE Γ (.isi T ra)))
  rw [← G.K]
  exact pt_tru h fun _ => rfl
theorem t_ix (G : Good CX S Γ X) (h : PE X (.Subscript a b p) (rdE Γ (.ix ra rb))) : PT X (.Subscript a b p) (rdT Γ (.ix ra rb)) := by
  show PT X _ (tTru Γ.K (rdE Γ (.ix ra rb)))
  rw [← G.K]
  exact pt_tru h fun _ => rfl
/-! iterables -/
theorem i_tup {tg : Expr} (G : Good CX S Γ X) (ha : PE X a (rdE Γ ra)) : PI X tg a (rdI Γ .tup [ra]) := by
  show PI X tg a (iTup Γ.K (rdE Γ ra))
  rw [← G.K]
  exact pi_tup ha
theorem i_rng {tg : Expr} (G : Good CX S Γ X) (h : kB S x "range" = true) (hs : noStar a = true) (ha : PE X a (rdE Γ ra)) : PI X tg (.Call (.Name x p) [a] [] pos) (rdI Γ .rng [ra]) := by
  simp only [kB, Bool.and_eq_true, decide_eq_true_eq] at h
  obtain ⟨⟨rfl, h2⟩, h3⟩ := h
  exact pi_range1 (G.gl h2) (G.bls _ h3) (pa_cons ha pa_nil (star_cons hs)) (star_cons hs)
end
/-! rows -/
section
variable {CX : CXT} {S : SCx} {Γ : RCx} {X : Cx} {e a b c v : Expr} {es : List Expr} {x : Str} {p q pos : Pos} {r ra rb rc : RE} {i j : Nat} {st : Stmt} {sts : List Stmt} {s : RS} {ss t u : List RS}
theorem swaps_no {v : Expr} {t : Option Expr} {l : Nat} {env : Env} (h : noComp v = true) : swapsWith v t l env = pure false := by
  cases v <;> first | rfl | cases h
theorem swaps_cell {v : Expr} {x : Str} {p : Pos} {l : Nat} {env : Env} (h : env.kindOf x = some .cell) : swapsWith v (some (.Name x p)) l env = pure false := by
  cases v <;> first
    | rfl
    | (unfold swapsWith; simp only [h]; have q : (some NameKind.cell == some NameKind.local) = false := rfl; simp only [q, Bool.and_false, Bool.false_and])
theorem GoodS.name (G : GoodS CX S Γ X) (h : kL S i x = true) : PG X (.Name x p) (gName i) := by
  simp only [kL, Bool.and_eq_true, decide_eq_true_eq] at h
  exact pg_name (by rw [G.N]; exact G.nd) (by rw [G.N]; exact h.1) (by rw [G.sc]; exact loc_of h.2) (.inl (G.fnt x))
theorem s_nil : PSs X [] (rdSs Γ []) := pss_nil
theorem s_cons (h : PS X st (rdS Γ s)) (t : PSs X sts (rdSs Γ ss)) : PSs X (st :: sts) (rdSs Γ (s :: ss)) := pss_cons h t
theorem s_asg (G : GoodS CX S Γ X) (h : kL S i x = true) (hc : (noComp v || decide (S.sc.names.lookup x = some .cell)) = true) (he : PE X v (rdE Γ r)) : PS X (.Assign [.Name x p] v q) (rdS Γ (.asg i r)) := by
  simp only [kL, Bool.and_eq_true, decide_eq_true_eq, Bool.or_eq_true] at h hc
  refine ps_set (by rw [G.N]; exact G.nd) (by rw [G.N]; exact h.1) (by rw [G.sc]; exact loc_of h.2) he ?_ (.inl (G.fnt x))
  rcases hc with h4 | h4
  · exact swaps_no h4
  · exact swaps_cell (by show X.env.scope.names.lookup x = _; rw [G.sc]; exact h4)
/-- y = [.. for a, b in a list if ..] in a def that suites call -/
theorem s_asgCH {fv : List (Str × Nat)} {cond : Option RE} {elt : RE} {el iter : Expr} {ifs : List Expr} {sc : Scope} {n1 n2 : Str} {p1 p2 tp : Pos} {kt} {pc : Pos} (G : GoodS CX S Γ X) (h0 : kL S i x = true) (hs : swapB S.sc x p.line sc pc = true) (h : kC S (some 2) (.Tuple [.Name n1 p1, .Name n2 p2] kt tp) iter sc .list [n1, n2] fv = true) (hi : PE X iter (rdE Γ ra))
    (hc : dIfs CX (cS S sc [n1, n2] fv) Γ.calm cond ifs) (he : ∀ X, Good CX (cS S sc [n1, n2] fv) Γ.calm X → PE X el (rdE Γ.calm elt)) (hq : S.md = 1 := by rfl) : PS X (.Assign [.Name x p] (.ListComp el [⟨.Tuple [.Name n1 p1, .Name n2 p2] kt tp, iter, ifs, 0⟩] sc pc) q) (rdS Γ (.asgC i (.comp (some 2) fv .list [ra] cond elt))) := by
  simp only [kC, kL, swapB, Bool.and_eq_true, decide_eq_true_eq, beq_iff_eq, Bool.not_eq_true'] at h h0 hs
  obtain ⟨⟨h1, h2⟩, h3⟩ := h
  obtain ⟨o1, o2, o3, o4⟩ := CompB_ok (c := ⟨.Constant .none 0 ⟨0, 0, 0, 0⟩, .Tuple [.Name n1 p1, .Name n2 p2] kt tp, iter, [], sc⟩) G.toGood h3
  show PS X _ (tAsg (tComp Γ.K (iList Γ.K (rdE Γ ra)) (some 2) fv (rdC Γ.calm cond) (rdE Γ.calm elt)) (gName i))
  rw [← G.K]
  have hH : Hd X := G.hdo hq
  refine ps_setCompP (Φ := Hd) (Ψ := HdAt X.A) (by rw [G.N]; exact G.nd) (by rw [G.N]; exact h0.1) (by rw [G.sc]; exact loc_of h0.2) ?_ o1 hd_comp (fun _ _ _ _ I => hH.at I) (pi_listH hi) (tgt_twoH (o2 n1 (by simp)) (o2 n2 (by simp)) o3) ?_ (fun ex C s H => he _ (G.toGood.inner ⟨.Constant .none 0 ⟨0, 0, 0, 0⟩, .Tuple [.Name n1 p1, .Name n2 p2] kt tp, iter, [], sc⟩ [n1, n2] fv ex C s H)) (set_of o4) (.inl (G.fnt x))
  · have e1 : X.env.kindOf x = some .local := by show X.env.scope.names.lookup x = _; rw [G.sc]; exact hs.1.1.2
    have e2 : X.env.blockKind = .function := by unfold Env.blockKind; rw [G.fun']; rfl
    unfold swapsWith
    simp only [e1, e2, hs.1.2, hs.2]
    show pure (true && true && (pc.line == pc.line) && !false) = pure true
    rw [beq_self_eq_true]; rfl
  · cases cond with
    | none => exact hc
    | some r =>
      obtain ⟨e0, q, hq⟩ := hc
      exact ⟨e0, q, fun ex C s H => hq _ (G.toGood.inner ⟨.Constant .none 0 ⟨0, 0, 0, 0⟩, .Tuple [.Name n1 p1, .Name n2 p2] kt tp, iter, [], sc⟩ [n1, n2] fv ex C s H)⟩
theorem s_drop (h : noComp v = true) (he : PE X v (rdE Γ r)) : PS X (.Expr v p) (rdS Γ (.drop r)) := ps_expr he (swaps_no h)
theorem s_ret (he : PE X v (rdE Γ r)) : PS X (.Return (some v) p) (rdS Γ (.ret r)) := ps_ret he
theorem s_ite {as bs : List Stmt} (hc : PT X c (rdT Γ rc)) (ha : PSs X as (rdSs Γ t)) (hb : PSs X bs (rdSs Γ u)) : PS X (.If c as bs p) (rdS Γ (.ite rc t u)) := ps_if hc ha hb
theorem s_for1 {k : IK} {its : List RE} {iter : Expr} {as : List Stmt} (G : GoodS CX S Γ X) (h : kL S i x = true) (hs : noSet iter = true) (hi : PI X (.Name x p) iter (rdI Γ k its)) (ha : PSs X as (rdSs Γ t)) (hq : S.md = 0 := by rfl) : PS X (.For (.Name x p) iter as [] q) (rdS Γ (.for1 i k its t)) :=
  ps_for G.own (G.calm hq) hi (G.name h) ha (set_of hs)
/-- raise C(..) -/
def kX (S : SCx) (j : Nat) (x : Str) : Bool := decide (S.en[j]? = some x) && glo S.sc x && !(x == ("__debug__" : Str))
theorem s_raise {rs : List RE} {np cpos : Pos} (G : GoodS CX S Γ X) (h : kX S j x = true) (hn : nst (e :: es) = true) (hA : PA X (e :: es) (rdA Γ (r :: rs))) (hq : S.md = 0 := by rfl) : PS X (.Raise (some (.Call (.Name x np) (e :: es) [] cpos)) none pos) (rdS Γ (.rais j (r :: rs))) := by
  simp only [kX, Bool.and_eq_true, decide_eq_true_eq, Bool.not_eq_true'] at h
  obtain ⟨bm, B, newId, initId, O, FB⟩ := G.exs j x h.1.1
  exact ps_raise (G.calm hq) O FB (G.gl h.1.2) h.2 hA (star_cons (nst_cons hn).1) (stars_of _ _ es (nst_cons hn).2) (G.rs j x h.1.1)
/-- the context of a try's body, of an except suite -/
abbrev tS (S : SCx) : SCx := { S with en := [] }
abbrev hS (S : SCx) : SCx := { S with en := [], md := 2 }
theorem GoodS.tried (G : GoodS CX S Γ X) (pn : List (Addr × Obj)) (xe : Value → Shared → Prop) (E : XK) (ho : PassesOwn (model X.prog X.w) X.A X.env xe) (hp : Passes (CXe X.prog X.w) (X.alt X.A X.calm pn xe) E) :
    GoodS CX (tS S) { Γ with E := E } (X.alt X.A X.calm pn xe) :=
  { N := G.N, sc := G.sc, K := G.K, calm := G.calm, units := G.units, fns := G.fns, gvs := G.gvs, bls := G.bls, pass := by rw [G.hcx]; exact hp, noE := G.noE, sds := G.sds, mts := G.mts, mks := G.mks,
    exs := fun _ _ h => (by simp at h), hsf := G.hsf, hvo := G.hvo, hdo := G.hdo, nd := G.nd, fnt := G.fnt, own := ho, fun' := G.fun', rs := fun _ _ h => (by simp at h), stk := G.stk, frm := G.frm, exn := G.exn, hcx := G.hcx }
theorem GoodS.held (G : GoodS CX S Γ X) (ea : Addr) (pn : List (Addr × Obj)) :
    GoodS CX (hS S) { Γ with E := E0, hv := some ea } (X.alt (X.A.mark (some (.ref ea))) false pn fun _ _ => False) :=
  { N := G.N, sc := G.sc, K := G.K, calm := fun h => (nomatch h), units := G.units, fns := fun h => (nomatch h), gvs := G.gvs, bls := G.bls, pass := fun _ _ _ _ _ _ _ h => (G.noE _ _ _ _ _ h).elim, noE := G.noE, sds := G.sds, mts := fun h => (nomatch h), mks := fun h => (nomatch h),
    exs := fun _ _ h => (by simp at h), hsf := fun j x h => (by
      obtain ⟨k, f, fd, ps, F, r, m⟩ := G.hsf j x h
      exact ⟨k, f, fd, ps, F, r.mark _, m⟩),
    hvo := fun e h => (by cases h; rfl), hdo := fun h => (nomatch h), nd := G.nd, fnt := G.fnt, own := PassesOwn.never, fun' := G.fun', rs := fun _ _ h => (by simp at h), stk := G.stk, frm := G.frm, exn := G.exn, hcx := G.hcx }
/-- try: ..; except C as y: .. -/
theorem s_try {n : Nat} {y : Str} {np hpos : Pos} {body su : List Stmt} {b₀ : Stmt} {rb rsu : List RS} (G : GoodS CX S Γ X) (h : kG S j x = true) (hn : (decide (S.N.length = n) && decide (S.N[i]? = some y) && decide (S.sc.names.lookup y = some .local)) = true)
    (hb : ∀ {Γ : RCx} {X : Cx}, GoodS CX (tS S) Γ X → PSs X body (rdSs Γ rb)) (hs : ∀ {Γ : RCx} {X : Cx}, GoodS CX (hS S) Γ X → PSs X (b₀ :: su) (rdSs Γ rsu)) :
    PS X (.Try body [.ExceptHandler (some (.Name x np)) (some y) (b₀ :: su) hpos] [] [] pos) (rdS Γ (.tryr n i j rb rsu)) := by
  simp only [kG, Bool.and_eq_true, decide_eq_true_eq, Bool.not_eq_true'] at h hn
  obtain ⟨u, hm, hu⟩ := G.gvs j x h.1.1
  intro pins s σ H D I q
  obtain ⟨C, e, q⟩ := (show ∃ C, Γ.gv j = .ref C ∧ sTry Γ.K C i n (fun E => rdSs { Γ with E := E } rb) (fun ea => rdSs { Γ with E := E0, hv := some ea } rsu) D σ H from q)
  rw [e] at hu
  have hu' : u = .ref C := hu
  subst hu'
  have hl : X.N.length = n := by rw [G.N]; exact hn.1.1
  have q' : sTry X.K C i X.N.length (fun E => rdSs { Γ with E := E } rb) (fun ea => rdSs { Γ with E := E0, hv := some ea } rsu) D σ H := by rw [G.K, hl]; exact q
  exact ps_try (tb := fun E => rdSs { Γ with E := E } rb) (th := fun ea => rdSs { Γ with E := E0, hv := some ea } rsu) G.stk G.frm G.exn (G.gl h.1.2) h.2 hm (by rw [G.N]; exact G.nd) (by rw [G.N]; exact hn.1.2) (by rw [G.sc]; exact hn.2)
    (fun pn xe E ho hp => hb (G.tried pn xe E ho hp)) (fun ea pn => hs (G.held ea pn)) pins s σ H D I q'
end
end L2
set_option maxRecDepth 100000
set_option maxHeartbeats 4000000
namespace L2
open PySem PySem.Spec PyProof.Rows
/-! ### a def by its reading -/
section
variable {P : Program} {w : World} {K : PySem.W.Frag} {mg : Str → Option Value} {base : Heap}
/-- the def called x keeps the promise sp, k calls deep at the most -/
def FnT (P : Program) (w : World) (K : PySem.W.Frag) (mg : Str → Option Value) (base : Heap) (k : Nat) (x : Str) (sp : Sp) : Prop :=
  ∃ f fd ps, FnOk P w K mg base (CXe P w) k f fd ps sp ∧ mg x = some (.ref f) ∧ PySem.W.keepIn K (.ref f) = true ∧ Binds K fd ps []
theorem FnT.mono {j k : Nat} {x : Str} {sp : Sp} (h : FnT P w K mg base j x sp) (hk : j ≤ k) : FnT P w K mg base k x sp := by
  obtain ⟨f, fd, ps, F, r⟩ := h
  exact ⟨f, fd, ps, F.mono hk, r⟩
def spAt (tab : List (Str × Sp)) (j : Nat) : Sp := match tab[j]? with
  | some p => p.2
  | none => fun _ _ _ _ => False
def gvAt (tab : List (Str × V)) (j : Nat) : V := match tab[j]? with
  | some p => p.2
  | none => .non
structure GvT (mg : Str → Option Value) (p : Str × V) : Prop where
  ex : ∃ u, mg p.1 = some u ∧ RelV p.2 u
def mtAt (tab : List (Str × Addr × Sp)) (j : Nat) : Addr × Sp := match tab[j]? with
  | some p => p.2
  | none => (0, fun _ _ _ _ => False)
def exAt (tab : List (Str × Addr)) (j : Nat) : Addr := match tab[j]? with
  | some p => p.2
  | none => 0
abbrev rcx (K : PySem.W.Frag) (tab : List (Str × Sp)) (gt : List (Str × V)) (dk : List (Addr × List (Key × V)) := []) (mt kt : List (Str × Addr × Sp) := []) (et : List (Str × Addr) := []) (ht : List (Str × Sp) := []) (E : XK := E0) : RCx :=
  { K := K, fs := spAt tab, gv := gvAt gt, E := E, sd := fun p kvs => (p, kvs) ∈ dk, ms := mtAt mt, kt := mtAt kt, ex := exAt et, hs := spAt ht, hv := none }
/-- a method; a class that is made -/
def MtT (P : Program) (w : World) (K : PySem.W.Frag) (mg : Str → Option Value) (base : Heap) (k : Nat) (p : Str × Addr × Sp) : Prop :=
  Cls K p.2.1 ∧ ∃ f fd ps, Meth K p.2.1 p.1 f ∧ FnOk P w K mg base (CXe P w) k f fd ps p.2.2 ∧ Binds K fd ps []
def MkT (P : Program) (w : World) (K : PySem.W.Frag) (mg : Str → Option Value) (base : Heap) (k : Nat) (p : Str × Addr × Sp) : Prop :=
  ∃ j f fd ps, j + 1 ≤ k ∧ Mk K p.2.1 f ∧ FnOk P w K mg base (CXe P w) j f fd ps p.2.2 ∧ mg p.1 = some (.ref p.2.1) ∧ Binds K fd ps []
/-- a dict of the module's -/
def DkT (P : Program) (w : World) (K : PySem.W.Frag) (q : Addr × List (Key × V)) : Prop := ∀ h : Heap, K.In h → ∃ vs, KV q.2 vs ∧ h.DictOf (mixKind P w) q.1 vs
abbrev scx (N : List Str) (sc : Scope) (tab : List Str) (gt : List Str) (bl : List Str) (mn kn : List Str := []) (en hn : List Str := []) (md : Nat := 0) : SCx := { N := N, sc := sc, fn := tab, gn := gt, bl := bl, mn := mn, kn := kn, en := en, hn := hn, md := md }
/-- a class of exceptions that is raised; a def that suites call -/
def ExT (mg : Str → Option Value) (base : Heap) (p : Str × Addr) : Prop := ∃ bm B newId initId, OwnCls p.1 p.2 bm newId mg base ∧ ExcBaseFacts B newId initId bm
def FnTH (P : Program) (w : World) (K : PySem.W.Frag) (mg : Str → Option Value) (base : Heap) (k : Nat) (x : Str) (sp : Sp) : Prop :=
  ∃ f fd ps, FnOkH P w K mg base k f fd ps sp ∧ mg x = some (.ref f) ∧ PySem.W.keepIn K (.ref f) = true ∧ Binds K fd ps []
theorem FnTH.mono {P : Program} {w : World} {K : PySem.W.Frag} {mg : Str → Option Value} {base : Heap} {j k : Nat} {x : Str} {sp : Sp} (h : FnTH P w K mg base j x sp) (hk : j ≤ k) : FnTH P w K mg base k x sp := by
  obtain ⟨f, fd, ps, F, r⟩ := h
  exact ⟨f, fd, ps, F.mono hk, r⟩
theorem def_fnX {x qual : Str} {st : Stmt} {f : Addr} {fd : FuncData} {N ps : List Str} {k : Nat} {sp : Sp} (F : Fun K x qual st f fd) (S : FnScope N ps (defScope st))
    (tab : List (Str × Sp)) (gt : List (Str × V)) (bl : List Str) (mt kt : List (Str × Addr × Sp)) (et : List (Str × Addr)) (ht : List (Str × Sp)) (body : List RS)
    (hm : ∀ {CX : CXT} {Γ : RCx} {X : Cx}, GoodS CX (scx N (defScope st) (tab.map (·.1)) (gt.map (·.1)) bl (mt.map (·.1)) (kt.map (·.1)) (et.map (·.1)) (ht.map (·.1))) Γ X → PSs X (defBody st) (rdSs Γ body))
    (hfs : ∀ p ∈ tab, FnT P w K mg base k p.1 p.2) (hgs : ∀ p ∈ gt, GvT mg p) (hbl : ∀ y ∈ bl, mg y = none) (dk : List (Addr × List (Key × V))) (hdk : ∀ q ∈ dk, DkT P w K q)
    (hmt : ∀ p ∈ mt, MtT P w K mg base k p) (hkt : ∀ p ∈ kt, MkT P w K mg base k p) (het : ∀ p ∈ et, ExT mg base p) (hht : ∀ p ∈ ht, FnTH P w K mg base k p.1 p.2)
    (len : ∀ vs H Q E, sp vs H Q E → vs.length = ps.length)
    (hread : ∀ vs H Q E, sp vs H Q E → rdSs (rcx K tab gt dk mt kt et ht E) body { nx := fun _ H' => Q .non H', rt := Q } (start N vs) H) : FnOk P w K mg base (CXe P w) (k + 1) f fd ps sp := by
  obtain ⟨oc, od, kV, doc, pm, an, cdv, ct, osl, rfl, lk, hcd⟩ := F.ex
  refine fn_of lk hcd S len fun A outer s H vs Q E hr hsp => ⟨_, hm (CX := CXe P w) (Γ := rcx K tab gt dk mt kt et ht E) ?_, hread vs H Q E hsp⟩
  refine { N := rfl, sc := rfl, K := rfl, calm := fun _ => rfl, units := hr.units, fns := fun _ j y hj => ?_, gvs := fun j y hj => ?_, bls := fun y hy => ?_, pass := passE, noE := fun _ _ _ _ _ h => cxe_none h, sds := fun p kvs h => hdk _ h, mts := fun _ j y hj => ?_, mks := fun _ j y hj => ?_, exs := fun j y hj => ?_, hsf := fun j y hj => ?_, hvo := fun _ h => (nomatch h), hdo := fun h => (nomatch h), nd := S.nd, fnt := fun _ => rfl, own := PassesOwn.leaving, fun' := S.kind, rs := fun _ _ _ => raiseE, stk := rfl, frm := rfl, exn := rfl, hcx := rfl }
  · have hj' : (tab.map (·.1))[j]? = some y := hj
    rw [List.getElem?_map] at hj'
    cases q : tab[j]? with
    | none => rw [q] at hj'; cases hj'
    | some p =>
      rw [q] at hj'
      have e : p.1 = y := Option.some.inj hj'
      obtain ⟨f', fd', ps', F', m', k', b'⟩ := hfs p (List.mem_of_getElem? q)
      have es : spAt tab j = p.2 := by unfold spAt; rw [q]
      show FnFor (CXe P w) _ y (spAt tab j)
      rw [es, ← e]
      exact ⟨k, f', fd', ps', F', hr, m', k', b'⟩
  · have hj' : (gt.map (·.1))[j]? = some y := hj
    rw [List.getElem?_map] at hj'
    cases q : gt[j]? with
    | none => rw [q] at hj'; cases hj'
    | some p =>
      rw [q] at hj'
      have e : p.1 = y := Option.some.inj hj'
      obtain ⟨u, h1, h2⟩ := (hgs p (List.mem_of_getElem? q)).ex
      have es : gvAt gt j = p.2 := by unfold gvAt; rw [q]
      show ∃ u, mg y = some u ∧ RelV (gvAt gt j) u
      rw [es, ← e]
      exact ⟨u, h1, h2⟩
  · exact hbl y (by simpa using hy)
  · have hj' : (mt.map (·.1))[j]? = some y := hj
    rw [List.getElem?_map] at hj'
    cases q : mt[j]? with
    | none => rw [q] at hj'; cases hj'
    | some p =>
      rw [q] at hj'
      have e : p.1 = y := Option.some.inj hj'
      obtain ⟨c, f', fd', ps', m', F', b'⟩ := hmt p (List.mem_of_getElem? q)
      have es : mtAt mt j = p.2 := by unfold mtAt; rw [q]
      show MtFor (CXe P w) _ (mtAt mt j).1 y (mtAt mt j).2
      rw [es, ← e]
      exact ⟨c, k, f', fd', ps', m', F', hr, b'⟩
  · have hj' : (kt.map (·.1))[j]? = some y := hj
    rw [List.getElem?_map] at hj'
    cases q : kt[j]? with
    | none => rw [q] at hj'; cases hj'
    | some p =>
      rw [q] at hj'
      have e : p.1 = y := Option.some.inj hj'
      obtain ⟨i, f', fd', ps', hi, m', F', g', b'⟩ := hkt p (List.mem_of_getElem? q)
      have es : mtAt kt j = p.2 := by unfold mtAt; rw [q]
      show MkFor (CXe P w) _ y (mtAt kt j).1 (mtAt kt j).2
      rw [es, ← e]
      exact ⟨i, f', fd', ps', m', F', hr.mono hi, g', b'⟩
  · have hj' : (et.map (·.1))[j]? = some y := hj
    rw [List.getElem?_map] at hj'
    cases q : et[j]? with
    | none => rw [q] at hj'; cases hj'
    | some p =>
      rw [q] at hj'
      have e : p.1 = y := Option.some.inj hj'
      have es : exAt et j = p.2 := by unfold exAt; rw [q]
      show ExFor _ y (exAt et j)
      rw [es, ← e]
      exact het p (List.mem_of_getElem? q)
  · have hj' : (ht.map (·.1))[j]? = some y := hj
    rw [List.getElem?_map] at hj'
    cases q : ht[j]? with
    | none => rw [q] at hj'; cases hj'
    | some p =>
      rw [q] at hj'
      have e : p.1 = y := Option.some.inj hj'
      obtain ⟨f', fd', ps', F', m', k', b'⟩ := hht p (List.mem_of_getElem? q)
      have es : spAt ht j = p.2 := by unfold spAt; rw [q]
      show FnForH _ y (spAt ht j)
      rw [es, ← e]
      exact ⟨k, f', fd', ps', F', hr.h, m', k', b'⟩
section
variable {x qual : Str} {st : Stmt} {f C : Addr} {fd : FuncData} {N ps : List Str} {k : Nat} {sp : Sp}
end
/-- a promise that nobody asks -/
theorem fn_never {x qual : Str} {st : Stmt} {f : Addr} {fd : FuncData} {N ps : List Str} {k : Nat} {sp : Sp} (F : Fun K x qual st f fd) (S : FnScope N ps (defScope st)) (hmg : mg x = some (.ref f)) (hb : Binds K fd ps [])
    (no : ∀ vs H Q E, ¬ sp vs H Q E) : FnT P w K mg base (k + 1) x sp :=
  by
  obtain ⟨oc, od, kV, doc, pm, an, cdv, ct, osl, rfl, lk, hcd⟩ := F.ex
  exact ⟨f, _, ps, fn_of lk hcd S (fun vs H Q E h => (no vs H Q E h).elim) (fun A outer s H vs Q E hr h => (no vs H Q E h).elim), hmg, F.kp, hb⟩
end
section
variable {P : Program} {w : World} {K : PySem.W.Frag} {mg : Str → Option Value} {base : Heap} {x qual : Str} {st : Stmt} {f : Addr} {fd : FuncData} {N ps : List Str} {k : Nat} {sp : Sp}
/-- a def that suites call -/
theorem def_okH (F : Fun K x qual st f fd) (S : FnScope N ps (defScope st)) (hmg : mg x = some (.ref f)) (hb : Binds K fd ps [])
    (gt : List (Str × V)) (bl : List Str) (body : List RS)
    (hm : ∀ {CX : CXT} {Γ : RCx} {X : Cx}, GoodS CX (scx N (defScope st) [] (gt.map (·.1)) bl (md := 1)) Γ X → PSs X (defBody st) (rdSs Γ body))
    (hgs : ∀ p ∈ gt, GvT mg p) (hbl : ∀ y ∈ bl, mg y = none) (len : ∀ vs H Q E, sp vs H Q E → vs.length = ps.length)
    (hread : ∀ vs H Q, sp vs H Q E0 → rdSs (rcx K [] gt) body { nx := fun _ H' => Q .non H', rt := Q } (start N vs) H) : FnTH P w K mg base (k + 1) x sp := by
  obtain ⟨oc, od, kV, doc, pm, an, cdv, ct, osl, rfl, lk, hcd⟩ := F.ex
  refine ⟨f, _, ps, fn_ofH (CX := CXe P w) lk hcd S len fun A outer s H vs Q hr hh hsp => ⟨_, hm (CX := CXe P w) (Γ := rcx K [] gt) ?_, hread vs H Q hsp⟩, hmg, F.kp, hb⟩
  refine { N := rfl, sc := rfl, K := rfl, calm := fun h => (nomatch h), units := hr.units, fns := fun h => (nomatch h), gvs := fun j y hj => ?_, bls := fun y hy => ?_, pass := fun _ _ _ _ _ _ _ h => (cxe_none h).elim, noE := fun _ _ _ _ _ h => cxe_none h, sds := fun p kvs h => (nomatch h), mts := fun h => (nomatch h), mks := fun h => (nomatch h), exs := fun j y hj => (nomatch hj), hsf := fun j y hj => (nomatch hj), hvo := fun _ h => (nomatch h), hdo := fun _ => hd_cxOfH hh, nd := S.nd, fnt := fun _ => rfl, own := PassesOwn.never, fun' := S.kind, rs := fun _ _ hj => (nomatch hj), stk := rfl, frm := rfl, exn := rfl, hcx := rfl }
  · have hj' : (gt.map (·.1))[j]? = some y := hj
    rw [List.getElem?_map] at hj'
    cases q : gt[j]? with
    | none => rw [q] at hj'; cases hj'
    | some p =>
      rw [q] at hj'
      have e : p.1 = y := Option.some.inj hj'
      obtain ⟨u, h1, h2⟩ := (hgs p (List.mem_of_getElem? q)).ex
      have es : gvAt gt j = p.2 := by unfold gvAt; rw [q]
      show ∃ u, mg y = some u ∧ RelV (gvAt gt j) u
      rw [es, ← e]
      exact ⟨u, h1, h2⟩
  · exact hbl y (by simpa using hy)
/-- at the top no exception is wanted -/
theorem FnOk.top {k : Nat} (F : FnOk P w K mg base (CXe P w) k f fd ps sp) : FnOk P w K mg base CX0 k f fd ps (fun vs H Q _ => sp vs H Q E0) :=
  ⟨fun vs H Q E h => F.len vs H Q E0 h, fun A outer s H args us vs Q E hr e0 hb hv hs => codeAny_mono (F.run A outer s H args us vs Q E0 hr e0 hb hv hs) fun r s' h => by
    cases r with
    | error e => exact (cxe_none h).elim
    | ok fl => cases fl <;> exact h⟩
end
/-! ### steps of a reading -/
section
variable {Γ : RCx} {D : Ends} {σ : St} {H : Hp} {r : List RS} {Q : VK}
theorem rd_asg {i : Nat} {e : RE} (h : rdE Γ e σ H fun x H1 => rdSs Γ r D (σ.set i (some x)) H1) : rdSs Γ (.asg i e :: r) D σ H := h
theorem rd_asgC {i : Nat} {e : RE} (h : rdE Γ e σ H fun x H1 => rdSs Γ r D (σ.set i (some x)) H1) : rdSs Γ (.asgC i e :: r) D σ H := h
theorem rd_ite {c : RE} {t e : List RS} (h : rdT Γ c σ H fun b H1 => if b = true then rdSs Γ t { D with nx := rdSs Γ r D } σ H1 else rdSs Γ e { D with nx := rdSs Γ r D } σ H1) : rdSs Γ (.ite c t e :: r) D σ H := h
end
end L2
set_option maxRecDepth 100000
namespace L2.B
open PySem PySem.Spec PyProof.Rows
/-! ### is_whole -/
def N_is_whole : List Str := ["thing"]
def P_is_whole : List Str := ["thing"]
def b_is_whole : List RS :=
  [.ret (.and [(.isi .int (.v 0)), (.not (.isi .bool (.v 0)))])]
def f_is_whole : List Str := []
def g_is_whole : List Str := []
def l_is_whole : List Str := ["isinstance", "int", "bool"]
def mn_is_whole : List Str := []
def kn_is_whole : List Str := []
def en_is_whole : List Str := []
def hn_is_whole : List Str := []
/-! ### is_word -/
def N_is_word : List Str := ["thing", "words"]
def P_is_word : List Str := ["thing", "words"]
def b_is_word : List RS :=
  [.ret (.and [(.isi .str (.v 0)), (.cmp .In (.v 0) (.v 1))])]
def f_is_word : List Str := []
def g_is_word : List Str := []
def l_is_word : List Str := ["isinstance", "str"]
def mn_is_word : List Str := []
def kn_is_word : List Str := []
def en_is_word : List Str := []
def hn_is_word : List Str := []
/-! ### is_text -/
def N_is_text : List Str := ["thing"]
def P_is_text : List Str := ["thing"]
def b_is_text : List RS :=
  [.ret (.and [(.isi .str (.v 0)), (.cmp .Eq (.mth .lstrip (.v 0) [(.g 0)]) (.c (.str "")))])]
def f_is_text : List Str := []
def g_is_text : List Str := ["SIGNS"]
def l_is_text : List Str := ["isinstance", "str"]
def mn_is_text : List Str := []
def kn_is_text : List Str := []
def en_is_text : List Str := []
def hn_is_text : List Str := []
/-! ### need_text -/
/-! ### is_part -/
/-! ### may_follow -/
/-! ### need_change -/
/-! ### part_size -/
/-! ### sizes -/
/-! ### add_keep -/
/-! ### add_texts -/
/-! ### neat -/
/-! ### done -/
/-! ### back -/
/-! ### cell_atL -/
def N_cell_atL : List Str := ["_law_script", "_law_k"]
def P_cell_atL : List Str := ["_law_script", "_law_k"]
def b_cell_atL : List RS :=
  [.ite (.cmp .Lt (.v 1) (.blt .len [(.v 0)])) [.ret (.ix (.v 0) (.v 1))] [],
  .ret (.c (.int 0))]
def f_cell_atL : List Str := []
def g_cell_atL : List Str := []
def l_cell_atL : List Str := ["len"]
def mn_cell_atL : List Str := []
def kn_cell_atL : List Str := []
def en_cell_atL : List Str := []
def hn_cell_atL : List Str := []
/-! ### mixedL -/
def N_mixedL : List Str := ["_law_cell", "_law_k", "_law_number"]
def P_mixedL : List Str := ["_law_cell", "_law_k"]
def b_mixedL : List RS :=
  [.asg 2 (.bin .Mod (.bin .Add (.bin .Add (.bin .Mult (.v 0) (.c (.int 48271))) (.bin .Mult (.c (.int 7919)) (.v 1))) (.c (.int 11))) (.c (.int 1000003))),
  .ret (.bin .Mod (.bin .Mult (.bin .Mod (.bin .Mult (.v 2) (.v 2)) (.c (.int 1000003))) (.v 2)) (.c (.int 1000003)))]
def f_mixedL : List Str := []
def g_mixedL : List Str := []
def l_mixedL : List Str := []
def mn_mixedL : List Str := []
def kn_mixedL : List Str := []
def en_mixedL : List Str := []
def hn_mixedL : List Str := []
/-! ### textL -/
def N_textL : List Str := ["_law_cell", "_law_size_here", "_law_some"]
def P_textL : List Str := ["_law_cell", "_law_size_here"]
def b_textL : List RS :=
  [.asg 2 (.c (.str " !\"#$&'()*+,-./0123456789:;<=>?@ABCDEFGHIJKLMNOPQRSTUVWXYZ[\\]^_`")),
  .asg 2 (.bin .Add (.v 2) (.c (.str "abcdefghijklmnopqrstuvwxyz{|}~\n"))),
  .ite (.cmp .Eq (.bin .Mod (.v 0) (.c (.int 3))) (.c (.int 0))) [.asg 2 (.c (.str "ab\n"))] [],
  .ret (.mth .join (.c (.str "")) [(.comp none [("_law_some", 2), ("_law_cell", 0)] .rng [(.v 1)] none (.ix (.v 1) (.bin .Mod (.bin .FloorDiv (.call 0 [(.v 2), (.v 0)]) (.c (.int 7))) (.blt .len [(.v 1)]))))])]
def f_textL : List Str := ["_law_mixed"]
def g_textL : List Str := []
def l_textL : List Str := ["range", "len"]
def mn_textL : List Str := []
def kn_textL : List Str := []
def en_textL : List Str := []
def hn_textL : List Str := []
/-! ### sizeL -/
def N_sizeL : List Str := ["_law_cell"]
def P_sizeL : List Str := ["_law_cell"]
def b_sizeL : List RS :=
  [.ite (.cmp .Eq (.bin .Mod (.v 0) (.c (.int 8))) (.c (.int 1))) [.ret (.bin .Mod (.bin .FloorDiv (.v 0) (.c (.int 8))) (.c (.int 401)))] [],
  .ret (.bin .Mod (.bin .FloorDiv (.v 0) (.c (.int 8))) (.c (.int 25)))]
def f_sizeL : List Str := []
def g_sizeL : List Str := []
def l_sizeL : List Str := []
def mn_sizeL : List Str := []
def kn_sizeL : List Str := []
def en_sizeL : List Str := []
def hn_sizeL : List Str := []
/-! ### partsL -/
/-! ### neatL -/
/-! ### changeL -/
/-! ### sameL -/
/-! ### doneL -/
/-! ### wordL -/
def N_wordL : List Str := ["_law_e", "_law_some", "_law_found_here"]
def P_wordL : List Str := ["_law_e"]
def b_wordL : List RS :=
  [.asg 1 (.lst [(.tup [(.c (.str "text")), (.isx (.v 0) (.g 0))]), (.tup [(.c (.str "change")), (.isx (.v 0) (.g 1))]), (.tup [(.c (.str "fit")), (.isx (.v 0) (.g 2))])]),
  .asg 1 (.bin .Add (.v 1) (.lst [(.tup [(.c (.str "place")), (.isx (.v 0) (.g 3))]), (.tup [(.c (.str "side")), (.isx (.v 0) (.g 4))]), (.tup [(.c (.str "mark")), (.isx (.v 0) (.g 5))])])),
  .asg 1 (.bin .Add (.v 1) (.lst [(.tup [(.c (.str "node")), (.isx (.v 0) (.g 6))]), (.tup [(.c (.str "cursor")), (.isx (.v 0) (.g 7))])])),
  .asg 1 (.bin .Add (.v 1) (.lst [(.tup [(.c (.str "deed")), (.isx (.v 0) (.g 8))]), (.tup [(.c (.str "letter")), (.isx (.v 0) (.g 9))])])),
  .asg 1 (.bin .Add (.v 1) (.lst [(.tup [(.c (.str "gone")), (.isx (.v 0) (.g 10))]), (.tup [(.c (.str "hand")), (.isx (.v 0) (.g 11))]), (.tup [(.c (.str "note")), (.isx (.v 0) (.g 12))])])),
  .asgC 2 (.comp (some 2) [] .list [(.v 1)] (some (.v 1)) (.v 0)),
  .ite (.or [(.not (.isx (.v 0) (.g 13))), (.not (.isx (.v 0) (.c (.ty "ValueError"))))]) [.drop (.mth .append (.v 2) [(.c (.str "bare"))])] [],
  .ret (.mth .join (.c (.str "/")) [(.v 2)])]
def f_wordL : List Str := []
def g_wordL : List Str := ["BadText", "BadChange", "BadFit", "NoPlace", "BadSide", "NoMark", "NoNode", "NoCursor", "BadDeed", "BadLetter", "NoLetter", "NoHand", "NoNote", "InkError"]
def l_wordL : List Str := ["isinstance", "ValueError"]
def mn_wordL : List Str := []
def kn_wordL : List Str := []
def en_wordL : List Str := []
def hn_wordL : List Str := []
/-! ### is_between -/
def N_is_between : List Str := ["thing", "least", "most"]
def P_is_between : List Str := ["thing", "least", "most"]
def b_is_between : List RS :=
  [.ret (.and [(.call 0 [(.v 0)]), (.cmp2 .LtE .LtE (.v 1) (.v 0) (.v 2))])]
def f_is_between : List Str := ["is_whole"]
def g_is_between : List Str := []
def l_is_between : List Str := []
def mn_is_between : List Str := []
def kn_is_between : List Str := []
def en_is_between : List Str := []
def hn_is_between : List Str := []
/-! ### need_swap -/
/-! ### swapped -/
/-! ### wholeL -/
def b_wholeL : List RS :=
  [.ret (.and [(.isi .int (.v 0)), (.not (.isi .bool (.v 0)))])]
def f_wholeL : List Str := []
def g_wholeL : List Str := []
def l_wholeL : List Str := ["isinstance", "int", "bool"]
def mn_wholeL : List Str := []
def kn_wholeL : List Str := []
def en_wholeL : List Str := []
def hn_wholeL : List Str := []
end L2.B
set_option maxRecDepth 100000
set_option maxHeartbeats 4000000
namespace L2.B
open PySem PySem.Spec PyProof.Rows
/-! ### heaps -/
theorem sameNew {H : Hp} {p : Addr} {o : HO} (h : H p = none) : Same H (upd H p o) := fun b u e => by rw [upd_ne (ne_of_none e h)]; exact e
theorem iF {c : Bool} {A B : Prop} (q : B) (h : c = false := by first | rfl | decide) : if c = true then A else B := by
  rw [h]; exact iteF q
theorem iT {c : Bool} {A B : Prop} (q : A) (h : c = true := by first | rfl | decide) : if c = true then A else B := by
  rw [h]; exact iteT q
/-! ### parts -/
/-! ### is_whole, may_follow, part_size -/
def spWhole : Sp := fun vs H Q E => ∃ i, vs = [.int i] ∧ Q (.bl true) H
theorem le_line {n : Nat} (h : n ≤ 1000000) : n ≤ sizeLine := Nat.le_trans h (by decide)
theorem lt_line {n : Nat} (h : n ≤ 1000000) : n < sizeLine := Nat.lt_of_le_of_lt h (by decide)
/-! ### _law_cell_at, _law_mixed -/
def cell (ns : List Int) (k : Nat) : Int := ns.getD k 0
def spCell (K : PySem.W.Frag) : Sp := fun vs H Q E => ∃ (a : Addr) (ns : List Int) (k : Int), vs = [.ref a, .int k] ∧ SqL K H a (ns.map V.int) ∧ 0 ≤ k ∧ Q (.int (cell ns k.toNat)) H
theorem rd_cell {K : PySem.W.Frag} (vs : List V) (H : Hp) (Q : VK) (E : XK) (h : spCell K vs H Q E) : rdSs (rcx K [] [] (E := E)) b_cell_atL { nx := fun _ H' => Q .non H', rt := Q } (start N_cell_atL vs) H := by
  obtain ⟨a, ns, k, rfl, ha, hk, q⟩ := h
  refine ⟨_, rfl, _, rfl, .inl ⟨_, ha, trivial, _, rfl, ?_⟩⟩
  rw [List.length_map]
  refine ite2 (fun h => ?_) (fun h => ?_)
  · have hlt : k < (ns.length : Int) := of_decide_eq_true h
    refine ⟨_, rfl, _, rfl, .inl ⟨_, _, _, _, rfl, rfl, ha, ?_, q⟩⟩
    have e := atI_nat (xs := ns.map V.int) (j := k.toNat) (v := .int (cell ns k.toNat)) (by
      have : k.toNat < ns.length := by omega
      simp [cell, this])
    rw [show ((k.toNat : Nat) : Int) = k by omega] at e
    exact e
  · have hge : ¬ k < (ns.length : Int) := fun z => h (decide_eq_true z)
    have e : cell ns k.toNat = 0 := by
      have z : ns[k.toNat]? = none := List.getElem?_eq_none_iff.mpr (by omega)
      unfold cell
      rw [List.getD_eq_getElem?_getD, z]; rfl
    rw [e] at q
    exact q
theorem pos_mod : (0 : Int) < 1000003 := by decide
def mixed (c k : Int) : Int := let n := (c * 48271 + 7919 * k + 11) % 1000003; n * n % 1000003 * n % 1000003
def spMixed : Sp := fun vs H Q E => ∃ c k, vs = [.int c, .int k] ∧ Q (.int (mixed c k)) H
theorem rd_mixed {K : PySem.W.Frag} (vs : List V) (H : Hp) (Q : VK) (E : XK) (h : spMixed vs H Q E) : rdSs (rcx K [] [] (E := E)) b_mixedL { nx := fun _ H' => Q .non H', rt := Q } (start N_mixedL vs) H := by
  obtain ⟨c, k, rfl, q⟩ := h
  have h0 : ∀ z : Int, 0 ≤ z % 1000003 ∧ z % 1000003 < 1000003 := fun z => ⟨Int.emod_nonneg _ (by decide), Int.emod_lt_of_pos _ (by decide)⟩
  have h1 := h0 (c * 48271 + 7919 * k + 11)
  have h2 := h0 ((c * 48271 + 7919 * k + 11) % 1000003 * ((c * 48271 + 7919 * k + 11) % 1000003))
  refine ⟨_, rfl, .inr ⟨by decide, by decide⟩, _, rfl, .inl ⟨by decide, by decide⟩, pos_mod, ?_⟩
  refine ⟨_, rfl, _, rfl, .inl ⟨by omega, by omega⟩, pos_mod, _, rfl, .inl ⟨by omega, by omega⟩, pos_mod, ?_⟩
  exact q
theorem mixed_pos (c k : Int) : 0 ≤ mixed c k ∧ mixed c k < 1000003 := ⟨Int.emod_nonneg _ (by decide), Int.emod_lt_of_pos _ (by decide)⟩
end L2.B
set_option maxRecDepth 100000
set_option maxHeartbeats 4000000
namespace L2.B
open PySem PySem.Spec PyProof.Rows
def SG : Str := " !\"#$&'()*+,-./0123456789:;<=>?@ABCDEFGHIJKLMNOPQRSTUVWXYZ[\\]^_`abcdefghijklmnopqrstuvwxyz{|}~\n"
def good (x : Str) : Prop := x.length ≤ 1000000 ∧ ∀ c ∈ x.cps.toList, SG.cps.contains c = true
theorem takeWhile_all {α : Type} (p : α → Bool) : ∀ l : List α, (∀ c ∈ l, p c = true) → l.takeWhile p = l
  | [], _ => rfl
  | c :: l, h => by rw [List.takeWhile_cons, h c List.mem_cons_self, takeWhile_all p l fun d hd => h d (List.mem_cons_of_mem _ hd)]; rfl
theorem lstrip_all (x y : Str) (h : ∀ c ∈ x.cps.toList, y.cps.contains c = true) : Txt.lstripChars x y = "" := by
  have e0 : stripLo y.cps.contains true x = x.length := by
    unfold stripLo
    rw [if_pos rfl, takeWhile_all _ _ h]
    simp [Str.length]
  have e1 : stripHi y.cps.contains false x x.length = x.length := rfl
  unfold Txt.lstripChars Txt.stripBy stripSame stripped
  rw [e0, e1]
  split
  · rename_i hq
    simp only [Bool.and_eq_true, beq_iff_eq] at hq
    have : x.cps = #[] := Array.eq_empty_of_size_eq_zero hq.1
    obtain ⟨c⟩ := x
    have e : c = #[] := this
    subst e
    rfl
  · show (⟨x.cps.extract x.length x.length⟩ : Str) = _
    have : x.cps.extract x.length x.length = #[] := by simp [Str.length]
    rw [this]; rfl
/-! ### is_text, is_part -/
abbrev gS : List (Str × V) := [("SIGNS", .str SG)]
def spText : Sp := fun vs H Q E => ∃ x, vs = [.str x] ∧ good x ∧ Q (.bl true) H
theorem rd_text {K : PySem.W.Frag} (vs : List V) (H : Hp) (Q : VK) (E : XK) (h : spText vs H Q E) : rdSs (rcx K [] gS (E := E)) b_is_text { nx := fun _ H' => Q .non H', rt := Q } (start N_is_text vs) H := by
  obtain ⟨x, rfl, hx, q⟩ := h
  refine ⟨_, rfl, rfl, _, rfl, iteT ⟨_, rfl, rfl, le_line hx.1, ?_⟩⟩
  show Q (.bl (false ^^ decide (V.str (Txt.lstripChars x SG) = V.str ""))) H
  rw [lstrip_all x SG hx.2, decide_eq_true rfl]
  exact q
def spWord (K : PySem.W.Frag) : Sp := fun vs H Q E => ∃ w p xs, vs = [.str w, .ref p] ∧ SqT K H p xs ∧ xs.all flatV = true ∧ Q (.bl (inV (.str w) xs)) H
theorem rd_word {K : PySem.W.Frag} (vs : List V) (H : Hp) (Q : VK) (E : XK) (h : spWord K vs H Q E) : rdSs (rcx K [] [] (E := E)) b_is_word { nx := fun _ H' => Q .non H', rt := Q } (start N_is_word vs) H := by
  obtain ⟨w, p, xs, rfl, hp, hf, q⟩ := h
  exact ⟨_, rfl, rfl, _, rfl, iteT ⟨_, rfl, _, rfl, p, xs, rfl, (.inr hp), rfl, hf, q⟩⟩
end L2.B
set_option maxRecDepth 100000
set_option maxHeartbeats 4000000
namespace L2.B
open PySem PySem.Spec PyProof.Rows
/-! ### need_change -/
/-! ### sizes -/
theorem take_filter_snoc {α : Type} (p : α → Bool) (l : List α) (i : Nat) (v : α) (h : l[i]? = some v) : (l.take (i + 1)).filter p = (l.take i).filter p ++ (if p v then [v] else []) := by
  rw [List.take_add_one, h, List.filter_append]
  cases hp : p v <;> simp [hp]
end L2.B
set_option maxRecDepth 100000
set_option maxHeartbeats 4000000
namespace L2.B
open PySem PySem.Spec PyProof.Rows
/-! ### texts joined -/
def cat (ts : List Str) : Str := Txt.join "" ts
def sz (ts : List Str) : Nat := (ts.map Str.length).sum
theorem cat_list (ts : List Str) : (cat ts).cps.toList = (ts.map fun t => t.cps.toList).flatten := by
  have e : (Str.ofString "").cps = #[] := rfl
  cases ts with
  | nil => rfl
  | cons t r =>
    show (r.foldl (fun acc p => acc ++ (Str.ofString "").cps ++ p.cps) t.cps).toList = _
    rw [e]
    have go : ∀ (r : List Str) (acc : Array Nat), (r.foldl (fun acc p => acc ++ #[] ++ p.cps) acc).toList = acc.toList ++ (r.map fun t => t.cps.toList).flatten := by
      intro r
      induction r with
      | nil => intro acc; simp
      | cons q r ih =>
        intro acc
        show (r.foldl (fun acc p => acc ++ #[] ++ p.cps) (acc ++ #[] ++ q.cps)).toList = _
        rw [ih]; simp
    rw [go]; simp
theorem str_ext {x y : Str} (h : x.cps.toList = y.cps.toList) : x = y := by
  obtain ⟨x⟩ := x
  obtain ⟨y⟩ := y
  exact congrArg Str.mk (Array.toList_inj.mp h)
theorem app_list (x y : Str) : (x ++ y).cps.toList = x.cps.toList ++ y.cps.toList := by
  show (x.cps ++ y.cps).toList = _
  simp
theorem len_list (x : Str) : x.length = x.cps.toList.length := by simp [Str.length]
theorem cat_length (ts : List Str) : (cat ts).length = sz ts := by
  rw [len_list, cat_list, List.length_flatten]
  unfold sz
  rw [List.map_map]
  congr 1
theorem joinOk_of {ts : List Str} (h : sz ts ≤ 1000000) : JoinOk "" ts = true := by
  have go : ∀ (l : List Str) (n : Nat), l.foldl (· + ·.length + (Str.ofString "").length) n = n + sz l := by
    intro l
    induction l with
    | nil => intro n; rfl
    | cons t r ih =>
      intro n
      show r.foldl _ (n + t.length + 0) = _
      rw [ih]
      show n + t.length + 0 + sz r = n + (t.length + sz r)
      omega
  unfold JoinOk
  have e : ts.toArray.foldl (· + ·.length + (Str.ofString "").length) 0 = sz ts := by
    rw [List.foldl_toArray, go, Nat.zero_add]
  rw [e]
  show (!decide (sz ts > sizeLine)) = true
  rw [decide_eq_false (by have := le_line h; omega)]
  rfl
/-! ### add_texts, add_keep -/
end L2.B
namespace L2.B
/-! ### rising rows -/
end L2.B
namespace L2.B
open PySem PySem.StrLaws
/-! ### one sign, where it stands -/
def pos (c : Nat) : List Nat → Nat → List Nat
  | [], _ => []
  | d :: r, k => if d = c then k :: pos c r (k + 1) else pos c r (k + 1)
theorem occ1 (x y : Str) (hy : y.length = 1) (hi lim : Nat) : ∀ (n lo : Nat) (acc : Array Nat) (free : Nat), free ≤ lo →
    ((forIn (List.range' lo n) (acc, free) (occBody x y hi lim)).run.fst.toList = acc.toList ++ ((List.range' lo n).filter fun i => decide (i + 1 ≤ hi) && Builtin.Str.subAt x y i).take (lim - acc.size))
  | 0, lo, acc, free, hf => by simp
  | n + 1, lo, acc, free, hf => by
    rw [List.range'_succ, List.forIn_cons]
    unfold occBody
    rw [hy]
    by_cases hp : lo + 1 ≤ hi ∧ Builtin.Str.subAt x y lo = true
    · have e : (decide (lo + 1 ≤ hi) && Builtin.Str.subAt x y lo) = true := by simp [hp.1, hp.2]
      by_cases hs : acc.size < lim
      · rw [if_pos ⟨⟨⟨hs, hf⟩, hp.1⟩, hp.2⟩]
        have ih := occ1 x y hy hi lim n (lo + 1) (acc.push lo) (lo + 1) (Nat.le_refl _)
        unfold occBody at ih
        rw [hy] at ih
        refine Eq.trans ih ?_
        rw [List.filter_cons_of_pos (by exact e)]
        have e2 : lim - acc.size = (lim - (acc.push lo).size) + 1 := by rw [Array.size_push]; omega
        rw [e2, List.take_succ_cons]
        simp
      · rw [if_neg (fun z => hs z.1.1.1)]
        have ih := occ1 x y hy hi lim n (lo + 1) acc free (by omega)
        unfold occBody at ih
        rw [hy] at ih
        refine Eq.trans ih ?_
        have e2 : lim - acc.size = 0 := by omega
        rw [e2]; simp
    · rw [if_neg (fun z => hp ⟨z.1.2, z.2⟩)]
      have e : ¬ (decide (lo + 1 ≤ hi) && Builtin.Str.subAt x y lo) = true := by
        intro z
        simp only [Bool.and_eq_true, decide_eq_true_eq] at z
        exact hp z
      have ih := occ1 x y hy hi lim n (lo + 1) acc free (by omega)
      unfold occBody at ih
      rw [hy] at ih
      refine Eq.trans ih ?_
      rw [List.filter_cons_of_neg (by exact e)]
theorem sub1 (x : Str) (c i : Nat) : Builtin.Str.subAt x ⟨#[c]⟩ i = decide (x.cps[i]? = some c) := by
  unfold Builtin.Str.subAt
  have e : (⟨#[c]⟩ : Str).length = 1 := rfl
  rw [e, show (⟨#[c]⟩ : Str).cps = #[c] from rfl]
  by_cases h : i < x.cps.size
  · have e2 : x.cps.extract i (i + 1) = #[x.cps[i]] := by
      apply Array.ext
      · simp; omega
      · intro j h1 h2
        simp at h1 h2 ⊢
        have : j = 0 := by omega
        subst this; rfl
    rw [e2, Array.getElem?_eq_getElem h]
    by_cases q : x.cps[i] = c
    · subst q; simp
    · have : ¬ (#[x.cps[i]] = #[c]) := fun z => q (by injection z with z; injection z)
      simp [q]
  · have e2 : x.cps.extract i (i + 1) = #[] := by
      apply Array.eq_empty_of_size_eq_zero
      simp; omega
    rw [e2, Array.getElem?_eq_none (by omega)]
    simp
theorem filter_pos (c : Nat) : ∀ (l : List Nat) (k : Nat) (p : Nat → Bool), (∀ i, i < l.length → p (k + i) = decide (l[i]? = some c)) → (List.range' k l.length).filter p = pos c l k
  | [], k, p, h => rfl
  | d :: r, k, p, h => by
    rw [List.length_cons, List.range'_succ]
    have h0 : p k = decide (d = c) := by
      have := h 0 (Nat.zero_lt_succ _)
      simpa using this
    have ih := filter_pos c r (k + 1) p fun i hi => by
      have := h (i + 1) (Nat.succ_lt_succ hi)
      rw [show k + 1 + i = k + (i + 1) by omega, this]; simp
    by_cases e : d = c
    · rw [List.filter_cons_of_pos (by rw [h0]; simpa using e), ih, pos, if_pos e]
    · rw [List.filter_cons_of_neg (by rw [h0]; simpa using e), ih, pos, if_neg e]
theorem occ_pos (x : Str) (c lo lim : Nat) (hl : lo ≤ x.length) : Builtin.Str.occurrences x ⟨#[c]⟩ lo x.length lim = (pos c (x.cps.toList.drop lo) lo).take lim := by
  have hx : x.cps.toList.length = x.length := by simp [Str.length]
  rw [occ_eq, occ1 x _ rfl x.length lim _ lo #[] lo (Nat.le_refl _)]
  simp only [List.nil_append, Array.size_empty, Nat.sub_zero]
  congr 1
  have e : x.length + 1 - lo = (x.cps.toList.drop lo).length + 1 := by rw [List.length_drop, hx]; omega
  rw [e, List.range'_concat, List.filter_append]
  rw [filter_pos c (x.cps.toList.drop lo) lo]
  · have : ¬ (lo + 1 * (x.cps.toList.drop lo).length + 1 ≤ x.length) := by rw [List.length_drop, hx]; omega
    rw [List.filter_cons_of_neg (by rw [decide_eq_false this]; simp)]
    simp
  · intro i hi
    rw [sub1]
    rw [List.length_drop, hx] at hi
    rw [decide_eq_true (show lo + i + 1 ≤ x.length by omega), Bool.true_and, List.getElem?_drop, Array.getElem?_toList]
end L2.B
set_option maxRecDepth 100000
set_option maxHeartbeats 4000000
namespace L2
open PySem PySem.Spec PyProof.Rows
section
variable {X : Cx}
/-! ### all([..]) -/
def rAll (K : PySem.W.Frag) : List V → Hp → VK → Prop := fun xs H Q => ∃ (p : Addr) (bs : List Bool), xs = [.ref p] ∧ SqL K H p (bs.map V.bl) ∧ Q (.bl (bs.all id)) H
theorem bools_at : ∀ {bs : List Bool} {us : List Value}, Vals (bs.map V.bl) us → us = bs.map Value.bool
  | [], _, .nil => rfl
  | b :: r, _, .cons e t => by
    have e' : _ = Value.bool b := e
    rw [List.map_cons, ← bools_at t, e']
theorem all_range (bs : List Bool) : ((List.range bs.length).all fun i => (bs[i]?).getD true) = bs.all id := by
  rw [Bool.eq_iff_iff, List.all_eq_true, List.all_eq_true]
  constructor
  · intro h b hb
    obtain ⟨i, hi, rfl⟩ := List.getElem_of_mem hb
    have := h i (List.mem_range.mpr hi)
    simpa [hi] using this
  · intro h i hi
    have hi := List.mem_range.mp hi
    have := h _ (List.getElem_mem hi)
    simpa [hi] using this
theorem call_allB (hc : X.calm = true) : CallR X (.builtin "all") (rAll X.K) := by
  intro pins s σ H xs us Q I r h
  obtain ⟨p, bs, rfl, hq, q⟩ := h
  obtain ⟨u, rfl, ru⟩ := vals1 r
  cases ru
  obtain ⟨its, rv, pl, hz⟩ := I.list hq
  have e := bools_at rv
  subst e
  have hlt : @LT.lt Nat _ p s.heap.objs.size := by obtain ⟨_, e, _⟩ := pl.isList; exact Heap.lt_size e
  refine call_all_walk (wpAny_pyIter_list pl.isList ?_)
  refine ⟨s.heap.objs.size, [s.heap.objs.size, p], [s.heap.objs.size], (bs.map Value.bool).toArray.size, _, _, fun i => (bs[i]?).getD true, rfl,
    Walks.list (A := X.A.in1) (I.ok.hd hc) _ p (Nat.ne_of_lt hlt) _, ⟨⟨_, Heap.get?_push_size _ rfl, rfl, rfl⟩, pl.isList.push _⟩, fun i v s' Q' E' hP hQ => ?_, fun h' tk hk => ?_⟩
  · have hP' : (bs.map Value.bool)[i]? = some v := by simpa using hP
    rw [List.getElem?_map] at hP'
    cases eb : bs[i]? with
    | none => rw [eb] at hP'; cases hP'
    | some b =>
      rw [eb] at hP'
      cases hP'
      have hQ' : Q' ((bs[i]?).getD true) s' := hQ
      rw [eb] at hQ'
      exact wpAny_truthy_bool hQ'
  · have e : ((List.range (bs.map Value.bool).toArray.size).all fun i => (bs[i]?).getD true) = bs.all id := by
      have e0 : (bs.map Value.bool).toArray.size = bs.length := by simp
      rw [e0]; exact all_range bs
    rw [e]
    refine ⟨.bl _, H, I.kept (t' := tk) fun b o e => ?_, rfl, q⟩
    exact hk b o (fun hm => by rw [List.mem_singleton.mp hm] at e; exact Nat.lt_irrefl _ (Heap.lt_size e)) (Heap.get?_push_of_some _ e)
theorem boot_all : bootBuiltins "all" = some (.builtin "all") := by decide +kernel
/-! ### str(..), int of a text -/
def rStrV : List V → Hp → VK → Prop := fun xs H Q => (∃ i : Int, xs = [.int i] ∧ i.natAbs < 10 ^ 10 ∧ Q (.str (Str.ofString (toString i))) H) ∨ ∃ x, xs = [.str x] ∧ Q (.str x) H
theorem call_strV : CallR X (.type "str") rStrV := by
  intro pins s σ H xs us Q I r h
  rcases h with ⟨i, rfl, hi, q⟩ | ⟨x, rfl, q⟩
  · obtain ⟨u, rfl, ⟨t, rfl⟩⟩ := vals1 r
    refine P.str_of_int ?_ ⟨.str _, H, I.tok _, ⟨_, rfl⟩, q⟩
    by_cases h0 : i.natAbs = 0
    · rw [h0]; decide
    · exact (Nat.log2_lt h0).mpr (Nat.lt_of_lt_of_le hi (by decide +kernel))
  · obtain ⟨u, rfl, ⟨t, rfl⟩⟩ := vals1 r
    exact P.str_of_str ⟨.str x, H, I, ⟨t, rfl⟩, q⟩
theorem boot_strT : bootBuiltins "str" = some (.type "str") := by decide +kernel
def rIntT : List V → Hp → VK → Prop := fun xs H Q => ∃ n : Int, xs = [.str (Str.ofString (toString n))] ∧ 0 ≤ n ∧ n < 10 ^ 10 ∧ Q (.int n) H
theorem call_intT : CallR X (.type "int") rIntT := by
  intro pins s σ H xs us Q I r h
  obtain ⟨n, rfl, h0, h1, q⟩ := h
  obtain ⟨u, rfl, ⟨t, rfl⟩⟩ := vals1 r
  exact PySem.W.KIN.call_num h0 h1 ⟨.int n, H, I.tok _, ⟨_, rfl⟩, q⟩
/-! ### strip, partition -/
def rStrip : V → List V → Hp → VK → Prop := fun x vs H Q => ∃ z y, x = .str z ∧ vs = [.str y] ∧ z.length ≤ sizeLine ∧ Q (.str (Txt.stripChars z y)) H
theorem mt_strip : MtR X "str.strip" rStrip := by
  intro pins s σ H x vs v us Q I rx rv h
  obtain ⟨z, y, rfl, rfl, hz, q⟩ := h
  obtain ⟨t, rfl⟩ := rx
  obtain ⟨u, rfl, ⟨t2, rfl⟩⟩ := vals1 rv
  refine call_gives F.slot_str_strip (typeIs_str _ _ _) F.entry_str_strip (F.args_str_strip_2 _ _) (gives_str_strip_chars z y t t2) (post_val_or_made (fun _ => fits_stripped _ _ _ hz) fun t' k => ?_)
  exact ⟨.str _, H, I.tok k, ⟨t', rfl⟩, q⟩
def partV (z y : Str) : List V := match Builtin.Str.occurrences z y 0 z.length 1 with
  | i :: _ => [.str (Builtin.Str.strSub z 0 i), .str y, .str (Builtin.Str.strSub z (i + y.length) z.length)]
  | [] => [.str z, .str Str.empty, .str Str.empty]
def rPart : V → List V → Hp → VK → Prop := fun x vs H Q => ∃ z y, x = .str z ∧ vs = [.str y] ∧ (y.length == 0) = false ∧ z.length ≤ sizeLine ∧ ∀ l, H l = none → Q (.ref l) (upd H l (.tup (partV z y)))
theorem mt_part : MtR X "str.partition" rPart := by
  intro pins s σ H x vs v us Q I rx rv h
  obtain ⟨z, y, rfl, rfl, hy, hz, q⟩ := h
  obtain ⟨t, rfl⟩ := rx
  obtain ⟨u, rfl, ⟨t2, rfl⟩⟩ := vals1 rv
  refine call_meets F.slot_str_partition (typeIs_str _ _ _) F.entry_str_partition (F.args_str_partition_2 _ _) (meets_str_partition z y t t2 hy hz) ?_
  have qq := q s.heap.objs.size (I.hok.fresh (Nat.le_refl _))
  unfold partV at qq
  cases ho : Builtin.Str.occurrences z y 0 z.length 1 with
  | nil =>
    rw [ho] at qq
    exact ⟨.ref s.heap.objs.size, _, I.laid (o := .tup [.str z, .str Str.empty, .str Str.empty]) (t' := s.toks + 1) (fun b u e => Heap.get?_push_of_some _ e) (Nat.le_refl _) ⟨by show 3 ≤ sizeLine; decide, _, .cons ⟨_, rfl⟩ (.cons ⟨_, rfl⟩ (.cons ⟨_, rfl⟩ .nil)), ⟨_, Heap.get?_push_size _ rfl, rfl, _, rfl⟩⟩, rfl, qq⟩
  | cons i r =>
    rw [ho] at qq
    exact ⟨.ref s.heap.objs.size, _, I.laid (o := .tup [.str (Builtin.Str.strSub z 0 i), .str y, .str (Builtin.Str.strSub z (i + y.length) z.length)]) (t' := s.toks + 1 + 1) (fun b u e => Heap.get?_push_of_some _ e) (Nat.le_refl _) ⟨by show 3 ≤ sizeLine; decide, _, .cons ⟨_, rfl⟩ (.cons ⟨_, rfl⟩ (.cons ⟨_, rfl⟩ .nil)), ⟨_, Heap.get?_push_size _ rfl, rfl, _, rfl⟩⟩, rfl, qq⟩
/-! ### replace, where a token has come already -/
def PEp (X : Cx) (e : Expr) (t : TE) : Prop :=
  ∀ (pins : List (Addr × Obj)) (s : Shared) (σ : St) (H : Hp) (Q : VK), 0 < s.toks → Inv X pins σ H s → t σ H Q → wpAny (model X.prog X.w) X.A (eval e X.env) (fun u s' => 0 < s'.toks ∧ EP X pins σ Q u s') X.xe s
theorem PE.p {e : Expr} {t : TE} (h : PE X e t) : PEp X e t := fun pins s σ H Q ht I q => wpAny_mono (wpAny_toks_of ht (h pins s σ H Q I q)) (fun _ _ x => x) fun _ _ x => x.2
def rRepl : V → List V → Hp → VK → Prop := fun x vs H Q => ∃ z y w, x = .str z ∧ vs = [.str y, .str w] ∧ (y == w) = false ∧ z.length ≤ 1048576 ∧ w.length ≤ 14 ∧ Q (.str (Txt.replace z y w)) H
theorem p_replace {o : Expr} {to : TE} {y w : Str} {k1 k2 : Nat} {p1 p2 ap cp : Pos} (ho : PEp X o to) (hb : noSuper o = true) (hl : (ap.endLine == cp.line) = true) :
    PEp X (.Call (.Attribute o "replace" ap) [.Constant (.str y) k1 p1, .Constant (.str w) k2 p2] [] cp) (tBM X.K "str" rRepl to (tCons (tC (.str y)) (tCons (tC (.str w)) tNil))) := by
  intro pins s σ H Q ht I h
  refine wpAny_mono (wpAny_toks_of ht (?_ : wpAny _ _ _ (EP X pins σ Q) X.xe s)) (fun _ _ x => x) fun _ _ x => x.2
  refine wpAny_Call_method_late (base_of hb) rfl hl rfl (wpAny_mono (ho pins s σ H _ ht I h) (fun v s1 ⟨ht1, x, H1, I1, r1, ty, q1⟩ => ?_) fun _ _ e => e)
  obtain ⟨h1, h2⟩ := tyV_is I1 r1 ty
  refine ⟨"str", "str.replace", F.plainAttrs_str, F.slot_str_replace, F.type_str_replace, h1, h2, ?_⟩
  obtain ⟨z, y', w', rfl, e, hne, hz, hw, q⟩ := q1
  cases e
  obtain ⟨t, rfl⟩ := r1
  refine Calls.callWith_builtin rfl (Calls.evalArgs_plain ?_)
  show wpAny _ _ (spliced [(false, eval (.Constant (.str y) k1 p1) X.env), (false, eval (.Constant (.str w) k2 p2) X.env)]) _ _ s1
  refine Calls.spliced_cons (wpAny_Constant_str (Calls.spliced_cons (wpAny_Constant_str (Calls.spliced_nil ?_))))
  exact SC.replaceW (Nat.ne_of_gt ht1) (Nat.succ_ne_zero _) (Nat.ne_of_lt (Nat.lt_succ_self _)) hne hz hw fun t' k => ⟨.str _, H1, I1.tok k, ⟨t', rfl⟩, q⟩
theorem pe_opP {op : Operator} {r : R2} {b : Expr} {tb : TE} {c : Str} {k : Nat} {p pos : Pos} (ho : OpR X (binaryOp op) r) (hb : PEp X b tb) : PE X (.BinOp (.Constant (.str c) k p) op b pos) (tOp r (tC (.str c)) tb) := by
  intro pins s σ H Q I h
  refine wpAny_BinOp (wpAny_Constant_str ?_)
  exact wpAny_mono (hb pins _ σ H _ (Nat.succ_pos _) (I.tok (s.toks + 1)) h) (fun u s2 ⟨_, y, H2, I2, r2, q2⟩ => ho pins s2 σ H2 (.str c) y _ u Q I2 ⟨_, rfl⟩ r2 q2) fun _ _ e => e
/-! ### for .. in a text -/
theorem turn_txt {P : Program} {w : World} {K : PySem.W.Frag} {tg : Expr} {ty : String} (z : Str) (t : Tok) (it : Addr)
    (hn : ["enumerate", "zip", "dict_itemiterator", "dict_reverseitemiterator", "odict_iterator", "itertools.zip_longest", "itertools.pairwise"].contains ty = false)
    (W : ∀ A : Around, A.handled = none → Walks P w A it [it] [it] z.cps.size (SignAt z) (fun i h => h.IsStrIter it ty z t i))
    (hs : ∀ (A : Around) (i : Nat) (s : Shared) (Q : Value → Shared → Prop) (E : Value → Shared → Prop), s.heap.IsStrIter it ty z t i → Q (.ref it) s → wpAny (model P w) A (pyIter (.ref it)) Q E s) :
    Turn P w K tg (Its z) [it] it (fun i h => h.IsStrIter it ty z t i) where
  mem := by simp
  obj := fun i h st b hb => by
    obtain rfl : b = it := by simpa using hb
    obtain ⟨o, e, c, d⟩ := st
    exact ⟨o, e, fun v q => by rw [d] at q; cases q⟩
  keep := fun i h h' st k => by
    obtain ⟨o, e, c⟩ := st
    exact ⟨o, k it (by simp) o e, c⟩
  item := by
    intro X hP hw hK hc i pins s σ H E I hf st hg
    subst hP hw hK
    obtain ⟨f0, f1, f2, f3, f4, f5⟩ := hf it (by simp)
    refine (W X.A (I.ok.hd hc)).item i s _ _ hg st fun v h' tk hv st' kk => ?_
    obtain ⟨c, u, ec, rfl⟩ := hv
    have I1 : Inv X pins σ H { s with heap := h', toks := tk } := I.turned (t' := tk) (fun b o hb e => kk b o (by simpa using hb) e) f0 f1 f3 f4 f5
    obtain ⟨o, e, c0, d⟩ := id st'
    exact ⟨_, rfl, go_of (s := { s with heap := h', toks := tk }) e c0 d hn ⟨.str ⟨#[c]⟩, H, I1, ⟨u, rfl⟩, ⟨rfl, c, ec, rfl⟩, st', fun b hb => (hf b hb).1⟩⟩
  done := by
    intro X hP hw hK hc i pins s σ H E I hf st hg
    subst hP hw hK
    obtain ⟨f0, f1, f2, f3, f4, f5⟩ := hf it (by simp)
    have hg' : i = z.cps.size := hg
    subst hg'
    exact (W X.A (I.ok.hd hc)).done s _ _ st fun h' tk kk => ⟨rfl, I.turned (t' := tk) (fun b o hb e => kk b o (by simpa using hb) e) f0 f1 f3 f4 f5⟩
  self := fun A i s Q E st h => hs A i s Q E st h
theorem pi_txt {tg l : Expr} {tl : TE} (hl : PE X l tl) : PI X tg l (iTxt tl) := by
  intro pins s σ H R I h
  refine thn (hl pins s σ H _ I h) fun v s1 ⟨x, H1, I1, r1, q1⟩ => ?_
  obtain ⟨z, e, q⟩ := q1
  subst e
  obtain ⟨t, rfl⟩ := r1
  have fp : ∀ b ∈ [s1.heap.objs.size], FpOk X pins H1 b := fun b hb => by
    obtain rfl : b = s1.heap.objs.size := by simpa using hb
    exact I1.fpOk (Nat.le_refl _) (I1.hok.fresh (Nat.le_refl _))
  cases ha : z.cps.all (· < 128)
  · exact wpAny_pyIter_wide ha ⟨s1.heap.objs.size, [s1.heap.objs.size], _, _, H1, rfl, I1.kept (t' := s1.toks) fun b o e => Heap.get?_push_of_some _ e,
      turn_txt z t _ (by decide) (fun A hA => Walks.strWide hA _ z t) (fun A i s Q E st h => wpAny_pyIter_striter_wide st h), ⟨_, Heap.get?_push_size _ rfl, rfl, rfl⟩, fp, q⟩
  · exact wpAny_pyIter_ascii ha ⟨s1.heap.objs.size, [s1.heap.objs.size], _, _, H1, rfl, I1.kept (t' := s1.toks) fun b o e => Heap.get?_push_of_some _ e,
      turn_txt z t _ (by decide) (fun A hA => Walks.strAscii hA _ z t) (fun A i s Q E st h => wpAny_pyIter_striter_ascii st h), ⟨_, Heap.get?_push_size _ rfl, rfl, rfl⟩, fp, q⟩
theorem for_txt {z : Str} {g : TG} {tb : TS} {D : Ends} {σ : St} {H : Hp} (Pv : Nat → St → Hp → Prop) (h0 : Pv 0 σ H)
    (hs : ∀ i c σ H, z.cps.toList[i]? = some c → Pv i σ H → g (.str ⟨#[c]⟩) σ H fun σ2 H2 => tb { D with nx := Pv (i + 1), ct := Pv (i + 1), bk := D.nx } σ2 H2) (hd : ∀ σ H, Pv z.length σ H → D.nx σ H) :
    ∃ W : Nat → Nat → St → Hp → Prop, (∃ m, W 0 m σ H) ∧ ∀ i m σ H, W i m σ H →
      ((Its z).stop i H ∧ D.nx σ H) ∨ ((Its z).go i H ∧ ∃ N : St → Hp → Prop, (∀ σ' H', N σ' H' → ∃ m', m' < m ∧ W (i + 1) m' σ' H') ∧ ∀ x H', (Its z).yld i H x H' → g x σ H' fun σ2 H2 => tb { D with nx := N, ct := N, bk := D.nx } σ2 H2) := by
  refine ⟨fun i m σ H => m = z.length - i ∧ i ≤ z.length ∧ Pv i σ H, ⟨z.length, by simp, Nat.zero_le _, h0⟩, ?_⟩
  rintro i m σ H ⟨rfl, hi, p⟩
  by_cases hlt : i < z.length
  · refine .inr ⟨hlt, Pv (i + 1), fun σ' H' p' => ⟨z.length - (i + 1), by omega, rfl, hlt, p'⟩, fun x H' y => ?_⟩
    obtain ⟨rfl, c, ec, rfl⟩ := y
    exact hs i c σ H' (by simpa using ec) p
  · have e : i = z.length := by omega
    subst e
    exact .inl ⟨rfl, hd σ H p⟩
end
/-! ### the derivations -/
def xAll : PySem.W.Frag → TA → TE := fun K t => tCB (rAll K) t
def xStr : PySem.W.Frag → TA → TE := fun _ t => tCB rStrV t
def xIntT : PySem.W.Frag → TA → TE := fun _ t => tCB rIntT t
def xStrip : PySem.W.Frag → TE → TA → TE := fun K to t => tBM K "str" rStrip to t
def xPart : PySem.W.Frag → TE → TA → TE := fun K to t => tBM K "str" rPart to t
def xRepl : PySem.W.Frag → TE → TA → TE := fun K to t => tBM K "str" rRepl to t
section
variable {CX : CXT} {S : SCx} {Γ : RCx} {X : Cx} {e e2 a b c d : Expr} {es : List Expr} {x : Str} {p q pos : Pos} {r ra rb rc : RE} {rs : List RE} {i j : Nat}
theorem d_xAll (G : Good CX S Γ X) (h : kB S x "all" = true) (hn : nst (e :: es) = true) (hA : PA X (e :: es) (rdA Γ (r :: rs))) (hq : S.md = 0 := by rfl) : PE X (.Call (.Name x p) (e :: es) [] pos) (rdE Γ (.xt xAll (r :: rs))) := by
  simp only [kB, Bool.and_eq_true, decide_eq_true_eq] at h
  obtain ⟨⟨rfl, h2⟩, h3⟩ := h
  show PE X _ (tCB (rAll Γ.K) (rdA Γ (r :: rs)))
  rw [← G.K]
  exact pe_callB (call_allB (G.calm hq)) (G.gl h2) (G.bls _ h3) boot_all hA (by decide) (by decide) (star_cons (nst_cons hn).1) (stars_of _ _ es (nst_cons hn).2)
theorem d_xStr (G : Good CX S Γ X) (h : kB S x "str" = true) (hn : nst (e :: es) = true) (hA : PA X (e :: es) (rdA Γ (r :: rs))) : PE X (.Call (.Name x p) (e :: es) [] pos) (rdE Γ (.xt xStr (r :: rs))) := by
  simp only [kB, Bool.and_eq_true, decide_eq_true_eq] at h
  obtain ⟨⟨rfl, h2⟩, h3⟩ := h
  exact pe_callTy call_strV (G.gl h2) (G.bls _ h3) boot_strT hA (by decide) (by decide) (star_cons (nst_cons hn).1) (stars_of _ _ es (nst_cons hn).2)
theorem d_xIntT (G : Good CX S Γ X) (h : kB S x "int" = true) (hn : nst (e :: es) = true) (hA : PA X (e :: es) (rdA Γ (r :: rs))) : PE X (.Call (.Name x p) (e :: es) [] pos) (rdE Γ (.xt xIntT (r :: rs))) := by
  simp only [kB, Bool.and_eq_true, decide_eq_true_eq] at h
  obtain ⟨⟨rfl, h2⟩, h3⟩ := h
  exact pe_callTy call_intT (G.gl h2) (G.bls _ h3) boot_intT hA (by decide) (by decide) (star_cons (nst_cons hn).1) (stars_of _ _ es (nst_cons hn).2)
theorem few_y {n : Nat} (h4 : n < 29) (hf : (backTo pos (starEach es X.env)).all (fun x => !x.1) = true) (hn : n = es.length) : ((backTo pos (starEach es X.env)).all (fun x => !x.1) && (backToKw pos (keywordEach [] X.env)).all (fun x => x.1.isSome)
      && decide (es.length + ([] : List Keyword).length + (if ([] : List Keyword).isEmpty then 0 else 1) < 30)) = true := by
  subst hn
  rw [hf]
  show (true && true && decide (es.length + 0 + 0 < 30)) = true
  rw [decide_eq_true (by omega)]; rfl
theorem d_yStrip {o : Expr} {ro : RE} {ap : Pos} (G : Good CX S Γ X) (h : kM o "strip" x (es.length + 1) ap pos = true) (hn : nst (e :: es) = true) (ho : PE X o (rdE Γ ro)) (hA : PA X (e :: es) (rdA Γ (r :: rs))) : PE X (.Call (.Attribute o x ap) (e :: es) [] pos) (rdE Γ (.xm xStrip ro (r :: rs))) := by
  simp only [kM, Bool.and_eq_true, decide_eq_true_eq] at h
  obtain ⟨⟨⟨rfl, h2⟩, h3⟩, h4⟩ := h
  show PE X _ (tBM Γ.K "str" rStrip (rdE Γ ro) (rdA Γ (r :: rs)))
  rw [← G.K]
  exact pe_bm F.plainAttrs_str F.slot_str_strip F.type_str_strip mt_strip ho hA (base_of h2) (few_y h4 (few_of _ _ (e :: es) hn) rfl) h3 (star_cons (nst_cons hn).1) (stars_of _ _ es (nst_cons hn).2)
theorem d_yPart {o : Expr} {ro : RE} {ap : Pos} (G : Good CX S Γ X) (h : kM o "partition" x (es.length + 1) ap pos = true) (hn : nst (e :: es) = true) (ho : PE X o (rdE Γ ro)) (hA : PA X (e :: es) (rdA Γ (r :: rs))) : PE X (.Call (.Attribute o x ap) (e :: es) [] pos) (rdE Γ (.xm xPart ro (r :: rs))) := by
  simp only [kM, Bool.and_eq_true, decide_eq_true_eq] at h
  obtain ⟨⟨⟨rfl, h2⟩, h3⟩, h4⟩ := h
  show PE X _ (tBM Γ.K "str" rPart (rdE Γ ro) (rdA Γ (r :: rs)))
  rw [← G.K]
  exact pe_bm F.plainAttrs_str F.slot_str_partition F.type_str_partition mt_part ho hA (base_of h2) (few_y h4 (few_of _ _ (e :: es) hn) rfl) h3 (star_cons (nst_cons hn).1) (stars_of _ _ es (nst_cons hn).2)
theorem p_repl {o : Expr} {ro : RE} {y w : Str} {k1 k2 : Nat} {p1 p2 ap : Pos} (G : Good CX S Γ X) (h : kM o "replace" x 2 ap pos = true) (ho : PEp X o (rdE Γ ro)) :
    PEp X (.Call (.Attribute o x ap) [.Constant (.str y) k1 p1, .Constant (.str w) k2 p2] [] pos) (rdE Γ (.xm xRepl ro [.c (.str y), .c (.str w)])) := by
  simp only [kM, Bool.and_eq_true, decide_eq_true_eq] at h
  obtain ⟨⟨⟨rfl, h2⟩, h3⟩, h4⟩ := h
  show PEp X _ (tBM Γ.K "str" rRepl (rdE Γ ro) (tCons (tC (.str y)) (tCons (tC (.str w)) tNil)))
  rw [← G.K]
  exact p_replace ho h2 h3
theorem d_binp {op : Operator} {v : Str} {k : Nat} (G : Good CX S Γ X) (hb : PEp X b (rdE Γ rb)) : PE X (.BinOp (.Constant (.str v) k q) op b p) (rdE Γ (.bin op (.c (.str v)) rb)) := by
  show PE X _ (tOp (rBin Γ.K op) (tC (.str v)) (rdE Γ rb))
  rw [← G.K]
  exact pe_opP (op_bin op) hb
theorem i_txt {tg : Expr} (ha : PE X a (rdE Γ ra)) : PI X tg a (rdI Γ .txt [ra]) := pi_txt ha
end
end L2
set_option maxRecDepth 100000
set_option maxHeartbeats 4000000
namespace L2.K42
/-- a sign as it stands between quotes -/
def esc1 (c : Nat) : List Nat := if c = 92 then [92, 92] else if c = 34 then [92, 34] else if c = 10 then [92, 110] else [c]
def esc (l : List Nat) : List Nat := l.flatMap esc1
def rep (c : Nat) (z l : List Nat) : List Nat := l.flatMap fun k => if k = c then z else [k]
theorem rep_append (c : Nat) (z a b : List Nat) : rep c z (a ++ b) = rep c z a ++ rep c z b := List.flatMap_append
theorem rep3 : ∀ l : List Nat, rep 10 [92, 110] (rep 34 [92, 34] (rep 92 [92, 92] l)) = esc l
  | [] => rfl
  | c :: r => by
    have ih := rep3 r
    have e : rep 92 [92, 92] (c :: r) = (if c = 92 then [92, 92] else [c]) ++ rep 92 [92, 92] r := rfl
    have e2 : esc (c :: r) = esc1 c ++ esc r := rfl
    rw [e, rep_append, rep_append, ih, e2]
    congr 1
    unfold esc1
    by_cases h1 : c = 92
    · simp [h1, rep]
    · by_cases h2 : c = 34
      · simp [h2, rep]
      · by_cases h3 : c = 10
        · simp [h3, rep]
        · simp [h1, h2, h3, rep]
/-- what texts_of has gathered: the texts, the signs, inside, escaped -/
structure Tx where
  ts : List (List Nat)
  sg : List Nat
  ins : Bool
  es : Bool
def stp (t : Tx) (c : Nat) : Tx :=
  if t.es = true then { t with sg := t.sg ++ [if c = 110 then 10 else c], es := false }
  else if c = 92 then { t with es := true }
  else if c ≠ 34 then { t with sg := t.sg ++ [c] }
  else { ts := if t.ins = true then t.ts ++ [t.sg] else t.ts, sg := [], ins := !t.ins, es := false }
theorem stp_esc (ts : List (List Nat)) : ∀ (l sg : List Nat), (esc l).foldl stp ⟨ts, sg, true, false⟩ = ⟨ts, sg ++ l, true, false⟩
  | [], sg => by simp [esc]
  | c :: r, sg => by
    have e2 : esc (c :: r) = esc1 c ++ esc r := rfl
    rw [e2, List.foldl_append]
    have : (esc1 c).foldl stp ⟨ts, sg, true, false⟩ = ⟨ts, sg ++ [c], true, false⟩ := by
      unfold esc1
      by_cases h1 : c = 92
      · simp [h1, stp]
      · by_cases h2 : c = 34
        · simp [h2, stp]
        · by_cases h3 : c = 10
          · simp [h3, stp]
          · simp [h1, h2, h3, stp]
    rw [this, stp_esc ts r]
    simp
def qt (l : List Nat) : List Nat := 34 :: esc l ++ [34]
theorem stp_qt (ts : List (List Nat)) (sg l : List Nat) : (qt l).foldl stp ⟨ts, sg, false, false⟩ = ⟨ts ++ [l], [], false, false⟩ := by
  have e : (qt l).foldl stp ⟨ts, sg, false, false⟩ = ([34]).foldl stp ((esc l).foldl stp ⟨ts, [], true, false⟩) := by
    show List.foldl stp _ (34 :: esc l ++ [34]) = _
    rw [List.cons_append, List.foldl_cons, List.foldl_append]
    rfl
  rw [e, stp_esc]
  simp [stp]
/-- texts with a blank between -/
def sep : List (List Nat) → List Nat
  | [] => []
  | [x] => x
  | x :: y :: r => x ++ 32 :: sep (y :: r)
theorem stp_sep : ∀ (xs : List (List Nat)) (ts : List (List Nat)) (sg : List Nat), xs ≠ [] → ((sep (xs.map qt)).foldl stp ⟨ts, sg, false, false⟩).ts = ts ++ xs
  | [], _, _, h => absurd rfl h
  | [x], ts, sg, _ => by
    show ((qt x).foldl stp ⟨ts, sg, false, false⟩).ts = _
    rw [stp_qt]
  | x :: y :: r, ts, sg, _ => by
    show ((qt x ++ 32 :: sep ((y :: r).map qt)).foldl stp ⟨ts, sg, false, false⟩).ts = _
    rw [List.foldl_append, stp_qt, List.foldl_cons]
    have e : stp ⟨ts ++ [x], [], false, false⟩ 32 = ⟨ts ++ [x], [32], false, false⟩ := by simp [stp]
    rw [e, stp_sep (y :: r) _ _ (by simp)]
    simp
open PySem PySem.Spec L2.B
/-! ### the same, of texts -/
abbrev sg (x : Str) : List Nat := x.cps.toList
def mk (l : List Nat) : Str := ⟨l.toArray⟩
theorem sg_mk (l : List Nat) : sg (mk l) = l := by simp [sg, mk]
theorem mk_sg (x : Str) : mk (sg x) = x := str_ext (by simp [mk])
theorem rep_free (c : Nat) (z : List Nat) : ∀ l : List Nat, c ∉ l → rep c z l = l
  | [], _ => rfl
  | k :: r, h => by
    have h1 : ¬ k = c := fun e => h (e ▸ List.mem_cons_self ..)
    show (if k = c then z else [k]) ++ rep c z r = _
    rw [if_neg h1, rep_free c z r fun m => h (List.mem_cons_of_mem _ m)]
    rfl
theorem rep_join (c : Nat) (z : Str) : ∀ ps : List Str, (∀ p ∈ ps, c ∉ p.cps.toList) → rep c (sg z) (Str.join ⟨#[c]⟩ ps).cps.toList = (Str.join z ps).cps.toList
  | [], _ => rfl
  | [p], h => rep_free c _ _ (h p (List.mem_singleton.mpr rfl))
  | p :: q :: r, h => by
    have ih := rep_join c z (q :: r) fun a ha => h a (List.mem_cons_of_mem _ ha)
    show rep c (sg z) (p ++ ⟨#[c]⟩ ++ Str.join ⟨#[c]⟩ (q :: r)).cps.toList = (p ++ z ++ Str.join z (q :: r)).cps.toList
    simp only [Str.cps_append, Array.toList_append]
    rw [rep_append, rep_append, ih, rep_free c _ _ (h p (List.mem_cons_self ..))]
    have : rep c (sg z) [c] = sg z := by simp [rep]
    rw [this]
theorem replace_rep (x z : Str) (c : Nat) : sg (Txt.replace x ⟨#[c]⟩ z) = rep c (sg z) (sg x) := by
  show (Txt.replace x ⟨#[c]⟩ z).cps.toList = _
  rw [StrLaws.replace_one, ← rep_join c z _ (StrLaws.split_free x c), StrLaws.join_split]
def qtS (x : Str) : Str := mk (qt (sg x))
theorem sg_qtS (x : Str) : sg (qtS x) = qt (sg x) := sg_mk _
theorem rep_len (c : Nat) (z : List Nat) (hz : z.length ≤ 2) : ∀ l : List Nat, (rep c z l).length ≤ 2 * l.length
  | [] => Nat.le_refl _
  | k :: r => by
    have ih := rep_len c z hz r
    show ((if k = c then z else [k]) ++ rep c z r).length ≤ _
    rw [List.length_append, List.length_cons]
    split
    · omega
    · simp; omega
theorem esc_len : ∀ l : List Nat, (esc l).length ≤ 2 * l.length
  | [] => Nat.le_refl _
  | c :: r => by
    have ih := esc_len r
    show (esc1 c ++ esc r).length ≤ _
    rw [List.length_append, List.length_cons]
    have : (esc1 c).length ≤ 2 := by unfold esc1; split <;> (try split) <;> (try split) <;> simp
    omega
theorem qtS_len (x : Str) : (qtS x).length ≤ 2 * x.length + 2 := by
  rw [len_list, len_list]
  show (sg (qtS x)).length ≤ _
  rw [sg_qtS]
  have := esc_len (sg x)
  show (34 :: esc (sg x) ++ [34]).length ≤ _
  simp; omega
/-! joined by blanks -/
theorem join_sep : ∀ ts : List Str, sg (Txt.join " " ts) = sep (ts.map sg) := by
  intro ts
  have e : Txt.join " " ts = Str.join " " ts := StrLaws.glued_eq_join _ _
  rw [e]
  have go : ∀ ts : List Str, sg (Str.join " " ts) = sep (ts.map sg) := by
    intro ts
    induction ts with
    | nil => rfl
    | cons x r ih =>
      cases r with
      | nil => rfl
      | cons y r =>
        show sg (x ++ " " ++ Str.join " " (y :: r)) = sg x ++ 32 :: sep ((y :: r).map sg)
        rw [← ih]
        show (x ++ " " ++ Str.join " " (y :: r)).cps.toList = _
        simp only [Str.cps_append, Array.toList_append]
        have : (Str.ofString " ").cps.toList = [32] := rfl
        show x.cps.toList ++ (Str.ofString " ").cps.toList ++ _ = _
        rw [this]
        simp
  exact go ts
theorem sep_len : ∀ ls : List (List Nat), (sep ls).length ≤ (ls.map List.length).sum + ls.length
  | [] => Nat.zero_le _
  | [x] => by simp [sep]
  | x :: y :: r => by
    have ih := sep_len (y :: r)
    show (x ++ 32 :: sep (y :: r)).length ≤ _
    simp only [List.length_append, List.length_cons, List.map_cons, List.sum_cons] at ih ⊢
    omega
theorem joinOk_bl {ts : List Str} (h : sz ts + ts.length ≤ 1000000) : JoinOk " " ts = true := by
  have go : ∀ (l : List Str) (n : Nat), l.foldl (· + ·.length + (Str.ofString " ").length) n = n + sz l + l.length := by
    intro l
    induction l with
    | nil => intro n; simp [sz]
    | cons t r ih =>
      intro n
      show r.foldl _ (n + t.length + 1) = _
      rw [ih]
      show n + t.length + 1 + sz r + r.length = n + (t.length + sz r) + (r.length + 1)
      omega
  unfold JoinOk
  have e : ts.toArray.foldl (· + ·.length + (Str.ofString " ").length) 0 = 0 + sz ts + ts.length := by
    rw [List.foldl_toArray, go]
  rw [e]
  show (!decide (0 + sz ts + ts.length > sizeLine)) = true
  rw [decide_eq_false (by have := le_line h; omega)]
  rfl
/-! partition at the first blank -/
theorem pos_first : ∀ (w r : List Nat) (k : Nat), 32 ∉ w → (pos 32 (w ++ 32 :: r) k).take 1 = [k + w.length]
  | [], r, k, _ => by simp [pos]
  | c :: w, r, k, h => by
    have h1 : ¬ c = 32 := fun e => h (e ▸ List.mem_cons_self ..)
    show (if c = 32 then k :: pos 32 (w ++ 32 :: r) (k + 1) else pos 32 (w ++ 32 :: r) (k + 1)).take 1 = _
    rw [if_neg h1, pos_first w r (k + 1) fun m => h (List.mem_cons_of_mem _ m)]
    simp; omega
theorem pos_none : ∀ (w : List Nat) (k : Nat), 32 ∉ w → pos 32 w k = []
  | [], k, _ => rfl
  | c :: w, k, h => by
    have h1 : ¬ c = 32 := fun e => h (e ▸ List.mem_cons_self ..)
    show (if c = 32 then k :: pos 32 w (k + 1) else pos 32 w (k + 1)) = _
    rw [if_neg h1, pos_none w (k + 1) fun m => h (List.mem_cons_of_mem _ m)]
theorem part_first {z w r : Str} (h : sg z = sg w ++ 32 :: sg r) (hw : 32 ∉ sg w) : partV z " " = [.str w, .str " ", .str r] := by
  unfold partV
  have ho : Builtin.Str.occurrences z " " 0 z.length 1 = [w.length] := by
    have := occ_pos z 32 0 1 (Nat.zero_le _)
    rw [List.drop_zero] at this
    show Builtin.Str.occurrences z ⟨#[32]⟩ 0 z.length 1 = _
    rw [this]
    show (pos 32 (sg z) 0).take 1 = _
    rw [h, pos_first _ _ _ hw, len_list]
    simp
  rw [ho]
  have e1 : Builtin.Str.strSub z 0 w.length = w := str_ext (by
    show (z.cps.extract 0 w.length).toList = _
    rw [Array.toList_extract]
    show ((sg z).extract 0 w.length) = _
    rw [h, len_list, List.extract_eq_drop_take]
    simp)
  have e2 : Builtin.Str.strSub z (w.length + 1) z.length = r := str_ext (by
    show (z.cps.extract (w.length + 1) z.length).toList = _
    rw [Array.toList_extract]
    show ((sg z).extract (w.length + 1) z.length) = _
    have hz : z.length = w.length + 1 + r.length := by
      rw [len_list, len_list, len_list]
      show (sg z).length = _
      rw [h]; simp; omega
    have lw : (sg w).length = w.length := (len_list w).symm
    have lr : (sg r).length = r.length := (len_list r).symm
    have e3 : sg w ++ 32 :: sg r = (sg w ++ [32]) ++ sg r := by simp
    rw [h, hz, List.extract_eq_drop_take, e3, List.drop_left' (by simp [lw]), show w.length + 1 + r.length - (w.length + 1) = r.length by omega, ← lr, List.take_length])
  show [V.str (Builtin.Str.strSub z 0 w.length), .str " ", .str (Builtin.Str.strSub z (w.length + 1) z.length)] = _
  rw [e1, e2]
theorem part_none {z : Str} (h : 32 ∉ sg z) : partV z " " = [.str z, .str Str.empty, .str Str.empty] := by
  unfold partV
  have ho : Builtin.Str.occurrences z " " 0 z.length 1 = [] := by
    have := occ_pos z 32 0 1 (Nat.zero_le _)
    rw [List.drop_zero] at this
    show Builtin.Str.occurrences z ⟨#[32]⟩ 0 z.length 1 = _
    rw [this]
    show (pos 32 (sg z) 0).take 1 = _
    rw [pos_none _ _ h]; rfl
  rw [ho]
end L2.K42
set_option maxRecDepth 100000
set_option maxHeartbeats 4000000
namespace L2.B
open PySem PySem.Spec PyProof.Rows
end L2.B
set_option maxRecDepth 100000
set_option maxHeartbeats 4000000
namespace L2.B
open PySem PySem.Spec PyProof.Rows
/-! ### _law_text -/
def A1 : Str := " !\"#$&'()*+,-./0123456789:;<=>?@ABCDEFGHIJKLMNOPQRSTUVWXYZ[\\]^_`"
def A2 : Str := "abcdefghijklmnopqrstuvwxyz{|}~\n"
def A3 : Str := "ab\n"
def alOk (al : Str) : Prop := 0 < al.length ∧ al.length ≤ 1000 ∧ ∀ c ∈ al.cps.toList, SG.cps.contains c = true
theorem al_of {al : Str} (h : (decide (0 < al.length) && decide (al.length ≤ 1000) && al.cps.toList.all fun c => SG.cps.contains c) = true) : alOk al := by
  simp only [Bool.and_eq_true, decide_eq_true_eq, List.all_eq_true] at h
  exact ⟨h.1.1, h.1.2, h.2⟩
theorem al12 : alOk (A1 ++ A2) := al_of (by decide +kernel)
theorem al3 : alOk A3 := al_of (by decide +kernel)
theorem a12_len : A1.length + A2.length ≤ sizeLine := by decide +kernel
abbrev tText0 : List (Str × Sp) := [("_law_mixed", spMixed)]
def spTextL : Sp := fun vs H Q E => ∃ c n, vs = [.int c, .int n] ∧ 0 ≤ n ∧ n ≤ 1000 ∧ ∀ x H', good x → x.length = n.toNat → Same H H' → Q (.str x) H'
def oneOk (t : Str) : Prop := t.length = 1 ∧ ∀ c ∈ t.cps.toList, SG.cps.contains c = true
theorem sz_ones : ∀ (ts : List Str), (∀ t ∈ ts, oneOk t) → sz ts = ts.length
  | [], _ => rfl
  | t :: r, h => by
    show t.length + sz r = r.length + 1
    rw [(h t List.mem_cons_self).1, sz_ones r fun q hq => h q (List.mem_cons_of_mem _ hq)]
    omega
theorem good_ones {ts : List Str} (h : ∀ t ∈ ts, oneOk t) (hl : ts.length ≤ 1000) : good (cat ts) := by
  refine ⟨by rw [cat_length, sz_ones ts h]; omega, fun c hc => ?_⟩
  rw [cat_list, List.mem_flatten] at hc
  obtain ⟨l, hl, hc⟩ := hc
  obtain ⟨t, ht, rfl⟩ := List.mem_map.mp hl
  exact (h t ht).2 c hc
theorem rd_textL {K : PySem.W.Frag} (vs : List V) (H : Hp) (Q : VK) (E : XK) (h : spTextL vs H Q E) : rdSs (rcx K tText0 [] (E := E)) b_textL { nx := fun _ H' => Q .non H', rt := Q } (start N_textL vs) H := by
  obtain ⟨c, n, rfl, hn0, hn1, k⟩ := h
  have fin : ∀ (al : Str), alOk al → rdSs (rcx K tText0 [] (E := E)) [.ret (.mth .join (.c (.str "")) [(.comp none [("_law_some", 2), ("_law_cell", 0)] .rng [(.v 1)] none (.ix (.v 1) (.bin .Mod (.bin .FloorDiv (.call 0 [(.v 2), (.v 0)]) (.c (.int 7))) (.blt .len [(.v 1)]))))])]
      { nx := fun _ H' => Q .non H', rt := Q } [some (.int c), some (.int n), some (.str al)] H := by
    intro al ho
    refine ⟨rfl, _, rfl, n, rfl, by omega, by omega, fun i m ys H2 => m = n.toNat - i ∧ i ≤ n.toNat ∧ H2 = H ∧ ∃ ts : List Str, ys = ts.map V.str ∧ ts.length = i ∧ ∀ t ∈ ts, oneOk t, ⟨_, rfl, Nat.zero_le _, rfl, [], rfl, rfl, fun t ht => by cases ht⟩, ?_⟩
    rintro i m ys H2 ⟨rfl, hi, rfl, ts, rfl, hl, hts⟩
    by_cases hlt : i < n.toNat
    · refine .inr ⟨hlt, ?_⟩
      rintro x H3 ⟨rfl, rfl⟩
      refine ⟨_, rfl, _, rfl, _, rfl, _, _, rfl, ⟨by decide, by decide⟩, _, rfl, le_line (by have := ho.2.1; omega), (by show (0 : Int) < (al.length : Int); have := ho.1; omega), ?_⟩
      have hm := mixed_pos c (0 + (i : Int))
      have hj0 : 0 ≤ mixed c (0 + (i : Int)) / 7 % (al.length : Int) := Int.emod_nonneg _ (by have := ho.1; omega)
      have hj1 : mixed c (0 + (i : Int)) / 7 % (al.length : Int) < (al.length : Int) := Int.emod_lt_of_pos _ (by have := ho.1; omega)
      obtain ⟨j, ej⟩ : ∃ j, j = mixed c (0 + (i : Int)) / 7 % (al.length : Int) := ⟨_, rfl⟩
      rw [← ej] at hj0 hj1
      have hjl : j.toNat < al.cps.toList.length := by rw [← len_list]; omega
      refine .inr (.inr (.inl ⟨al, j, al.cps.toList[j.toNat], rfl, (by rw [ej]), le_line (by have := ho.2.1; omega), ?_, ?_, n.toNat - (i + 1), by omega, rfl, hlt, rfl, ts ++ [⟨#[al.cps.toList[j.toNat]]⟩], (by rw [List.map_append]; rfl), by simp [hl], ?_⟩))
      · have e := atI_nat (xs := al.cps.toList) (j := j.toNat) (v := al.cps.toList[j.toNat]) (by simp [hjl])
        rw [show ((j.toNat : Nat) : Int) = j by omega] at e
        exact e
      · rw [List.length_map]; exact lt_line (by omega)
      · intro t ht
        rcases List.mem_append.mp ht with z | z
        · exact hts t z
        · rw [List.mem_singleton.mp z]
          refine ⟨rfl, fun d hd => ?_⟩
          have : d = al.cps.toList[j.toNat] := by simpa using hd
          rw [this]
          exact ho.2.2 _ (List.getElem_mem hjl)
    · have hie : i = n.toNat := by omega
      refine .inl ⟨by show n.toNat ≤ i; omega, fun p hp => ?_⟩
      refine ⟨ts, SqL.of upd_same, joinOk_of (by rw [sz_ones ts hts]; omega), ?_⟩
      exact k (cat ts) _ (good_ones hts (by omega)) (by rw [cat_length, sz_ones ts hts, hl, hie]) (sameNew hp)
  refine ⟨_, rfl, a12_len, _, rfl, (by show (0 : Int) < 3; decide), _, rfl, ?_⟩
  refine ite2 (fun h => ?_) (fun h => ?_)
  · exact fin A3 al3
  · exact fin (A1 ++ A2) al12
/-! ### _law_raw -/
end L2.B
set_option maxRecDepth 100000
set_option maxHeartbeats 4000000
namespace L2.B
open PySem PySem.Spec PyProof.Rows
/-! ### _law_neat -/
abbrev Dn (Q : VK) : Ends := { nx := fun _ H' => Q .non H', rt := Q }
end L2.B
set_option maxRecDepth 100000
set_option maxHeartbeats 4000000
namespace L2.B
open PySem PySem.Spec PyProof.Rows
theorem app_len (x y : Str) : (x ++ y).length = x.length + y.length := by rw [len_list, app_list, List.length_append, ← len_list, ← len_list]
end L2.B
set_option maxRecDepth 100000
set_option maxHeartbeats 4000000
namespace L2.B
open PySem PySem.Spec PyProof.Rows
end L2.B
set_option maxRecDepth 100000
set_option maxHeartbeats 4000000
namespace L2.B
open PySem PySem.Spec PyProof.Rows
end L2.B
set_option maxRecDepth 100000
set_option maxHeartbeats 4000000
namespace L2.B
open PySem PySem.Spec PyProof.Rows
/-! ### sums -/
/-! ### what neat gives is a change -/
end L2.B
set_option maxRecDepth 100000
set_option maxHeartbeats 4000000
namespace L2.B
open PySem PySem.Spec PyProof.Rows
/-! ### lists of parts compared -/
end L2.B
set_option maxRecDepth 100000
set_option maxHeartbeats 4000000
namespace L2.B
open PySem PySem.Spec PyProof.Rows
/-! ### the other words -/
/-! ### the rows of what rows give -/
/-! ### a change done: what is kept, put, cut -/
end L2.B
set_option maxRecDepth 100000
set_option maxHeartbeats 4000000
namespace L2.B
open PySem PySem.Spec PyProof.Rows
def spSizeL : Sp := fun vs H Q E => ∃ c, vs = [.int c] ∧ ∀ n, 0 ≤ n → n ≤ 400 → Q (.int n) H
theorem rd_sizeL {K : PySem.W.Frag} (vs : List V) (H : Hp) (Q : VK) (E : XK) (h : spSizeL vs H Q E) : rdSs (rcx K [] [] (E := E)) b_sizeL { nx := fun _ H' => Q .non H', rt := Q } (start N_sizeL vs) H := by
  obtain ⟨c, rfl, q⟩ := h
  refine ⟨_, rfl, by show (0 : Int) < 8; decide, _, rfl, ?_⟩
  refine ite2 (fun _ => ?_) (fun _ => ?_)
  · exact ⟨_, rfl, ⟨by decide, by decide⟩, by show (0 : Int) < 401; decide, q _ (Int.emod_nonneg _ (by decide)) (by have := Int.emod_lt_of_pos (c / 8) (show (0 : Int) < 401 by decide); omega)⟩
  · exact ⟨_, rfl, ⟨by decide, by decide⟩, by show (0 : Int) < 25; decide, q _ (Int.emod_nonneg _ (by decide)) (by have := Int.emod_lt_of_pos (c / 8) (show (0 : Int) < 25 by decide); omega)⟩
end L2.B
set_option maxRecDepth 100000
set_option maxHeartbeats 4000000
namespace L2.B
open PySem PySem.Spec PyProof.Rows
/-! ### rows of signs -/
end L2.B
set_option maxRecDepth 100000
set_option maxHeartbeats 4000000
namespace L2.B
open PySem PySem.Spec PyProof.Rows
end L2.B
namespace L2
open PySem PySem.Spec PyProof.Rows
/-! ### a reading, step by step -/
section
variable {Γ : RCx} {D : Ends} {σ : St} {H : Hp} {r : List RS} {Q : VK} {QA : List V → Hp → Prop} {QT : Bool → Hp → Prop}
theorem r_v {i : Nat} {v : V} (h : σ[i]? = some (some v)) (q : Q v H) : rdE Γ (.v i) σ H Q := ⟨_, h, q⟩
theorem r_c {v : V} (q : Q v H) : rdE Γ (.c v) σ H Q := q
theorem r_g {j : Nat} (q : Q (Γ.gv j) H) : rdE Γ (.g j) σ H Q := q
theorem r_bin {op : Operator} {a b : RE} (h : rdE Γ a σ H fun x H1 => rdE Γ b σ H1 fun y H2 => rBin Γ.K op x y H2 Q) : rdE Γ (.bin op a b) σ H Q := h
theorem r_cmp {op : CmpOp} {a b : RE} (h : rdE Γ a σ H fun x H1 => rdE Γ b σ H1 fun y H2 => rCmp Γ.K op x y H2 Q) : rdE Γ (.cmp op a b) σ H Q := h
theorem r_ix {a b : RE} (h : rdE Γ a σ H fun x H1 => rdE Γ b σ H1 fun y H2 => rIx2 Γ.K Γ.sd x y H2 Q) : rdE Γ (.ix a b) σ H Q := h
theorem r_call {j : Nat} {as : List RE} (h : rdA Γ as σ H fun vs H1 => Γ.fs j (vs ++ []) H1 Q Γ.E) : rdE Γ (.call j as) σ H Q := h
theorem r_callS {j : Nat} {as : List RE} (sp : Sp) (hs : Γ.fs j = sp) (h : rdA Γ as σ H fun vs H1 => sp vs H1 Q Γ.E) : rdE Γ (.call j as) σ H Q := by
  subst hs
  refine r_call ?_
  have e : (fun (vs : List V) (H1 : Hp) => Γ.fs j (vs ++ []) H1 Q Γ.E) = fun vs H1 => Γ.fs j vs H1 Q Γ.E := by
    funext vs H1; rw [List.append_nil]
  rw [e]; exact h
theorem r_blt {b : Blt} {as : List RE} (h : rdA Γ as σ H fun vs H1 => rBlt Γ.K b vs H1 Q) : rdE Γ (.blt b as) σ H Q := h
theorem r_tup {as : List RE} (h : rdA Γ as σ H fun xs H1 => xs.length ≤ sizeLine ∧ ∀ p, H1 p = none → Q (.ref p) (upd H1 p (.tup xs))) : rdE Γ (.tup as) σ H Q := h
theorem r_lst {as : List RE} (h : rdA Γ as σ H fun xs H1 => xs.length ≤ sizeLine ∧ ∀ p, H1 p = none → Q (.ref p) (upd H1 p (.lst xs))) : rdE Γ (.lst as) σ H Q := h
theorem r_isx {a c : RE} (h : rdE Γ a σ H fun x H1 => rdE Γ c σ H1 fun y H2 => rIsx Γ.K [x, y] H2 Q) : rdE Γ (.isx a c) σ H Q := h
theorem r_isxT {a c : RE} (h : rdE Γ a σ H fun x H1 => rdE Γ c σ H1 fun y H2 => rIsx Γ.K [x, y] H2 fun z H3 => tru Γ.K z H3 fun b => QT b H3) : rdT Γ (.isx a c) σ H QT := h
theorem r_nil (q : QA [] H) : rdA Γ [] σ H QA := q
theorem r_cons {a : RE} {as : List RE} (h : rdE Γ a σ H fun x H1 => rdA Γ as σ H1 fun xs H2 => QA (x :: xs) H2) : rdA Γ (a :: as) σ H QA := h
theorem r_asg {i : Nat} {e : RE} (h : rdE Γ e σ H fun x H1 => rdSs Γ r D (σ.set i (some x)) H1) : rdSs Γ (.asg i e :: r) D σ H := h
theorem r_drop {e : RE} (h : rdE Γ e σ H fun _ H1 => rdSs Γ r D σ H1) : rdSs Γ (.drop e :: r) D σ H := h
theorem r_ret {e : RE} (h : rdE Γ e σ H D.rt) : rdSs Γ (.ret e :: r) D σ H := h
end
end L2
namespace L2
open PySem PySem.Spec PyProof.Rows
section
variable {Γ : RCx} {D : Ends} {σ : St} {H : Hp} {r : List RS} {Q : VK} {QA : List V → Hp → Prop} {QT : Bool → Hp → Prop}
theorem tru_bl {K : PySem.W.Frag} {b : Bool} {QB : Bool → Prop} (h : QB b) : tru K (.bl b) H QB := h
theorem r_notT {a : RE} (h : rdT Γ a σ H fun b H1 => QT (!b) H1) : rdT Γ (.not a) σ H QT := h
theorem r_callTS {j : Nat} {as : List RE} (sp : Sp) (hs : Γ.fs j = sp) (h : rdA Γ as σ H fun vs H1 => sp vs H1 (fun x H2 => tru Γ.K x H2 fun b => QT b H2) Γ.E) : rdT Γ (.call j as) σ H QT := by
  subst hs
  show rdA Γ as σ H fun vs H1 => Γ.fs j (vs ++ []) H1 (fun x H2 => tru Γ.K x H2 fun b => QT b H2) Γ.E
  have e : (fun (vs : List V) (H1 : Hp) => Γ.fs j (vs ++ []) H1 (fun x H2 => tru Γ.K x H2 fun b => QT b H2) Γ.E) = fun vs H1 => Γ.fs j vs H1 (fun x H2 => tru Γ.K x H2 fun b => QT b H2) Γ.E := by
    funext vs H1; rw [List.append_nil]
  rw [e]; exact h
end
end L2
namespace L2.B
/-! ### changes sign by sign -/
/-! ### one and then the other -/
/-! ### what the form says -/
/-! ### texts and changes -/
/-! ### past one another -/
end L2.B
set_option maxRecDepth 100000
set_option maxHeartbeats 4000000
namespace L2.B
open PySem PySem.Spec PyProof.Rows
/-! ### parts, sign by sign -/
/-! ### made neat -/
/-! ### a neat change is known by its form -/
end L2.B
set_option maxRecDepth 100000
namespace L2.B
open PySem PySem.Spec PyProof.Rows
/-! ### Walk_init -/
/-! ### Walk_word -/
/-! ### Walk_left -/
/-! ### Walk_take -/
/-! ### put_first -/
/-! ### share -/
/-! ### passed -/
/-! ### cut_behind -/
/-! ### parts_behind -/
/-! ### then -/
end L2.B
namespace L2.B
open PySem PySem.Spec PyProof.Rows
end L2.B
set_option maxRecDepth 100000
set_option maxHeartbeats 4000000
namespace L2.B
open PySem PySem.Spec PyProof.Rows
/-! ### things of any kind -/
theorem isi_mono {T : Ty} {v : V} {H : Hp} {P Q : Bool → Prop} (h : isiV T v H P) (i : ∀ b, P b → Q b) : isiV T v H Q := by
  cases v with
  | ref a =>
    unfold isiV at h ⊢
    simp only at h ⊢
    split at h
    all_goals first | exact i _ h | exact h.elim
  | non => exact i _ h
  | bl b => exact i _ h
  | int _ => exact i _ h
  | str _ => exact i _ h
  | _ => exact False.elim h
def NotTy (T : Ty) (v : V) (H : Hp) : Prop := isiV T v H fun b => b = false
theorem NotTy.go {T : Ty} {v : V} {H : Hp} {Q : Bool → Prop} (h : NotTy T v H) (q : Q false) : isiV T v H Q := isi_mono h fun b e => by rw [e]; exact q
def isText (x : Str) : Bool := x.cps.toList.all fun c => SG.cps.contains c
theorem takeWhile_lt {α : Type} (p : α → Bool) : ∀ l : List α, l.all p = false → (l.takeWhile p).length < l.length
  | [], h => by cases h
  | c :: l, h => by
    rw [List.takeWhile_cons]
    cases hc : p c with
    | false => simp
    | true =>
      rw [List.all_cons, hc, Bool.true_and] at h
      have := takeWhile_lt p l h
      simp; omega
theorem lstrip_not (x y : Str) (h : (x.cps.toList.all fun c => y.cps.contains c) = false) : Txt.lstripChars x y ≠ "" := by
  have lt := takeWhile_lt _ _ h
  have e0 : stripLo y.cps.contains true x = (x.cps.toList.takeWhile y.cps.contains).length := by
    unfold stripLo
    rw [if_pos rfl]
  have e1 : ∀ n, stripHi y.cps.contains false x n = x.length := fun n => rfl
  intro z
  have z2 := congrArg Str.length z
  have l0 : (Str.ofString "").length = 0 := rfl
  rw [l0] at z2
  unfold Txt.lstripChars Txt.stripBy stripSame stripped at z2
  rw [e0, e1] at z2
  have hx : x.cps.size = x.cps.toList.length := by simp
  split at z2
  · have : x.cps.size = 0 := z2
    omega
  · have z3 : (x.cps.extract (x.cps.toList.takeWhile y.cps.contains).length x.cps.size).size = 0 := z2
    rw [Array.size_extract, Nat.min_self] at z3
    have z4 : x.cps.size - (List.takeWhile (fun c => y.cps.contains c) x.cps.toList).length = 0 := z3
    omega
/-- what is no text -/
def BadT (v : V) (H : Hp) : Prop := (∃ x, v = .str x ∧ x.length ≤ 1000000 ∧ isText x = false) ∨ NotTy .str v H
/-- what is no whole number -/
def NotWh (v : V) (H : Hp) : Prop := (∃ b, v = .bl b) ∨ NotTy .int v H
def spWholeX : Sp := fun vs H Q E => ∃ v, vs = [v] ∧ ((∃ i, v = .int i ∧ Q (.bl true) H) ∨ (NotWh v H ∧ Q (.bl false) H))
theorem rd_wholeX {K : PySem.W.Frag} (vs : List V) (H : Hp) (Q : VK) (E : XK) (h : spWholeX vs H Q E) : rdSs (rcx K [] [] (E := E)) b_is_whole (Dn Q) (start N_is_whole vs) H := by
  obtain ⟨v, rfl, ⟨i, rfl, q⟩ | ⟨⟨b, rfl⟩ | hn, q⟩⟩ := h
  · exact ⟨_, rfl, rfl, _, rfl, iteT ⟨_, rfl, rfl, q⟩⟩
  · exact ⟨_, rfl, rfl, _, rfl, iteT ⟨_, rfl, rfl, q⟩⟩
  · exact ⟨_, rfl, rfl, hn.go ⟨_, rfl, iteF q⟩⟩
def spTextX : Sp := fun vs H Q E => ∃ v, vs = [v] ∧ ((∃ x, v = .str x ∧ good x ∧ Q (.bl true) H) ∨ (BadT v H ∧ Q (.bl false) H))
theorem rd_textX {K : PySem.W.Frag} (vs : List V) (H : Hp) (Q : VK) (E : XK) (h : spTextX vs H Q E) : rdSs (rcx K [] gS (E := E)) b_is_text (Dn Q) (start N_is_text vs) H := by
  obtain ⟨v, rfl, ⟨x, rfl, hx, q⟩ | ⟨⟨x, rfl, hl, hx⟩ | hn, q⟩⟩ := h
  · exact rd_text _ _ _ _ ⟨x, rfl, hx, q⟩
  · refine ⟨_, rfl, rfl, _, rfl, iteT ⟨_, rfl, rfl, le_line hl, ?_⟩⟩
    show Q (.bl (false ^^ decide (V.str (Txt.lstripChars x SG) = V.str ""))) H
    rw [decide_eq_false (fun z => lstrip_not x SG hx (by injection z))]
    exact q
  · exact ⟨_, rfl, rfl, hn.go ⟨_, rfl, iteF q⟩⟩
def spWordX (K : PySem.W.Frag) : Sp := fun vs H Q E => ∃ v p xs, vs = [v, .ref p] ∧ SqT K H p xs ∧ xs.all flatV = true ∧ ((∃ w, v = .str w ∧ Q (.bl (inV (.str w) xs)) H) ∨ (NotTy .str v H ∧ Q (.bl false) H))
theorem rd_wordX {K : PySem.W.Frag} (vs : List V) (H : Hp) (Q : VK) (E : XK) (h : spWordX K vs H Q E) : rdSs (rcx K [] [] (E := E)) b_is_word (Dn Q) (start N_is_word vs) H := by
  obtain ⟨v, p, xs, rfl, hp, hf, ⟨w, rfl, q⟩ | ⟨hn, q⟩⟩ := h
  · exact rd_word _ _ _ _ ⟨w, p, xs, rfl, hp, hf, q⟩
  · exact ⟨_, rfl, rfl, hn.go ⟨_, rfl, iteF q⟩⟩
end L2.B
set_option maxRecDepth 100000
set_option maxHeartbeats 4000000
namespace L2.B
open PySem PySem.Spec PyProof.Rows
/-! ### done, refused -/
end L2.B
set_option maxRecDepth 100000
set_option maxHeartbeats 4000000
namespace L2.B
open PySem PySem.Spec PyProof.Rows
/-! ### the word of a refusal -/
structure Kits (K : PySem.W.Frag) (cs : List Addr) (ink : Addr) (D : Addr) (j : Nat) : Prop where
  cls : ExcCls K D
  kit : ∀ i c, cs[i]? = some c → PySem.W.kitOne K (.ref D) (.ref c) = some (decide (i = j))
  ink : PySem.W.kitOne K (.ref D) (.ref ink) = some true
  val : PySem.W.kitOne K (.ref D) (.type "ValueError") = some true
def wordN : List Str := ["text", "change", "fit", "place", "side", "mark", "node", "cursor", "deed", "letter", "gone", "hand", "note"]
abbrev gW (c0 c1 c2 c3 c4 c5 c6 c7 c8 c9 c10 c11 c12 ink : Addr) : List (Str × V) :=
  [("BadText", .ref c0), ("BadChange", .ref c1), ("BadFit", .ref c2), ("NoPlace", .ref c3), ("BadSide", .ref c4), ("NoMark", .ref c5), ("NoNode", .ref c6), ("NoCursor", .ref c7), ("BadDeed", .ref c8), ("BadLetter", .ref c9), ("NoLetter", .ref c10), ("NoHand", .ref c11), ("NoNote", .ref c12), ("InkError", .ref ink)]
def spWordL (K : PySem.W.Frag) (cs : List Addr) (ink : Addr) : Sp := fun vs H Q E => ∃ ea D j, vs = [.ref ea] ∧ ExcAt H ea D ∧ Kits K cs ink D j ∧ j < 13 ∧ ∀ H', Same H H' → Q (.str (wordN.getD j "")) H'
theorem _root_.L2.ExcAt.same {H H' : Hp} {ea D : Addr} (h : ExcAt H ea D) (s : Same H H') : ExcAt H' ea D := ExcAt.keeps h fun b o u e => s b _ e
def ItV (H : Hp) (v : V) (p : Str × Bool) : Prop := ∃ t, v = .ref t ∧ H t = some (.tup [.str p.1, .bl p.2])
theorem ItV.mono {H H' : Hp} {v : V} {p : Str × Bool} (h : ItV H v p) (s : Same H H') : ItV H' v p := by
  obtain ⟨t, e, h⟩ := h
  exact ⟨t, e, s _ _ h⟩
theorem ItsV.mono {H H' : Hp} (s : Same H H') : ∀ {vs : List V} {ps : List (Str × Bool)}, Paired (ItV H) vs ps → Paired (ItV H') vs ps
  | _, _, .nil => .nil
  | _, _, .cons h r => .cons (h.mono s) (ItsV.mono s r)
theorem ItsV.get {H : Hp} : ∀ {vs : List V} {ps : List (Str × Bool)} {i : Nat} {v : V}, Paired (ItV H) vs ps → vs[i]? = some v → ∃ p, ps[i]? = some p ∧ ItV H v p
  | _, _, i, v, .nil, e => by simp at e
  | _, _, 0, v, .cons h r, e => by simp at e; subst e; exact ⟨_, rfl, h⟩
  | _, _, i + 1, v, .cons h r, e => by
    obtain ⟨p, a, b⟩ := ItsV.get (i := i) r (by simpa using e)
    exact ⟨p, by simpa using a, b⟩
theorem Paired.app {α β : Type} {R : α → β → Prop} : ∀ {xs xs' : List α} {ys ys' : List β}, Paired R xs ys → Paired R xs' ys' → Paired R (xs ++ xs') (ys ++ ys')
  | _, _, _, _, .nil, s => s
  | _, _, _, _, .cons r t, s => .cons r (Paired.app t s)
section
variable {Γ : RCx} {cs : List Addr} {ink ea D : Addr} {j : Nat}
theorem rd_items (hk : Kits Γ.K cs ink D j) (hg : ∀ i c, cs[i]? = some c → Γ.gv i = .ref c) : ∀ (ws : List (Str × Nat)) (σ : St) (H : Hp) (Q : List V → Hp → Prop), (∀ p ∈ ws, p.2 < cs.length) → σ[0]? = some (some (.ref ea)) → ExcAt H ea D →
    (∀ vs H', Same H H' → Paired (ItV H') vs (ws.map fun p => (p.1, decide (p.2 = j))) → Q vs H') → rdA Γ (ws.map fun p => .tup [(.c (.str p.1)), (.isx (.v 0) (.g p.2))]) σ H Q
  | [], σ, H, Q, _, _, _, q => q [] H (Same.refl _) .nil
  | (w, i) :: ws, σ, H, Q, hl, h0, he, q => by
    have hi : i < cs.length := hl (w, i) (.head _)
    have hc : cs[i]? = some cs[i] := by simp [hi]
    have key : ∀ k : VK, rIsx Γ.K [.ref ea, .ref cs[i]] H k → rIsx Γ.K [.ref ea, Γ.gv i] H k := by
      intro k; rw [hg i _ hc]; exact id
    refine r_cons (r_tup (r_cons (r_c (r_cons (r_isx (r_v h0 (r_g (key _ ⟨D, _, he, hk.cls, .inl ⟨_, rfl⟩, hk.kit i _ hc, r_nil ⟨(by show 2 ≤ sizeLine; decide), fun t ht => ?_⟩⟩))))))))
    have s1 := sameNew (o := .tup [.str w, .bl (decide (i = j))]) ht
    refine rd_items hk hg ws σ _ _ (fun p hp => hl p (.tail _ hp)) h0 (he.same s1) fun vs H' s2 hp => ?_
    exact q (.ref t :: vs) H' (s1.trans s2) (.cons ⟨t, rfl, s2 _ _ upd_same⟩ hp)
theorem rd_more (hk : Kits Γ.K cs ink D j) (hg : ∀ i c, cs[i]? = some c → Γ.gv i = .ref c) (ws : List (Str × Nat)) {l : Addr} {xs : List V} {ps : List (Str × Bool)} {H : Hp} {r : List RS} {E : Ends} (hl : ∀ p ∈ ws, p.2 < cs.length) (he : ExcAt H ea D) (h1 : H l = some (.lst xs))
    (hp : Paired (ItV H) xs ps) (hn : xs.length + ws.length ≤ 1000) (q : ∀ l' xs' H', Same H H' → H' l' = some (.lst xs') → Paired (ItV H') xs' (ps ++ ws.map fun p => (p.1, decide (p.2 = j))) → rdSs Γ r E [some (.ref ea), some (.ref l'), none] H') :
    rdSs Γ (.asg 1 (.bin .Add (.v 1) (.lst (ws.map fun p => .tup [(.c (.str p.1)), (.isx (.v 0) (.g p.2))]))) :: r) E [some (.ref ea), some (.ref l), none] H := by
  refine ⟨_, rfl, rd_items hk hg ws _ H _ hl rfl he fun vs H1 s1 hv => ⟨?_, fun d hd => ?_⟩⟩
  · have := Paired.length hv
    rw [List.length_map] at this
    exact le_line (by omega)
  · have e1 : upd H1 d (.lst vs) l = some (.lst xs) := by rw [upd_ne (ne_of_none (s1 _ _ h1) hd)]; exact s1 _ _ h1
    have hvl := Paired.length hv
    rw [List.length_map] at hvl
    refine .inl ⟨l, d, xs, vs, rfl, rfl, e1, upd_same, le_line (by omega), fun e he' => ?_⟩
    have s2 := (sameNew (o := .lst vs) hd).trans (sameNew (o := .lst (xs ++ vs)) he')
    exact q e (xs ++ vs) _ (s1.trans s2) upd_same (Paired.app (ItsV.mono (s1.trans s2) hp) (ItsV.mono s2 hv))
end
theorem words_pick (j : Nat) (hj : j < 13) : (((wordN.zipIdx).map fun p => (p.1, decide (p.2 = j))).filter (·.2)).map (·.1) = [wordN.getD j ""] ∧ (wordN.getD j "").length ≤ 10 := by
  match j, hj with
  | 0, _ | 1, _ | 2, _ | 3, _ | 4, _ | 5, _ | 6, _ | 7, _ | 8, _ | 9, _ | 10, _ | 11, _ | 12, _ => exact ⟨rfl, by decide +kernel⟩
theorem rd_lst {Γ : RCx} {as : List RE} {σ : St} {H : Hp} {Q : VK} (h : rdA Γ as σ H fun xs H1 => xs.length ≤ sizeLine ∧ ∀ p, H1 p = none → Q (.ref p) (upd H1 p (.lst xs))) : rdE Γ (.lst as) σ H Q := h
theorem join_one (sep x : Str) : Txt.join sep [x] = x := str_ext rfl
theorem take_fm {α β : Type} (p : α → Bool) (f : α → β) (l : List α) (i : Nat) (v : α) (h : l[i]? = some v) : ((l.take (i + 1)).filter p).map f = ((l.take i).filter p).map f ++ (if p v then [f v] else []) := by
  rw [take_filter_snoc p l i v h, List.map_append]
  cases p v <;> rfl
theorem rd_isx {Γ : RCx} {i g : Nat} {ea D C : Addr} {b : Bool} {σ : St} {H : Hp} {Q : Bool → Hp → Prop} (h0 : σ[i]? = some (some (.ref ea))) (he : ExcAt H ea D) (hc : ExcCls Γ.K D) (hg : Γ.gv g = .ref C) (hk : PySem.W.kitOne Γ.K (.ref D) (.ref C) = some b) (q : Q b H) : rdT Γ (.isx (.v i) (.g g)) σ H Q := by
  have key : ∀ k : VK, rIsx Γ.K [.ref ea, .ref C] H k → rIsx Γ.K [.ref ea, Γ.gv g] H k := by
    intro k; rw [hg]; exact id
  exact r_isxT (r_v h0 (r_g (key _ ⟨D, b, he, hc, .inl ⟨_, rfl⟩, hk, q⟩)))
theorem rd_isxT {Γ : RCx} {i : Nat} {ea D : Addr} {n : String} {b : Bool} {σ : St} {H : Hp} {Q : Bool → Hp → Prop} (h0 : σ[i]? = some (some (.ref ea))) (he : ExcAt H ea D) (hc : ExcCls Γ.K D) (hk : PySem.W.kitOne Γ.K (.ref D) (.type n) = some b) (q : Q b H) : rdT Γ (.isx (.v i) (.c (.ty n))) σ H Q :=
  r_isxT (r_v h0 (r_c ⟨D, b, he, hc, .inr ⟨_, rfl⟩, hk, q⟩))
theorem rd_wordG {Γ : RCx} {cs : List Addr} {ink ea D : Addr} {j : Nat} {H : Hp} {Q : VK} (hl : cs.length = 13) (hg : ∀ i c, cs[i]? = some c → Γ.gv i = .ref c) (hi : Γ.gv 13 = .ref ink) (he : ExcAt H ea D) (hk : Kits Γ.K cs ink D j) (hj : j < 13) (q : ∀ H', Same H H' → Q (.str (wordN.getD j "")) H') :
    rdSs Γ b_wordL (Dn Q) [some (.ref ea), none, none] H := by
  refine rd_asg (rd_lst (rd_items hk hg [("text", 0), ("change", 1), ("fit", 2)] _ H _ (by rw [hl]; decide) rfl he fun vs H1 s1 hv => ⟨?_, fun d hd => ?_⟩))
  · have := Paired.length hv
    exact le_line (by rw [this]; simp)
  have s2 := s1.trans (sameNew (o := .lst vs) hd)
  have hv2 := ItsV.mono (sameNew (o := .lst vs) hd) hv
  have hvl := Paired.length hv
  refine rd_more hk hg [("place", 3), ("side", 4), ("mark", 5)] (by rw [hl]; decide) (he.same s2) upd_same hv2 (by rw [hvl]; simp) fun l3 xs3 H3 s3 h3 hv3 => ?_
  have hvl3 := Paired.length hv3
  refine rd_more hk hg [("node", 6), ("cursor", 7)] (by rw [hl]; decide) ((he.same s2).same s3) h3 hv3 (by rw [hvl3]; simp) fun l4 xs4 H4 s4 h4 hv4 => ?_
  have hvl4 := Paired.length hv4
  refine rd_more hk hg [("deed", 8), ("letter", 9)] (by rw [hl]; decide) (((he.same s2).same s3).same s4) h4 hv4 (by rw [hvl4]; simp) fun l5 xs5 H5 s5 h5 hv5 => ?_
  have hvl5 := Paired.length hv5
  refine rd_more hk hg [("gone", 10), ("hand", 11), ("note", 12)] (by rw [hl]; decide) ((((he.same s2).same s3).same s4).same s5) h5 hv5 (by rw [hvl5]; simp) fun l6 xs6 H6 s6 h6 hv6 => ?_
  have hv7 : Paired (ItV H6) xs6 ((wordN.zipIdx).map fun p => (p.1, decide (p.2 = j))) := hv6
  obtain ⟨pick, plen⟩ := words_pick j hj
  have hitl : ((wordN.zipIdx).map fun p => (p.1, decide (p.2 = j))).length = 13 := by rw [List.length_map]; rfl
  generalize ((wordN.zipIdx).map fun p => (p.1, decide (p.2 = j))) = its at hv7 pick hitl
  have hxl := Paired.length hv7
  have he6 := ((((he.same s2).same s3).same s4).same s5).same s6
  have s06 := (((s2.trans s3).trans s4).trans s5).trans s6
  clear hv6 hv5 hv4 hv3 hv2 hv hvl hvl3 hvl4 hvl5
  refine rd_asgC ⟨_, rfl, l6, rfl, ⟨_, SqL.of h6⟩, fun i m ys H7 => m = xs6.length - i ∧ i ≤ xs6.length ∧ H7 = H6 ∧ ys = (((its.take i).filter (·.2)).map (·.1)).map V.str, ⟨_, rfl, Nat.zero_le _, rfl, rfl⟩, ?_⟩
  rintro i m ys H7 ⟨rfl, hi', rfl, rfl⟩
  by_cases hlt : i < xs6.length
  · refine .inr ⟨⟨xs6, xs6[i], SqL.of h6, by simp [hlt]⟩, ?_⟩
    rintro x H8 ⟨rfl, hx⟩
    obtain ⟨⟨w, b⟩, hp, t, rfl, ht⟩ := ItsV.get hv7 (hx xs6 (SqL.of h6))
    have tf := take_fm (·.2) (·.1) its i _ hp
    refine ⟨t, _, rfl, SqT.of ht, rfl, _, rfl, ?_⟩
    show if b = true then _ else _
    cases b with
    | true =>
      refine iteT ⟨_, rfl, ?_, xs6.length - (i + 1), by omega, rfl, hlt, rfl, ?_⟩
      · rw [List.length_map, List.length_map]
        have := List.length_filter_le (·.2) (its.take i)
        have := List.length_take_le i its
        exact lt_line (by omega)
      · rw [tf]; simp
    | false =>
      refine iteF ⟨xs6.length - (i + 1), by omega, rfl, hlt, rfl, ?_⟩
      rw [tf]; simp
  · have hie : i = xs6.length := by omega
    subst hie
    refine .inl ⟨⟨xs6, SqL.of h6, Nat.le_refl _⟩, fun p hp => ?_⟩
    rw [hxl, show its.take its.length = its from List.take_length .., pick]
    have s7 := sameNew (o := .lst (List.map V.str [wordN.getD j ""])) hp
    have he7 := he6.same s7
    refine rd_ite (rd_isx rfl he7 hk.cls hi hk.ink (rd_isxT rfl he7 hk.cls hk.val ?_))
    refine ⟨rfl, _, rfl, [wordN.getD j ""], SqL.of upd_same, ?_, ?_⟩
    · unfold JoinOk
      show (!decide (0 + (wordN.getD j "").length + (Str.ofString "/").length > sizeLine)) = true
      rw [decide_eq_false]; rfl
      have : (Str.ofString "/").length = 1 := rfl
      have : (1000 : Nat) ≤ sizeLine := by decide
      omega
    · rw [join_one]
      exact q _ (s06.trans s7)
theorem rd_wordL {K : PySem.W.Frag} {c0 c1 c2 c3 c4 c5 c6 c7 c8 c9 c10 c11 c12 ink : Addr} (vs : List V) (H : Hp) (Q : VK) (h : spWordL K [c0, c1, c2, c3, c4, c5, c6, c7, c8, c9, c10, c11, c12] ink vs H Q E0) :
    rdSs (rcx K [] (gW c0 c1 c2 c3 c4 c5 c6 c7 c8 c9 c10 c11 c12 ink)) b_wordL (Dn Q) (start N_wordL vs) H := by
  obtain ⟨ea, D, j, rfl, he, hk, hj, q⟩ := h
  refine rd_wordG (Γ := rcx K [] (gW c0 c1 c2 c3 c4 c5 c6 c7 c8 c9 c10 c11 c12 ink)) (cs := [c0, c1, c2, c3, c4, c5, c6, c7, c8, c9, c10, c11, c12]) rfl (fun i c hi => ?_) rfl he hk hj q
  have hi' : i < 13 := (List.getElem?_eq_some_iff.mp hi).1
  match i, hi' with
  | 0, _ | 1, _ | 2, _ | 3, _ | 4, _ | 5, _ | 6, _ | 7, _ | 8, _ | 9, _ | 10, _ | 11, _ | 12, _ => exact congrArg V.ref (Option.some.inj hi)
end L2.B
set_option maxRecDepth 100000
set_option maxHeartbeats 4000000
namespace L2.B
open PySem PySem.Spec PyProof.Rows
/-! ### slices -/
theorem good_cut {x : Str} (h : good x) (lo hi : Option Int) : good (cutS x lo hi) ∧ (cutS x lo hi).length ≤ x.length := by
  have e : (cutS x lo hi).cps.toList = cutL x.cps.toList lo hi := rfl
  have hl : (cutS x lo hi).length ≤ x.length := by
    rw [len_list, e, len_list]
    unfold cutL
    exact Nat.le_trans (List.length_take_le' _ _) (by rw [List.length_drop]; omega)
  refine ⟨⟨Nat.le_trans hl h.1, fun c hc => ?_⟩, hl⟩
  rw [e] at hc
  exact h.2 c (List.mem_of_mem_drop (List.mem_of_mem_take hc))
theorem good_app {x y : Str} (hx : good x) (hy : good y) (hl : x.length + y.length ≤ 1000000) : good (x ++ y) := by
  refine ⟨by rw [app_len]; exact hl, fun c hc => ?_⟩
  rw [app_list] at hc
  rcases List.mem_append.mp hc with z | z
  · exact hx.2 c z
  · exact hy.2 c z
/-! ### the law's own going along -/
end L2.B
set_option maxRecDepth 100000
set_option maxHeartbeats 4000000
namespace L2.B
open PySem PySem.Spec PyProof.Rows
/-! ### parts cut in two -/
/-! ### a walk -/
end L2.B
namespace L2.B
end L2.B
set_option maxRecDepth 100000
set_option maxHeartbeats 4000000
namespace L2
open PySem PySem.Spec PyProof.Rows
section
variable {Γ : RCx} {D : Ends} {σ : St} {H : Hp} {r : List RS} {Q : VK} {QA : List V → Hp → Prop} {QT : Bool → Hp → Prop}
theorem r_ite {c : RE} {t e : List RS} (h : rdT Γ c σ H fun b H1 => if b = true then rdSs Γ t { D with nx := rdSs Γ r D } σ H1 else rdSs Γ e { D with nx := rdSs Γ r D } σ H1) : rdSs Γ (.ite c t e :: r) D σ H := h
theorem r_cmpT {op : CmpOp} {a b : RE} (h : rdE Γ a σ H fun x H1 => rdE Γ b σ H1 fun y H2 => rCmp Γ.K op x y H2 fun z H3 => ∃ k, z = .bl k ∧ QT k H3) : rdT Γ (.cmp op a b) σ H QT := h
theorem r_mth1 {m : Mth} {o a : RE} (h : rdE Γ o σ H fun x H1 => tyV Γ.K (mthTy m) x H1 ∧ rdE Γ a σ H1 fun y H2 => rMth Γ.K m x [y] H2 Q) : rdE Γ (.mth m o [a]) σ H Q := h
theorem ce_str {K : PySem.W.Frag} {x y : Str} {Q : VK} (q : Q (.bl (x == y)) H) : rCmp K .Eq (.str x) (.str y) H Q := by
  show Q (.bl (false ^^ decide (V.str x = V.str y))) H
  rw [Bool.false_xor, dec_str]; exact q
theorem cn_str {K : PySem.W.Frag} {x y : Str} {Q : VK} (q : Q (.bl (x != y)) H) : rCmp K .NotEq (.str x) (.str y) H Q := by
  show Q (.bl (true ^^ decide (V.str x = V.str y))) H
  rw [Bool.true_xor, dec_str]; exact q
end
end L2
namespace L2.B
open PySem PySem.Spec PyProof.Rows
/-! ### cut_behind -/
end L2.B
set_option maxRecDepth 100000
namespace L2.B
open PySem PySem.Spec PyProof.Rows
section
variable {Γ : RCx} {σ : St} {H : Hp} {Q : VK} {QT : Bool → Hp → Prop} {K : PySem.W.Frag}
theorem r_orC {a b : RE} {r : List RE} (h : rdT Γ a σ H fun c H1 => if c = true then QT true H1 else rdT Γ (.or (b :: r)) σ H1 QT) : rdT Γ (.or (a :: b :: r)) σ H QT := h
theorem r_or1 {a : RE} (h : rdT Γ a σ H QT) : rdT Γ (.or [a]) σ H QT := h
theorem r_andC {a b : RE} {r : List RE} (h : rdT Γ a σ H fun c H1 => if c = true then rdT Γ (.and (b :: r)) σ H1 QT else QT false H1) : rdT Γ (.and (a :: b :: r)) σ H QT := h
theorem r_and1 {a : RE} (h : rdT Γ a σ H QT) : rdT Γ (.and [a]) σ H QT := h
theorem r_isiT {T : Ty} {a : RE} (h : rdE Γ a σ H fun x H1 => isiV T x H1 fun b => QT b H1) : rdT Γ (.isi T a) σ H QT := by
  show tTru Γ.K (tCB (rIsi T) (tCons (rdE Γ a) (tCons (tC (.ty T.nm)) tNil))) σ H QT
  have e : ∀ (q : VK), (fun (x : V) (H1 : Hp) => isiV T x H1 fun b => q (.bl b) H1) = fun x H1 => rIsi T [x, .ty T.nm] H1 q := by
    intro q; funext x H1; simp [rIsi]
  show rdE Γ a σ H fun x H1 => rIsi T [x, .ty T.nm] H1 fun v H2 => tru Γ.K v H2 fun b => QT b H2
  rw [← e]; exact h
theorem ixt {sd : Addr → List (Key × V) → Prop} {a : Addr} {xs : List V} {i : Int} {v : V} (h : H a = some (.tup xs)) (e : atI xs i = some v) (q : Q v H) : rIx2 K sd (.ref a) (.int i) H Q :=
  .inr (.inl ⟨_, _, _, _, rfl, rfl, SqT.of h, e, q⟩)
theorem ceI {x y : Int} (q : Q (.bl (decide (x = y))) H) : rCmp K .Eq (.int x) (.int y) H Q := by
  show Q (.bl (false ^^ decide (V.int x = V.int y))) H
  rw [Bool.false_xor, show decide (V.int x = V.int y) = decide (x = y) from decide_eq_decide.mpr ⟨fun z => by injection z, fun z => by rw [z]⟩]; exact q
theorem cnI {x y : Int} (q : Q (.bl (!decide (x = y))) H) : rCmp K .NotEq (.int x) (.int y) H Q := by
  show Q (.bl (true ^^ decide (V.int x = V.int y))) H
  rw [Bool.true_xor, show decide (V.int x = V.int y) = decide (x = y) from decide_eq_decide.mpr ⟨fun z => by injection z, fun z => by rw [z]⟩]; exact q
theorem cnS {x : Str} (q : Q (.bl false) H) : rCmp K .NotEq (.str x) (.str x) H Q := by
  refine cn_str ?_
  rw [show (x != x) = false by simp]; exact q
theorem ltI {x y : Int} (q : Q (.bl (decide (x < y))) H) : rCmp K .Lt (.int x) (.int y) H Q := ⟨trivial, q⟩
theorem gtI {x y : Int} (q : Q (.bl (decide (y < x))) H) : rCmp K .Gt (.int x) (.int y) H Q := ⟨trivial, q⟩
theorem addI' {i j : Int} (h : Q (.int (i + j)) H) : rBin K .Add (.int i) (.int j) H Q := h
theorem pick {its : List V} {j : Int} (h0 : 0 ≤ j) (h1 : j < its.length) : ∃ v ∈ its, atI its j = some v := by
  have hjl : j.toNat < its.length := by omega
  refine ⟨its[j.toNat], List.getElem_mem hjl, ?_⟩
  have e := atI_nat (xs := its) (j := j.toNat) (v := its[j.toNat]) (by simp [hjl])
  rw [show ((j.toNat : Nat) : Int) = j by omega] at e
  exact e
end
end L2.B
set_option maxRecDepth 100000
set_option maxHeartbeats 4000000
namespace L2.B
open PySem PySem.Spec PyProof.Rows
/-! ### blocks without a test -/
theorem comp_r {K : PySem.W.Frag} {σ : St} {H : Hp} {QQ : List V → Hp → Addr → Prop} {te : TE} {fv : List (Str × Nat)} {lo : Int} {n : Nat} (hl : n ≤ 1000000) (P : Nat → List V → Hp → Prop) (p0 : P 0 [] H)
    (step : ∀ i ys H2, i < n → Same H H2 → P i ys H2 → ∀ Q' : VK, (∀ y H3, Same H2 H3 → P (i + 1) (ys ++ [y]) H3 → Q' y H3) → te (some (.int (lo + i)) :: fvals σ fv) H2 Q')
    (fin : ∀ ys H2 p, Same H H2 → P n ys H2 → H2 p = none → QQ ys H2 p) : ∃ W : Nat → Nat → List V → Hp → Prop, (∃ m, W 0 m [] H) ∧ ∀ i m ys H2, W i m ys H2 →
      ((Itr lo n).stop i H2 ∧ ∀ p, H2 p = none → QQ ys H2 p) ∨
      ((Itr lo n).go i H2 ∧ ∀ x H3, (Itr lo n).yld i H2 x H3 → tgtK K none x H3 fun zs => tCond none (zs.map some ++ fvals σ fv) H3 fun b H5 =>
        if b = true then te (zs.map some ++ fvals σ fv) H5 fun y H6 => ys.length < sizeLine ∧ ∃ m', m' < m ∧ W (i + 1) m' (ys ++ [y]) H6 else ∃ m', m' < m ∧ W (i + 1) m' ys H5) := by
  refine ⟨fun i m ys H2 => m = n - i ∧ i ≤ n ∧ ys.length = i ∧ Same H H2 ∧ P i ys H2, ⟨_, rfl, Nat.zero_le _, rfl, Same.refl _, p0⟩, ?_⟩
  rintro i m ys H2 ⟨rfl, hi, hy, s, p⟩
  by_cases hlt : i < n
  · refine .inr ⟨hlt, ?_⟩
    rintro x H3 ⟨rfl, rfl⟩
    exact step i ys _ hlt s p _ fun y H4 s4 p4 => ⟨lt_line (by omega), n - (i + 1), by omega, rfl, hlt, by simp [hy], s.trans s4, p4⟩
  · have hie : i = n := by omega
    subst hie
    exact .inl ⟨Nat.le_refl _, fun q hq => fin ys _ q s p hq⟩
end L2.B
set_option maxRecDepth 100000
namespace L2.B
open PySem PySem.Spec PyProof.Rows
/-! ### many_upto -/
/-! ### need_side -/
/-! ### Track_init -/
/-! ### Track_to_left -/
/-! ### Track_to_right -/
/-! ### Track_lead -/
/-! ### moved -/
end L2.B
namespace L2.B
/-! ### kept signs: pairs of an old and a new place, both rising -/
/-! ### kept runs -/
end L2.B
namespace L2.B
/-! ### how the program finds them: how many runs begin ahead of a place -/
end L2.B
set_option maxRecDepth 100000
set_option maxHeartbeats 4000000
namespace L2.B
open PySem PySem.Spec PyProof.Rows
/-! ### runs of a change -/
/-! ### a Track -/
end L2.B
set_option maxRecDepth 100000
set_option maxHeartbeats 4000000
namespace L2.B
open PySem PySem.Spec PyProof.Rows
/-! ### many_upto -/
theorem ixl {K : PySem.W.Frag} {sd : Addr → List (Key × V) → Prop} {H : Hp} {a : Addr} {xs : List V} {i : Int} {v : V} {Q : VK} (h : H a = some (.lst xs)) (e : atI xs i = some v) (q : Q v H) : rIx2 K sd (.ref a) (.int i) H Q :=
  .inl ⟨_, _, _, _, rfl, rfl, SqL.of h, e, q⟩
/-! ### to_left, to_right -/
/-! ### lead, need_side, moved -/
/-- a tuple of the module -/
def TupC (K : PySem.W.Frag) (p : Addr) (xs : List V) : Prop := ∀ H, SqT K H p xs
end L2.B
set_option maxRecDepth 100000
set_option maxHeartbeats 4000000
namespace L2
open PySem PySem.Spec PyProof.Rows
theorem am_nil {α : Type _} {p : α → Prop} : ∀ x ∈ ([] : List α), p x := fun _ h => nomatch h
theorem am_cons {α : Type _} {p : α → Prop} {a : α} {l : List α} (h : p a) (t : ∀ x ∈ l, p x) : ∀ x ∈ a :: l, p x := List.forall_mem_cons.2 ⟨h, t⟩
section
variable {P : Program} {w : World} {K : PySem.W.Frag}
end
end L2
set_option maxRecDepth 100000
set_option maxHeartbeats 4000000
namespace L2
open PySem PySem.Spec PyProof.Rows
section
variable {P : Program} {w : World} {K : PySem.W.Frag} {mg : Str → Option Value} {base : Heap} {k : Nat}
open PySem.W in
theorem ext_of {x : Str} {C : Addr} (X : K.In base) (G : base.Ns mainGlobals mg) (e : nsIn K mainGlobals x = some (some (.ref C))) (q : excIn K C [.type "ValueError", .type "Exception", .type "BaseException", .type "object"] "ValueError.__new__" = true) : ExT mg base (x, C) := by
  refine ⟨_, _, _, _, ⟨mg_of X G e, ?_⟩, PySem.F.excBase_ValueError⟩
  unfold excIn at q
  split at q
  · rename_i dd cd sl ho
    split at q
    · rename_i C' bm k0 k1 k2 k3 n k5 hm hs
      simp only [Bool.and_eq_true, beq_iff_eq, Bool.not_eq_true'] at q
      obtain ⟨⟨⟨⟨⟨rfl, rfl⟩, hdel⟩, ht⟩, hok⟩, hni⟩ := q
      obtain ⟨nm, bs, mro, ns, qn, hd, sn, sub, ab, col, del⟩ := cd
      dsimp only at hm hdel hok hni
      subst hm hdel
      obtain ⟨sl⟩ := sl
      have hs' : sl = _ := hs
      subst hs'
      exact ⟨bm, ns, nm, qn, bs, hd, sn, sub, ab, col, dd, k0, k1, k2, k3, k5, _, X _ _ ho, .of_isNs (isNs_of_in X hok), nsMap_none_of_in X hok hni, tail_of_in X ht⟩
    · cases q
  · cases q
end
namespace B
theorem kits_of {K : PySem.W.Frag} {D ink c0 c1 c2 c3 c4 c5 c6 c7 c8 c9 c10 c11 c12 : Addr} {b0 b1 b2 b3 b4 b5 b6 b7 b8 b9 b10 b11 b12 : Bool} {j : Nat} (h : ExcCls K D) (hi : PySem.W.kitOne K (.ref D) (.ref ink) = some true) (hv : PySem.W.kitOne K (.ref D) (.type "ValueError") = some true)
    (k0 : PySem.W.kitOne K (.ref D) (.ref c0) = some b0) (k1 : PySem.W.kitOne K (.ref D) (.ref c1) = some b1) (k2 : PySem.W.kitOne K (.ref D) (.ref c2) = some b2) (k3 : PySem.W.kitOne K (.ref D) (.ref c3) = some b3) (k4 : PySem.W.kitOne K (.ref D) (.ref c4) = some b4)
    (k5 : PySem.W.kitOne K (.ref D) (.ref c5) = some b5) (k6 : PySem.W.kitOne K (.ref D) (.ref c6) = some b6) (k7 : PySem.W.kitOne K (.ref D) (.ref c7) = some b7) (k8 : PySem.W.kitOne K (.ref D) (.ref c8) = some b8) (k9 : PySem.W.kitOne K (.ref D) (.ref c9) = some b9)
    (k10 : PySem.W.kitOne K (.ref D) (.ref c10) = some b10) (k11 : PySem.W.kitOne K (.ref D) (.ref c11) = some b11) (k12 : PySem.W.kitOne K (.ref D) (.ref c12) = some b12)
    (e : [b0, b1, b2, b3, b4, b5, b6, b7, b8, b9, b10, b11, b12] = (List.range 13).map fun i => decide (i = j) := by decide) : Kits K [c0, c1, c2, c3, c4, c5, c6, c7, c8, c9, c10, c11, c12] ink D j := by
  refine ⟨h, fun i c hc => ?_, hi, hv⟩
  have hi' : i < 13 := (List.getElem?_eq_some_iff.mp hc).1
  have eb := congrArg (fun l => l[i]?) e
  match i, hi' with
  | 0, _ => cases hc; have eb : some b0 = some (decide (0 = j)) := eb; rw [k0, eb]
  | 1, _ => cases hc; have eb : some b1 = some (decide (1 = j)) := eb; rw [k1, eb]
  | 2, _ => cases hc; have eb : some b2 = some (decide (2 = j)) := eb; rw [k2, eb]
  | 3, _ => cases hc; have eb : some b3 = some (decide (3 = j)) := eb; rw [k3, eb]
  | 4, _ => cases hc; have eb : some b4 = some (decide (4 = j)) := eb; rw [k4, eb]
  | 5, _ => cases hc; have eb : some b5 = some (decide (5 = j)) := eb; rw [k5, eb]
  | 6, _ => cases hc; have eb : some b6 = some (decide (6 = j)) := eb; rw [k6, eb]
  | 7, _ => cases hc; have eb : some b7 = some (decide (7 = j)) := eb; rw [k7, eb]
  | 8, _ => cases hc; have eb : some b8 = some (decide (8 = j)) := eb; rw [k8, eb]
  | 9, _ => cases hc; have eb : some b9 = some (decide (9 = j)) := eb; rw [k9, eb]
  | 10, _ => cases hc; have eb : some b10 = some (decide (10 = j)) := eb; rw [k10, eb]
  | 11, _ => cases hc; have eb : some b11 = some (decide (11 = j)) := eb; rw [k11, eb]
  | 12, _ => cases hc; have eb : some b12 = some (decide (12 = j)) := eb; rw [k12, eb]
end B
end L2
set_option maxRecDepth 100000
set_option maxHeartbeats 4000000
namespace L2.B
open PySem PySem.Spec PyProof.Rows
/-! ### places and sides that are none -/
def NotPl (v : V) (lo hi : Int) (H : Hp) : Prop := NotWh v H ∨ ∃ i, v = .int i ∧ (i < lo ∨ hi < i)
def spBetweenX : Sp := fun vs H Q E => ∃ (v : V) (lo hi : Int), vs = [v, .int lo, .int hi] ∧ ((∃ i, v = .int i ∧ lo ≤ i ∧ i ≤ hi ∧ Q (.bl true) H) ∨ (NotPl v lo hi H ∧ Q (.bl false) H))
theorem rd_betweenX {K : PySem.W.Frag} (vs : List V) (H : Hp) (Q : VK) (E : XK) (h : spBetweenX vs H Q E) : rdSs (rcx K [("is_whole", spWholeX)] [] (E := E)) b_is_between (Dn Q) (start N_is_between vs) H := by
  have chain : ∀ (i lo hi : Int) (b : Bool) (H : Hp), decide (lo ≤ i ∧ i ≤ hi) = b → Q (.bl b) H → rdE (rcx K [("is_whole", spWholeX)] [] (E := E)) (.cmp2 .LtE .LtE (.v 1) (.v 0) (.v 2)) [some (.int i), some (.int lo), some (.int hi)] H Q := by
    intro i lo hi b H hb q
    refine ⟨_, rfl, _, rfl, trivial, _, rfl, ?_⟩
    refine ite2 (fun h1 => ?_) (fun h1 => ?_)
    · refine ⟨_, rfl, trivial, ?_⟩
      have h1' : lo ≤ i := of_decide_eq_true h1
      have e : decide (i ≤ hi) = b := by rw [← hb]; simp [h1']
      show Q (.bl (decide (i ≤ hi))) H
      rw [e]; exact q
    · have h1' : ¬ lo ≤ i := fun z => h1 (decide_eq_true z)
      have e : b = false := by rw [← hb]; simp [h1']
      have e2 : decide (lo ≤ i) = false := decide_eq_false h1'
      rw [e] at q
      first
        | exact q
        | (show Q (.bl (decide (lo ≤ i))) H; rw [e2]; exact q)
  obtain ⟨v, lo, hi, rfl, ⟨i, rfl, h1, h2, q⟩ | ⟨hn | ⟨i, rfl, hb⟩, q⟩⟩ := h
  · exact ⟨_, rfl, _, rfl, .inl ⟨i, rfl, _, rfl, iteT (chain i lo hi true H (by simp [h1, h2]) q)⟩⟩
  · exact ⟨_, rfl, _, rfl, .inr ⟨hn, _, rfl, iteF q⟩⟩
  · exact ⟨_, rfl, _, rfl, .inl ⟨i, rfl, _, rfl, iteT (chain i lo hi false H (by rw [decide_eq_false]; rintro ⟨a, b⟩; omega) q)⟩⟩
/-! ### tracks and moves refused -/
end L2.B
set_option maxRecDepth 100000
set_option maxHeartbeats 4000000
namespace L2.K42
open PySem PySem.Spec L2.B
section
variable {Γ : RCx} {D : Ends} {σ : St} {H : Hp} {r t : List RS} {Q : VK} {QA : List V → Hp → Prop} {QT : Bool → Hp → Prop} {K : PySem.W.Frag} {i : Nat} {a : Addr} {xs : List V} {w k k2 k3 : Str}
theorem r_no (h : rdSs Γ r D σ H) : rdSs Γ [] { D with nx := rdSs Γ r D } σ H := h
theorem sk_eq (e : σ[i]? = some (some (.str w))) (hn : (w == k) = false) (h : rdSs Γ r D σ H) : rdSs Γ (.ite (.cmp .Eq (.v i) (.c (.str k))) t [] :: r) D σ H :=
  r_ite (r_cmpT (r_v e (r_c (ce_str ⟨_, rfl, iF (r_no h) hn⟩))))
theorem tk_eq (e : σ[i]? = some (some (.str w))) (hy : (w == k) = true) (h : rdSs Γ t { D with nx := rdSs Γ r D } σ H) : rdSs Γ (.ite (.cmp .Eq (.v i) (.c (.str k))) t [] :: r) D σ H :=
  r_ite (r_cmpT (r_v e (r_c (ce_str ⟨_, rfl, iT h hy⟩))))
theorem sk_ix (e : σ[i]? = some (some (.ref a))) (ha : H a = some (.tup xs)) (h0 : atI xs 0 = some (.str w)) (hn : (w == k) = false) (h : rdSs Γ r D σ H) : rdSs Γ (.ite (.cmp .Eq (.ix (.v i) (.c (.int 0))) (.c (.str k))) t [] :: r) D σ H :=
  r_ite (r_cmpT (r_ix (r_v e (r_c (ixt ha h0 (r_c (ce_str ⟨_, rfl, iF (r_no h) hn⟩)))))))
theorem tk_ix (e : σ[i]? = some (some (.ref a))) (ha : H a = some (.tup xs)) (h0 : atI xs 0 = some (.str w)) (hy : (w == k) = true) (h : rdSs Γ t { D with nx := rdSs Γ r D } σ H) : rdSs Γ (.ite (.cmp .Eq (.ix (.v i) (.c (.int 0))) (.c (.str k))) t [] :: r) D σ H :=
  r_ite (r_cmpT (r_ix (r_v e (r_c (ixt ha h0 (r_c (ce_str ⟨_, rfl, iT h hy⟩)))))))
theorem in_tup {p : Addr} (hp : H p = some (.tup xs)) (hf : xs.all flatV = true) (q : Q (.bl (inV (.str w) xs)) H) : rCmp K .In (.str w) (.ref p) H Q := ⟨p, xs, rfl, .inr (SqT.of hp), rfl, hf, q⟩
theorem le2 {x y : V} : ([x, y] : List V).length ≤ sizeLine := by show 2 ≤ sizeLine; decide
theorem le3 {x y z : V} : ([x, y, z] : List V).length ≤ sizeLine := by show 3 ≤ sizeLine; decide
theorem le1 {x : V} : ([x] : List V).length ≤ sizeLine := by show 1 ≤ sizeLine; decide
theorem sk_in2 (e : σ[i]? = some (some (.str w))) (hn : inV (.str w) [.str k, .str k2] = false) (h : ∀ H', Same H H' → rdSs Γ r D σ H') : rdSs Γ (.ite (.cmp .In (.v i) (.tup [(.c (.str k)), (.c (.str k2))])) t [] :: r) D σ H :=
  r_ite (r_cmpT (r_v e (r_tup (r_cons (r_c (r_cons (r_c (r_nil ⟨le2, fun p hp => in_tup upd_same rfl ⟨_, rfl, iF (r_no (h _ (sameNew hp))) hn⟩⟩))))))))
theorem tk_in2 (e : σ[i]? = some (some (.str w))) (hy : inV (.str w) [.str k, .str k2] = true) (h : ∀ H', Same H H' → rdSs Γ t { D with nx := rdSs Γ r D } σ H') : rdSs Γ (.ite (.cmp .In (.v i) (.tup [(.c (.str k)), (.c (.str k2))])) t [] :: r) D σ H :=
  r_ite (r_cmpT (r_v e (r_tup (r_cons (r_c (r_cons (r_c (r_nil ⟨le2, fun p hp => in_tup upd_same rfl ⟨_, rfl, iT (h _ (sameNew hp)) hy⟩⟩))))))))
theorem sk_in3 (e : σ[i]? = some (some (.str w))) (hn : inV (.str w) [.str k, .str k2, .str k3] = false) (h : ∀ H', Same H H' → rdSs Γ r D σ H') : rdSs Γ (.ite (.cmp .In (.v i) (.tup [(.c (.str k)), (.c (.str k2)), (.c (.str k3))])) t [] :: r) D σ H :=
  r_ite (r_cmpT (r_v e (r_tup (r_cons (r_c (r_cons (r_c (r_cons (r_c (r_nil ⟨le3, fun p hp => in_tup upd_same rfl ⟨_, rfl, iF (r_no (h _ (sameNew hp))) hn⟩⟩))))))))))
theorem tk_in3 (e : σ[i]? = some (some (.str w))) (hy : inV (.str w) [.str k, .str k2, .str k3] = true) (h : ∀ H', Same H H' → rdSs Γ t { D with nx := rdSs Γ r D } σ H') : rdSs Γ (.ite (.cmp .In (.v i) (.tup [(.c (.str k)), (.c (.str k2)), (.c (.str k3))])) t [] :: r) D σ H :=
  r_ite (r_cmpT (r_v e (r_tup (r_cons (r_c (r_cons (r_c (r_cons (r_c (r_nil ⟨le3, fun p hp => in_tup upd_same rfl ⟨_, rfl, iT (h _ (sameNew hp)) hy⟩⟩))))))))))
theorem sk_ixin3 (e : σ[i]? = some (some (.ref a))) (ha : H a = some (.tup xs)) (h0 : atI xs 0 = some (.str w)) (hn : inV (.str w) [.str k, .str k2, .str k3] = false) (h : ∀ H', Same H H' → rdSs Γ r D σ H') : rdSs Γ (.ite (.cmp .In (.ix (.v i) (.c (.int 0))) (.tup [(.c (.str k)), (.c (.str k2)), (.c (.str k3))])) t [] :: r) D σ H :=
  r_ite (r_cmpT (r_ix (r_v e (r_c (ixt ha h0 (r_tup (r_cons (r_c (r_cons (r_c (r_cons (r_c (r_nil ⟨le3, fun p hp => in_tup upd_same rfl ⟨_, rfl, iF (r_no (h _ (sameNew hp))) hn⟩⟩)))))))))))))
theorem tk_ixin3 (e : σ[i]? = some (some (.ref a))) (ha : H a = some (.tup xs)) (h0 : atI xs 0 = some (.str w)) (hy : inV (.str w) [.str k, .str k2, .str k3] = true) (h : ∀ H', Same H H' → rdSs Γ t { D with nx := rdSs Γ r D } σ H') : rdSs Γ (.ite (.cmp .In (.ix (.v i) (.c (.int 0))) (.tup [(.c (.str k)), (.c (.str k2)), (.c (.str k3))])) t [] :: r) D σ H :=
  r_ite (r_cmpT (r_ix (r_v e (r_c (ixt ha h0 (r_tup (r_cons (r_c (r_cons (r_c (r_cons (r_c (r_nil ⟨le3, fun p hp => in_tup upd_same rfl ⟨_, rfl, iT (h _ (sameNew hp)) hy⟩⟩)))))))))))))
theorem isi_tup {P : Bool → Prop} (ha : H a = some (.tup xs)) (q : P true) : isiV .tuple (.ref a) H P := by
  unfold isiV; simp only [ha]; exact q
theorem isi_st {T : Ty} {x : Str} {P : Bool → Prop} (q : P (T == .str)) : isiV T (.str x) H P := q
theorem isi_in {T : Ty} {n : Int} {P : Bool → Prop} (q : P (T == .int)) : isiV T (.int n) H P := q
theorem isi_bo {T : Ty} {b : Bool} {P : Bool → Prop} (q : P (T == .bool || T == .int)) : isiV T (.bl b) H P := q
theorem lenT {P : Nat → Prop} (ha : H a = some (.tup xs)) (q : P xs.length) : lenV K (.ref a) H P := .inr ⟨xs, SqT.of ha, q⟩
theorem r_len {x : RE} (h : rdE Γ x σ H fun v H1 => lenV Γ.K v H1 fun n => Q (.int n) H1) : rdE Γ (.blt .len [x]) σ H Q := h
theorem r_and2 {a b : RE} (h : rdE Γ a σ H fun x H1 => ∃ c, x = .bl c ∧ if c = true then rdE Γ b σ H1 Q else Q (.bl false) H1) : rdE Γ (.and [a, b]) σ H Q := h
theorem r_and3 {a b c : RE} (h : rdE Γ a σ H fun x H1 => ∃ k, x = .bl k ∧ if k = true then rdE Γ (.and [b, c]) σ H1 Q else Q (.bl false) H1) : rdE Γ (.and [a, b, c]) σ H Q := h
theorem r_or2 {a b : RE} (h : rdE Γ a σ H fun x H1 => ∃ c, x = .bl c ∧ if c = true then Q (.bl true) H1 else rdE Γ b σ H1 Q) : rdE Γ (.or [a, b]) σ H Q := h
theorem r_all {x : RE} (h : rdE Γ x σ H fun v H1 => rAll Γ.K [v] H1 Q) : rdE Γ (.xt xAll [x]) σ H Q := h
theorem r_str {x : RE} (h : rdE Γ x σ H fun v H1 => rStrV [v] H1 Q) : rdE Γ (.xt xStr [x]) σ H Q := h
theorem r_intT {x : RE} (h : rdE Γ x σ H fun v H1 => rIntT [v] H1 Q) : rdE Γ (.xt xIntT [x]) σ H Q := h
theorem r_xm {T : PySem.W.Frag → TE → TA → TE} {rr : V → List V → Hp → VK → Prop} {x y : RE} (hT : T = fun K to t => tBM K "str" rr to t) (h : rdE Γ x σ H fun v H1 => tyV Γ.K "str" v H1 ∧ rdE Γ y σ H1 fun u H2 => rr v [u] H2 Q) : rdE Γ (.xm T x [y]) σ H Q := by
  subst hT; exact h
theorem r_repl {x : RE} {y w : Str} (h : rdE Γ x σ H fun v H1 => tyV Γ.K "str" v H1 ∧ rRepl v [.str y, .str w] H1 Q) : rdE Γ (.xm xRepl x [(.c (.str y)), (.c (.str w))]) σ H Q := h
theorem inV_of {ws : List Str} (h : w ∈ ws) : inV (.str w) (ws.map V.str) = true :=
  List.any_eq_true.mpr ⟨.str w, List.mem_map.mpr ⟨w, h, rfl⟩, by show (w == w) = true; simp⟩
theorem flat_strs (ws : List Str) : (ws.map V.str).all flatV = true := List.all_eq_true.mpr fun v hv => by
  obtain ⟨x, _, rfl⟩ := List.mem_map.mp hv
  rfl
/-- a block over a tuple -/
theorem comp_t {QQ : List V → Hp → Addr → Prop} {te : TE} {fv : List (Str × Nat)} (ha : H a = some (.tup xs)) (hl : xs.length ≤ 1000000) (P : Nat → List V → Hp → Prop) (p0 : P 0 [] H)
    (step : ∀ i x ys H2, xs[i]? = some x → Same H H2 → P i ys H2 → ∀ Q' : VK, (∀ y H3, Same H2 H3 → P (i + 1) (ys ++ [y]) H3 → Q' y H3) → te (some x :: fvals σ fv) H2 Q')
    (fin : ∀ ys H2 p, Same H H2 → P xs.length ys H2 → H2 p = none → QQ ys H2 p) : ∃ W : Nat → Nat → List V → Hp → Prop, (∃ m, W 0 m [] H) ∧ ∀ i m ys H2, W i m ys H2 →
      ((Itt K a).stop i H2 ∧ ∀ p, H2 p = none → QQ ys H2 p) ∨
      ((Itt K a).go i H2 ∧ ∀ x H3, (Itt K a).yld i H2 x H3 → tgtK K none x H3 fun zs => tCond none (zs.map some ++ fvals σ fv) H3 fun b H5 =>
        if b = true then te (zs.map some ++ fvals σ fv) H5 fun y H6 => ys.length < sizeLine ∧ ∃ m', m' < m ∧ W (i + 1) m' (ys ++ [y]) H6 else ∃ m', m' < m ∧ W (i + 1) m' ys H5) := by
  refine ⟨fun i m ys H2 => m = xs.length - i ∧ i ≤ xs.length ∧ ys.length = i ∧ Same H H2 ∧ P i ys H2, ⟨_, rfl, Nat.zero_le _, rfl, Same.refl _, p0⟩, ?_⟩
  rintro i m ys H2 ⟨rfl, hi, hy, s, p⟩
  by_cases hlt : i < xs.length
  · refine .inr ⟨⟨xs, xs[i], SqT.of (s _ _ ha), by simp [hlt]⟩, ?_⟩
    rintro x H3 ⟨rfl, hx⟩
    have hx' := hx xs (SqT.of (s _ _ ha))
    exact step i x ys _ hx' s p _ fun y H4 s4 p4 => ⟨lt_line (by omega), xs.length - (i + 1), by omega, rfl, hlt, by simp [hy], s.trans s4, p4⟩
  · have hie : i = xs.length := by omega
    subst hie
    exact .inl ⟨⟨xs, SqT.of (s _ _ ha), Nat.le_refl _⟩, fun q hq => fin ys _ q s p hq⟩
/-- a block over two tuples side by side -/
theorem comp_z {b : Addr} {zs : List V} {QQ : List V → Hp → Addr → Prop} {te : TE} {fv : List (Str × Nat)} (ha : H a = some (.tup xs)) (hb : H b = some (.tup zs)) (hz : zs.length = xs.length) (hl : xs.length ≤ 1000000) (P : Nat → List V → Hp → Prop) (p0 : P 0 [] H)
    (step : ∀ i x z ys H2, xs[i]? = some x → zs[i]? = some z → Same H H2 → P i ys H2 → ∀ Q' : VK, (∀ y H3, Same H2 H3 → P (i + 1) (ys ++ [y]) H3 → Q' y H3) → te (some x :: some z :: fvals σ fv) H2 Q')
    (hP : ∀ i ys H2 H3, Same H2 H3 → P i ys H2 → P i ys H3)
    (fin : ∀ ys H2 p, Same H H2 → P xs.length ys H2 → H2 p = none → QQ ys H2 p) : ∃ W : Nat → Nat → List V → Hp → Prop, (∃ m, W 0 m [] H) ∧ ∀ i m ys H2, W i m ys H2 →
      ((Itzt K a b).stop i H2 ∧ ∀ p, H2 p = none → QQ ys H2 p) ∨
      ((Itzt K a b).go i H2 ∧ ∀ x H3, (Itzt K a b).yld i H2 x H3 → tgtK K (some 2) x H3 fun us => tCond none (us.map some ++ fvals σ fv) H3 fun b H5 =>
        if b = true then te (us.map some ++ fvals σ fv) H5 fun y H6 => ys.length < sizeLine ∧ ∃ m', m' < m ∧ W (i + 1) m' (ys ++ [y]) H6 else ∃ m', m' < m ∧ W (i + 1) m' ys H5) := by
  refine ⟨fun i m ys H2 => m = xs.length - i ∧ i ≤ xs.length ∧ ys.length = i ∧ Same H H2 ∧ P i ys H2, ⟨_, rfl, Nat.zero_le _, rfl, Same.refl _, p0⟩, ?_⟩
  rintro i m ys H2 ⟨rfl, hi, hy, s, p⟩
  have qa : SqT K H2 a xs := SqT.of (s _ _ ha)
  have qb : SqT K H2 b zs := SqT.of (s _ _ hb)
  by_cases hlt : i < xs.length
  · refine .inr ⟨⟨xs, zs, qa, qb, hlt, by omega⟩, ?_⟩
    rintro x H3 ⟨T, hT, rfl, hx⟩
    have hlt2 : i < zs.length := by omega
    have hx' := hx xs zs xs[i] zs[i] qa qb (by simp [hlt]) (by simp [hlt2])
    subst hx'
    refine ⟨T, [xs[i], zs[i]], rfl, SqT.of upd_same, rfl, ?_⟩
    exact step i xs[i] zs[i] ys _ (by simp [hlt]) (by simp [hlt2]) (s.trans (sameNew hT)) (hP _ _ _ _ (sameNew hT) p) _ fun y H4 s4 p4 => ⟨lt_line (by omega), xs.length - (i + 1), by omega, rfl, hlt, by simp [hy], (s.trans (sameNew hT)).trans s4, p4⟩
  · have hie : i = xs.length := by omega
    subst hie
    exact .inl ⟨⟨xs, zs, qa, qb, by omega⟩, fun q hq => fin ys _ q s p hq⟩
end
end L2.K42
set_option maxRecDepth 100000
namespace L2.B
open PySem PySem.Spec PyProof.Rows
/-! ### namedL -/
/-! ### goneL -/
end L2.B
set_option maxRecDepth 100000
set_option maxHeartbeats 4000000
namespace L2
open PySem PySem.Spec PyProof.Rows
/-! ### zip of two tuples -/
section
variable {prog : Program} {w : World} {A : Around} {E : Value → Shared → Prop} {s : Shared}
theorem tn_item {j b : Addr} {k : Nat} {its : Array Value} {x : Value} {Q : Value → Shared → Prop} (st : s.heap.IsTupleIter j b k) (tp : s.heap.IsTuple b its) (ex : its[k]? = some x)
    (hQ : ∀ h', h'.IsTupleIter j b (k + 1) → Heap.SameBut j s.heap h' → Q x { s with heap := h' }) : wpAny (model prog w) A (Builtin.SmallTypes.nextOf (.ref j)) Q E s := by
  obtain ⟨oj, gj, cj, dj⟩ := id st
  obtain ⟨ob, gb, -, nb, db⟩ := tp
  unfold Builtin.SmallTypes.nextOf
  refine wpAny_bind (wpAny_callSpecial?_slot (name := Str.ofString "__next__") st.typeIs F.slot_tuple_iterator_next (wpAny_call_entry F.slot_tuple_iterator_next st.typeIs F.entry_tuple_iterator_next ?_ (F.args_tuple_iterator_next_1 _)))
  show wpAny _ _ (field (.ref j) 0 >>= _) _ _ s
  refine wpAny_bind (wpAny_field gj dj (x := .ref b) rfl ?_)
  show wpAny _ _ (if (Value.ref b == Value.none) = true then _ else _) _ _ s
  rw [if_neg (show ¬ (Value.ref b == Value.none) = true from Bool.false_ne_true)]
  show wpAny _ _ (field (.ref j) 1 >>= _) _ _ s
  refine wpAny_bind (wpAny_field gj dj (x := .int k 0) rfl ?_)
  show wpAny _ _ (seqItems? (.ref b) >>= _) _ _ s
  refine wpAny_bind (wpAny_seqItems gb db ?_)
  simp only [Int.toNat_natCast, ex]
  refine wpAny_bind (wpAny_setField gj dj (by simp) (wpAny_pure ⟨x, rfl, wpAny_pure (hQ _ ⟨_, Heap.get?_update_self _ gj (Obj.isFreed_of_fields (Obj.data_mapFields dj _)), (Obj.cls_mapFields ..).trans cj, ?_⟩ (Heap.SameBut.update ..))⟩))
  rw [Obj.data_mapFields dj]; simp [rawInt]
theorem tn_end {j b : Addr} {k : Nat} {its : Array Value} {Q : Value → Shared → Prop} (hh : A.handled = none) (st : s.heap.IsTupleIter j b k) (tp : s.heap.IsTuple b its) (ex : its[k]? = none)
    (hE : ∀ h' e, Heap.ExtBut j s.heap h' → (∃ o, h'.get? e = some o ∧ o.cls = .type "StopIteration") → E (.ref e) { s with heap := h' }) : wpAny (model prog w) A (Builtin.SmallTypes.nextOf (.ref j)) Q E s := by
  obtain ⟨oj, gj, cj, dj⟩ := id st
  obtain ⟨ob, gb, -, nb, db⟩ := tp
  unfold Builtin.SmallTypes.nextOf
  refine wpAny_bind (wpAny_callSpecial?_slot (name := Str.ofString "__next__") st.typeIs F.slot_tuple_iterator_next (wpAny_call_entry F.slot_tuple_iterator_next st.typeIs F.entry_tuple_iterator_next ?_ (F.args_tuple_iterator_next_1 _)))
  show wpAny _ _ (field (.ref j) 0 >>= _) _ _ s
  refine wpAny_bind (wpAny_field gj dj (x := .ref b) rfl ?_)
  show wpAny _ _ (if (Value.ref b == Value.none) = true then _ else _) _ _ s
  rw [if_neg (show ¬ (Value.ref b == Value.none) = true from Bool.false_ne_true)]
  show wpAny _ _ (field (.ref j) 1 >>= _) _ _ s
  refine wpAny_bind (wpAny_field gj dj (x := .int k 0) rfl ?_)
  show wpAny _ _ (seqItems? (.ref b) >>= _) _ _ s
  refine wpAny_bind (wpAny_seqItems gb db ?_)
  simp only [Int.toNat_natCast, ex]
  refine wpAny_bind (wpAny_rule (wpAny_bind (wpAny_setField gj dj (by simp) ?_)))
  show wpAny _ _ (newExc (.type "StopIteration") [] >>= _) _ _ _
  refine wpAny_bind ?_
  simp only [newExc, newTuple]
  refine wpAny_bind (wpAny_newObj_type ?_ (by size_fits))
  refine wpAny_bind (m := firstArgMember _ _) (wpAny_of_eq (a := Value.none) (by first | rfl | (simp only [firstArgMember]; rfl)) (wpAny_newObj_type ?_ (by size_fits)))
  simp only [raiseNew]
  refine wpAny_bind (wpAny_handled ?_)
  first | rw [show A.in1.handled = none from hh] | rw [hh]
  exact wpAny_bind (wpAny_pure (wpAny_throw (hE _ _ (((Heap.SameBut.update ..).extBut.push _).push _) ⟨_, Heap.get?_push_size _ rfl, rfl⟩)))
theorem zt_item {z TI TO i1 i2 l1 l2 : Addr} {k1 k2 : Nat} {xs ys : Array Value} {x y a b : Value} {Q : Value → Shared → Prop} (D : ZipApart z TI TO i1 i2 l1 l2)
    (zz : IsZip s.heap z TI TO .none) (pi : IsPair s.heap TI (.ref i1) (.ref i2)) (po : IsPair s.heap TO a b)
    (j1 : s.heap.IsTupleIter i1 l1 k1) (j2 : s.heap.IsTupleIter i2 l2 k2) (t1 : s.heap.IsTuple l1 xs) (t2 : s.heap.IsTuple l2 ys) (ex : xs[k1]? = some x) (ey : ys[k2]? = some y)
    (hQ : ∀ h', IsZip h' z TI TO (rawInt s.heap.objs.size) → IsPair h' TO x y → h'.IsTupleIter i1 l1 (k1 + 1) → h'.IsTupleIter i2 l2 (k2 + 1) → IsPair h' s.heap.objs.size x y →
      (∀ c o, c ≠ z → c ≠ TO → c ≠ i1 → c ≠ i2 → s.heap.get? c = some o → h'.get? c = some o) → Q (.ref s.heap.objs.size) { s with heap := h' }) :
    wpAny (model prog w) A (Builtin.«zip.__next__» ⟨[.ref z], []⟩) (fun fin s' => ∃ v, fin = .done (.ret v) ∧ Q v s') E s := by
  show wpAny _ _ (field (.ref z) 2 >>= _) _ _ _
  refine wpAny_bind (wpAny_field zz rfl (x := .bool false) rfl ?_)
  show wpAny _ _ (field (.ref z) 3 >>= _) _ _ _
  refine wpAny_bind (wpAny_field zz rfl (x := .ref TI) rfl (wpAny_bind (wpAny_seqItems pi rfl ?_)))
  show wpAny _ _ (Builtin.SmallTypes.ownedTupleIsFree (.ref z) >>= _) _ _ _
  refine wpAny_bind ?_
  unfold Builtin.SmallTypes.ownedTupleIsFree
  refine wpAny_bind (wpAny_field zz rfl (x := .none) rfl (wpAny_pure ?_))
  simp only [if_true]
  refine wpAny_bind (wpAny_rule (wpAny_bind (wpAny_field zz rfl (x := .ref TO) rfl ?_)))
  refine wpAny_bind (wpAny_setField_rec zz (by simp) fun g1 za s1 => ?_)
  replace za : IsZip g1 z TI TO .ellipsis := za
  refine wpAny_bind ?_
  simp only [List.zipIdx_cons, List.zipIdx_nil, List.forIn_cons, List.forIn_nil]
  refine wpAny_bind (wpAny_bind (wpAny_onRaise ?_))
  show wpAny _ _ (Builtin.SmallTypes.nextOf (.ref i1) >>= _) _ _ _
  refine wpAny_bind (tn_item (j1.extBut s1.extBut D.i1z) (t1.extBut s1.extBut D.l1z) ex fun g2 j1b s2 => wpAny_pure ?_)
  have po2 : IsPair g2 TO a b := s2.extBut _ _ D.TOi1 (s1.extBut _ _ D.TOz po)
  refine wpAny_bind (wpAny_seqItems po2 rfl (wpAny_bind (wpAny_updateSeq_pair po2 fun g3 po3 s3 => ?_)))
  replace po3 : IsPair g3 TO x b := po3
  refine wpAny_bind (wpAny_letGo (wpAny_pure (wpAny_bind (wpAny_bind (wpAny_onRaise ?_)))))
  show wpAny _ _ (Builtin.SmallTypes.nextOf (.ref i2) >>= _) _ _ _
  refine wpAny_bind (tn_item (((j2.extBut s1.extBut D.i2z).extBut s2.extBut D.i12.symm).extBut s3.extBut D.TOi2.symm) (((t2.extBut s1.extBut D.l2z).extBut s2.extBut D.l2i1).extBut s3.extBut D.l2TO) ey fun g4 j2b s4 => wpAny_pure ?_)
  have po4 : IsPair g4 TO x b := s4.extBut _ _ D.TOi2 po3
  refine wpAny_bind (wpAny_seqItems po4 rfl (wpAny_bind (wpAny_updateSeq_pair po4 fun g5 po5 s5 => ?_)))
  replace po5 : IsPair g5 TO x y := po5
  refine wpAny_bind (wpAny_letGo (wpAny_pure (wpAny_pure (wpAny_bind (wpAny_seqItems po5 rfl (wpAny_bind (wpAny_newTuple ?_)))))))
  have sz : g5.objs.size = s.heap.objs.size := by rw [s5.1, s4.1, s3.1, s2.1, s1.1]
  have zb : IsZip g5 z TI TO .ellipsis := s5.extBut _ _ D.TOz.symm (s4.extBut _ _ D.i2z.symm (s3.extBut _ _ D.TOz.symm (s2.extBut _ _ D.i1z.symm za)))
  have kp : ∀ c o, c ≠ z → c ≠ TO → c ≠ i1 → c ≠ i2 → s.heap.get? c = some o → g5.get? c = some o := fun c o n1 n2 n3 n4 q =>
    s5.extBut _ _ n2 (s4.extBut _ _ n4 (s3.extBut _ _ n2 (s2.extBut _ _ n3 (s1.extBut _ _ n1 q))))
  have j1c : g5.IsTupleIter i1 l1 (k1 + 1) := ((j1b.extBut s3.extBut D.TOi1.symm).extBut s4.extBut D.i12).extBut s5.extBut D.TOi1.symm
  have j2c : g5.IsTupleIter i2 l2 (k2 + 1) := j2b.extBut s5.extBut D.TOi2.symm
  have ltz : z < g5.objs.size := Heap.lt_size zb
  show wpAny _ _ (Builtin.SmallTypes.ownedTupleHandOut (.ref z) (.ref g5.objs.size) >>= _) _ _ _
  refine wpAny_bind ?_
  unfold Builtin.SmallTypes.ownedTupleHandOut
  have zc : IsZip (g5.push { cls := .type "tuple", data := .seq #[x, y] }) z TI TO .ellipsis := Heap.get?_push_of_some _ zb
  refine wpAny_bind (wpAny_setField_rec zc (by simp) fun g7 zd s7 => ?_)
  replace zd : IsZip g7 z TI TO (rawInt g5.objs.size) := zd
  refine wpAny_setField_rec zd (by simp) fun g8 ze s8 => ?_
  replace ze : IsZip g8 z TI TO (rawInt g5.objs.size) := ze
  have up : ∀ c o, c ≠ z → g5.get? c = some o → g8.get? c = some o := fun c o n q => s8.extBut _ _ n (s7.extBut _ _ n (Heap.get?_push_of_some _ q))
  have pt : IsPair g8 g5.objs.size x y := s8.extBut _ _ (Nat.ne_of_gt ltz) (s7.extBut _ _ (Nat.ne_of_gt ltz) (Heap.get?_push_size _ rfl))
  rw [sz] at ze pt
  refine wpAny_pure ⟨_, rfl, ?_⟩
  show Q (.ref g5.objs.size) _
  rw [sz]
  exact hQ g8 ze (up _ _ D.TOz po5) (j1c.at fun o q => up _ o D.i1z q) (j2c.at fun o q => up _ o D.i2z q) pt fun c o n1 n2 n3 n4 q => up c o n1 (kp c o n1 n2 n3 n4 q)
theorem zt_end {z TI TO i1 i2 l1 l2 : Addr} {k1 k2 : Nat} {xs ys : Array Value} {a b : Value} {Q : Fin → Shared → Prop} (hh : A.handled = none) (D : ZipApart z TI TO i1 i2 l1 l2)
    (zz : IsZip s.heap z TI TO .none) (pi : IsPair s.heap TI (.ref i1) (.ref i2)) (po : IsPair s.heap TO a b)
    (j1 : s.heap.IsTupleIter i1 l1 k1) (j2 : s.heap.IsTupleIter i2 l2 k2) (t1 : s.heap.IsTuple l1 xs) (t2 : s.heap.IsTuple l2 ys) (he : xs[k1]? = none ∨ ys[k2]? = none)
    (hE : ∀ h' e, (∀ c o, c ≠ z → c ≠ TO → c ≠ i1 → c ≠ i2 → s.heap.get? c = some o → h'.get? c = some o) → (∃ o, h'.get? e = some o ∧ o.cls = .type "StopIteration") → E (.ref e) { s with heap := h' }) :
    wpAny (model prog w) A (Builtin.«zip.__next__» ⟨[.ref z], []⟩) Q E s := by
  show wpAny _ _ (field (.ref z) 2 >>= _) _ _ _
  refine wpAny_bind (wpAny_field zz rfl (x := .bool false) rfl ?_)
  show wpAny _ _ (field (.ref z) 3 >>= _) _ _ _
  refine wpAny_bind (wpAny_field zz rfl (x := .ref TI) rfl (wpAny_bind (wpAny_seqItems pi rfl ?_)))
  show wpAny _ _ (Builtin.SmallTypes.ownedTupleIsFree (.ref z) >>= _) _ _ _
  refine wpAny_bind ?_
  unfold Builtin.SmallTypes.ownedTupleIsFree
  refine wpAny_bind (wpAny_field zz rfl (x := .none) rfl (wpAny_pure ?_))
  simp only [if_true]
  refine wpAny_bind (wpAny_rule (wpAny_bind (wpAny_field zz rfl (x := .ref TO) rfl ?_)))
  refine wpAny_bind (wpAny_setField_rec zz (by simp) fun g1 za s1 => ?_)
  replace za : IsZip g1 z TI TO .ellipsis := za
  refine wpAny_bind ?_
  simp only [List.zipIdx_cons, List.zipIdx_nil, List.forIn_cons, List.forIn_nil]
  refine wpAny_bind (wpAny_bind (wpAny_onRaise ?_))
  show wpAny _ _ (Builtin.SmallTypes.nextOf (.ref i1) >>= _) _ _ _
  cases ex : xs[k1]? with
  | none =>
    refine wpAny_bind (tn_end hh (j1.extBut s1.extBut D.i1z) (t1.extBut s1.extBut D.l1z) ex fun g2 e s2 ⟨oe, ge, ce⟩ => ?_)
    have zb : IsZip g2 z TI TO .ellipsis := s2 _ _ D.i1z.symm za
    have ne : e ≠ z := fun q => by subst q; rw [zb] at ge; cases ge; simp at ce
    exact wpAny_setField_rec zb (by simp) fun g3 _ s3 => hE g3 e (fun c o n1 _ n3 _ q => s3.extBut _ _ n1 (s2 _ _ n3 (s1.extBut _ _ n1 q))) ⟨oe, s3.extBut _ _ ne ge, ce⟩
  | some x =>
    have ey : ys[k2]? = none := by
      rcases he with q | q
      · rw [ex] at q; cases q
      · exact q
    refine wpAny_bind (tn_item (j1.extBut s1.extBut D.i1z) (t1.extBut s1.extBut D.l1z) ex fun g2 j1b s2 => wpAny_pure ?_)
    have po2 : IsPair g2 TO a b := s2.extBut _ _ D.TOi1 (s1.extBut _ _ D.TOz po)
    refine wpAny_bind (wpAny_seqItems po2 rfl (wpAny_bind (wpAny_updateSeq_pair po2 fun g3 po3 s3 => ?_)))
    refine wpAny_bind (wpAny_letGo (wpAny_pure (wpAny_bind (wpAny_bind (wpAny_onRaise ?_)))))
    show wpAny _ _ (Builtin.SmallTypes.nextOf (.ref i2) >>= _) _ _ _
    refine wpAny_bind (tn_end hh (((j2.extBut s1.extBut D.i2z).extBut s2.extBut D.i12.symm).extBut s3.extBut D.TOi2.symm) (((t2.extBut s1.extBut D.l2z).extBut s2.extBut D.l2i1).extBut s3.extBut D.l2TO) ey fun g4 e s4 ⟨oe, ge, ce⟩ => ?_)
    have zb : IsZip g4 z TI TO .ellipsis := s4 _ _ D.i2z.symm (s3.extBut _ _ D.TOz.symm (s2.extBut _ _ D.i1z.symm za))
    have ne : e ≠ z := fun q => by subst q; rw [zb] at ge; cases ge; simp at ce
    exact wpAny_setField_rec zb (by simp) fun g5 _ s5 => hE g5 e (fun c o n1 n2 n3 n4 q => s5.extBut _ _ n1 (s4 _ _ n4 (s3.extBut _ _ n2 (s2.extBut _ _ n3 (s1.extBut _ _ n1 q))))) ⟨oe, s5.extBut _ _ ne ge, ce⟩
theorem push_at {h : Heap} {o : Obj} {n : Nat} (hn : n = h.objs.size) (hf : o.isFreed = false) : (h.push o).get? n = some o := by
  subst hn; exact Heap.get?_push_size _ hf
theorem zt_make (l1 l2 : Addr) (xs ys : Array Value) :
    Meets (Builtin.«zip.__new__» ⟨[.type "zip", .ref l1, .ref l2], []⟩) (fun _ R s => s.heap.IsTuple l1 xs ∧ s.heap.IsTuple l2 ys ∧
      ∀ h', IsZip h' (s.heap.objs.size + 4) (s.heap.objs.size + 2) (s.heap.objs.size + 3) .none → IsPair h' (s.heap.objs.size + 2) (.ref s.heap.objs.size) (.ref (s.heap.objs.size + 1)) →
      IsPair h' (s.heap.objs.size + 3) .none .none → h'.IsTupleIter s.heap.objs.size l1 0 → h'.IsTupleIter (s.heap.objs.size + 1) l2 0 →
      (∀ c o, s.heap.get? c = some o → h'.get? c = some o) → R (.ok (.ret (.ref (s.heap.objs.size + 4)))) { s with heap := h' }) :=
  .of_wp fun prog w A R s h => by
    obtain ⟨hp, g, d, tk, os⟩ := s
    obtain ⟨t1, t2, h⟩ := h
    have u1 : Heap.IsTuple (Shared.heap ⟨hp, g, d, tk, os⟩) l1 xs := t1
    have u2 : Heap.IsTuple (Shared.heap ⟨hp.push { cls := .type "tuple_iterator", data := .fields #[.ref l1, .int 0 0] }, g, d, tk, os⟩) l2 ys := Heap.IsTuple.push t2 _
    have su := sub_zip
    wp_walk using wpAny_pyIter_tuple u1, wpAny_pyIter_tuple u2
    refine ⟨_, rfl, ?_⟩
    have z1 : ∀ (h : Heap) (o : Obj), (h.push o).objs.size = h.objs.size + 1 := fun h o => Heap.size_push ..
    simp only [z1]
    refine h _ (push_at (by simp only [z1]) rfl) (Heap.get?_push_of_some _ (Heap.get?_push_of_some _ (push_at (by simp only [z1]) rfl))) (Heap.get?_push_of_some _ (push_at (by simp only [z1]) rfl))
      ⟨{ cls := .type "tuple_iterator", data := .fields #[.ref l1, .int 0 0] }, Heap.get?_push_of_some _ (Heap.get?_push_of_some _ (Heap.get?_push_of_some _ (Heap.get?_push_of_some _ (push_at rfl rfl)))), rfl, rfl⟩
      ⟨{ cls := .type "tuple_iterator", data := .fields #[.ref l2, .int 0 0] }, Heap.get?_push_of_some _ (Heap.get?_push_of_some _ (Heap.get?_push_of_some _ (push_at (by simp only [z1]) rfl))), rfl, rfl⟩ fun c o q => ?_
    exact Heap.get?_push_of_some _ (Heap.get?_push_of_some _ (Heap.get?_push_of_some _ (Heap.get?_push_of_some _ (Heap.get?_push_of_some _ q))))
theorem call_zipT {l1 l2 : Addr} {xs ys : Array Value} {Q : Value → Shared → Prop} (t1 : s.heap.IsTuple l1 xs) (t2 : s.heap.IsTuple l2 ys)
    (h : ∀ h', IsZip h' (s.heap.objs.size + 4) (s.heap.objs.size + 2) (s.heap.objs.size + 3) .none → IsPair h' (s.heap.objs.size + 2) (.ref s.heap.objs.size) (.ref (s.heap.objs.size + 1)) →
      IsPair h' (s.heap.objs.size + 3) .none .none → h'.IsTupleIter s.heap.objs.size l1 0 → h'.IsTupleIter (s.heap.objs.size + 1) l2 0 →
      (∀ c o, s.heap.get? c = some o → h'.get? c = some o) → Q (.ref (s.heap.objs.size + 4)) { s with heap := h' }) : wpAny (model prog w) A (call (.type "zip") [.ref l1, .ref l2]) Q E s :=
  callType_new F.called_zip (by decide) (F.typeCall_zip_2 _ _) (F.newCall_zip_2 _ _) (fun obj => F.args_object_init_3 obj _ _) F.entry_zip_new (zt_make l1 l2 xs ys) ⟨t1, t2, fun h' a b c d e k => ⟨⟨_, a, rfl⟩, h h' a b c d e k⟩⟩
theorem nx_zip {z TI TO i1 i2 l1 l2 : Addr} {k1 k2 : Nat} {xs ys : Array Value} {x y a b : Value} {Q : Option Value → Shared → Prop} (D : ZipApart z TI TO i1 i2 l1 l2)
    (zz : IsZip s.heap z TI TO .none) (pi : IsPair s.heap TI (.ref i1) (.ref i2)) (po : IsPair s.heap TO a b)
    (j1 : s.heap.IsTupleIter i1 l1 k1) (j2 : s.heap.IsTupleIter i2 l2 k2) (t1 : s.heap.IsTuple l1 xs) (t2 : s.heap.IsTuple l2 ys) (ex : xs[k1]? = some x) (ey : ys[k2]? = some y)
    (hQ : ∀ h', IsZip h' z TI TO (rawInt s.heap.objs.size) → IsPair h' TO x y → h'.IsTupleIter i1 l1 (k1 + 1) → h'.IsTupleIter i2 l2 (k2 + 1) → IsPair h' s.heap.objs.size x y →
      (∀ c o, c ≠ z → c ≠ TO → c ≠ i1 → c ≠ i2 → s.heap.get? c = some o → h'.get? c = some o) → Q (some (.ref s.heap.objs.size)) { s with heap := h' }) :
    wpAny (model prog w) A (pyNext (.ref z)) Q E s := by
  have ty : s.TypeIs (.ref z) "zip" := ⟨_, zz, rfl⟩
  unfold pyNext
  exact wpAny_bind (wpAny_attempt (wpAny_callSpecial?_slot (name := Str.ofString "__next__") ty F.slot_zip_next (wpAny_call_entry F.slot_zip_next ty F.entry_zip_next (zt_item D zz pi po j1 j2 t1 t2 ex ey fun h' a b c d e f => wpAny_pure (hQ h' a b c d e f)) (F.args_zip_next_1 _))))
theorem nx_zipE {z TI TO i1 i2 l1 l2 : Addr} {k1 k2 : Nat} {xs ys : Array Value} {a b : Value} {Q : Option Value → Shared → Prop} (hh : A.handled = none) (D : ZipApart z TI TO i1 i2 l1 l2)
    (zz : IsZip s.heap z TI TO .none) (pi : IsPair s.heap TI (.ref i1) (.ref i2)) (po : IsPair s.heap TO a b)
    (j1 : s.heap.IsTupleIter i1 l1 k1) (j2 : s.heap.IsTupleIter i2 l2 k2) (t1 : s.heap.IsTuple l1 xs) (t2 : s.heap.IsTuple l2 ys) (he : xs[k1]? = none ∨ ys[k2]? = none)
    (hQ : ∀ h', (∀ c o, c ≠ z → c ≠ TO → c ≠ i1 → c ≠ i2 → s.heap.get? c = some o → h'.get? c = some o) → Q none { s with heap := h' }) : wpAny (model prog w) A (pyNext (.ref z)) Q E s := by
  have ty : s.TypeIs (.ref z) "zip" := ⟨_, zz, rfl⟩
  unfold pyNext
  refine wpAny_bind (wpAny_attempt (wpAny_callSpecial?_slot (name := Str.ofString "__next__") ty F.slot_zip_next (wpAny_call_entry F.slot_zip_next ty F.entry_zip_next (zt_end hh D zz pi po j1 j2 t1 t2 he fun h' e kk ⟨o, ho, hc⟩ => ?_) (F.args_zip_next_1 _))))
  exact wpAny_bind (wpAny_isInstance (T := "StopIteration") (b := true) ⟨o, ho, hc⟩ isSubtype_stop (wpAny_pure (hQ _ kk)))
end
theorem turn_zipT {P : Program} {w : World} {K : PySem.W.Frag} {elts : List Expr} {k : Nat} {pos : Pos} {z TI TO i1 i2 l1 l2 : Addr} (D : ZipApart z TI TO i1 i2 l1 l2) :
    Turn P w K (.Tuple elts k pos) (Itzt K l1 l2) [z, TI, TO, i1, i2] z
      (fun i h => IsZip h z TI TO .none ∧ IsPair h TI (.ref i1) (.ref i2) ∧ (∃ a b, IsPair h TO a b) ∧ h.IsTupleIter i1 l1 i ∧ h.IsTupleIter i2 l2 i) where
  mem := by simp
  obj := fun i h st b hb => by
    obtain ⟨hz, hTI, ⟨a, b', hTO⟩, ⟨o1, e1, c1, d1⟩, ⟨o2, e2, c2, d2⟩⟩ := st
    simp only [List.mem_cons, List.not_mem_nil, or_false] at hb
    rcases hb with rfl | rfl | rfl | rfl | rfl
    · exact ⟨_, hz, fun v q => by cases q⟩
    · exact ⟨_, hTI, fun v q => by cases q⟩
    · exact ⟨_, hTO, fun v q => by cases q⟩
    · exact ⟨_, e1, fun v q => by rw [d1] at q; cases q⟩
    · exact ⟨_, e2, fun v q => by rw [d2] at q; cases q⟩
  keep := fun i h h' st hk => by
    obtain ⟨hz, hTI, ⟨a, b', hTO⟩, h1, h2⟩ := st
    exact ⟨hk z (by simp) _ hz, hk TI (by simp) _ hTI, ⟨a, b', hk TO (by simp) _ hTO⟩, h1.at fun o e => hk i1 (by simp) o e, h2.at fun o e => hk i2 (by simp) o e⟩
  item := by
    intro X hP hw hK hc i pins s σ H E I hf st hg
    subst hP hw hK
    obtain ⟨xs, ys, hx, hy, hi1, hi2⟩ := hg
    obtain ⟨its1, r1, p1, z1⟩ := I.tuple hx
    obtain ⟨its2, r2, p2, z2⟩ := I.tuple hy
    have hl1 := r1.length
    have hl2 := r2.length
    obtain ⟨hz, hTI, ⟨a0, b0, hTO⟩, h1, h2⟩ := id st
    obtain ⟨u, eu, ra⟩ := r1.get (i := i) (x := xs[i]) (by simp [hi1])
    obtain ⟨v, ev, rb⟩ := r2.get (i := i) (x := ys[i]) (by simp [hi2])
    refine nx_zip D hz hTI hTO h1 h2 (show s.heap.IsTuple l1 its1.toArray from p1) (show s.heap.IsTuple l2 its2.toArray from p2) (x := u) (y := v) (by simpa using eu) (by simpa using ev) fun h' q1 q2 q3 q4 q5 kk => ?_
    have ltz : @LT.lt Nat _ z s.heap.objs.size := Heap.lt_size hz
    refine ⟨_, rfl, wpAny_letOwnedTupleGo_zip q1 fun h'' q1' sb => ?_⟩
    have k2 : ∀ b o, b ∉ [z, TO, i1, i2] → s.heap.get? b = some o → h''.get? b = some o := fun b o hb e => by
      simp only [List.mem_cons, List.not_mem_nil, or_false, not_or] at hb
      exact sb.extBut _ _ hb.1 (kk b o hb.1 hb.2.1 hb.2.2.1 hb.2.2.2 e)
    have fz : ∀ b ∈ [z, TO, i1, i2], b ∈ [z, TI, TO, i1, i2] := fun b hb => by
      simp only [List.mem_cons, List.not_mem_nil, or_false] at hb ⊢
      rcases hb with rfl | rfl | rfl | rfl <;> simp
    have I1 : Inv X pins σ H { s with heap := h'' } := by
      refine I.step (g' := s.gens) (d' := s.drawn) (t' := s.toks) (ch := [z, TO, i1, i2]) (fun b hb => ?_) (fun b o _ _ hc e _ => k2 b o hc e) (fun b o _ _ hc e _ => ⟨o.slots, k2 b o hc e⟩) (fun _ _ _ _ n => n)
        (fun b o hc e => ⟨o, k2 b o hc e⟩) (fun _ _ e => e) (fun _ _ _ e => e) (fun b ps e => ⟨#[], by rw [e]; simp⟩) (fun m hm => ?_) (fun b o e => ?_) I.bare
      · obtain ⟨f0, f1, f2, f3, f4, f5⟩ := hf b (fz b hb)
        exact ⟨f3, f1, f4, f5⟩
      · obtain ⟨o, es, ep, ho, r⟩ := hm
        exact ⟨o, es, ep, k2 _ o (fun hb => (hf _ (fz _ hb)).2.1 rfl) ho, r⟩
      · have nb : ∀ c o', H c = some o' → c ∉ [z, TO, i1, i2] := fun c o' e hb => by
          rw [(hf c (fz c hb)).1] at e; cases e
        refine (I.hok b o e).stay (fun c q hc' e' => k2 c q ?_ e') (fun _ q => q) fun _ _ q => q
        rcases hc' with rfl | hc'
        · exact nb _ _ e
        · exact nb _ _ hc'
    have fT : H s.heap.objs.size = none := I.hok.fresh (Nat.le_refl _)
    have tT : h''.IsTuple s.heap.objs.size #[u, v] := ⟨_, sb.extBut _ _ (Nat.ne_of_gt ltz) q5, rfl, _, rfl⟩
    have I2 : Inv X pins σ (upd H s.heap.objs.size (.tup [xs[i], ys[i]])) { s with heap := h'' } := by
      refine Inv.track I1 fT I.sz (Nat.ne_of_gt I.lt) (fun x c e q => ?_) (fun p hp q => ?_) ⟨by show 2 ≤ sizeLine; decide, [u, v], .cons ra (.cons rb .nil), tT⟩
      · obtain ⟨v', q'⟩ := I.cell x c e
        have := q'.lt
        rw [q] at this
        exact absurd this (Nat.lt_irrefl _)
      · have := Heap.lt_size (I.pin p hp).1
        rw [q] at this
        exact absurd this (Nat.lt_irrefl _)
    refine ⟨.ref s.heap.objs.size, _, I2, rfl, ⟨s.heap.objs.size, fT, rfl, fun xs' ys' a' b' hx' hy' ea eb => ?_⟩, ?_, fun c hc' => ?_⟩
    · rw [I.tuple_inj hx' hx] at ea
      rw [I.tuple_inj hy' hy] at eb
      simp only [hi1, hi2, List.getElem?_eq_getElem, Option.some.injEq] at ea eb
      rw [ea, eb]
    · exact ⟨q1', sb.extBut _ _ D.TIz (kk _ _ D.TIz D.TITO D.TIi1 D.TIi2 hTI), ⟨_, _, sb.extBut _ _ D.TOz q2⟩, q3.extBut sb.extBut D.i1z, q4.extBut sb.extBut D.i2z⟩
    · have n0 := (hf c hc').1
      have : c ≠ s.heap.objs.size := fun q => by
        obtain ⟨o, e⟩ : ∃ o, s.heap.get? c = some o := by
          obtain ⟨o1, e1, _⟩ := h1
          obtain ⟨o2, e2, _⟩ := h2
          simp only [List.mem_cons, List.not_mem_nil, or_false] at hc'
          rcases hc' with rfl | rfl | rfl | rfl | rfl
          · exact ⟨_, hz⟩
          · exact ⟨_, hTI⟩
          · exact ⟨_, hTO⟩
          · exact ⟨_, e1⟩
          · exact ⟨_, e2⟩
        have := Heap.lt_size e
        rw [q] at this
        exact absurd this (Nat.lt_irrefl _)
      rw [upd_ne this]; exact n0
  done := by
    intro X hP hw hK hc i pins s σ H E I hf st hg
    subst hP hw hK
    obtain ⟨xs, ys, hx, hy, hi⟩ := hg
    obtain ⟨its1, r1, p1, z1⟩ := I.tuple hx
    obtain ⟨its2, r2, p2, z2⟩ := I.tuple hy
    have hl1 := r1.length
    have hl2 := r2.length
    obtain ⟨hz, hTI, ⟨a0, b0, hTO⟩, h1, h2⟩ := id st
    have he : its1.toArray[i]? = none ∨ its2.toArray[i]? = none := by
      rcases Nat.le_total xs.length ys.length with q | q
      · exact .inl (by simp; omega)
      · exact .inr (by simp; omega)
    refine nx_zipE (I.ok.hd hc) D hz hTI hTO h1 h2 (show s.heap.IsTuple l1 its1.toArray from p1) (show s.heap.IsTuple l2 its2.toArray from p2) he fun h' kk => ⟨rfl, ?_⟩
    have k2 : ∀ b o, b ∉ [z, TO, i1, i2] → s.heap.get? b = some o → h'.get? b = some o := fun b o hb e => by
      simp only [List.mem_cons, List.not_mem_nil, or_false, not_or] at hb
      exact kk b o hb.1 hb.2.1 hb.2.2.1 hb.2.2.2 e
    have fz : ∀ b ∈ [z, TO, i1, i2], b ∈ [z, TI, TO, i1, i2] := fun b hb => by
      simp only [List.mem_cons, List.not_mem_nil, or_false] at hb ⊢
      rcases hb with rfl | rfl | rfl | rfl <;> simp
    refine I.step (g' := s.gens) (d' := s.drawn) (t' := s.toks) (ch := [z, TO, i1, i2]) (fun b hb => ?_) (fun b o _ _ hc e _ => k2 b o hc e) (fun b o _ _ hc e _ => ⟨o.slots, k2 b o hc e⟩) (fun _ _ _ _ n => n)
      (fun b o hc e => ⟨o, k2 b o hc e⟩) (fun _ _ e => e) (fun _ _ _ e => e) (fun b ps e => ⟨#[], by rw [e]; simp⟩) (fun m hm => ?_) (fun b o e => ?_) I.bare
    · obtain ⟨f0, f1, f2, f3, f4, f5⟩ := hf b (fz b hb)
      exact ⟨f3, f1, f4, f5⟩
    · obtain ⟨o, es, ep, ho, r⟩ := hm
      exact ⟨o, es, ep, k2 _ o (fun hb => (hf _ (fz _ hb)).2.1 rfl) ho, r⟩
    · have nb : ∀ c o', H c = some o' → c ∉ [z, TO, i1, i2] := fun c o' e hb => by
        rw [(hf c (fz c hb)).1] at e; cases e
      refine (I.hok b o e).stay (fun c q hc' e' => k2 c q ?_ e') (fun _ q => q) fun _ _ q => q
      rcases hc' with rfl | hc'
      · exact nb _ _ e
      · exact nb _ _ hc'
  self := fun A i s Q E st hQ => wpAny_pyIter_zip st.1 hQ
theorem pi_zipT {X : Cx} {elts : List Expr} {k : Nat} {tpos : Pos} {a b : Expr} {ta : TA} {p pos : Pos} (hg : Gl X "zip") (hm : X.mg "zip" = none) (ha : PA X [a, b] ta)
    (hs : starEach [a, b] X.env = (false, eval a X.env) :: starEach [b] X.env) (hpl : (backTo pos (starEach [b] X.env)).any (·.1) = false) :
    PI X (.Tuple elts k tpos) (.Call (.Name "zip" p) [a, b] [] pos) (iZipT X.K ta) := by
  intro pins s σ H R I h
  refine Call_ (ld_blt I hg hm boot_zip (PyProof.Rows.callWith_type1 (thn (ha pos pins s σ H _ I h) fun us s1 ⟨vs, H1, I1, r1, q1⟩ => ?_) hs hpl))
  obtain ⟨l1, l2, e, ⟨xs, hx⟩, ⟨ys, hy⟩, q⟩ := q1
  subst e
  obtain ⟨u, v, rfl, ru, rv⟩ := vals2 r1
  cases ru
  cases rv
  obtain ⟨its1, rr1, p1, z1⟩ := I1.tuple hx
  obtain ⟨its2, rr2, p2, z2⟩ := I1.tuple hy
  have p1' : s1.heap.IsTuple l1 its1.toArray := p1
  have p2' : s1.heap.IsTuple l2 its2.toArray := p2
  refine call_zipT p1' p2' fun h' a1 a2 a3 a4 a5 hk => ?_
  refine wpAny_pyIter_zip a1 ?_
  have lt1 : @LT.lt Nat _ l1 s1.heap.objs.size := by obtain ⟨_, e, _⟩ := p1'; exact Heap.lt_size e
  have lt2 : @LT.lt Nat _ l2 s1.heap.objs.size := by obtain ⟨_, e, _⟩ := p2'; exact Heap.lt_size e
  have D : ZipApart (s1.heap.objs.size + 4) (s1.heap.objs.size + 2) (s1.heap.objs.size + 3) s1.heap.objs.size (s1.heap.objs.size + 1) l1 l2 := by
    constructor <;> (show @Ne Nat _ _; omega)
  have I2 : Inv X pins σ H1 { s1 with heap := h' } := I1.kept (t' := s1.toks) hk
  refine ⟨_, _, _, _, H1, rfl, I2, turn_zipT D, ⟨a1, a2, ⟨_, _, a3⟩, a4, a5⟩, fun b' hb => ?_, q⟩
  have hle : s1.heap.objs.size ≤ b' := by
    simp only [List.mem_cons, List.not_mem_nil, or_false] at hb
    rcases hb with rfl | rfl | rfl | rfl | rfl
    · exact Nat.le_add_right _ _
    · exact Nat.le_add_right _ _
    · exact Nat.le_add_right _ _
    · exact Nat.le_refl _
    · exact Nat.le_add_right _ _
  exact I1.fpOk (b := b') (H' := H1) hle (I1.hok.fresh hle)
section
variable {CX : CXT} {S : SCx} {Γ : RCx} {X : Cx} {a b : Expr} {x : Str} {p pos : Pos} {ra rb : RE}
theorem i_zipT {ts : List Expr} {k} {tp : Pos} (G : Good CX S Γ X) (h : kB S x "zip" = true) (hn : nst [a, b] = true) (ha : PE X a (rdE Γ ra)) (hb : PE X b (rdE Γ rb)) : PI X (.Tuple ts k tp) (.Call (.Name x p) [a, b] [] pos) (rdI Γ .zipT [ra, rb]) := by
  simp only [kB, Bool.and_eq_true, decide_eq_true_eq] at h
  obtain ⟨⟨rfl, h2⟩, h3⟩ := h
  show PI X _ _ (iZipT Γ.K (tCons (rdE Γ ra) (rdA Γ [rb])))
  rw [← G.K]
  exact pi_zipT (G.gl h2) (G.bls _ h3) (pa_cons ha (pa_cons hb pa_nil (star_cons (nst_cons (nst_cons hn).2).1)) (star_cons (nst_cons hn).1)) (star_cons (nst_cons hn).1) (stars_of _ _ _ (nst_cons hn).2)
end
end L2
set_option maxRecDepth 100000
set_option maxHeartbeats 4000000
namespace L2.K42
open PySem PySem.Spec PyProof.Rows L2.B
def stAt (i : Nat) : Stmt := (PySem.Challenge.pw_inkloom_k42_lines_there_and_back.main.body).getD i (.Pass ⟨0, 0, 0, 0⟩)
/-! ### is_whole -/
def s_is_whole : Stmt := stAt 17
theorem sc_is_whole : FnScope N_is_whole P_is_whole (defScope s_is_whole) := ⟨by kernel_rfl, by kernel_rfl, by kernel_rfl, by decide +kernel, by kernel_rfl, by decide +kernel, by decide +kernel⟩
theorem m_is_whole {CX : CXT} {Γ : RCx} {X : Cx} (G : GoodS CX (scx N_is_whole (defScope s_is_whole) f_is_whole g_is_whole l_is_whole mn_is_whole kn_is_whole en_is_whole hn_is_whole 0) Γ X) : PSs X (defBody s_is_whole) (rdSs Γ b_is_whole) := by
  have g := G.toGood
  exact (s_cons (s_ret (d_and (d_isi g (by kernel_rfl) (by kernel_rfl) (by kernel_rfl) (d_v g (by kernel_rfl))) (d_and1 (d_not g (d_isi g (by kernel_rfl) (by kernel_rfl) (by kernel_rfl) (d_v g (by kernel_rfl))))))) s_nil)
/-! ### is_between -/
def s_is_between : Stmt := stAt 18
theorem sc_is_between : FnScope N_is_between P_is_between (defScope s_is_between) := ⟨by kernel_rfl, by kernel_rfl, by kernel_rfl, by decide +kernel, by kernel_rfl, by decide +kernel, by decide +kernel⟩
theorem m_is_between {CX : CXT} {Γ : RCx} {X : Cx} (G : GoodS CX (scx N_is_between (defScope s_is_between) f_is_between g_is_between l_is_between mn_is_between kn_is_between en_is_between hn_is_between 0) Γ X) : PSs X (defBody s_is_between) (rdSs Γ b_is_between) := by
  have g := G.toGood
  exact (s_cons (s_ret (d_and (d_call g (by kernel_rfl) (by kernel_rfl) (d_cons (by kernel_rfl) (d_v g (by kernel_rfl)) d_nil)) (d_and1 (d_cmp2 g (by kernel_rfl) (d_v g (by kernel_rfl)) (d_v g (by kernel_rfl)) (d_v g (by kernel_rfl)))))) s_nil)
/-! ### is_truth -/
def N_is_truth : List Str := ["thing"]
def P_is_truth : List Str := ["thing"]
def b_is_truth : List RS :=
  [.ret (.or [(.cmp .Is (.v 0) (.c (.bl true))), (.cmp .Is (.v 0) (.c (.bl false)))])]
def f_is_truth : List Str := []
def g_is_truth : List Str := []
def l_is_truth : List Str := []
def mn_is_truth : List Str := []
def kn_is_truth : List Str := []
def en_is_truth : List Str := []
def hn_is_truth : List Str := []
def s_is_truth : Stmt := stAt 19
theorem sc_is_truth : FnScope N_is_truth P_is_truth (defScope s_is_truth) := ⟨by kernel_rfl, by kernel_rfl, by kernel_rfl, by decide +kernel, by kernel_rfl, by decide +kernel, by decide +kernel⟩
theorem m_is_truth {CX : CXT} {Γ : RCx} {X : Cx} (G : GoodS CX (scx N_is_truth (defScope s_is_truth) f_is_truth g_is_truth l_is_truth mn_is_truth kn_is_truth en_is_truth hn_is_truth 0) Γ X) : PSs X (defBody s_is_truth) (rdSs Γ b_is_truth) := by
  have g := G.toGood
  exact (s_cons (s_ret (d_or (d_cmp g (by kernel_rfl) (d_v g (by kernel_rfl)) d_cb) (d_or1 (d_cmp g (by kernel_rfl) (d_v g (by kernel_rfl)) d_cb)))) s_nil)
/-! ### is_word -/
def s_is_word : Stmt := stAt 20
theorem sc_is_word : FnScope N_is_word P_is_word (defScope s_is_word) := ⟨by kernel_rfl, by kernel_rfl, by kernel_rfl, by decide +kernel, by kernel_rfl, by decide +kernel, by decide +kernel⟩
theorem m_is_word {CX : CXT} {Γ : RCx} {X : Cx} (G : GoodS CX (scx N_is_word (defScope s_is_word) f_is_word g_is_word l_is_word mn_is_word kn_is_word en_is_word hn_is_word 0) Γ X) : PSs X (defBody s_is_word) (rdSs Γ b_is_word) := by
  have g := G.toGood
  exact (s_cons (s_ret (d_and (d_isi g (by kernel_rfl) (by kernel_rfl) (by kernel_rfl) (d_v g (by kernel_rfl))) (d_and1 (d_cmp g (by kernel_rfl) (d_v g (by kernel_rfl)) (d_v g (by kernel_rfl)))))) s_nil)
/-! ### is_text -/
def s_is_text : Stmt := stAt 21
theorem sc_is_text : FnScope N_is_text P_is_text (defScope s_is_text) := ⟨by kernel_rfl, by kernel_rfl, by kernel_rfl, by decide +kernel, by kernel_rfl, by decide +kernel, by decide +kernel⟩
theorem m_is_text {CX : CXT} {Γ : RCx} {X : Cx} (G : GoodS CX (scx N_is_text (defScope s_is_text) f_is_text g_is_text l_is_text mn_is_text kn_is_text en_is_text hn_is_text 0) Γ X) : PSs X (defBody s_is_text) (rdSs Γ b_is_text) := by
  have g := G.toGood
  exact (s_cons (s_ret (d_and (d_isi g (by kernel_rfl) (by kernel_rfl) (by kernel_rfl) (d_v g (by kernel_rfl))) (d_and1 (d_cmp g (by kernel_rfl) (d_mth g (by kernel_rfl) (by kernel_rfl) (d_v g (by kernel_rfl)) (d_cons (by kernel_rfl) (d_g g (by kernel_rfl)) d_nil)) d_cs)))) s_nil)
/-! ### are_texts -/
def N_are_texts : List Str := ["thing"]
def P_are_texts : List Str := ["thing"]
def b_are_texts : List RS :=
  [.ite (.or [(.not (.isi .tuple (.v 0))), (.not (.cmp2 .LtE .LtE (.c (.int 1)) (.blt .len [(.v 0)]) (.g 0)))]) [.ret (.c (.bl false))] [],
  .ret (.xt xAll [(.comp none [] .tup [(.v 0)] none (.call 0 [(.v 0)]))])]
def f_are_texts : List Str := ["is_text"]
def g_are_texts : List Str := ["MOST_CURSORS"]
def l_are_texts : List Str := ["isinstance", "tuple", "len", "all"]
def mn_are_texts : List Str := []
def kn_are_texts : List Str := []
def en_are_texts : List Str := []
def hn_are_texts : List Str := []
def s_are_texts : Stmt := stAt 28
theorem sc_are_texts : FnScope N_are_texts P_are_texts (defScope s_are_texts) := ⟨by kernel_rfl, by kernel_rfl, by kernel_rfl, by decide +kernel, by kernel_rfl, by decide +kernel, by decide +kernel⟩
theorem m_are_texts {CX : CXT} {Γ : RCx} {X : Cx} (G : GoodS CX (scx N_are_texts (defScope s_are_texts) f_are_texts g_are_texts l_are_texts mn_are_texts kn_are_texts en_are_texts hn_are_texts 0) Γ X) : PSs X (defBody s_are_texts) (rdSs Γ b_are_texts) := by
  have g := G.toGood
  exact (s_cons (s_ite (PW.pt (t_or (t_not (t_isi g (d_isi g (by kernel_rfl) (by kernel_rfl) (by kernel_rfl) (d_v g (by kernel_rfl))))) (t_or1 (t_not (t_cmp2 g (by kernel_rfl) d_ci (d_blt g (by kernel_rfl) (by kernel_rfl) (d_cons (by kernel_rfl) (d_v g (by kernel_rfl)) d_nil)) (d_g g (by kernel_rfl))))))) (s_cons (s_ret d_cb) s_nil) s_nil) (s_cons (s_ret (d_xAll g (by kernel_rfl) (by kernel_rfl) (d_cons (by kernel_rfl) (d_comp (ln := ["text"]) g (by kernel_rfl) (i_tup g (d_v g (by kernel_rfl))) d_if0 (fun _ g => (d_call g (by kernel_rfl) (by kernel_rfl) (d_cons (by kernel_rfl) (d_v g (by kernel_rfl)) d_nil)))) d_nil))) s_nil))
/-! ### is_object -/
def N_is_object : List Str := ["word", "thing"]
def P_is_object : List Str := ["word", "thing"]
def b_is_object : List RS :=
  [.ite (.cmp .Eq (.v 0) (.c (.str "enter"))) [.ret (.call 0 [(.v 1)])] [],
  .ite (.cmp .Eq (.v 0) (.c (.str "paste"))) [.ret (.call 1 [(.v 1)])] [],
  .ite (.cmp .Eq (.v 0) (.c (.str "erase"))) [.ret (.call 2 [(.v 1), (.g 0)])] [],
  .ite (.cmp .In (.v 0) (.tup [(.c (.str "spread")), (.c (.str "go"))])) [.ret (.call 3 [(.v 1), (.c (.int 0)), (.g 1)])] [],
  .ite (.cmp .Eq (.v 0) (.c (.str "mark"))) [.ret (.call 2 [(.v 1), (.g 2)])] [],
  .ret (.and [(.cmp .Eq (.v 0) (.c (.str "span"))), (.call 4 [(.v 1)])])]
def f_is_object : List Str := ["is_text", "are_texts", "is_word", "is_between", "is_truth"]
def g_is_object : List Str := ["ERASE_WORDS", "MOST_NUMBER", "SIDES"]
def l_is_object : List Str := []
def mn_is_object : List Str := []
def kn_is_object : List Str := []
def en_is_object : List Str := []
def hn_is_object : List Str := []
def s_is_object : Stmt := stAt 29
theorem sc_is_object : FnScope N_is_object P_is_object (defScope s_is_object) := ⟨by kernel_rfl, by kernel_rfl, by kernel_rfl, by decide +kernel, by kernel_rfl, by decide +kernel, by decide +kernel⟩
theorem m_is_object {CX : CXT} {Γ : RCx} {X : Cx} (G : GoodS CX (scx N_is_object (defScope s_is_object) f_is_object g_is_object l_is_object mn_is_object kn_is_object en_is_object hn_is_object 0) Γ X) : PSs X (defBody s_is_object) (rdSs Γ b_is_object) := by
  have g := G.toGood
  exact (s_cons (s_ite (t_cmp g (by kernel_rfl) (d_v g (by kernel_rfl)) d_cs) (s_cons (s_ret (d_call g (by kernel_rfl) (by kernel_rfl) (d_cons (by kernel_rfl) (d_v g (by kernel_rfl)) d_nil))) s_nil) s_nil) (s_cons (s_ite (t_cmp g (by kernel_rfl) (d_v g (by kernel_rfl)) d_cs) (s_cons (s_ret (d_call g (by kernel_rfl) (by kernel_rfl) (d_cons (by kernel_rfl) (d_v g (by kernel_rfl)) d_nil))) s_nil) s_nil) (s_cons (s_ite (t_cmp g (by kernel_rfl) (d_v g (by kernel_rfl)) d_cs) (s_cons (s_ret (d_call g (by kernel_rfl) (by kernel_rfl) (d_cons (by kernel_rfl) (d_v g (by kernel_rfl)) (d_cons (by kernel_rfl) (d_g g (by kernel_rfl)) d_nil)))) s_nil) s_nil) (s_cons (s_ite (t_cmp g (by kernel_rfl) (d_v g (by kernel_rfl)) (d_tup (d_cons (by kernel_rfl) d_cs (d_cons (by kernel_rfl) d_cs d_nil)))) (s_cons (s_ret (d_call g (by kernel_rfl) (by kernel_rfl) (d_cons (by kernel_rfl) (d_v g (by kernel_rfl)) (d_cons (by kernel_rfl) d_ci (d_cons (by kernel_rfl) (d_g g (by kernel_rfl)) d_nil))))) s_nil) s_nil) (s_cons (s_ite (t_cmp g (by kernel_rfl) (d_v g (by kernel_rfl)) d_cs) (s_cons (s_ret (d_call g (by kernel_rfl) (by kernel_rfl) (d_cons (by kernel_rfl) (d_v g (by kernel_rfl)) (d_cons (by kernel_rfl) (d_g g (by kernel_rfl)) d_nil)))) s_nil) s_nil) (s_cons (s_ret (d_and (d_cmp g (by kernel_rfl) (d_v g (by kernel_rfl)) d_cs) (d_and1 (d_call g (by kernel_rfl) (by kernel_rfl) (d_cons (by kernel_rfl) (d_v g (by kernel_rfl)) d_nil))))) s_nil))))))
/-! ### is_deed -/
def N_is_deed : List Str := ["thing"]
def P_is_deed : List Str := ["thing"]
def b_is_deed : List RS :=
  [.ite (.or [(.not (.isi .tuple (.v 0))), (.cmp .Eq (.blt .len [(.v 0)]) (.c (.int 0))), (.not (.isi .str (.ix (.v 0) (.c (.int 0)))))]) [.ret (.c (.bl false))] [],
  .ite (.cmp .In (.ix (.v 0) (.c (.int 0))) (.tup [(.c (.str "only")), (.c (.str "undo")), (.c (.str "redo"))])) [.ret (.cmp .Eq (.blt .len [(.v 0)]) (.c (.int 1)))] [],
  .ite (.cmp .Eq (.ix (.v 0) (.c (.int 0))) (.c (.str "step"))) [.ret (.and [(.cmp .Eq (.blt .len [(.v 0)]) (.c (.int 3))), (.call 0 [(.ix (.v 0) (.c (.int 1))), (.g 0)]), (.call 1 [(.ix (.v 0) (.c (.int 2)))])])] [],
  .ret (.and [(.cmp .Eq (.blt .len [(.v 0)]) (.c (.int 2))), (.call 2 [(.ix (.v 0) (.c (.int 0))), (.ix (.v 0) (.c (.int 1)))])])]
def f_is_deed : List Str := ["is_word", "is_truth", "is_object"]
def g_is_deed : List Str := ["STEP_WORDS"]
def l_is_deed : List Str := ["isinstance", "tuple", "len", "str"]
def mn_is_deed : List Str := []
def kn_is_deed : List Str := []
def en_is_deed : List Str := []
def hn_is_deed : List Str := []
def s_is_deed : Stmt := stAt 30
theorem sc_is_deed : FnScope N_is_deed P_is_deed (defScope s_is_deed) := ⟨by kernel_rfl, by kernel_rfl, by kernel_rfl, by decide +kernel, by kernel_rfl, by decide +kernel, by decide +kernel⟩
theorem m_is_deed {CX : CXT} {Γ : RCx} {X : Cx} (G : GoodS CX (scx N_is_deed (defScope s_is_deed) f_is_deed g_is_deed l_is_deed mn_is_deed kn_is_deed en_is_deed hn_is_deed 0) Γ X) : PSs X (defBody s_is_deed) (rdSs Γ b_is_deed) := by
  have g := G.toGood
  exact (s_cons (s_ite (PW.pt (t_or (t_not (t_isi g (d_isi g (by kernel_rfl) (by kernel_rfl) (by kernel_rfl) (d_v g (by kernel_rfl))))) (t_or (t_cmp g (by kernel_rfl) (d_blt g (by kernel_rfl) (by kernel_rfl) (d_cons (by kernel_rfl) (d_v g (by kernel_rfl)) d_nil)) d_ci) (t_or1 (t_not (t_isi g (d_isi g (by kernel_rfl) (by kernel_rfl) (by kernel_rfl) (d_ix g (by kernel_rfl) (d_v g (by kernel_rfl)) d_ci)))))))) (s_cons (s_ret d_cb) s_nil) s_nil) (s_cons (s_ite (t_cmp g (by kernel_rfl) (d_ix g (by kernel_rfl) (d_v g (by kernel_rfl)) d_ci) (d_tup (d_cons (by kernel_rfl) d_cs (d_cons (by kernel_rfl) d_cs (d_cons (by kernel_rfl) d_cs d_nil))))) (s_cons (s_ret (d_cmp g (by kernel_rfl) (d_blt g (by kernel_rfl) (by kernel_rfl) (d_cons (by kernel_rfl) (d_v g (by kernel_rfl)) d_nil)) d_ci)) s_nil) s_nil) (s_cons (s_ite (t_cmp g (by kernel_rfl) (d_ix g (by kernel_rfl) (d_v g (by kernel_rfl)) d_ci) d_cs) (s_cons (s_ret (d_and (d_cmp g (by kernel_rfl) (d_blt g (by kernel_rfl) (by kernel_rfl) (d_cons (by kernel_rfl) (d_v g (by kernel_rfl)) d_nil)) d_ci) (d_and (d_call g (by kernel_rfl) (by kernel_rfl) (d_cons (by kernel_rfl) (d_ix g (by kernel_rfl) (d_v g (by kernel_rfl)) d_ci) (d_cons (by kernel_rfl) (d_g g (by kernel_rfl)) d_nil))) (d_and1 (d_call g (by kernel_rfl) (by kernel_rfl) (d_cons (by kernel_rfl) (d_ix g (by kernel_rfl) (d_v g (by kernel_rfl)) d_ci) d_nil)))))) s_nil) s_nil) (s_cons (s_ret (d_and (d_cmp g (by kernel_rfl) (d_blt g (by kernel_rfl) (by kernel_rfl) (d_cons (by kernel_rfl) (d_v g (by kernel_rfl)) d_nil)) d_ci) (d_and1 (d_call g (by kernel_rfl) (by kernel_rfl) (d_cons (by kernel_rfl) (d_ix g (by kernel_rfl) (d_v g (by kernel_rfl)) d_ci) (d_cons (by kernel_rfl) (d_ix g (by kernel_rfl) (d_v g (by kernel_rfl)) d_ci) d_nil)))))) s_nil))))
/-! ### need_deed -/
def N_need_deed : List Str := ["deed"]
def P_need_deed : List Str := ["deed"]
def b_need_deed : List RS :=
  [.ite (.not (.call 0 [(.v 0)])) [.rais 0 [(.c (.str "this is no deed"))]] []]
def f_need_deed : List Str := ["is_deed"]
def g_need_deed : List Str := []
def l_need_deed : List Str := []
def mn_need_deed : List Str := []
def kn_need_deed : List Str := []
def en_need_deed : List Str := ["BadDeed"]
def hn_need_deed : List Str := []
def s_need_deed : Stmt := stAt 31
theorem sc_need_deed : FnScope N_need_deed P_need_deed (defScope s_need_deed) := ⟨by kernel_rfl, by kernel_rfl, by kernel_rfl, by decide +kernel, by kernel_rfl, by decide +kernel, by decide +kernel⟩
theorem m_need_deed {CX : CXT} {Γ : RCx} {X : Cx} (G : GoodS CX (scx N_need_deed (defScope s_need_deed) f_need_deed g_need_deed l_need_deed mn_need_deed kn_need_deed en_need_deed hn_need_deed 0) Γ X) : PSs X (defBody s_need_deed) (rdSs Γ b_need_deed) := by
  have g := G.toGood
  exact (s_cons (s_ite (t_not (t_call g (d_call g (by kernel_rfl) (by kernel_rfl) (d_cons (by kernel_rfl) (d_v g (by kernel_rfl)) d_nil)))) (s_cons (s_raise G (by kernel_rfl) (by kernel_rfl) (d_cons (by kernel_rfl) d_cs d_nil)) s_nil) s_nil) s_nil)
/-! ### quoted -/
def N_quoted : List Str := ["text"]
def P_quoted : List Str := ["text"]
def b_quoted : List RS :=
  [.ret (.bin .Add (.bin .Add (.c (.str "\"")) (.xm xRepl (.xm xRepl (.xm xRepl (.v 0) [(.c (.str "\\")), (.c (.str "\\\\"))]) [(.c (.str "\"")), (.c (.str "\\\""))]) [(.c (.str "\n")), (.c (.str "\\n"))])) (.c (.str "\"")))]
def f_quoted : List Str := []
def g_quoted : List Str := []
def l_quoted : List Str := []
def mn_quoted : List Str := []
def kn_quoted : List Str := []
def en_quoted : List Str := []
def hn_quoted : List Str := []
def s_quoted : Stmt := stAt 35
theorem sc_quoted : FnScope N_quoted P_quoted (defScope s_quoted) := ⟨by kernel_rfl, by kernel_rfl, by kernel_rfl, by decide +kernel, by kernel_rfl, by decide +kernel, by decide +kernel⟩
theorem m_quoted {CX : CXT} {Γ : RCx} {X : Cx} (G : GoodS CX (scx N_quoted (defScope s_quoted) f_quoted g_quoted l_quoted mn_quoted kn_quoted en_quoted hn_quoted 0) Γ X) : PSs X (defBody s_quoted) (rdSs Γ b_quoted) := by
  have g := G.toGood
  exact (s_cons (s_ret (d_bin g (d_binp g (p_repl g (by kernel_rfl) (p_repl g (by kernel_rfl) (p_repl g (by kernel_rfl) (PE.p (d_v g (by kernel_rfl))))))) d_cs)) s_nil)
/-! ### words_of -/
def N_words_of : List Str := ["deed", "word"]
def P_words_of : List Str := ["deed"]
def b_words_of : List RS :=
  [.asg 1 (.ix (.v 0) (.c (.int 0))),
  .ite (.cmp .Eq (.v 1) (.c (.str "enter"))) [.ret (.lst [(.v 1), (.call 0 [(.ix (.v 0) (.c (.int 1)))])])] [],
  .ite (.cmp .Eq (.v 1) (.c (.str "paste"))) [.ret (.bin .Add (.lst [(.v 1)]) (.comp none [] .tup [(.ix (.v 0) (.c (.int 1)))] none (.call 0 [(.v 0)])))] [],
  .ite (.cmp .Eq (.v 1) (.c (.str "step"))) [.ret (.lst [(.ife (.ix (.v 0) (.c (.int 2))) (.c (.str "hold")) (.c (.str "step"))), (.ix (.v 0) (.c (.int 1)))])] [],
  .ite (.cmp .Eq (.v 1) (.c (.str "span"))) [.ret (.lst [(.v 1), (.ife (.ix (.v 0) (.c (.int 1))) (.c (.str "grows")) (.c (.str "stays")))])] [],
  .ret (.bin .Add (.lst [(.v 1)]) (.comp none [] .tup [(.sl (.v 0) (some (.c (.int 1))) none)] none (.xt xStr [(.v 0)])))]
def f_words_of : List Str := ["quoted"]
def g_words_of : List Str := []
def l_words_of : List Str := ["str"]
def mn_words_of : List Str := []
def kn_words_of : List Str := []
def en_words_of : List Str := []
def hn_words_of : List Str := []
def s_words_of : Stmt := stAt 36
theorem sc_words_of : FnScope N_words_of P_words_of (defScope s_words_of) := ⟨by kernel_rfl, by kernel_rfl, by kernel_rfl, by decide +kernel, by kernel_rfl, by decide +kernel, by decide +kernel⟩
theorem m_words_of {CX : CXT} {Γ : RCx} {X : Cx} (G : GoodS CX (scx N_words_of (defScope s_words_of) f_words_of g_words_of l_words_of mn_words_of kn_words_of en_words_of hn_words_of 0) Γ X) : PSs X (defBody s_words_of) (rdSs Γ b_words_of) := by
  have g := G.toGood
  exact (s_cons (s_asg G (by kernel_rfl) (by kernel_rfl) (d_ix g (by kernel_rfl) (d_v g (by kernel_rfl)) d_ci)) (s_cons (s_ite (t_cmp g (by kernel_rfl) (d_v g (by kernel_rfl)) d_cs) (s_cons (s_ret (d_lst (d_cons (by kernel_rfl) (d_v g (by kernel_rfl)) (d_cons (by kernel_rfl) (d_call g (by kernel_rfl) (by kernel_rfl) (d_cons (by kernel_rfl) (d_ix g (by kernel_rfl) (d_v g (by kernel_rfl)) d_ci) d_nil)) d_nil)))) s_nil) s_nil) (s_cons (s_ite (t_cmp g (by kernel_rfl) (d_v g (by kernel_rfl)) d_cs) (s_cons (s_ret (d_bin g (d_lst (d_cons (by kernel_rfl) (d_v g (by kernel_rfl)) d_nil)) (d_comp (ln := ["text"]) g (by kernel_rfl) (i_tup g (d_ix g (by kernel_rfl) (d_v g (by kernel_rfl)) d_ci)) d_if0 (fun _ g => (d_call g (by kernel_rfl) (by kernel_rfl) (d_cons (by kernel_rfl) (d_v g (by kernel_rfl)) d_nil)))))) s_nil) s_nil) (s_cons (s_ite (t_cmp g (by kernel_rfl) (d_v g (by kernel_rfl)) d_cs) (s_cons (s_ret (d_lst (d_cons (by kernel_rfl) (d_ife (t_ix g (d_ix g (by kernel_rfl) (d_v g (by kernel_rfl)) d_ci)) d_cs d_cs) (d_cons (by kernel_rfl) (d_ix g (by kernel_rfl) (d_v g (by kernel_rfl)) d_ci) d_nil)))) s_nil) s_nil) (s_cons (s_ite (t_cmp g (by kernel_rfl) (d_v g (by kernel_rfl)) d_cs) (s_cons (s_ret (d_lst (d_cons (by kernel_rfl) (d_v g (by kernel_rfl)) (d_cons (by kernel_rfl) (d_ife (t_ix g (d_ix g (by kernel_rfl) (d_v g (by kernel_rfl)) d_ci)) d_cs d_cs) d_nil)))) s_nil) s_nil) (s_cons (s_ret (d_bin g (d_lst (d_cons (by kernel_rfl) (d_v g (by kernel_rfl)) d_nil)) (d_comp (ln := ["part"]) g (by kernel_rfl) (i_tup g (d_sl g (d_v g (by kernel_rfl)) (d_some d_ci) d_no)) d_if0 (fun _ g => (d_xStr g (by kernel_rfl) (by kernel_rfl) (d_cons (by kernel_rfl) (d_v g (by kernel_rfl)) d_nil)))))) s_nil))))))
/-! ### shown -/
def N_shown : List Str := ["deed"]
def P_shown : List Str := ["deed"]
def b_shown : List RS :=
  [.drop (.call 0 [(.v 0)]),
  .ret (.mth .join (.c (.str " ")) [(.call 1 [(.v 0)])])]
def f_shown : List Str := ["need_deed", "words_of"]
def g_shown : List Str := []
def l_shown : List Str := []
def mn_shown : List Str := []
def kn_shown : List Str := []
def en_shown : List Str := []
def hn_shown : List Str := []
def s_shown : Stmt := stAt 37
theorem sc_shown : FnScope N_shown P_shown (defScope s_shown) := ⟨by kernel_rfl, by kernel_rfl, by kernel_rfl, by decide +kernel, by kernel_rfl, by decide +kernel, by decide +kernel⟩
theorem m_shown {CX : CXT} {Γ : RCx} {X : Cx} (G : GoodS CX (scx N_shown (defScope s_shown) f_shown g_shown l_shown mn_shown kn_shown en_shown hn_shown 0) Γ X) : PSs X (defBody s_shown) (rdSs Γ b_shown) := by
  have g := G.toGood
  exact (s_cons (s_drop (by kernel_rfl) (d_call g (by kernel_rfl) (by kernel_rfl) (d_cons (by kernel_rfl) (d_v g (by kernel_rfl)) d_nil))) (s_cons (s_ret (d_mth g (by kernel_rfl) (by kernel_rfl) d_cs (d_cons (by kernel_rfl) (d_call g (by kernel_rfl) (by kernel_rfl) (d_cons (by kernel_rfl) (d_v g (by kernel_rfl)) d_nil)) d_nil))) s_nil))
/-! ### texts_of -/
def N_texts_of : List Str := ["row", "texts", "signs", "inside", "escaped", "sign"]
def P_texts_of : List Str := ["row"]
def b_texts_of : List RS :=
  [.asg 1 (.lst []),
  .asg 2 (.lst []),
  .asg 3 (.c (.bl false)),
  .asg 4 (.c (.bl false)),
  .for1 5 .txt [(.v 0)] [.ite (.v 4) [.drop (.mth .append (.v 2) [(.ife (.cmp .Eq (.v 5) (.c (.str "n"))) (.c (.str "\n")) (.v 5))]),
      .asg 4 (.c (.bl false))] [.ite (.cmp .Eq (.v 5) (.c (.str "\\"))) [.asg 4 (.c (.bl true))] [.ite (.cmp .NotEq (.v 5) (.c (.str "\""))) [.drop (.mth .append (.v 2) [(.v 5)])] [.ite (.v 3) [.drop (.mth .append (.v 1) [(.mth .join (.c (.str "")) [(.v 2)])])] [],
          .asg 2 (.lst []),
          .asg 3 (.not (.v 3))]]]],
  .ret (.v 1)]
def f_texts_of : List Str := []
def g_texts_of : List Str := []
def l_texts_of : List Str := []
def mn_texts_of : List Str := []
def kn_texts_of : List Str := []
def en_texts_of : List Str := []
def hn_texts_of : List Str := []
def s_texts_of : Stmt := stAt 38
theorem sc_texts_of : FnScope N_texts_of P_texts_of (defScope s_texts_of) := ⟨by kernel_rfl, by kernel_rfl, by kernel_rfl, by decide +kernel, by kernel_rfl, by decide +kernel, by decide +kernel⟩
theorem m_texts_of {CX : CXT} {Γ : RCx} {X : Cx} (G : GoodS CX (scx N_texts_of (defScope s_texts_of) f_texts_of g_texts_of l_texts_of mn_texts_of kn_texts_of en_texts_of hn_texts_of 0) Γ X) : PSs X (defBody s_texts_of) (rdSs Γ b_texts_of) := by
  have g := G.toGood
  exact (s_cons (s_asg G (by kernel_rfl) (by kernel_rfl) (d_lst d_nil)) (s_cons (s_asg G (by kernel_rfl) (by kernel_rfl) (d_lst d_nil)) (s_cons (s_asg G (by kernel_rfl) (by kernel_rfl) d_cb) (s_cons (s_asg G (by kernel_rfl) (by kernel_rfl) d_cb) (s_cons (s_for1 G (by kernel_rfl) (by kernel_rfl) (i_txt (d_v g (by kernel_rfl))) (s_cons (s_ite (t_v g (d_v g (by kernel_rfl))) (s_cons (s_drop (by kernel_rfl) (d_mth g (by kernel_rfl) (by kernel_rfl) (d_v g (by kernel_rfl)) (d_cons (by kernel_rfl) (d_ife (t_cmp g (by kernel_rfl) (d_v g (by kernel_rfl)) d_cs) d_cs (d_v g (by kernel_rfl))) d_nil))) (s_cons (s_asg G (by kernel_rfl) (by kernel_rfl) d_cb) s_nil)) (s_cons (s_ite (t_cmp g (by kernel_rfl) (d_v g (by kernel_rfl)) d_cs) (s_cons (s_asg G (by kernel_rfl) (by kernel_rfl) d_cb) s_nil) (s_cons (s_ite (t_cmp g (by kernel_rfl) (d_v g (by kernel_rfl)) d_cs) (s_cons (s_drop (by kernel_rfl) (d_mth g (by kernel_rfl) (by kernel_rfl) (d_v g (by kernel_rfl)) (d_cons (by kernel_rfl) (d_v g (by kernel_rfl)) d_nil))) s_nil) (s_cons (s_ite (t_v g (d_v g (by kernel_rfl))) (s_cons (s_drop (by kernel_rfl) (d_mth g (by kernel_rfl) (by kernel_rfl) (d_v g (by kernel_rfl)) (d_cons (by kernel_rfl) (d_mth g (by kernel_rfl) (by kernel_rfl) d_cs (d_cons (by kernel_rfl) (d_v g (by kernel_rfl)) d_nil)) d_nil))) s_nil) s_nil) (s_cons (s_asg G (by kernel_rfl) (by kernel_rfl) (d_lst d_nil)) (s_cons (s_asg G (by kernel_rfl) (by kernel_rfl) (d_not g (d_v g (by kernel_rfl)))) s_nil)))) s_nil)) s_nil)) s_nil)) (s_cons (s_ret (d_v g (by kernel_rfl))) s_nil))))))
/-! ### number_of -/
def N_number_of : List Str := ["word"]
def P_number_of : List Str := ["word"]
def b_number_of : List RS :=
  [.ite (.or [(.cmp .Eq (.blt .len [(.v 0)]) (.c (.int 0))), (.cmp .Gt (.blt .len [(.v 0)]) (.g 0)), (.cmp .NotEq (.xm xStrip (.v 0) [(.g 1)]) (.c (.str "")))]) [.ret (.c .non)] [],
  .ret (.xt xIntT [(.v 0)])]
def f_number_of : List Str := []
def g_number_of : List Str := ["MOST_FIGURES", "FIGURES"]
def l_number_of : List Str := ["len", "int"]
def mn_number_of : List Str := []
def kn_number_of : List Str := []
def en_number_of : List Str := []
def hn_number_of : List Str := []
def s_number_of : Stmt := stAt 39
theorem sc_number_of : FnScope N_number_of P_number_of (defScope s_number_of) := ⟨by kernel_rfl, by kernel_rfl, by kernel_rfl, by decide +kernel, by kernel_rfl, by decide +kernel, by decide +kernel⟩
theorem m_number_of {CX : CXT} {Γ : RCx} {X : Cx} (G : GoodS CX (scx N_number_of (defScope s_number_of) f_number_of g_number_of l_number_of mn_number_of kn_number_of en_number_of hn_number_of 0) Γ X) : PSs X (defBody s_number_of) (rdSs Γ b_number_of) := by
  have g := G.toGood
  exact (s_cons (s_ite (PW.pt (t_or (t_cmp g (by kernel_rfl) (d_blt g (by kernel_rfl) (by kernel_rfl) (d_cons (by kernel_rfl) (d_v g (by kernel_rfl)) d_nil)) d_ci) (t_or (t_cmp g (by kernel_rfl) (d_blt g (by kernel_rfl) (by kernel_rfl) (d_cons (by kernel_rfl) (d_v g (by kernel_rfl)) d_nil)) (d_g g (by kernel_rfl))) (t_or1 (t_cmp g (by kernel_rfl) (d_yStrip g (by kernel_rfl) (by kernel_rfl) (d_v g (by kernel_rfl)) (d_cons (by kernel_rfl) (d_g g (by kernel_rfl)) d_nil)) d_cs))))) (s_cons (s_ret d_cn) s_nil) s_nil) (s_cons (s_ret (d_xIntT g (by kernel_rfl) (by kernel_rfl) (d_cons (by kernel_rfl) (d_v g (by kernel_rfl)) d_nil))) s_nil))
/-! ### guess -/
def N_guess : List Str := ["line", "parts", "word", "rest"]
def P_guess : List Str := ["line"]
def b_guess : List RS :=
  [.asg 1 (.xm xPart (.v 0) [(.c (.str " "))]),
  .asg 2 (.ix (.v 1) (.c (.int 0))),
  .asg 3 (.ix (.v 1) (.c (.int 2))),
  .ite (.cmp .Eq (.v 2) (.c (.str "enter"))) [.ret (.bin .Add (.tup [(.v 2)]) (.blt .tuple [(.call 0 [(.v 3)])]))] [],
  .ite (.cmp .Eq (.v 2) (.c (.str "paste"))) [.ret (.tup [(.v 2), (.blt .tuple [(.call 0 [(.v 3)])])])] [],
  .ite (.cmp .In (.v 2) (.tup [(.c (.str "step")), (.c (.str "hold"))])) [.ret (.tup [(.c (.str "step")), (.v 3), (.cmp .Eq (.v 2) (.c (.str "hold")))])] [],
  .ite (.cmp .In (.v 2) (.tup [(.c (.str "spread")), (.c (.str "go"))])) [.ret (.tup [(.v 2), (.call 1 [(.v 3)])])] [],
  .ite (.cmp .Eq (.v 2) (.c (.str "span"))) [.ret (.tup [(.v 2), (.cmp .Eq (.v 3) (.c (.str "grows")))])] [],
  .ite (.cmp .In (.v 2) (.tup [(.c (.str "only")), (.c (.str "undo")), (.c (.str "redo"))])) [.ret (.tup [(.v 2)])] [],
  .ret (.tup [(.v 2), (.v 3)])]
def f_guess : List Str := ["texts_of", "number_of"]
def g_guess : List Str := []
def l_guess : List Str := ["tuple"]
def mn_guess : List Str := []
def kn_guess : List Str := []
def en_guess : List Str := []
def hn_guess : List Str := []
def s_guess : Stmt := stAt 40
theorem sc_guess : FnScope N_guess P_guess (defScope s_guess) := ⟨by kernel_rfl, by kernel_rfl, by kernel_rfl, by decide +kernel, by kernel_rfl, by decide +kernel, by decide +kernel⟩
theorem m_guess {CX : CXT} {Γ : RCx} {X : Cx} (G : GoodS CX (scx N_guess (defScope s_guess) f_guess g_guess l_guess mn_guess kn_guess en_guess hn_guess 0) Γ X) : PSs X (defBody s_guess) (rdSs Γ b_guess) := by
  have g := G.toGood
  exact (s_cons (s_asg G (by kernel_rfl) (by kernel_rfl) (d_yPart g (by kernel_rfl) (by kernel_rfl) (d_v g (by kernel_rfl)) (d_cons (by kernel_rfl) d_cs d_nil))) (s_cons (s_asg G (by kernel_rfl) (by kernel_rfl) (d_ix g (by kernel_rfl) (d_v g (by kernel_rfl)) d_ci)) (s_cons (s_asg G (by kernel_rfl) (by kernel_rfl) (d_ix g (by kernel_rfl) (d_v g (by kernel_rfl)) d_ci)) (s_cons (s_ite (t_cmp g (by kernel_rfl) (d_v g (by kernel_rfl)) d_cs) (s_cons (s_ret (d_bin g (d_tup (d_cons (by kernel_rfl) (d_v g (by kernel_rfl)) d_nil)) (d_blt g (by kernel_rfl) (by kernel_rfl) (d_cons (by kernel_rfl) (d_call g (by kernel_rfl) (by kernel_rfl) (d_cons (by kernel_rfl) (d_v g (by kernel_rfl)) d_nil)) d_nil)))) s_nil) s_nil) (s_cons (s_ite (t_cmp g (by kernel_rfl) (d_v g (by kernel_rfl)) d_cs) (s_cons (s_ret (d_tup (d_cons (by kernel_rfl) (d_v g (by kernel_rfl)) (d_cons (by kernel_rfl) (d_blt g (by kernel_rfl) (by kernel_rfl) (d_cons (by kernel_rfl) (d_call g (by kernel_rfl) (by kernel_rfl) (d_cons (by kernel_rfl) (d_v g (by kernel_rfl)) d_nil)) d_nil)) d_nil)))) s_nil) s_nil) (s_cons (s_ite (t_cmp g (by kernel_rfl) (d_v g (by kernel_rfl)) (d_tup (d_cons (by kernel_rfl) d_cs (d_cons (by kernel_rfl) d_cs d_nil)))) (s_cons (s_ret (d_tup (d_cons (by kernel_rfl) d_cs (d_cons (by kernel_rfl) (d_v g (by kernel_rfl)) (d_cons (by kernel_rfl) (d_cmp g (by kernel_rfl) (d_v g (by kernel_rfl)) d_cs) d_nil))))) s_nil) s_nil) (s_cons (s_ite (t_cmp g (by kernel_rfl) (d_v g (by kernel_rfl)) (d_tup (d_cons (by kernel_rfl) d_cs (d_cons (by kernel_rfl) d_cs d_nil)))) (s_cons (s_ret (d_tup (d_cons (by kernel_rfl) (d_v g (by kernel_rfl)) (d_cons (by kernel_rfl) (d_call g (by kernel_rfl) (by kernel_rfl) (d_cons (by kernel_rfl) (d_v g (by kernel_rfl)) d_nil)) d_nil)))) s_nil) s_nil) (s_cons (s_ite (t_cmp g (by kernel_rfl) (d_v g (by kernel_rfl)) d_cs) (s_cons (s_ret (d_tup (d_cons (by kernel_rfl) (d_v g (by kernel_rfl)) (d_cons (by kernel_rfl) (d_cmp g (by kernel_rfl) (d_v g (by kernel_rfl)) d_cs) d_nil)))) s_nil) s_nil) (s_cons (s_ite (t_cmp g (by kernel_rfl) (d_v g (by kernel_rfl)) (d_tup (d_cons (by kernel_rfl) d_cs (d_cons (by kernel_rfl) d_cs (d_cons (by kernel_rfl) d_cs d_nil))))) (s_cons (s_ret (d_tup (d_cons (by kernel_rfl) (d_v g (by kernel_rfl)) d_nil))) s_nil) s_nil) (s_cons (s_ret (d_tup (d_cons (by kernel_rfl) (d_v g (by kernel_rfl)) (d_cons (by kernel_rfl) (d_v g (by kernel_rfl)) d_nil)))) s_nil))))))))))
/-! ### read -/
def N_read : List Str := ["line", "deed"]
def P_read : List Str := ["line"]
def b_read : List RS :=
  [.ite (.not (.isi .str (.v 0))) [.rais 0 [(.c (.str "a line is a text"))]] [],
  .asg 1 (.call 0 [(.v 0)]),
  .ite (.or [(.not (.call 1 [(.v 1)])), (.cmp .NotEq (.call 2 [(.v 1)]) (.v 0))]) [.rais 0 [(.c (.str "this is no deed as it is written"))]] [],
  .ret (.v 1)]
def f_read : List Str := ["guess", "is_deed", "shown"]
def g_read : List Str := []
def l_read : List Str := ["isinstance", "str"]
def mn_read : List Str := []
def kn_read : List Str := []
def en_read : List Str := ["NoNote"]
def hn_read : List Str := []
def s_read : Stmt := stAt 41
theorem sc_read : FnScope N_read P_read (defScope s_read) := ⟨by kernel_rfl, by kernel_rfl, by kernel_rfl, by decide +kernel, by kernel_rfl, by decide +kernel, by decide +kernel⟩
theorem m_read {CX : CXT} {Γ : RCx} {X : Cx} (G : GoodS CX (scx N_read (defScope s_read) f_read g_read l_read mn_read kn_read en_read hn_read 0) Γ X) : PSs X (defBody s_read) (rdSs Γ b_read) := by
  have g := G.toGood
  exact (s_cons (s_ite (t_not (t_isi g (d_isi g (by kernel_rfl) (by kernel_rfl) (by kernel_rfl) (d_v g (by kernel_rfl))))) (s_cons (s_raise G (by kernel_rfl) (by kernel_rfl) (d_cons (by kernel_rfl) d_cs d_nil)) s_nil) s_nil) (s_cons (s_asg G (by kernel_rfl) (by kernel_rfl) (d_call g (by kernel_rfl) (by kernel_rfl) (d_cons (by kernel_rfl) (d_v g (by kernel_rfl)) d_nil))) (s_cons (s_ite (PW.pt (t_or (t_not (t_call g (d_call g (by kernel_rfl) (by kernel_rfl) (d_cons (by kernel_rfl) (d_v g (by kernel_rfl)) d_nil)))) (t_or1 (t_cmp g (by kernel_rfl) (d_call g (by kernel_rfl) (by kernel_rfl) (d_cons (by kernel_rfl) (d_v g (by kernel_rfl)) d_nil)) (d_v g (by kernel_rfl)))))) (s_cons (s_raise G (by kernel_rfl) (by kernel_rfl) (d_cons (by kernel_rfl) d_cs d_nil)) s_nil) s_nil) (s_cons (s_ret (d_v g (by kernel_rfl))) s_nil))))
/-! ### cell_atL -/
def s_cell_atL : Stmt := stAt 43
theorem sc_cell_atL : FnScope N_cell_atL P_cell_atL (defScope s_cell_atL) := ⟨by kernel_rfl, by kernel_rfl, by kernel_rfl, by decide +kernel, by kernel_rfl, by decide +kernel, by decide +kernel⟩
theorem m_cell_atL {CX : CXT} {Γ : RCx} {X : Cx} (G : GoodS CX (scx N_cell_atL (defScope s_cell_atL) f_cell_atL g_cell_atL l_cell_atL mn_cell_atL kn_cell_atL en_cell_atL hn_cell_atL 0) Γ X) : PSs X (defBody s_cell_atL) (rdSs Γ b_cell_atL) := by
  have g := G.toGood
  exact (s_cons (s_ite (t_cmp g (by kernel_rfl) (d_v g (by kernel_rfl)) (d_blt g (by kernel_rfl) (by kernel_rfl) (d_cons (by kernel_rfl) (d_v g (by kernel_rfl)) d_nil))) (s_cons (s_ret (d_ix g (by kernel_rfl) (d_v g (by kernel_rfl)) (d_v g (by kernel_rfl)))) s_nil) s_nil) (s_cons (s_ret d_ci) s_nil))
/-! ### wholeL -/
def N_wholeL : List Str := ["_law_found"]
def P_wholeL : List Str := ["_law_found"]
def s_wholeL : Stmt := stAt 44
theorem sc_wholeL : FnScope N_wholeL P_wholeL (defScope s_wholeL) := ⟨by kernel_rfl, by kernel_rfl, by kernel_rfl, by decide +kernel, by kernel_rfl, by decide +kernel, by decide +kernel⟩
theorem m_wholeL {CX : CXT} {Γ : RCx} {X : Cx} (G : GoodS CX (scx N_wholeL (defScope s_wholeL) f_wholeL g_wholeL l_wholeL mn_wholeL kn_wholeL en_wholeL hn_wholeL 0) Γ X) : PSs X (defBody s_wholeL) (rdSs Γ b_wholeL) := by
  have g := G.toGood
  exact (s_cons (s_ret (d_and (d_isi g (by kernel_rfl) (by kernel_rfl) (by kernel_rfl) (d_v g (by kernel_rfl))) (d_and1 (d_not g (d_isi g (by kernel_rfl) (by kernel_rfl) (by kernel_rfl) (d_v g (by kernel_rfl))))))) s_nil)
/-! ### mixedL -/
def s_mixedL : Stmt := stAt 45
theorem sc_mixedL : FnScope N_mixedL P_mixedL (defScope s_mixedL) := ⟨by kernel_rfl, by kernel_rfl, by kernel_rfl, by decide +kernel, by kernel_rfl, by decide +kernel, by decide +kernel⟩
theorem m_mixedL {CX : CXT} {Γ : RCx} {X : Cx} (G : GoodS CX (scx N_mixedL (defScope s_mixedL) f_mixedL g_mixedL l_mixedL mn_mixedL kn_mixedL en_mixedL hn_mixedL 0) Γ X) : PSs X (defBody s_mixedL) (rdSs Γ b_mixedL) := by
  have g := G.toGood
  exact (s_cons (s_asg G (by kernel_rfl) (by kernel_rfl) (d_bin g (d_bin g (d_bin g (d_bin g (d_v g (by kernel_rfl)) d_ci) (d_bin g d_ci (d_v g (by kernel_rfl)))) d_ci) d_ci)) (s_cons (s_ret (d_bin g (d_bin g (d_bin g (d_bin g (d_v g (by kernel_rfl)) (d_v g (by kernel_rfl))) d_ci) (d_v g (by kernel_rfl))) d_ci)) s_nil))
/-! ### textL -/
def s_textL : Stmt := stAt 46
theorem sc_textL : FnScope N_textL P_textL (defScope s_textL) := ⟨by kernel_rfl, by kernel_rfl, by kernel_rfl, by decide +kernel, by kernel_rfl, by decide +kernel, by decide +kernel⟩
theorem m_textL {CX : CXT} {Γ : RCx} {X : Cx} (G : GoodS CX (scx N_textL (defScope s_textL) f_textL g_textL l_textL mn_textL kn_textL en_textL hn_textL 0) Γ X) : PSs X (defBody s_textL) (rdSs Γ b_textL) := by
  have g := G.toGood
  exact (s_cons (s_asg G (by kernel_rfl) (by kernel_rfl) d_cs) (s_cons (s_asg G (by kernel_rfl) (by kernel_rfl) (d_bin g (d_v g (by kernel_rfl)) d_cs)) (s_cons (s_ite (t_cmp g (by kernel_rfl) (d_bin g (d_v g (by kernel_rfl)) d_ci) d_ci) (s_cons (s_asg G (by kernel_rfl) (by kernel_rfl) d_cs) s_nil) s_nil) (s_cons (s_ret (d_mth g (by kernel_rfl) (by kernel_rfl) d_cs (d_cons (by kernel_rfl) (d_comp (ln := ["_law_k"]) g (by kernel_rfl) (i_rng g (by kernel_rfl) (by kernel_rfl) (d_v g (by kernel_rfl))) d_if0 (fun _ g => (d_ix g (by kernel_rfl) (d_v g (by kernel_rfl)) (d_bin g (d_bin g (d_call g (by kernel_rfl) (by kernel_rfl) (d_cons (by kernel_rfl) (d_v g (by kernel_rfl)) (d_cons (by kernel_rfl) (d_v g (by kernel_rfl)) d_nil))) d_ci) (d_blt g (by kernel_rfl) (by kernel_rfl) (d_cons (by kernel_rfl) (d_v g (by kernel_rfl)) d_nil)))))) d_nil))) s_nil))))
/-! ### sizeL -/
def s_sizeL : Stmt := stAt 47
theorem sc_sizeL : FnScope N_sizeL P_sizeL (defScope s_sizeL) := ⟨by kernel_rfl, by kernel_rfl, by kernel_rfl, by decide +kernel, by kernel_rfl, by decide +kernel, by decide +kernel⟩
theorem m_sizeL {CX : CXT} {Γ : RCx} {X : Cx} (G : GoodS CX (scx N_sizeL (defScope s_sizeL) f_sizeL g_sizeL l_sizeL mn_sizeL kn_sizeL en_sizeL hn_sizeL 0) Γ X) : PSs X (defBody s_sizeL) (rdSs Γ b_sizeL) := by
  have g := G.toGood
  exact (s_cons (s_ite (t_cmp g (by kernel_rfl) (d_bin g (d_v g (by kernel_rfl)) d_ci) d_ci) (s_cons (s_ret (d_bin g (d_bin g (d_v g (by kernel_rfl)) d_ci) d_ci)) s_nil) s_nil) (s_cons (s_ret (d_bin g (d_bin g (d_v g (by kernel_rfl)) d_ci) d_ci)) s_nil))
/-! ### deedL -/
def N_deedL : List Str := ["_law_cell", "_law_kind", "_law_more", "_law_text_here", "_law_words"]
def P_deedL : List Str := ["_law_cell"]
def b_deedL : List RS :=
  [.asg 1 (.bin .Mod (.v 0) (.c (.int 12))),
  .asg 2 (.bin .FloorDiv (.v 0) (.c (.int 12))),
  .asg 3 (.call 0 [(.v 2), (.ix (.lst [(.c (.int 1)), (.c (.int 2)), (.c (.int 0)), (.c (.int 5)), (.c (.int 1)), (.c (.int 9))]) (.bin .Mod (.bin .FloorDiv (.v 2) (.c (.int 3))) (.c (.int 6))))]),
  .ite (.cmp .Lt (.v 1) (.c (.int 3))) [.ret (.tup [(.c (.str "enter")), (.v 3)])] [],
  .ite (.cmp .Eq (.v 1) (.c (.int 3))) [.ret (.tup [(.c (.str "paste")), (.blt .tuple [(.comp none [("_law_more", 2)] .rng [(.bin .Add (.c (.int 1)) (.bin .Mod (.v 2) (.c (.int 3))))] none (.call 0 [(.bin .Add (.v 1) (.v 0)), (.bin .Add (.c (.int 1)) (.v 0))]))])])] [],
  .ite (.cmp .Eq (.v 1) (.c (.int 4))) [.ret (.tup [(.c (.str "erase")), (.ix (.lst [(.c (.str "left")), (.c (.str "right")), (.c (.str "back")), (.c (.str "on")), (.c (.str "home")), (.c (.str "end"))]) (.bin .Mod (.v 2) (.c (.int 6))))])] [],
  .ite (.cmp .Lt (.v 1) (.c (.int 7))) [.asg 4 (.lst [(.c (.str "left")), (.c (.str "right")), (.c (.str "up")), (.c (.str "down")), (.c (.str "home")), (.c (.str "end")), (.c (.str "top")), (.c (.str "bottom")), (.c (.str "back")), (.c (.str "on"))]),
    .ret (.tup [(.c (.str "step")), (.ix (.v 4) (.bin .Mod (.v 2) (.c (.int 10)))), (.cmp .Eq (.bin .Mod (.bin .FloorDiv (.v 2) (.c (.int 10))) (.c (.int 2))) (.c (.int 1)))])] [],
  .ite (.cmp .Eq (.v 1) (.c (.int 7))) [.ret (.tup [(.c (.str "spread")), (.bin .Mod (.v 2) (.ix (.lst [(.c (.int 40)), (.c (.int 1000000000))]) (.blt .int [(.cmp .Eq (.bin .Mod (.v 2) (.c (.int 7))) (.c (.int 6)))])))])] [],
  .ite (.cmp .Eq (.v 1) (.c (.int 8))) [.ret (.ix (.lst [(.tup [(.c (.str "mark")), (.ix (.lst [(.c (.str "left")), (.c (.str "right"))]) (.bin .Mod (.bin .FloorDiv (.v 2) (.c (.int 2))) (.c (.int 2))))]), (.tup [(.c (.str "span")), (.cmp .Eq (.bin .Mod (.bin .FloorDiv (.v 2) (.c (.int 2))) (.c (.int 2))) (.c (.int 1)))])]) (.bin .Mod (.v 2) (.c (.int 2))))] [],
  .ite (.cmp .Eq (.v 1) (.c (.int 9))) [.ret (.tup [(.c (.str "undo"))])] [],
  .ite (.cmp .Eq (.v 1) (.c (.int 10))) [.ret (.ix (.lst [(.tup [(.c (.str "redo"))]), (.tup [(.c (.str "only"))])]) (.bin .Mod (.v 2) (.c (.int 2))))] [],
  .ret (.tup [(.c (.str "go")), (.bin .Mod (.v 2) (.ix (.lst [(.c (.int 9)), (.c (.int 1000000000))]) (.blt .int [(.cmp .Eq (.bin .Mod (.v 2) (.c (.int 7))) (.c (.int 6)))])))])]
def f_deedL : List Str := ["_law_text"]
def g_deedL : List Str := []
def l_deedL : List Str := ["tuple", "range", "int"]
def mn_deedL : List Str := []
def kn_deedL : List Str := []
def en_deedL : List Str := []
def hn_deedL : List Str := []
def s_deedL : Stmt := stAt 48
theorem sc_deedL : FnScope N_deedL P_deedL (defScope s_deedL) := ⟨by kernel_rfl, by kernel_rfl, by kernel_rfl, by decide +kernel, by kernel_rfl, by decide +kernel, by decide +kernel⟩
theorem m_deedL_0 {CX : CXT} {Γ : RCx} {X : Cx} (G : GoodS CX (scx N_deedL (defScope s_deedL) f_deedL g_deedL l_deedL mn_deedL kn_deedL en_deedL hn_deedL 0) Γ X) : PS X ((defBody s_deedL).getD 0 (.Pass ⟨0, 0, 0, 0⟩)) (rdS Γ (b_deedL.getD 0 (.ret (.c .non)))) := by
  have g := G.toGood
  show PS X (.Assign [.Name "_law_kind" _] _ _) (rdS Γ (.asg 1 _))
  with_reducible exact (s_asg G (by kernel_rfl) (by kernel_rfl) (d_bin g (d_v g (by kernel_rfl)) d_ci))
theorem m_deedL_1 {CX : CXT} {Γ : RCx} {X : Cx} (G : GoodS CX (scx N_deedL (defScope s_deedL) f_deedL g_deedL l_deedL mn_deedL kn_deedL en_deedL hn_deedL 0) Γ X) : PS X ((defBody s_deedL).getD 1 (.Pass ⟨0, 0, 0, 0⟩)) (rdS Γ (b_deedL.getD 1 (.ret (.c .non)))) := by
  have g := G.toGood
  show PS X (.Assign [.Name "_law_more" _] _ _) (rdS Γ (.asg 2 _))
  with_reducible exact (s_asg G (by kernel_rfl) (by kernel_rfl) (d_bin g (d_v g (by kernel_rfl)) d_ci))
theorem m_deedL_2 {CX : CXT} {Γ : RCx} {X : Cx} (G : GoodS CX (scx N_deedL (defScope s_deedL) f_deedL g_deedL l_deedL mn_deedL kn_deedL en_deedL hn_deedL 0) Γ X) : PS X ((defBody s_deedL).getD 2 (.Pass ⟨0, 0, 0, 0⟩)) (rdS Γ (b_deedL.getD 2 (.ret (.c .non)))) := by
  have g := G.toGood
  show PS X (.Assign [.Name "_law_text_here" _] _ _) (rdS Γ (.asg 3 _))
  with_reducible exact (s_asg G (by kernel_rfl) (by kernel_rfl) (d_call g (by kernel_rfl) (by kernel_rfl) (d_cons (by kernel_rfl) (d_v g (by kernel_rfl)) (d_cons (by kernel_rfl) (d_ix g (by kernel_rfl) (d_lst (d_cons (by kernel_rfl) d_ci (d_cons (by kernel_rfl) d_ci (d_cons (by kernel_rfl) d_ci (d_cons (by kernel_rfl) d_ci (d_cons (by kernel_rfl) d_ci (d_cons (by kernel_rfl) d_ci d_nil))))))) (d_bin g (d_bin g (d_v g (by kernel_rfl)) d_ci) d_ci)) d_nil))))
theorem m_deedL_3 {CX : CXT} {Γ : RCx} {X : Cx} (G : GoodS CX (scx N_deedL (defScope s_deedL) f_deedL g_deedL l_deedL mn_deedL kn_deedL en_deedL hn_deedL 0) Γ X) : PS X ((defBody s_deedL).getD 3 (.Pass ⟨0, 0, 0, 0⟩)) (rdS Γ (b_deedL.getD 3 (.ret (.c .non)))) := by
  have g := G.toGood
  show PS X (.If _ _ _ _) (rdS Γ (.ite _ _ _))
  refine s_ite ?_ ?_ ?_
  · exact (t_cmp g (by kernel_rfl) (d_v g (by kernel_rfl)) d_ci)
  · refine s_cons ?_ ?_
    · show PS X (.Return (some _) _) (rdS Γ (.ret _))
      with_reducible exact (s_ret (d_tup (d_cons (by kernel_rfl) d_cs (d_cons (by kernel_rfl) (d_v g (by kernel_rfl)) d_nil))))
    exact s_nil
  · exact s_nil
theorem m_deedL_4 {CX : CXT} {Γ : RCx} {X : Cx} (G : GoodS CX (scx N_deedL (defScope s_deedL) f_deedL g_deedL l_deedL mn_deedL kn_deedL en_deedL hn_deedL 0) Γ X) : PS X ((defBody s_deedL).getD 4 (.Pass ⟨0, 0, 0, 0⟩)) (rdS Γ (b_deedL.getD 4 (.ret (.c .non)))) := by
  have g := G.toGood
  exact (s_ite (t_cmp g (by kernel_rfl) (d_v g (by kernel_rfl)) d_ci) (s_cons (s_ret (d_tup (d_cons (by kernel_rfl) d_cs (d_cons (by kernel_rfl) (d_blt g (by kernel_rfl) (by kernel_rfl) (d_cons (by kernel_rfl) (d_comp (ln := ["_law_k"]) g (by kernel_rfl) (i_rng g (by kernel_rfl) (by kernel_rfl) (d_bin g d_ci (d_bin g (d_v g (by kernel_rfl)) d_ci))) d_if0 (fun _ g => (d_call g (by kernel_rfl) (by kernel_rfl) (d_cons (by kernel_rfl) (d_bin g (d_v g (by kernel_rfl)) (d_v g (by kernel_rfl))) (d_cons (by kernel_rfl) (d_bin g d_ci (d_v g (by kernel_rfl))) d_nil))))) d_nil)) d_nil)))) s_nil) s_nil)
theorem m_deedL_5 {CX : CXT} {Γ : RCx} {X : Cx} (G : GoodS CX (scx N_deedL (defScope s_deedL) f_deedL g_deedL l_deedL mn_deedL kn_deedL en_deedL hn_deedL 0) Γ X) : PS X ((defBody s_deedL).getD 5 (.Pass ⟨0, 0, 0, 0⟩)) (rdS Γ (b_deedL.getD 5 (.ret (.c .non)))) := by
  have g := G.toGood
  show PS X (.If _ _ _ _) (rdS Γ (.ite _ _ _))
  refine s_ite ?_ ?_ ?_
  · exact (t_cmp g (by kernel_rfl) (d_v g (by kernel_rfl)) d_ci)
  · refine s_cons ?_ ?_
    · show PS X (.Return (some _) _) (rdS Γ (.ret _))
      with_reducible exact (s_ret (d_tup (d_cons (by kernel_rfl) d_cs (d_cons (by kernel_rfl) (d_ix g (by kernel_rfl) (d_lst (d_cons (by kernel_rfl) d_cs (d_cons (by kernel_rfl) d_cs (d_cons (by kernel_rfl) d_cs (d_cons (by kernel_rfl) d_cs (d_cons (by kernel_rfl) d_cs (d_cons (by kernel_rfl) d_cs d_nil))))))) (d_bin g (d_v g (by kernel_rfl)) d_ci)) d_nil))))
    exact s_nil
  · exact s_nil
theorem m_deedL_6 {CX : CXT} {Γ : RCx} {X : Cx} (G : GoodS CX (scx N_deedL (defScope s_deedL) f_deedL g_deedL l_deedL mn_deedL kn_deedL en_deedL hn_deedL 0) Γ X) : PS X ((defBody s_deedL).getD 6 (.Pass ⟨0, 0, 0, 0⟩)) (rdS Γ (b_deedL.getD 6 (.ret (.c .non)))) := by
  have g := G.toGood
  show PS X (.If _ _ _ _) (rdS Γ (.ite _ _ _))
  refine s_ite ?_ ?_ ?_
  · exact (t_cmp g (by kernel_rfl) (d_v g (by kernel_rfl)) d_ci)
  · refine s_cons ?_ ?_
    · show PS X (.Assign [.Name "_law_words" _] _ _) (rdS Γ (.asg 4 _))
      with_reducible exact (s_asg G (by kernel_rfl) (by kernel_rfl) (d_lst (d_cons (by kernel_rfl) d_cs (d_cons (by kernel_rfl) d_cs (d_cons (by kernel_rfl) d_cs (d_cons (by kernel_rfl) d_cs (d_cons (by kernel_rfl) d_cs (d_cons (by kernel_rfl) d_cs (d_cons (by kernel_rfl) d_cs (d_cons (by kernel_rfl) d_cs (d_cons (by kernel_rfl) d_cs (d_cons (by kernel_rfl) d_cs d_nil))))))))))))
    refine s_cons ?_ ?_
    · show PS X (.Return (some _) _) (rdS Γ (.ret _))
      with_reducible exact (s_ret (d_tup (d_cons (by kernel_rfl) d_cs (d_cons (by kernel_rfl) (d_ix g (by kernel_rfl) (d_v g (by kernel_rfl)) (d_bin g (d_v g (by kernel_rfl)) d_ci)) (d_cons (by kernel_rfl) (d_cmp g (by kernel_rfl) (d_bin g (d_bin g (d_v g (by kernel_rfl)) d_ci) d_ci) d_ci) d_nil)))))
    exact s_nil
  · exact s_nil
theorem m_deedL_7 {CX : CXT} {Γ : RCx} {X : Cx} (G : GoodS CX (scx N_deedL (defScope s_deedL) f_deedL g_deedL l_deedL mn_deedL kn_deedL en_deedL hn_deedL 0) Γ X) : PS X ((defBody s_deedL).getD 7 (.Pass ⟨0, 0, 0, 0⟩)) (rdS Γ (b_deedL.getD 7 (.ret (.c .non)))) := by
  have g := G.toGood
  show PS X (.If _ _ _ _) (rdS Γ (.ite _ _ _))
  refine s_ite ?_ ?_ ?_
  · exact (t_cmp g (by kernel_rfl) (d_v g (by kernel_rfl)) d_ci)
  · refine s_cons ?_ ?_
    · show PS X (.Return (some _) _) (rdS Γ (.ret _))
      with_reducible exact (s_ret (d_tup (d_cons (by kernel_rfl) d_cs (d_cons (by kernel_rfl) (d_bin g (d_v g (by kernel_rfl)) (d_ix g (by kernel_rfl) (d_lst (d_cons (by kernel_rfl) d_ci (d_cons (by kernel_rfl) d_ci d_nil))) (d_blt g (by kernel_rfl) (by kernel_rfl) (d_cons (by kernel_rfl) (d_cmp g (by kernel_rfl) (d_bin g (d_v g (by kernel_rfl)) d_ci) d_ci) d_nil)))) d_nil))))
    exact s_nil
  · exact s_nil
theorem m_deedL_8 {CX : CXT} {Γ : RCx} {X : Cx} (G : GoodS CX (scx N_deedL (defScope s_deedL) f_deedL g_deedL l_deedL mn_deedL kn_deedL en_deedL hn_deedL 0) Γ X) : PS X ((defBody s_deedL).getD 8 (.Pass ⟨0, 0, 0, 0⟩)) (rdS Γ (b_deedL.getD 8 (.ret (.c .non)))) := by
  have g := G.toGood
  show PS X (.If _ _ _ _) (rdS Γ (.ite _ _ _))
  refine s_ite ?_ ?_ ?_
  · exact (t_cmp g (by kernel_rfl) (d_v g (by kernel_rfl)) d_ci)
  · refine s_cons ?_ ?_
    · show PS X (.Return (some _) _) (rdS Γ (.ret _))
      with_reducible exact (s_ret (d_ix g (by kernel_rfl) (d_lst (d_cons (by kernel_rfl) (d_tup (d_cons (by kernel_rfl) d_cs (d_cons (by kernel_rfl) (d_ix g (by kernel_rfl) (d_lst (d_cons (by kernel_rfl) d_cs (d_cons (by kernel_rfl) d_cs d_nil))) (d_bin g (d_bin g (d_v g (by kernel_rfl)) d_ci) d_ci)) d_nil))) (d_cons (by kernel_rfl) (d_tup (d_cons (by kernel_rfl) d_cs (d_cons (by kernel_rfl) (d_cmp g (by kernel_rfl) (d_bin g (d_bin g (d_v g (by kernel_rfl)) d_ci) d_ci) d_ci) d_nil))) d_nil))) (d_bin g (d_v g (by kernel_rfl)) d_ci)))
    exact s_nil
  · exact s_nil
theorem m_deedL_9 {CX : CXT} {Γ : RCx} {X : Cx} (G : GoodS CX (scx N_deedL (defScope s_deedL) f_deedL g_deedL l_deedL mn_deedL kn_deedL en_deedL hn_deedL 0) Γ X) : PS X ((defBody s_deedL).getD 9 (.Pass ⟨0, 0, 0, 0⟩)) (rdS Γ (b_deedL.getD 9 (.ret (.c .non)))) := by
  have g := G.toGood
  show PS X (.If _ _ _ _) (rdS Γ (.ite _ _ _))
  refine s_ite ?_ ?_ ?_
  · exact (t_cmp g (by kernel_rfl) (d_v g (by kernel_rfl)) d_ci)
  · refine s_cons ?_ ?_
    · show PS X (.Return (some _) _) (rdS Γ (.ret _))
      with_reducible exact (s_ret (d_tup (d_cons (by kernel_rfl) d_cs d_nil)))
    exact s_nil
  · exact s_nil
theorem m_deedL_10 {CX : CXT} {Γ : RCx} {X : Cx} (G : GoodS CX (scx N_deedL (defScope s_deedL) f_deedL g_deedL l_deedL mn_deedL kn_deedL en_deedL hn_deedL 0) Γ X) : PS X ((defBody s_deedL).getD 10 (.Pass ⟨0, 0, 0, 0⟩)) (rdS Γ (b_deedL.getD 10 (.ret (.c .non)))) := by
  have g := G.toGood
  show PS X (.If _ _ _ _) (rdS Γ (.ite _ _ _))
  refine s_ite ?_ ?_ ?_
  · exact (t_cmp g (by kernel_rfl) (d_v g (by kernel_rfl)) d_ci)
  · refine s_cons ?_ ?_
    · show PS X (.Return (some _) _) (rdS Γ (.ret _))
      with_reducible exact (s_ret (d_ix g (by kernel_rfl) (d_lst (d_cons (by kernel_rfl) (d_tup (d_cons (by kernel_rfl) d_cs d_nil)) (d_cons (by kernel_rfl) (d_tup (d_cons (by kernel_rfl) d_cs d_nil)) d_nil))) (d_bin g (d_v g (by kernel_rfl)) d_ci)))
    exact s_nil
  · exact s_nil
theorem m_deedL_11 {CX : CXT} {Γ : RCx} {X : Cx} (G : GoodS CX (scx N_deedL (defScope s_deedL) f_deedL g_deedL l_deedL mn_deedL kn_deedL en_deedL hn_deedL 0) Γ X) : PS X ((defBody s_deedL).getD 11 (.Pass ⟨0, 0, 0, 0⟩)) (rdS Γ (b_deedL.getD 11 (.ret (.c .non)))) := by
  have g := G.toGood
  show PS X (.Return (some _) _) (rdS Γ (.ret _))
  with_reducible exact (s_ret (d_tup (d_cons (by kernel_rfl) d_cs (d_cons (by kernel_rfl) (d_bin g (d_v g (by kernel_rfl)) (d_ix g (by kernel_rfl) (d_lst (d_cons (by kernel_rfl) d_ci (d_cons (by kernel_rfl) d_ci d_nil))) (d_blt g (by kernel_rfl) (by kernel_rfl) (d_cons (by kernel_rfl) (d_cmp g (by kernel_rfl) (d_bin g (d_v g (by kernel_rfl)) d_ci) d_ci) d_nil)))) d_nil))))
theorem m_deedL {CX : CXT} {Γ : RCx} {X : Cx} (G : GoodS CX (scx N_deedL (defScope s_deedL) f_deedL g_deedL l_deedL mn_deedL kn_deedL en_deedL hn_deedL 0) Γ X) : PSs X (defBody s_deedL) (rdSs Γ b_deedL) := by
  have e : defBody s_deedL = [((defBody s_deedL).getD 0 (.Pass ⟨0, 0, 0, 0⟩)), ((defBody s_deedL).getD 1 (.Pass ⟨0, 0, 0, 0⟩)), ((defBody s_deedL).getD 2 (.Pass ⟨0, 0, 0, 0⟩)), ((defBody s_deedL).getD 3 (.Pass ⟨0, 0, 0, 0⟩)), ((defBody s_deedL).getD 4 (.Pass ⟨0, 0, 0, 0⟩)), ((defBody s_deedL).getD 5 (.Pass ⟨0, 0, 0, 0⟩)), ((defBody s_deedL).getD 6 (.Pass ⟨0, 0, 0, 0⟩)), ((defBody s_deedL).getD 7 (.Pass ⟨0, 0, 0, 0⟩)), ((defBody s_deedL).getD 8 (.Pass ⟨0, 0, 0, 0⟩)), ((defBody s_deedL).getD 9 (.Pass ⟨0, 0, 0, 0⟩)), ((defBody s_deedL).getD 10 (.Pass ⟨0, 0, 0, 0⟩)), ((defBody s_deedL).getD 11 (.Pass ⟨0, 0, 0, 0⟩))] := by kernel_rfl
  have e2 : b_deedL = [(b_deedL.getD 0 (.ret (.c .non))), (b_deedL.getD 1 (.ret (.c .non))), (b_deedL.getD 2 (.ret (.c .non))), (b_deedL.getD 3 (.ret (.c .non))), (b_deedL.getD 4 (.ret (.c .non))), (b_deedL.getD 5 (.ret (.c .non))), (b_deedL.getD 6 (.ret (.c .non))), (b_deedL.getD 7 (.ret (.c .non))), (b_deedL.getD 8 (.ret (.c .non))), (b_deedL.getD 9 (.ret (.c .non))), (b_deedL.getD 10 (.ret (.c .non))), (b_deedL.getD 11 (.ret (.c .non)))] := by kernel_rfl
  rw [e, e2]
  with_reducible exact s_cons (m_deedL_0 G) (s_cons (m_deedL_1 G) (s_cons (m_deedL_2 G) (s_cons (m_deedL_3 G) (s_cons (m_deedL_4 G) (s_cons (m_deedL_5 G) (s_cons (m_deedL_6 G) (s_cons (m_deedL_7 G) (s_cons (m_deedL_8 G) (s_cons (m_deedL_9 G) (s_cons (m_deedL_10 G) (s_cons (m_deedL_11 G) (s_nil))))))))))))
/-! ### alikeL -/
def N_alikeL : List Str := ["_law_found", "_law_due"]
def P_alikeL : List Str := ["_law_found", "_law_due"]
def b_alikeL : List RS :=
  [.ite (.isi .tuple (.v 1)) [.ite (.or [(.not (.isi .tuple (.v 0))), (.cmp .NotEq (.blt .len [(.v 0)]) (.blt .len [(.v 1)]))]) [.ret (.c (.bl false))] [],
    .ret (.xt xAll [(.comp (some 2) [] .zipT [(.v 0), (.v 1)] none (.call 0 [(.v 0), (.v 1)]))])] [],
  .ite (.isi .bool (.v 1)) [.ret (.and [(.isi .bool (.v 0)), (.cmp .Eq (.v 0) (.v 1))])] [],
  .ite (.isi .str (.v 1)) [.ret (.and [(.isi .str (.v 0)), (.cmp .Eq (.v 0) (.v 1))])] [],
  .ret (.and [(.call 1 [(.v 0)]), (.cmp .Eq (.v 0) (.v 1))])]
def f_alikeL : List Str := ["_law_alike", "_law_whole"]
def g_alikeL : List Str := []
def l_alikeL : List Str := ["isinstance", "tuple", "len", "all", "zip", "bool", "str"]
def mn_alikeL : List Str := []
def kn_alikeL : List Str := []
def en_alikeL : List Str := []
def hn_alikeL : List Str := []
def s_alikeL : Stmt := stAt 49
theorem sc_alikeL : FnScope N_alikeL P_alikeL (defScope s_alikeL) := ⟨by kernel_rfl, by kernel_rfl, by kernel_rfl, by decide +kernel, by kernel_rfl, by decide +kernel, by decide +kernel⟩
theorem m_alikeL {CX : CXT} {Γ : RCx} {X : Cx} (G : GoodS CX (scx N_alikeL (defScope s_alikeL) f_alikeL g_alikeL l_alikeL mn_alikeL kn_alikeL en_alikeL hn_alikeL 0) Γ X) : PSs X (defBody s_alikeL) (rdSs Γ b_alikeL) := by
  have g := G.toGood
  exact (s_cons (s_ite (t_isi g (d_isi g (by kernel_rfl) (by kernel_rfl) (by kernel_rfl) (d_v g (by kernel_rfl)))) (s_cons (s_ite (PW.pt (t_or (t_not (t_isi g (d_isi g (by kernel_rfl) (by kernel_rfl) (by kernel_rfl) (d_v g (by kernel_rfl))))) (t_or1 (t_cmp g (by kernel_rfl) (d_blt g (by kernel_rfl) (by kernel_rfl) (d_cons (by kernel_rfl) (d_v g (by kernel_rfl)) d_nil)) (d_blt g (by kernel_rfl) (by kernel_rfl) (d_cons (by kernel_rfl) (d_v g (by kernel_rfl)) d_nil)))))) (s_cons (s_ret d_cb) s_nil) s_nil) (s_cons (s_ret (d_xAll g (by kernel_rfl) (by kernel_rfl) (d_cons (by kernel_rfl) (d_comp (ln := ["_law_one", "_law_other"]) g (by kernel_rfl) (i_zipT g (by kernel_rfl) (by kernel_rfl) (d_v g (by kernel_rfl)) (d_v g (by kernel_rfl))) d_if0 (fun _ g => (d_call g (by kernel_rfl) (by kernel_rfl) (d_cons (by kernel_rfl) (d_v g (by kernel_rfl)) (d_cons (by kernel_rfl) (d_v g (by kernel_rfl)) d_nil))))) d_nil))) s_nil)) s_nil) (s_cons (s_ite (t_isi g (d_isi g (by kernel_rfl) (by kernel_rfl) (by kernel_rfl) (d_v g (by kernel_rfl)))) (s_cons (s_ret (d_and (d_isi g (by kernel_rfl) (by kernel_rfl) (by kernel_rfl) (d_v g (by kernel_rfl))) (d_and1 (d_cmp g (by kernel_rfl) (d_v g (by kernel_rfl)) (d_v g (by kernel_rfl)))))) s_nil) s_nil) (s_cons (s_ite (t_isi g (d_isi g (by kernel_rfl) (by kernel_rfl) (by kernel_rfl) (d_v g (by kernel_rfl)))) (s_cons (s_ret (d_and (d_isi g (by kernel_rfl) (by kernel_rfl) (by kernel_rfl) (d_v g (by kernel_rfl))) (d_and1 (d_cmp g (by kernel_rfl) (d_v g (by kernel_rfl)) (d_v g (by kernel_rfl)))))) s_nil) s_nil) (s_cons (s_ret (d_and (d_call g (by kernel_rfl) (by kernel_rfl) (d_cons (by kernel_rfl) (d_v g (by kernel_rfl)) d_nil)) (d_and1 (d_cmp g (by kernel_rfl) (d_v g (by kernel_rfl)) (d_v g (by kernel_rfl)))))) s_nil))))
/-! ### wordL -/
def N_wordL : List Str := ["_law_e", "_law_some", "_law_found"]
def s_wordL : Stmt := stAt 50
theorem sc_wordL : FnScope N_wordL P_wordL (defScope s_wordL) := ⟨by kernel_rfl, by kernel_rfl, by kernel_rfl, by decide +kernel, by kernel_rfl, by decide +kernel, by decide +kernel⟩
theorem m_wordL_0 {CX : CXT} {Γ : RCx} {X : Cx} (G : GoodS CX (scx N_wordL (defScope s_wordL) f_wordL g_wordL l_wordL mn_wordL kn_wordL en_wordL hn_wordL 1) Γ X) : PS X ((defBody s_wordL).getD 0 (.Pass ⟨0, 0, 0, 0⟩)) (rdS Γ (b_wordL.getD 0 (.ret (.c .non)))) := by
  have g := G.toGood
  show PS X (.Assign [.Name "_law_some" _] _ _) (rdS Γ (.asg 1 _))
  with_reducible exact (s_asg G (by kernel_rfl) (by kernel_rfl) (d_lst (d_cons (by kernel_rfl) (d_tup (d_cons (by kernel_rfl) d_cs (d_cons (by kernel_rfl) (d_isx g (by kernel_rfl) (by kernel_rfl) (d_v g (by kernel_rfl)) (d_g g (by kernel_rfl))) d_nil))) (d_cons (by kernel_rfl) (d_tup (d_cons (by kernel_rfl) d_cs (d_cons (by kernel_rfl) (d_isx g (by kernel_rfl) (by kernel_rfl) (d_v g (by kernel_rfl)) (d_g g (by kernel_rfl))) d_nil))) (d_cons (by kernel_rfl) (d_tup (d_cons (by kernel_rfl) d_cs (d_cons (by kernel_rfl) (d_isx g (by kernel_rfl) (by kernel_rfl) (d_v g (by kernel_rfl)) (d_g g (by kernel_rfl))) d_nil))) d_nil)))))
theorem m_wordL_1 {CX : CXT} {Γ : RCx} {X : Cx} (G : GoodS CX (scx N_wordL (defScope s_wordL) f_wordL g_wordL l_wordL mn_wordL kn_wordL en_wordL hn_wordL 1) Γ X) : PS X ((defBody s_wordL).getD 1 (.Pass ⟨0, 0, 0, 0⟩)) (rdS Γ (b_wordL.getD 1 (.ret (.c .non)))) := by
  have g := G.toGood
  show PS X (.Assign [.Name "_law_some" _] _ _) (rdS Γ (.asg 1 _))
  with_reducible exact (s_asg G (by kernel_rfl) (by kernel_rfl) (d_bin g (d_v g (by kernel_rfl)) (d_lst (d_cons (by kernel_rfl) (d_tup (d_cons (by kernel_rfl) d_cs (d_cons (by kernel_rfl) (d_isx g (by kernel_rfl) (by kernel_rfl) (d_v g (by kernel_rfl)) (d_g g (by kernel_rfl))) d_nil))) (d_cons (by kernel_rfl) (d_tup (d_cons (by kernel_rfl) d_cs (d_cons (by kernel_rfl) (d_isx g (by kernel_rfl) (by kernel_rfl) (d_v g (by kernel_rfl)) (d_g g (by kernel_rfl))) d_nil))) (d_cons (by kernel_rfl) (d_tup (d_cons (by kernel_rfl) d_cs (d_cons (by kernel_rfl) (d_isx g (by kernel_rfl) (by kernel_rfl) (d_v g (by kernel_rfl)) (d_g g (by kernel_rfl))) d_nil))) d_nil))))))
theorem m_wordL_2 {CX : CXT} {Γ : RCx} {X : Cx} (G : GoodS CX (scx N_wordL (defScope s_wordL) f_wordL g_wordL l_wordL mn_wordL kn_wordL en_wordL hn_wordL 1) Γ X) : PS X ((defBody s_wordL).getD 2 (.Pass ⟨0, 0, 0, 0⟩)) (rdS Γ (b_wordL.getD 2 (.ret (.c .non)))) := by
  have g := G.toGood
  show PS X (.Assign [.Name "_law_some" _] _ _) (rdS Γ (.asg 1 _))
  with_reducible exact (s_asg G (by kernel_rfl) (by kernel_rfl) (d_bin g (d_v g (by kernel_rfl)) (d_lst (d_cons (by kernel_rfl) (d_tup (d_cons (by kernel_rfl) d_cs (d_cons (by kernel_rfl) (d_isx g (by kernel_rfl) (by kernel_rfl) (d_v g (by kernel_rfl)) (d_g g (by kernel_rfl))) d_nil))) (d_cons (by kernel_rfl) (d_tup (d_cons (by kernel_rfl) d_cs (d_cons (by kernel_rfl) (d_isx g (by kernel_rfl) (by kernel_rfl) (d_v g (by kernel_rfl)) (d_g g (by kernel_rfl))) d_nil))) d_nil)))))
theorem m_wordL_3 {CX : CXT} {Γ : RCx} {X : Cx} (G : GoodS CX (scx N_wordL (defScope s_wordL) f_wordL g_wordL l_wordL mn_wordL kn_wordL en_wordL hn_wordL 1) Γ X) : PS X ((defBody s_wordL).getD 3 (.Pass ⟨0, 0, 0, 0⟩)) (rdS Γ (b_wordL.getD 3 (.ret (.c .non)))) := by
  have g := G.toGood
  show PS X (.Assign [.Name "_law_some" _] _ _) (rdS Γ (.asg 1 _))
  with_reducible exact (s_asg G (by kernel_rfl) (by kernel_rfl) (d_bin g (d_v g (by kernel_rfl)) (d_lst (d_cons (by kernel_rfl) (d_tup (d_cons (by kernel_rfl) d_cs (d_cons (by kernel_rfl) (d_isx g (by kernel_rfl) (by kernel_rfl) (d_v g (by kernel_rfl)) (d_g g (by kernel_rfl))) d_nil))) (d_cons (by kernel_rfl) (d_tup (d_cons (by kernel_rfl) d_cs (d_cons (by kernel_rfl) (d_isx g (by kernel_rfl) (by kernel_rfl) (d_v g (by kernel_rfl)) (d_g g (by kernel_rfl))) d_nil))) d_nil)))))
theorem m_wordL_4 {CX : CXT} {Γ : RCx} {X : Cx} (G : GoodS CX (scx N_wordL (defScope s_wordL) f_wordL g_wordL l_wordL mn_wordL kn_wordL en_wordL hn_wordL 1) Γ X) : PS X ((defBody s_wordL).getD 4 (.Pass ⟨0, 0, 0, 0⟩)) (rdS Γ (b_wordL.getD 4 (.ret (.c .non)))) := by
  have g := G.toGood
  show PS X (.Assign [.Name "_law_some" _] _ _) (rdS Γ (.asg 1 _))
  with_reducible exact (s_asg G (by kernel_rfl) (by kernel_rfl) (d_bin g (d_v g (by kernel_rfl)) (d_lst (d_cons (by kernel_rfl) (d_tup (d_cons (by kernel_rfl) d_cs (d_cons (by kernel_rfl) (d_isx g (by kernel_rfl) (by kernel_rfl) (d_v g (by kernel_rfl)) (d_g g (by kernel_rfl))) d_nil))) (d_cons (by kernel_rfl) (d_tup (d_cons (by kernel_rfl) d_cs (d_cons (by kernel_rfl) (d_isx g (by kernel_rfl) (by kernel_rfl) (d_v g (by kernel_rfl)) (d_g g (by kernel_rfl))) d_nil))) (d_cons (by kernel_rfl) (d_tup (d_cons (by kernel_rfl) d_cs (d_cons (by kernel_rfl) (d_isx g (by kernel_rfl) (by kernel_rfl) (d_v g (by kernel_rfl)) (d_g g (by kernel_rfl))) d_nil))) d_nil))))))
theorem m_wordL_5 {CX : CXT} {Γ : RCx} {X : Cx} (G : GoodS CX (scx N_wordL (defScope s_wordL) f_wordL g_wordL l_wordL mn_wordL kn_wordL en_wordL hn_wordL 1) Γ X) : PS X ((defBody s_wordL).getD 5 (.Pass ⟨0, 0, 0, 0⟩)) (rdS Γ (b_wordL.getD 5 (.ret (.c .non)))) := by
  have g := G.toGood
  exact (s_asgCH G (by kernel_rfl) (by kernel_rfl) (by kernel_rfl) (d_v g (by kernel_rfl)) (d_if1 fun _ g => (t_v g (d_v g (by kernel_rfl)))) (fun _ g => (d_v g (by kernel_rfl))))
theorem m_wordL_6 {CX : CXT} {Γ : RCx} {X : Cx} (G : GoodS CX (scx N_wordL (defScope s_wordL) f_wordL g_wordL l_wordL mn_wordL kn_wordL en_wordL hn_wordL 1) Γ X) : PS X ((defBody s_wordL).getD 6 (.Pass ⟨0, 0, 0, 0⟩)) (rdS Γ (b_wordL.getD 6 (.ret (.c .non)))) := by
  have g := G.toGood
  exact (s_ite (PW.pt (t_or (t_not (t_isx g (d_isx g (by kernel_rfl) (by kernel_rfl) (d_v g (by kernel_rfl)) (d_g g (by kernel_rfl))))) (t_or1 (t_not (t_isx g (d_isx g (by kernel_rfl) (by kernel_rfl) (d_v g (by kernel_rfl)) (d_ty g (by kernel_rfl) (by decide +kernel) (by decide) (by decide)))))))) (s_cons (s_drop (by kernel_rfl) (d_mth g (by kernel_rfl) (by kernel_rfl) (d_v g (by kernel_rfl)) (d_cons (by kernel_rfl) d_cs d_nil))) s_nil) s_nil)
theorem m_wordL_7 {CX : CXT} {Γ : RCx} {X : Cx} (G : GoodS CX (scx N_wordL (defScope s_wordL) f_wordL g_wordL l_wordL mn_wordL kn_wordL en_wordL hn_wordL 1) Γ X) : PS X ((defBody s_wordL).getD 7 (.Pass ⟨0, 0, 0, 0⟩)) (rdS Γ (b_wordL.getD 7 (.ret (.c .non)))) := by
  have g := G.toGood
  show PS X (.Return (some _) _) (rdS Γ (.ret _))
  with_reducible exact (s_ret (d_mth g (by kernel_rfl) (by kernel_rfl) d_cs (d_cons (by kernel_rfl) (d_v g (by kernel_rfl)) d_nil)))
theorem m_wordL {CX : CXT} {Γ : RCx} {X : Cx} (G : GoodS CX (scx N_wordL (defScope s_wordL) f_wordL g_wordL l_wordL mn_wordL kn_wordL en_wordL hn_wordL 1) Γ X) : PSs X (defBody s_wordL) (rdSs Γ b_wordL) := by
  have e : defBody s_wordL = [((defBody s_wordL).getD 0 (.Pass ⟨0, 0, 0, 0⟩)), ((defBody s_wordL).getD 1 (.Pass ⟨0, 0, 0, 0⟩)), ((defBody s_wordL).getD 2 (.Pass ⟨0, 0, 0, 0⟩)), ((defBody s_wordL).getD 3 (.Pass ⟨0, 0, 0, 0⟩)), ((defBody s_wordL).getD 4 (.Pass ⟨0, 0, 0, 0⟩)), ((defBody s_wordL).getD 5 (.Pass ⟨0, 0, 0, 0⟩)), ((defBody s_wordL).getD 6 (.Pass ⟨0, 0, 0, 0⟩)), ((defBody s_wordL).getD 7 (.Pass ⟨0, 0, 0, 0⟩))] := by kernel_rfl
  have e2 : b_wordL = [(b_wordL.getD 0 (.ret (.c .non))), (b_wordL.getD 1 (.ret (.c .non))), (b_wordL.getD 2 (.ret (.c .non))), (b_wordL.getD 3 (.ret (.c .non))), (b_wordL.getD 4 (.ret (.c .non))), (b_wordL.getD 5 (.ret (.c .non))), (b_wordL.getD 6 (.ret (.c .non))), (b_wordL.getD 7 (.ret (.c .non)))] := by kernel_rfl
  rw [e, e2]
  with_reducible exact s_cons (m_wordL_0 G) (s_cons (m_wordL_1 G) (s_cons (m_wordL_2 G) (s_cons (m_wordL_3 G) (s_cons (m_wordL_4 G) (s_cons (m_wordL_5 G) (s_cons (m_wordL_6 G) (s_cons (m_wordL_7 G) (s_nil))))))))
/-! ### quotedL -/
def N_quotedL : List Str := ["_law_text_here", "_law_found", "_law_sign"]
def P_quotedL : List Str := ["_law_text_here"]
def b_quotedL : List RS :=
  [.asg 1 (.c (.str "")),
  .for1 2 .txt [(.v 0)] [.ite (.cmp .Eq (.v 2) (.c (.str "\n"))) [.asg 1 (.bin .Add (.v 1) (.c (.str "\\n")))] [.ite (.or [(.cmp .Eq (.v 2) (.c (.str "\""))), (.cmp .Eq (.v 2) (.c (.str "\\")))]) [.asg 1 (.bin .Add (.bin .Add (.v 1) (.c (.str "\\"))) (.v 2))] [.asg 1 (.bin .Add (.v 1) (.v 2))]]],
  .ret (.bin .Add (.bin .Add (.c (.str "\"")) (.v 1)) (.c (.str "\"")))]
def f_quotedL : List Str := []
def g_quotedL : List Str := []
def l_quotedL : List Str := []
def mn_quotedL : List Str := []
def kn_quotedL : List Str := []
def en_quotedL : List Str := []
def hn_quotedL : List Str := []
def s_quotedL : Stmt := stAt 51
theorem sc_quotedL : FnScope N_quotedL P_quotedL (defScope s_quotedL) := ⟨by kernel_rfl, by kernel_rfl, by kernel_rfl, by decide +kernel, by kernel_rfl, by decide +kernel, by decide +kernel⟩
theorem m_quotedL {CX : CXT} {Γ : RCx} {X : Cx} (G : GoodS CX (scx N_quotedL (defScope s_quotedL) f_quotedL g_quotedL l_quotedL mn_quotedL kn_quotedL en_quotedL hn_quotedL 0) Γ X) : PSs X (defBody s_quotedL) (rdSs Γ b_quotedL) := by
  have g := G.toGood
  exact (s_cons (s_asg G (by kernel_rfl) (by kernel_rfl) d_cs) (s_cons (s_for1 G (by kernel_rfl) (by kernel_rfl) (i_txt (d_v g (by kernel_rfl))) (s_cons (s_ite (t_cmp g (by kernel_rfl) (d_v g (by kernel_rfl)) d_cs) (s_cons (s_asg G (by kernel_rfl) (by kernel_rfl) (d_bin g (d_v g (by kernel_rfl)) d_cs)) s_nil) (s_cons (s_ite (PW.pt (t_or (t_cmp g (by kernel_rfl) (d_v g (by kernel_rfl)) d_cs) (t_or1 (t_cmp g (by kernel_rfl) (d_v g (by kernel_rfl)) d_cs)))) (s_cons (s_asg G (by kernel_rfl) (by kernel_rfl) (d_bin g (d_bin g (d_v g (by kernel_rfl)) d_cs) (d_v g (by kernel_rfl)))) s_nil) (s_cons (s_asg G (by kernel_rfl) (by kernel_rfl) (d_bin g (d_v g (by kernel_rfl)) (d_v g (by kernel_rfl)))) s_nil)) s_nil)) s_nil)) (s_cons (s_ret (d_bin g (d_bin g d_cs (d_v g (by kernel_rfl))) d_cs)) s_nil)))
/-! ### lineL -/
def N_lineL : List Str := ["_law_deed_here", "_law_found", "_law_text_here"]
def P_lineL : List Str := ["_law_deed_here"]
def b_lineL : List RS :=
  [.ite (.cmp .Eq (.ix (.v 0) (.c (.int 0))) (.c (.str "enter"))) [.ret (.bin .Add (.c (.str "enter ")) (.call 0 [(.ix (.v 0) (.c (.int 1)))]))] [],
  .ite (.cmp .Eq (.ix (.v 0) (.c (.int 0))) (.c (.str "paste"))) [.asg 1 (.c (.str "paste")),
    .for1 2 .tup [(.ix (.v 0) (.c (.int 1)))] [.asg 1 (.bin .Add (.bin .Add (.v 1) (.c (.str " "))) (.call 0 [(.v 2)]))],
    .ret (.v 1)] [],
  .ite (.and [(.cmp .Eq (.ix (.v 0) (.c (.int 0))) (.c (.str "step"))), (.ix (.v 0) (.c (.int 2)))]) [.ret (.bin .Add (.c (.str "hold ")) (.ix (.v 0) (.c (.int 1))))] [],
  .ite (.and [(.cmp .Eq (.ix (.v 0) (.c (.int 0))) (.c (.str "span"))), (.ix (.v 0) (.c (.int 1)))]) [.ret (.c (.str "span grows"))] [],
  .ite (.cmp .Eq (.ix (.v 0) (.c (.int 0))) (.c (.str "span"))) [.ret (.c (.str "span stays"))] [],
  .ite (.cmp .Eq (.blt .len [(.v 0)]) (.c (.int 1))) [.ret (.ix (.v 0) (.c (.int 0)))] [],
  .ret (.bin .Add (.bin .Add (.ix (.v 0) (.c (.int 0))) (.c (.str " "))) (.xt xStr [(.ix (.v 0) (.c (.int 1)))]))]
def f_lineL : List Str := ["_law_quoted"]
def g_lineL : List Str := []
def l_lineL : List Str := ["len", "str"]
def mn_lineL : List Str := []
def kn_lineL : List Str := []
def en_lineL : List Str := []
def hn_lineL : List Str := []
def s_lineL : Stmt := stAt 52
theorem sc_lineL : FnScope N_lineL P_lineL (defScope s_lineL) := ⟨by kernel_rfl, by kernel_rfl, by kernel_rfl, by decide +kernel, by kernel_rfl, by decide +kernel, by decide +kernel⟩
theorem m_lineL {CX : CXT} {Γ : RCx} {X : Cx} (G : GoodS CX (scx N_lineL (defScope s_lineL) f_lineL g_lineL l_lineL mn_lineL kn_lineL en_lineL hn_lineL 0) Γ X) : PSs X (defBody s_lineL) (rdSs Γ b_lineL) := by
  have g := G.toGood
  exact (s_cons (s_ite (t_cmp g (by kernel_rfl) (d_ix g (by kernel_rfl) (d_v g (by kernel_rfl)) d_ci) d_cs) (s_cons (s_ret (d_bin g d_cs (d_call g (by kernel_rfl) (by kernel_rfl) (d_cons (by kernel_rfl) (d_ix g (by kernel_rfl) (d_v g (by kernel_rfl)) d_ci) d_nil)))) s_nil) s_nil) (s_cons (s_ite (t_cmp g (by kernel_rfl) (d_ix g (by kernel_rfl) (d_v g (by kernel_rfl)) d_ci) d_cs) (s_cons (s_asg G (by kernel_rfl) (by kernel_rfl) d_cs) (s_cons (s_for1 G (by kernel_rfl) (by kernel_rfl) (i_tup g (d_ix g (by kernel_rfl) (d_v g (by kernel_rfl)) d_ci)) (s_cons (s_asg G (by kernel_rfl) (by kernel_rfl) (d_bin g (d_bin g (d_v g (by kernel_rfl)) d_cs) (d_call g (by kernel_rfl) (by kernel_rfl) (d_cons (by kernel_rfl) (d_v g (by kernel_rfl)) d_nil)))) s_nil)) (s_cons (s_ret (d_v g (by kernel_rfl))) s_nil))) s_nil) (s_cons (s_ite (PW.pt (t_and (t_cmp g (by kernel_rfl) (d_ix g (by kernel_rfl) (d_v g (by kernel_rfl)) d_ci) d_cs) (t_and1 (t_ix g (d_ix g (by kernel_rfl) (d_v g (by kernel_rfl)) d_ci))))) (s_cons (s_ret (d_bin g d_cs (d_ix g (by kernel_rfl) (d_v g (by kernel_rfl)) d_ci))) s_nil) s_nil) (s_cons (s_ite (PW.pt (t_and (t_cmp g (by kernel_rfl) (d_ix g (by kernel_rfl) (d_v g (by kernel_rfl)) d_ci) d_cs) (t_and1 (t_ix g (d_ix g (by kernel_rfl) (d_v g (by kernel_rfl)) d_ci))))) (s_cons (s_ret d_cs) s_nil) s_nil) (s_cons (s_ite (t_cmp g (by kernel_rfl) (d_ix g (by kernel_rfl) (d_v g (by kernel_rfl)) d_ci) d_cs) (s_cons (s_ret d_cs) s_nil) s_nil) (s_cons (s_ite (t_cmp g (by kernel_rfl) (d_blt g (by kernel_rfl) (by kernel_rfl) (d_cons (by kernel_rfl) (d_v g (by kernel_rfl)) d_nil)) d_ci) (s_cons (s_ret (d_ix g (by kernel_rfl) (d_v g (by kernel_rfl)) d_ci)) s_nil) s_nil) (s_cons (s_ret (d_bin g (d_bin g (d_ix g (by kernel_rfl) (d_v g (by kernel_rfl)) d_ci) d_cs) (d_xStr g (by kernel_rfl) (by kernel_rfl) (d_cons (by kernel_rfl) (d_ix g (by kernel_rfl) (d_v g (by kernel_rfl)) d_ci) d_nil)))) s_nil)))))))
/-! ### longL -/
def N_longL : List Str := ["_law_script", "_law_deed_here", "_law_cell", "_law_text_here", "_law_sign", "_law_at", "_law_many"]
def P_longL : List Str := ["_law_script", "_law_deed_here"]
def b_longL : List RS :=
  [.asg 2 (.call 0 [(.v 0), (.c (.int 1))]),
  .asg 3 (.call 1 [(.call 0 [(.v 0), (.c (.int 2))]), (.call 2 [(.call 0 [(.v 0), (.c (.int 3))])])]),
  .asg 4 (.ix (.lst [(.c (.str "\"")), (.c (.str "\\")), (.c (.str "\n")), (.c (.str " "))]) (.bin .Mod (.bin .FloorDiv (.v 2) (.c (.int 4))) (.c (.int 4)))),
  .asg 5 (.bin .Mod (.bin .FloorDiv (.v 2) (.c (.int 16))) (.bin .Add (.blt .len [(.v 3)]) (.c (.int 1)))),
  .ite (.cmp .Eq (.bin .Mod (.v 2) (.c (.int 4))) (.c (.int 1))) [.ret (.tup [(.c (.str "enter")), (.bin .Add (.bin .Add (.sl (.v 3) none (some (.v 5))) (.v 4)) (.sl (.v 3) (some (.v 5)) none))])] [],
  .ite (.cmp .Eq (.bin .Mod (.v 2) (.c (.int 4))) (.c (.int 2))) [.asg 6 (.bin .Add (.c (.int 1)) (.bin .Mod (.bin .FloorDiv (.v 2) (.c (.int 16))) (.c (.int 40)))),
    .ret (.tup [(.c (.str "paste")), (.blt .tuple [(.comp none [("_law_sign", 4), ("_law_cell", 2)] .rng [(.v 6)] none (.bin .Add (.call 1 [(.call 3 [(.v 2), (.v 0)]), (.bin .Mod (.v 0) (.c (.int 5)))]) (.v 1)))])])] [],
  .ret (.v 1)]
def f_longL : List Str := ["_law_cell_at", "_law_text", "_law_size", "_law_mixed"]
def g_longL : List Str := []
def l_longL : List Str := ["len", "tuple", "range"]
def mn_longL : List Str := []
def kn_longL : List Str := []
def en_longL : List Str := []
def hn_longL : List Str := []
def s_longL : Stmt := stAt 53
theorem sc_longL : FnScope N_longL P_longL (defScope s_longL) := ⟨by kernel_rfl, by kernel_rfl, by kernel_rfl, by decide +kernel, by kernel_rfl, by decide +kernel, by decide +kernel⟩
theorem m_longL {CX : CXT} {Γ : RCx} {X : Cx} (G : GoodS CX (scx N_longL (defScope s_longL) f_longL g_longL l_longL mn_longL kn_longL en_longL hn_longL 0) Γ X) : PSs X (defBody s_longL) (rdSs Γ b_longL) := by
  have g := G.toGood
  exact (s_cons (s_asg G (by kernel_rfl) (by kernel_rfl) (d_call g (by kernel_rfl) (by kernel_rfl) (d_cons (by kernel_rfl) (d_v g (by kernel_rfl)) (d_cons (by kernel_rfl) d_ci d_nil)))) (s_cons (s_asg G (by kernel_rfl) (by kernel_rfl) (d_call g (by kernel_rfl) (by kernel_rfl) (d_cons (by kernel_rfl) (d_call g (by kernel_rfl) (by kernel_rfl) (d_cons (by kernel_rfl) (d_v g (by kernel_rfl)) (d_cons (by kernel_rfl) d_ci d_nil))) (d_cons (by kernel_rfl) (d_call g (by kernel_rfl) (by kernel_rfl) (d_cons (by kernel_rfl) (d_call g (by kernel_rfl) (by kernel_rfl) (d_cons (by kernel_rfl) (d_v g (by kernel_rfl)) (d_cons (by kernel_rfl) d_ci d_nil))) d_nil)) d_nil)))) (s_cons (s_asg G (by kernel_rfl) (by kernel_rfl) (d_ix g (by kernel_rfl) (d_lst (d_cons (by kernel_rfl) d_cs (d_cons (by kernel_rfl) d_cs (d_cons (by kernel_rfl) d_cs (d_cons (by kernel_rfl) d_cs d_nil))))) (d_bin g (d_bin g (d_v g (by kernel_rfl)) d_ci) d_ci))) (s_cons (s_asg G (by kernel_rfl) (by kernel_rfl) (d_bin g (d_bin g (d_v g (by kernel_rfl)) d_ci) (d_bin g (d_blt g (by kernel_rfl) (by kernel_rfl) (d_cons (by kernel_rfl) (d_v g (by kernel_rfl)) d_nil)) d_ci))) (s_cons (s_ite (t_cmp g (by kernel_rfl) (d_bin g (d_v g (by kernel_rfl)) d_ci) d_ci) (s_cons (s_ret (d_tup (d_cons (by kernel_rfl) d_cs (d_cons (by kernel_rfl) (d_bin g (d_bin g (d_sl g (d_v g (by kernel_rfl)) d_no (d_some (d_v g (by kernel_rfl)))) (d_v g (by kernel_rfl))) (d_sl g (d_v g (by kernel_rfl)) (d_some (d_v g (by kernel_rfl))) d_no)) d_nil)))) s_nil) s_nil) (s_cons (s_ite (t_cmp g (by kernel_rfl) (d_bin g (d_v g (by kernel_rfl)) d_ci) d_ci) (s_cons (s_asg G (by kernel_rfl) (by kernel_rfl) (d_bin g d_ci (d_bin g (d_bin g (d_v g (by kernel_rfl)) d_ci) d_ci))) (s_cons (s_ret (d_tup (d_cons (by kernel_rfl) d_cs (d_cons (by kernel_rfl) (d_blt g (by kernel_rfl) (by kernel_rfl) (d_cons (by kernel_rfl) (d_comp (ln := ["_law_k"]) g (by kernel_rfl) (i_rng g (by kernel_rfl) (by kernel_rfl) (d_v g (by kernel_rfl))) d_if0 (fun _ g => (d_bin g (d_call g (by kernel_rfl) (by kernel_rfl) (d_cons (by kernel_rfl) (d_call g (by kernel_rfl) (by kernel_rfl) (d_cons (by kernel_rfl) (d_v g (by kernel_rfl)) (d_cons (by kernel_rfl) (d_v g (by kernel_rfl)) d_nil))) (d_cons (by kernel_rfl) (d_bin g (d_v g (by kernel_rfl)) d_ci) d_nil))) (d_v g (by kernel_rfl))))) d_nil)) d_nil)))) s_nil)) s_nil) (s_cons (s_ret (d_v g (by kernel_rfl))) s_nil)))))))
/-! ### refusedL -/
def N_refusedL : List Str := ["_law_thing", "_law_e"]
def P_refusedL : List Str := ["_law_thing"]
def b_refusedL : List RS :=
  [.tryr 2 1 0 [.drop (.call 0 [(.v 0)])] [.ret (.wrd 0 (.v 1))],
  .ret (.c (.str ""))]
def f_refusedL : List Str := ["shown"]
def g_refusedL : List Str := ["InkError"]
def l_refusedL : List Str := []
def mn_refusedL : List Str := []
def kn_refusedL : List Str := []
def en_refusedL : List Str := []
def hn_refusedL : List Str := ["_law_word"]
def s_refusedL : Stmt := stAt 54
theorem sc_refusedL : FnScope N_refusedL P_refusedL (defScope s_refusedL) := ⟨by kernel_rfl, by kernel_rfl, by kernel_rfl, by decide +kernel, by kernel_rfl, by decide +kernel, by decide +kernel⟩
theorem m_refusedL {CX : CXT} {Γ : RCx} {X : Cx} (G : GoodS CX (scx N_refusedL (defScope s_refusedL) f_refusedL g_refusedL l_refusedL mn_refusedL kn_refusedL en_refusedL hn_refusedL 0) Γ X) : PSs X (defBody s_refusedL) (rdSs Γ b_refusedL) := by
  have g := G.toGood
  exact (s_cons (s_try G (by kernel_rfl) (by kernel_rfl) (fun G => (fun g => (s_cons (s_drop (by kernel_rfl) (d_call g (by kernel_rfl) (by kernel_rfl) (d_cons (by kernel_rfl) (d_v g (by kernel_rfl)) d_nil))) s_nil)) G.toGood) (fun G => (fun g => (s_cons (s_ret (d_wrd g (by kernel_rfl) (by kernel_rfl) (d_v g (by kernel_rfl)))) s_nil)) G.toGood)) (s_cons (s_ret d_cs) s_nil))
/-! ### law -/
def N_law : List Str := ["_law_script", "_law_deed_here", "_law_line_here", "_law_odd"]
def P_law : List Str := ["_law_script"]
def b_law : List RS :=
  [.asg 1 (.call 0 [(.v 0), (.call 1 [(.call 2 [(.call 3 [(.v 0), (.c (.int 0))]), (.c (.int 0))])])]),
  .asg 2 (.call 4 [(.v 1)]),
  .ite (.or [(.not (.isi .str (.v 2))), (.cmp .NotEq (.v 2) (.call 5 [(.v 1)]))]) [.ret (.c (.bl false))] [],
  .ite (.not (.call 6 [(.call 7 [(.v 2)]), (.v 1)])) [.ret (.c (.bl false))] [],
  .asg 3 (.lst [(.c .non), (.c (.str "only")), (.tup [(.c (.str "Only"))]), (.blt .list [(.v 1)]), (.tup [(.c (.str "enter")), (.c (.str "a\t"))]), (.tup [(.c (.str "go")), (.neg (.c (.int 1)))]), (.tup [(.c (.str "go")), (.c (.int 1000000000))]), (.tup [(.c (.str "span")), (.c (.int 1))])]),
  .ret (.cmp .Eq (.call 8 [(.ix (.v 3) (.bin .Mod (.call 3 [(.v 0), (.c (.int 4))]) (.c (.int 8))))]) (.c (.str "deed")))]
def f_law : List Str := ["_law_long", "_law_deed", "_law_mixed", "_law_cell_at", "shown", "_law_line", "_law_alike", "read", "_law_refused"]
def g_law : List Str := []
def l_law : List Str := ["isinstance", "str", "list"]
def mn_law : List Str := []
def kn_law : List Str := []
def en_law : List Str := []
def hn_law : List Str := []
def s_law : Stmt := stAt 55
theorem sc_law : FnScope N_law P_law (defScope s_law) := ⟨by kernel_rfl, by kernel_rfl, by kernel_rfl, by decide +kernel, by kernel_rfl, by decide +kernel, by decide +kernel⟩
theorem m_law {CX : CXT} {Γ : RCx} {X : Cx} (G : GoodS CX (scx N_law (defScope s_law) f_law g_law l_law mn_law kn_law en_law hn_law 0) Γ X) : PSs X (defBody s_law) (rdSs Γ b_law) := by
  have g := G.toGood
  exact (s_cons (s_asg G (by kernel_rfl) (by kernel_rfl) (d_call g (by kernel_rfl) (by kernel_rfl) (d_cons (by kernel_rfl) (d_v g (by kernel_rfl)) (d_cons (by kernel_rfl) (d_call g (by kernel_rfl) (by kernel_rfl) (d_cons (by kernel_rfl) (d_call g (by kernel_rfl) (by kernel_rfl) (d_cons (by kernel_rfl) (d_call g (by kernel_rfl) (by kernel_rfl) (d_cons (by kernel_rfl) (d_v g (by kernel_rfl)) (d_cons (by kernel_rfl) d_ci d_nil))) (d_cons (by kernel_rfl) d_ci d_nil))) d_nil)) d_nil)))) (s_cons (s_asg G (by kernel_rfl) (by kernel_rfl) (d_call g (by kernel_rfl) (by kernel_rfl) (d_cons (by kernel_rfl) (d_v g (by kernel_rfl)) d_nil))) (s_cons (s_ite (PW.pt (t_or (t_not (t_isi g (d_isi g (by kernel_rfl) (by kernel_rfl) (by kernel_rfl) (d_v g (by kernel_rfl))))) (t_or1 (t_cmp g (by kernel_rfl) (d_v g (by kernel_rfl)) (d_call g (by kernel_rfl) (by kernel_rfl) (d_cons (by kernel_rfl) (d_v g (by kernel_rfl)) d_nil)))))) (s_cons (s_ret d_cb) s_nil) s_nil) (s_cons (s_ite (t_not (t_call g (d_call g (by kernel_rfl) (by kernel_rfl) (d_cons (by kernel_rfl) (d_call g (by kernel_rfl) (by kernel_rfl) (d_cons (by kernel_rfl) (d_v g (by kernel_rfl)) d_nil)) (d_cons (by kernel_rfl) (d_v g (by kernel_rfl)) d_nil))))) (s_cons (s_ret d_cb) s_nil) s_nil) (s_cons (s_asg G (by kernel_rfl) (by kernel_rfl) (d_lst (d_cons (by kernel_rfl) d_cn (d_cons (by kernel_rfl) d_cs (d_cons (by kernel_rfl) (d_tup (d_cons (by kernel_rfl) d_cs d_nil)) (d_cons (by kernel_rfl) (d_blt g (by kernel_rfl) (by kernel_rfl) (d_cons (by kernel_rfl) (d_v g (by kernel_rfl)) d_nil)) (d_cons (by kernel_rfl) (d_tup (d_cons (by kernel_rfl) d_cs (d_cons (by kernel_rfl) d_cs d_nil))) (d_cons (by kernel_rfl) (d_tup (d_cons (by kernel_rfl) d_cs (d_cons (by kernel_rfl) (d_neg d_ci) d_nil))) (d_cons (by kernel_rfl) (d_tup (d_cons (by kernel_rfl) d_cs (d_cons (by kernel_rfl) d_ci d_nil))) (d_cons (by kernel_rfl) (d_tup (d_cons (by kernel_rfl) d_cs (d_cons (by kernel_rfl) d_ci d_nil))) d_nil)))))))))) (s_cons (s_ret (d_cmp g (by kernel_rfl) (d_call g (by kernel_rfl) (by kernel_rfl) (d_cons (by kernel_rfl) (d_ix g (by kernel_rfl) (d_v g (by kernel_rfl)) (d_bin g (d_call g (by kernel_rfl) (by kernel_rfl) (d_cons (by kernel_rfl) (d_v g (by kernel_rfl)) (d_cons (by kernel_rfl) d_ci d_nil))) d_ci)) d_nil)) d_cs)) s_nil))))))
end L2.K42
set_option maxRecDepth 100000
set_option maxHeartbeats 4000000
namespace L2.K42
open PySem PySem.Spec L2.B
/-! ### deeds -/
inductive Dd where
  | bare (w : Str) | word (w x : Str) | num (w : Str) (n : Nat) | enter (x : Str) | paste (xs : List Str) | step (x : Str) (b : Bool) | span (b : Bool)
def DdAt (H : Hp) (a : Addr) : Dd → Prop
  | .bare w => H a = some (.tup [.str w])
  | .word w x => H a = some (.tup [.str w, .str x])
  | .num w n => H a = some (.tup [.str w, .int n])
  | .enter x => H a = some (.tup [.str "enter", .str x])
  | .paste xs => ∃ t, H a = some (.tup [.str "paste", .ref t]) ∧ H t = some (.tup (xs.map V.str))
  | .step x b => H a = some (.tup [.str "step", .str x, .bl b])
  | .span b => H a = some (.tup [.str "span", .bl b])
theorem DdAt.same {H H' : Hp} {a : Addr} {d : Dd} (h : DdAt H a d) (s : Same H H') : DdAt H' a d := by
  cases d <;> first | exact s _ _ h | (obtain ⟨t, h1, h2⟩ := h; exact ⟨t, s _ _ h1, s _ _ h2⟩)
def eW : List Str := ["left", "right", "back", "on", "home", "end"]
def sW : List Str := ["left", "right", "home", "end", "top", "bottom", "back", "on", "up", "down"]
def mW : List Str := ["left", "right"]
def okD : Dd → Prop
  | .bare w => w = "only" ∨ w = "undo" ∨ w = "redo"
  | .word w x => (w = "erase" ∧ x ∈ eW) ∨ (w = "mark" ∧ x ∈ mW)
  | .num w n => (w = "spread" ∨ w = "go") ∧ n ≤ 999999999
  | .enter x => good x ∧ x.length ≤ 1000
  | .paste xs => 1 ≤ xs.length ∧ xs.length ≤ 40 ∧ ∀ x ∈ xs, good x ∧ x.length ≤ 1000
  | .step x _ => x ∈ sW
  | .span _ => True
/-- what is no deed -/
def NoDeed (v : V) (H : Hp) : Prop := NotTy .tuple v H ∨ ∃ a, v = .ref a ∧ (H a = some (.tup [.str "Only"]) ∨ H a = some (.tup [.str "enter", .str "a\t"]) ∨ (∃ n : Int, (n < 0 ∨ 999999999 < n) ∧ H a = some (.tup [.str "go", .int n])) ∨ H a = some (.tup [.str "span", .int 1]))
/-! ### is_truth, are_texts, is_object -/
def isTr (v : V) : Bool := decide (v = .bl true) || decide (v = .bl false)
def spTruth : Sp := fun vs H Q E => ∃ v, vs = [v] ∧ Q (.bl (isTr v)) H
theorem rd_truth {K : PySem.W.Frag} (vs : List V) (H : Hp) (Q : VK) (E : XK) (h : spTruth vs H Q E) : rdSs (rcx K [] [] (E := E)) b_is_truth (Dn Q) (start N_is_truth vs) H := by
  obtain ⟨v, rfl, q⟩ := h
  refine r_ret (r_or2 (r_cmp (r_v rfl (r_c ?_))))
  show ∃ c, V.bl (decide (v = .bl true)) = .bl c ∧ _
  refine ⟨_, rfl, ite2 (fun h => ?_) (fun h => ?_)⟩
  · rw [show isTr v = true by unfold isTr; rw [h]; rfl] at q; exact q
  · refine r_cmp (r_v rfl (r_c ?_))
    show Q (.bl (decide (v = .bl false))) H
    rw [show isTr v = decide (v = .bl false) by unfold isTr; rw [Bool.not_eq_true _ |>.mp h]; rfl] at q
    exact q
theorem r_cmp2T {Γ : RCx} {σ : St} {H : Hp} {QT : Bool → Hp → Prop} {op op' : CmpOp} {a b c : RE} (h : rdE Γ a σ H fun x H1 => rdE Γ b σ H1 fun y H2 => rCmp Γ.K op x y H2 fun z H3 => ∃ k, z = .bl k ∧ if k = true then rdE Γ c σ H3 fun w H4 => rCmp Γ.K op' y w H4 fun u H5 => ∃ k, u = .bl k ∧ QT k H5 else ∃ k, V.bl false = .bl k ∧ QT k H3) :
    rdT Γ (.cmp2 op op' a b c) σ H QT := h
theorem r_compT {Γ : RCx} {σ : St} {H : Hp} {Q : VK} {fv : List (Str × Nat)} {x elt : RE} (h : rdE Γ x σ H fun v H1 => ∃ a xs, v = .ref a ∧ SqT Γ.K H1 a xs ∧ ∃ W : Nat → Nat → List V → Hp → Prop, (∃ m, W 0 m [] H1) ∧ ∀ i m ys H2, W i m ys H2 →
      ((Itt Γ.K a).stop i H2 ∧ ∀ p, H2 p = none → Q (.ref p) (upd H2 p (.lst ys))) ∨
      ((Itt Γ.K a).go i H2 ∧ ∀ x H3, (Itt Γ.K a).yld i H2 x H3 → tgtK Γ.K none x H3 fun zs => tCond none (zs.map some ++ fvals σ fv) H3 fun b H5 =>
        if b = true then rdE Γ.calm elt (zs.map some ++ fvals σ fv) H5 fun y H6 => ys.length < sizeLine ∧ ∃ m', m' < m ∧ W (i + 1) m' (ys ++ [y]) H6 else ∃ m', m' < m ∧ W (i + 1) m' ys H5)) : rdE Γ (.comp none fv .tup [x] none elt) σ H Q := by
  have e : ∀ (A B : VK), (∀ v H1, A v H1 ↔ B v H1) → rdE Γ x σ H A → rdE Γ x σ H B := fun A B hab ha => by
    have : A = B := funext fun x => funext fun H1 => propext (hab x H1)
    rw [← this]; exact ha
  refine e _ _ (fun v H1 => ⟨?_, ?_⟩) h
  · rintro ⟨a, xs, h1, h2, h3⟩; exact ⟨a, h1, ⟨xs, h2⟩, h3⟩
  · rintro ⟨a, h1, ⟨xs, h2⟩, h3⟩; exact ⟨a, xs, h1, h2, h3⟩
theorem get_str {xs : List Str} {i : Nat} {v : V} (h : (xs.map V.str)[i]? = some v) : ∃ y, xs[i]? = some y ∧ v = .str y := by
  rw [List.getElem?_map] at h
  cases e : xs[i]? with
  | none => rw [e] at h; cases h
  | some y => rw [e] at h; cases h; exact ⟨y, rfl, rfl⟩
def spAreT : Sp := fun vs H Q E => ∃ (t : Addr) (xs : List Str), vs = [.ref t] ∧ H t = some (.tup (xs.map V.str)) ∧ 1 ≤ xs.length ∧ xs.length ≤ 40 ∧ (∀ x ∈ xs, good x) ∧ ∀ H', Same H H' → Q (.bl true) H'
theorem rd_areT {K : PySem.W.Frag} (vs : List V) (H : Hp) (Q : VK) (E : XK) (h : spAreT vs H Q E) : rdSs (rcx K [("is_text", spTextX)] [("MOST_CURSORS", .int 40)] (E := E)) b_are_texts (Dn Q) (start N_are_texts vs) H := by
  obtain ⟨t, xs, rfl, ht, h1, h2, hx, q⟩ := h
  refine r_ite (r_orC (r_notT (r_isiT (r_v rfl (isi_tup ht (iF ?_))))))
  refine r_or1 (r_notT (r_cmp2T (r_c (r_len (r_v rfl (lenT ht ⟨trivial, _, rfl, iT (r_g ⟨trivial, _, rfl, iF (r_no ?_) ?_⟩) ?_⟩))))))
  · refine r_ret (r_all (r_compT (r_v rfl ⟨t, _, rfl, SqT.of ht, comp_t ht (by simp; omega) (fun i ys _ => ys = List.replicate i (.bl true)) rfl ?_ ?_⟩)))
    · intro i x ys H2 hi s p Q' k
      obtain ⟨y, hy, rfl⟩ := get_str hi
      refine r_callS spTextX rfl (r_cons (r_v rfl (r_nil ⟨_, rfl, .inl ⟨y, rfl, hx y (List.mem_of_getElem? hy), k _ _ (Same.refl _) ?_⟩⟩)))
      rw [p, List.replicate_succ']
    · intro ys H2 p s hp hn
      refine ⟨p, List.replicate xs.length true, rfl, SqL.of ?_, ?_⟩
      · rw [upd_same, hp]; simp
      · rw [show (List.replicate xs.length true).all id = true by simp]
        exact q _ (s.trans (sameNew hn))
  · simp; omega
  · simp; omega
inductive ObjB (H : Hp) : Str → V → Bool → Prop
  | enter {x : Str} : good x → ObjB H "enter" (.str x) true
  | tab : ObjB H "enter" (.str "a\t") false
  | paste {t : Addr} {xs : List Str} : H t = some (.tup (xs.map V.str)) → 1 ≤ xs.length → xs.length ≤ 40 → (∀ x ∈ xs, good x) → ObjB H "paste" (.ref t) true
  | erase {x : Str} : x ∈ eW → ObjB H "erase" (.str x) true
  | num {w : Str} {n : Int} : (w = "spread" ∨ w = "go") → 0 ≤ n → n ≤ 999999999 → ObjB H w (.int n) true
  | numB {w : Str} {n : Int} : (w = "spread" ∨ w = "go") → (n < 0 ∨ 999999999 < n) → ObjB H w (.int n) false
  | mark {x : Str} : x ∈ mW → ObjB H "mark" (.str x) true
  | span {b : Bool} : ObjB H "span" (.bl b) true
  | spanB : ObjB H "span" (.int 1) false
abbrev tObj (K : PySem.W.Frag) : List (Str × Sp) := [("is_text", spTextX), ("are_texts", spAreT), ("is_word", spWordX K), ("is_between", spBetweenX), ("is_truth", spTruth)]
def spObj : Sp := fun vs H Q E => ∃ w v b, vs = [.str w, v] ∧ ObjB H w v b ∧ ∀ H', Same H H' → Q (.bl b) H'
theorem rd_obj {K : PySem.W.Frag} {pE pS : Addr} (PE : TupC K pE (eW.map V.str)) (PS : TupC K pS (mW.map V.str)) (vs : List V) (H : Hp) (Q : VK) (E : XK) (h : spObj vs H Q E) :
    rdSs (rcx K (tObj K) [("ERASE_WORDS", .ref pE), ("MOST_NUMBER", .int 999999999), ("SIDES", .ref pS)] (E := E)) b_is_object (Dn Q) (start N_is_object vs) H := by
  obtain ⟨w, v, b, rfl, o, q⟩ := h
  cases o with
  | enter hx => exact tk_eq rfl (by decide +kernel) (r_ret (r_callS spTextX rfl (r_cons (r_v rfl (r_nil ⟨_, rfl, .inl ⟨_, rfl, hx, q _ (Same.refl _)⟩⟩)))))
  | tab => exact tk_eq rfl (by decide +kernel) (r_ret (r_callS spTextX rfl (r_cons (r_v rfl (r_nil ⟨_, rfl, .inr ⟨.inl ⟨_, rfl, by decide, (by decide +kernel)⟩, q _ (Same.refl _)⟩⟩)))))
  | paste ht h1 h2 hx => exact sk_eq rfl (by decide +kernel) (tk_eq rfl (by decide +kernel) (r_ret (r_callS spAreT rfl (r_cons (r_v rfl (r_nil ⟨_, _, rfl, ht, h1, h2, hx, q⟩))))))
  | erase hx =>
    refine sk_eq rfl (by decide +kernel) (sk_eq rfl (by decide +kernel) (tk_eq rfl (by decide +kernel) (r_ret (r_callS (spWordX K) rfl (r_cons (r_v rfl (r_cons (r_g (r_nil ⟨_, pE, _, rfl, PE H, flat_strs _, .inl ⟨_, rfl, ?_⟩⟩)))))))))
    rw [inV_of hx]; exact q _ (Same.refl _)
  | num hw h0 h1 =>
    rcases hw with rfl | rfl
    · exact sk_eq rfl (by decide +kernel) (sk_eq rfl (by decide +kernel) (sk_eq rfl (by decide +kernel) (tk_in2 rfl (by decide +kernel) fun H' s => r_ret (r_callS spBetweenX rfl (r_cons (r_v rfl (r_cons (r_c (r_cons (r_g (r_nil ⟨_, _, _, rfl, .inl ⟨_, rfl, h0, h1, q _ s⟩⟩)))))))))))
    · exact sk_eq rfl (by decide +kernel) (sk_eq rfl (by decide +kernel) (sk_eq rfl (by decide +kernel) (tk_in2 rfl (by decide +kernel) fun H' s => r_ret (r_callS spBetweenX rfl (r_cons (r_v rfl (r_cons (r_c (r_cons (r_g (r_nil ⟨_, _, _, rfl, .inl ⟨_, rfl, h0, h1, q _ s⟩⟩)))))))))))
  | numB hw hn =>
    rcases hw with rfl | rfl
    · exact sk_eq rfl (by decide +kernel) (sk_eq rfl (by decide +kernel) (sk_eq rfl (by decide +kernel) (tk_in2 rfl (by decide +kernel) fun H' s => r_ret (r_callS spBetweenX rfl (r_cons (r_v rfl (r_cons (r_c (r_cons (r_g (r_nil ⟨_, _, _, rfl, .inr ⟨.inr ⟨_, rfl, hn⟩, q _ s⟩⟩)))))))))))
    · exact sk_eq rfl (by decide +kernel) (sk_eq rfl (by decide +kernel) (sk_eq rfl (by decide +kernel) (tk_in2 rfl (by decide +kernel) fun H' s => r_ret (r_callS spBetweenX rfl (r_cons (r_v rfl (r_cons (r_c (r_cons (r_g (r_nil ⟨_, _, _, rfl, .inr ⟨.inr ⟨_, rfl, hn⟩, q _ s⟩⟩)))))))))))
  | mark hx =>
    refine sk_eq rfl (by decide +kernel) (sk_eq rfl (by decide +kernel) (sk_eq rfl (by decide +kernel) (sk_in2 rfl (by decide +kernel) fun H' s => tk_eq rfl (by decide +kernel) (r_ret (r_callS (spWordX K) rfl (r_cons (r_v rfl (r_cons (r_g (r_nil ⟨_, pS, _, rfl, PS H', flat_strs _, .inl ⟨_, rfl, ?_⟩⟩)))))))))) 
    rw [inV_of hx]; exact q _ s
  | @span b =>
    refine sk_eq rfl (by decide +kernel) (sk_eq rfl (by decide +kernel) (sk_eq rfl (by decide +kernel) (sk_in2 rfl (by decide +kernel) fun H' s => sk_eq rfl (by decide +kernel) (r_ret (r_and2 (r_cmp (r_v rfl (r_c (ce_str ⟨_, rfl, iT (r_callS spTruth rfl (r_cons (r_v rfl (r_nil ⟨_, rfl, ?_⟩)))) (by decide +kernel)⟩)))))))))
    rw [show isTr (.bl b) = true by cases b <;> rfl]; exact q _ s
  | spanB =>
    refine sk_eq rfl (by decide +kernel) (sk_eq rfl (by decide +kernel) (sk_eq rfl (by decide +kernel) (sk_in2 rfl (by decide +kernel) fun H' s => sk_eq rfl (by decide +kernel) (r_ret (r_and2 (r_cmp (r_v rfl (r_c (ce_str ⟨_, rfl, iT (r_callS spTruth rfl (r_cons (r_v rfl (r_nil ⟨_, rfl, ?_⟩)))) (by decide +kernel)⟩)))))))))
    rw [show isTr (.int 1) = false by decide]; exact q _ s
/-! ### is_deed, need_deed -/
theorem ObjB.same {H H' : Hp} {w : Str} {v : V} {b : Bool} (h : ObjB H w v b) (s : Same H H') : ObjB H' w v b := by
  cases h with
  | enter h => exact .enter h
  | tab => exact .tab
  | paste h h1 h2 h3 => exact .paste (s _ _ h) h1 h2 h3
  | erase h => exact .erase h
  | num h h1 h2 => exact .num h h1 h2
  | numB h h1 => exact .numB h h1
  | mark h => exact .mark h
  | span => exact .span
  | spanB => exact .spanB
def DeedB (H : Hp) (v : V) (b : Bool) : Prop := (b = true ∧ ∃ a d, v = .ref a ∧ DdAt H a d ∧ okD d) ∨ (b = false ∧ NoDeed v H)
def spIsDeed : Sp := fun vs H Q E => ∃ v b, vs = [v] ∧ DeedB H v b ∧ ∀ H', Same H H' → Q (.bl b) H'
abbrev tDeed (K : PySem.W.Frag) : List (Str × Sp) := [("is_word", spWordX K), ("is_truth", spTruth), ("is_object", spObj)]
theorem at0 {x : V} {r : List V} : atI (x :: r) 0 = some x := atI_nat (xs := x :: r) (j := 0) rfl
section
variable {K : PySem.W.Frag} {pW : Addr} {Q : VK} {E : XK}
/-- a tuple that begins with a text -/
theorem deed_in {H : Hp} {a : Addr} {w : Str} {r : List V} (ha : H a = some (.tup (.str w :: r))) (h : rdSs (rcx K (tDeed K) [("STEP_WORDS", .ref pW)] (E := E)) (b_is_deed.drop 1) (Dn Q) [some (.ref a)] H) :
    rdSs (rcx K (tDeed K) [("STEP_WORDS", .ref pW)] (E := E)) b_is_deed (Dn Q) (start N_is_deed [.ref a]) H := by
  refine r_ite (r_orC (r_notT (r_isiT (r_v rfl (isi_tup ha (iF ?_))))))
  refine r_orC (r_cmpT (r_len (r_v rfl (lenT ha (r_c (ceI ⟨_, rfl, iF ?_ ?_⟩))))))
  · exact r_or1 (r_notT (r_isiT (r_ix (r_v rfl (r_c (ixt ha at0 (isi_st (iF (r_no h)))))))))
  · simp; omega
/-- two things, the first a word of the last row -/
theorem deed_two {H : Hp} {a : Addr} {w : Str} {v : V} {b : Bool} (ha : H a = some (.tup [.str w, v])) (hw : inV (.str w) [.str "only", .str "undo", .str "redo"] = false) (h2 : (w == "step") = false) (o : ObjB H w v b) (q : ∀ H', Same H H' → Q (.bl b) H') :
    rdSs (rcx K (tDeed K) [("STEP_WORDS", .ref pW)] (E := E)) b_is_deed (Dn Q) (start N_is_deed [.ref a]) H := by
  refine deed_in ha (sk_ixin3 rfl ha rfl hw fun H' s => ?_)
  have ha' := s _ _ ha
  refine sk_ix rfl ha' rfl h2 (r_ret (r_and2 (r_cmp (r_len (r_v rfl (lenT ha' (r_c (ceI ⟨_, rfl, iT ?_ rfl⟩))))))))
  exact r_callS spObj rfl (r_cons (r_ix (r_v rfl (r_c (ixt ha' rfl (r_cons (r_ix (r_v rfl (r_c (ixt ha' rfl (r_nil ⟨w, v, b, rfl, o.same s, fun H2 s2 => q _ (s.trans s2)⟩)))))))))))
end
theorem rd_isDeed {K : PySem.W.Frag} {pW : Addr} (PW : TupC K pW (sW.map V.str)) (vs : List V) (H : Hp) (Q : VK) (E : XK) (h : spIsDeed vs H Q E) :
    rdSs (rcx K (tDeed K) [("STEP_WORDS", .ref pW)] (E := E)) b_is_deed (Dn Q) (start N_is_deed vs) H := by
  obtain ⟨v, b, rfl, ⟨rfl, a, d, rfl, ha, hd⟩ | ⟨rfl, hn⟩, q⟩ := h
  · cases d with
    | bare w =>
      refine deed_in ha (tk_ixin3 rfl ha rfl ?_ fun H' s => r_ret (r_cmp (r_len (r_v rfl (lenT (s _ _ ha) (r_c (ceI (q _ s))))))))
      rcases hd with rfl | rfl | rfl <;> decide +kernel
    | word w x =>
      rcases hd with ⟨rfl, hx⟩ | ⟨rfl, hx⟩
      · exact deed_two ha (by decide +kernel) (by decide +kernel) (.erase hx) q
      · exact deed_two ha (by decide +kernel) (by decide +kernel) (.mark hx) q
    | num w n =>
      have h1 : ((n : Nat) : Int) ≤ 999999999 := by have := hd.2; omega
      rcases hd.1 with rfl | rfl
      · exact deed_two ha (by decide +kernel) (by decide +kernel) (.num (.inl rfl) (by omega) h1) q
      · exact deed_two ha (by decide +kernel) (by decide +kernel) (.num (.inr rfl) (by omega) h1) q
    | enter x => exact deed_two ha (by decide +kernel) (by decide +kernel) (.enter hd.1) q
    | paste xs =>
      obtain ⟨t, ha, ht⟩ := ha
      exact deed_two ha (by decide +kernel) (by decide +kernel) (.paste ht hd.1 hd.2.1 fun x hx => (hd.2.2 x hx).1) q
    | span b => exact deed_two ha (by decide +kernel) (by decide +kernel) .span q
    | step x b =>
      refine deed_in ha (sk_ixin3 rfl ha rfl (by decide +kernel) fun H' s => ?_)
      have ha' := s _ _ (show H a = some (.tup [.str "step", .str x, .bl b]) from ha)
      refine tk_ix rfl ha' rfl (by decide +kernel) (r_ret (r_and3 (r_cmp (r_len (r_v rfl (lenT ha' (r_c (ceI ⟨_, rfl, iT ?_ rfl⟩))))))))
      refine r_and2 (r_callS (spWordX K) rfl (r_cons (r_ix (r_v rfl (r_c (ixt ha' rfl (r_cons (r_g (r_nil ⟨_, pW, _, rfl, PW H', flat_strs _, .inl ⟨_, rfl, _, rfl, iT ?_ (inV_of hd)⟩⟩)))))))))
      refine r_callS spTruth rfl (r_cons (r_ix (r_v rfl (r_c (ixt ha' rfl (r_nil ⟨_, rfl, ?_⟩))))))
      rw [show isTr (.bl b) = true by cases b <;> rfl]; exact q _ s
  · rcases hn with hn | ⟨a, rfl, ha | ha | ⟨n, hn, ha⟩ | ha⟩
    · exact r_ite (r_orC (r_notT (r_isiT (r_v rfl (hn.go (iT (r_ret (r_c (q _ (Same.refl _))))))))))
    · refine deed_in ha (sk_ixin3 rfl ha rfl (by decide +kernel) fun H' s => sk_ix rfl (s _ _ ha) rfl (by decide +kernel) (r_ret (r_and2 (r_cmp (r_len (r_v rfl (lenT (s _ _ ha) (r_c (ceI ⟨_, rfl, iF (q _ s) ?_⟩))))))))) 
      decide
    · exact deed_two ha (by decide +kernel) (by decide +kernel) .tab q
    · exact deed_two ha (by decide +kernel) (by decide +kernel) (.numB (.inr rfl) hn) q
    · exact deed_two ha (by decide +kernel) (by decide +kernel) .spanB q
def spNeedD (C : Addr) : Sp := fun vs H Q E => ∃ v b, vs = [v] ∧ DeedB H v b ∧ ∀ H', Same H H' → (if b = true then Q .non H' else E (.ref C) none H')
theorem rd_needD {K : PySem.W.Frag} {C : Addr} (vs : List V) (H : Hp) (Q : VK) (E : XK) (h : spNeedD C vs H Q E) : rdSs (rcx K [("is_deed", spIsDeed)] [] (et := [("BadDeed", C)]) (E := E)) b_need_deed (Dn Q) (start N_need_deed vs) H := by
  obtain ⟨v, b, rfl, hd, q⟩ := h
  refine r_ite (r_notT (r_callTS spIsDeed rfl (r_cons (r_v rfl (r_nil ⟨v, b, rfl, hd, fun H' s => tru_bl ?_⟩)))))
  have q' := q H' s
  cases b with
  | true => exact iF q'
  | false => exact iT ⟨(by show 1 ≤ sizeLine; decide), q'⟩
end L2.K42
set_option maxRecDepth 100000
set_option maxHeartbeats 4000000
namespace L2.K42
open PySem PySem.Spec L2.B
/-! ### quoted -/
def spQuoted : Sp := fun vs H Q E => ∃ x, vs = [.str x] ∧ x.length ≤ 100000 ∧ ∀ H', Same H H' → Q (.str (qtS x)) H'
theorem qt_eq {x z : Str} (h : sg z = esc (sg x)) : (("\"" : Str) ++ z) ++ ("\"" : Str) = qtS x := str_ext (by
  show sg _ = sg (qtS x)
  rw [sg_qtS]
  show ((Str.ofString "\"" ++ z) ++ Str.ofString "\"").cps.toList = _
  rw [app_list, app_list]
  have e : (Str.ofString "\"").cps.toList = [34] := rfl
  rw [e]
  show [34] ++ sg z ++ [34] = 34 :: esc (sg x) ++ [34]
  rw [h]; rfl)
theorem rd_quoted {K : PySem.W.Frag} (vs : List V) (H : Hp) (Q : VK) (E : XK) (h : spQuoted vs H Q E) : rdSs (rcx K [] [] (E := E)) b_quoted (Dn Q) (start N_quoted vs) H := by
  obtain ⟨x, rfl, hx, q⟩ := h
  have e1 : (Str.ofString "\\") = ⟨#[92]⟩ := rfl
  have e2 : (Str.ofString "\"") = ⟨#[34]⟩ := rfl
  have e3 : (Str.ofString "\n") = ⟨#[10]⟩ := rfl
  obtain ⟨z1, d1⟩ : ∃ z1, z1 = Txt.replace x "\\" "\\\\" := ⟨_, rfl⟩
  obtain ⟨z2, d2⟩ : ∃ z2, z2 = Txt.replace z1 "\"" "\\\"" := ⟨_, rfl⟩
  obtain ⟨z3, d3⟩ : ∃ z3, z3 = Txt.replace z2 "\n" "\\n" := ⟨_, rfl⟩
  have s1 : sg z1 = rep 92 [92, 92] (sg x) := by rw [d1]; exact replace_rep x "\\\\" 92
  have s2 : sg z2 = rep 34 [92, 34] (sg z1) := by rw [d2]; exact replace_rep z1 "\\\"" 34
  have s3 : sg z3 = rep 10 [92, 110] (sg z2) := by rw [d3]; exact replace_rep z2 "\\n" 10
  have l1 : z1.length ≤ 2 * x.length := by rw [len_list, len_list]; show (sg z1).length ≤ _; rw [s1]; exact rep_len _ _ (by decide) _
  have l2 : z2.length ≤ 2 * z1.length := by rw [len_list, len_list]; show (sg z2).length ≤ _; rw [s2]; exact rep_len _ _ (by decide) _
  have l3 : z3.length ≤ 2 * z2.length := by rw [len_list, len_list]; show (sg z3).length ≤ _; rw [s3]; exact rep_len _ _ (by decide) _
  have hz : sg z3 = esc (sg x) := by rw [s3, s2, s1]; exact rep3 _
  refine r_ret (r_bin (r_bin (r_c (r_repl (r_repl (r_repl (r_v rfl ⟨rfl, x, _, _, rfl, rfl, (by decide +kernel), by omega, by decide, ?_⟩)))))))
  rw [← d1]
  refine ⟨rfl, z1, _, _, rfl, rfl, (by decide +kernel), by omega, by decide, ?_⟩
  rw [← d2]
  refine ⟨rfl, z2, _, _, rfl, rfl, (by decide +kernel), by omega, by decide, ?_⟩
  rw [← d3]
  refine ⟨?_, r_c ⟨?_, ?_⟩⟩
  · show 1 + z3.length ≤ sizeLine
    exact le_line (by omega)
  · show (Str.ofString "\"" ++ z3).length + 1 ≤ sizeLine
    refine le_line ?_
    rw [len_list, app_list, List.length_append, ← len_list, ← len_list]
    show 1 + z3.length + 1 ≤ _
    omega
  · have := q H (Same.refl _)
    rw [← qt_eq hz] at this
    exact this
theorem r_ife {Γ : RCx} {σ : St} {H : Hp} {Q : VK} {t a b : RE} (h : rdT Γ t σ H fun c H1 => if c = true then rdE Γ a σ H1 Q else rdE Γ b σ H1 Q) : rdE Γ (.ife t a b) σ H Q := h
theorem r_ixT {Γ : RCx} {σ : St} {H : Hp} {QT : Bool → Hp → Prop} {a b : RE} (h : rdE Γ a σ H fun x H1 => rdE Γ b σ H1 fun y H2 => rIx2 Γ.K Γ.sd x y H2 fun z H3 => tru Γ.K z H3 fun c => QT c H3) : rdT Γ (.ix a b) σ H QT := h
theorem r_mono {Γ : RCx} {σ : St} {H : Hp} {x : RE} (A B : VK) (hab : ∀ v H1, A v H1 ↔ B v H1) (ha : rdE Γ x σ H A) : rdE Γ x σ H B := by
  have : A = B := funext fun x => funext fun H1 => propext (hab x H1)
  rw [← this]; exact ha
theorem r_slF {Γ : RCx} {σ : St} {H : Hp} {Q : VK} {x : RE} {n : Int} (h : rdE Γ x σ H fun v H1 => rSl Γ.K v (some n) none H1 Q) : rdE Γ (.sl x (some (.c (.int n))) none) σ H Q := by
  refine r_mono (x := x) _ _ (fun v H1 => ⟨fun h => ?_, fun h => ?_⟩) h
  · exact ⟨n, rfl, h⟩
  · obtain ⟨m, e, h⟩ := h
    cases e
    exact h
/-! ### words_of, shown -/
def num (n : Nat) : Str := Str.ofString (toString ((n : Nat) : Int))
def wl : Dd → List Str
  | .bare w => [w]
  | .word w x => [w, x]
  | .num w n => [w, num n]
  | .enter x => ["enter", qtS x]
  | .paste xs => "paste" :: xs.map qtS
  | .step x b => [if b then "hold" else "step", x]
  | .span b => ["span", if b then "grows" else "stays"]
def line (d : Dd) : Str := Txt.join " " (wl d)
def spWords : Sp := fun vs H Q E => ∃ a d, vs = [.ref a] ∧ DdAt H a d ∧ okD d ∧ ∀ p H', Same H H' → H' p = some (.lst ((wl d).map V.str)) → Q (.ref p) H'
theorem catL {K : PySem.W.Frag} {H : Hp} {Q : VK} {a b : Addr} {xs ys : List V} (ha : H a = some (.lst xs)) (hb : H b = some (.lst ys)) (hl : xs.length + ys.length ≤ 1000000) (q : ∀ p, H p = none → Q (.ref p) (upd H p (.lst (xs ++ ys)))) : rBin K .Add (.ref a) (.ref b) H Q :=
  .inl ⟨a, b, xs, ys, rfl, rfl, ha, hb, le_line hl, q⟩
theorem lt_num {n : Nat} (h : n ≤ 999999999) : ((n : Nat) : Int).natAbs < 10 ^ 10 := by
  have e : (10 : Nat) ^ 10 = 10000000000 := by decide
  rw [e]; omega
section
variable {K : PySem.W.Frag} {Q : VK} {E : XK} {a : Addr} {H : Hp}
/-- [word] + [str(part) for part in deed[1:]] -/
theorem words_rest (w : Str) (vs : List V) (xs : List Str) (ha : H a = some (.tup (.str w :: vs))) (hc : cutV (.str w :: vs) (some 1) none = vs) (hs : ¬ (HT.sIx (V.str w :: vs).length 0 (some 1) = 0 ∧ HT.sIx (V.str w :: vs).length (V.str w :: vs).length none = (V.str w :: vs).length)) (hl : vs.length = xs.length) (h1 : vs.length ≤ 1)
    (hv : ∀ (i : Nat) (v : V) (x : Str), vs[i]? = some v → xs[i]? = some x → ∀ (H2 : Hp) (Q2 : VK), Q2 (.str x) H2 → rStrV [v] H2 Q2)
    (n1 : (w == "enter") = false) (n2 : (w == "paste") = false) (n3 : (w == "step") = false) (n4 : (w == "span") = false) (q : ∀ p H', Same H H' → H' p = some (.lst ((w :: xs).map V.str)) → Q (.ref p) H') :
    rdSs (rcx K [("quoted", spQuoted)] [] (E := E)) b_words_of (Dn Q) (start N_words_of [.ref a]) H := by
  refine r_asg (r_ix (r_v rfl (r_c (ixt ha at0 ?_))))
  refine sk_eq rfl n1 (sk_eq rfl n2 (sk_eq rfl n3 (sk_eq rfl n4 (r_ret (r_bin (r_lst (r_cons (r_v rfl (r_nil ⟨le1, fun p hp => ?_⟩)))))))))
  have ha' := sameNew (o := .lst [.str w]) hp _ _ ha
  refine r_compT (r_slF (r_v rfl (.inr ⟨_, SqT.of ha', hs, fun t ht => ?_⟩)))
  rw [hc]
  refine ⟨t, vs, rfl, SqT.of upd_same, comp_t upd_same (by omega) (fun i ys _ => ys = (xs.take i).map V.str) (by simp) ?_ ?_⟩
  · intro i x ys H2 hi s e Q' k
    have hi' : i < xs.length := by rw [← hl]; exact (List.getElem?_eq_some_iff.mp hi).1
    refine r_str (r_v rfl (hv i x xs[i] hi (by simp [hi']) _ _ (k _ _ (Same.refl _) ?_)))
    rw [e, List.take_succ_eq_append_getElem hi', List.map_append]; rfl
  · intro ys H2 c s e hn
    have s2 : Same (upd H p (.lst [.str w])) H2 := (sameNew ht).trans s
    have hp2 : H2 p = some (.lst [.str w]) := s2 _ _ upd_same
    have hp3 : upd H2 c (.lst ys) p = some (.lst [.str w]) := sameNew (o := .lst ys) hn _ _ hp2
    refine catL hp3 upd_same (by rw [e]; simp; omega) fun r hr => ?_
    refine q r _ (((sameNew hp).trans s2).trans ((sameNew hn).trans (sameNew hr))) ?_
    rw [upd_same, e, hl, List.take_length]; rfl
end
theorem rd_words {K : PySem.W.Frag} (vs : List V) (H : Hp) (Q : VK) (E : XK) (h : spWords vs H Q E) : rdSs (rcx K [("quoted", spQuoted)] [] (E := E)) b_words_of (Dn Q) (start N_words_of vs) H := by
  obtain ⟨a, d, rfl, ha, hd, q⟩ := h
  have hs2 : ∀ x y : V, ¬ (HT.sIx [x, y].length 0 (some 1) = 0 ∧ HT.sIx [x, y].length [x, y].length none = [x, y].length) := fun x y z => absurd z.1 (by show ¬ HT.sIx 2 0 (some 1) = 0; decide)
  have hs1 : ∀ x : V, ¬ (HT.sIx [x].length 0 (some 1) = 0 ∧ HT.sIx [x].length [x].length none = [x].length) := fun x z => absurd z.1 (by show ¬ HT.sIx 1 0 (some 1) = 0; decide)
  cases d with
  | bare w =>
    have n : (w == "enter") = false ∧ (w == "paste") = false ∧ (w == "step") = false ∧ (w == "span") = false := by
      rcases hd with rfl | rfl | rfl <;> exact ⟨(by decide +kernel), (by decide +kernel), (by decide +kernel), (by decide +kernel)⟩
    exact words_rest w [] [] ha rfl (hs1 _) rfl (Nat.zero_le _) (fun i v x h => by simp at h) n.1 n.2.1 n.2.2.1 n.2.2.2 q
  | word w x =>
    have n : (w == "enter") = false ∧ (w == "paste") = false ∧ (w == "step") = false ∧ (w == "span") = false := by
      rcases hd with ⟨rfl, _⟩ | ⟨rfl, _⟩ <;> exact ⟨(by decide +kernel), (by decide +kernel), (by decide +kernel), (by decide +kernel)⟩
    refine words_rest w [.str x] [x] ha rfl (hs2 _ _) rfl (Nat.le_refl _) (fun i v y h h2 H2 Q2 q2 => ?_) n.1 n.2.1 n.2.2.1 n.2.2.2 q
    cases i with
    | zero => cases h; cases h2; exact .inr ⟨x, rfl, q2⟩
    | succ i => simp at h
  | num w n =>
    have m : (w == "enter") = false ∧ (w == "paste") = false ∧ (w == "step") = false ∧ (w == "span") = false := by
      rcases hd.1 with rfl | rfl <;> exact ⟨(by decide +kernel), (by decide +kernel), (by decide +kernel), (by decide +kernel)⟩
    refine words_rest w [.int n] [num n] ha rfl (hs2 _ _) rfl (Nat.le_refl _) (fun i v y h h2 H2 Q2 q2 => ?_) m.1 m.2.1 m.2.2.1 m.2.2.2 q
    cases i with
    | zero => cases h; cases h2; exact .inl ⟨_, rfl, lt_num hd.2, q2⟩
    | succ i => simp at h
  | enter x =>
    refine r_asg (r_ix (r_v rfl (r_c (ixt ha rfl ?_))))
    refine tk_eq rfl (by decide +kernel) (r_ret (r_lst (r_cons (r_v rfl (r_cons (r_callS spQuoted rfl (r_cons (r_ix (r_v rfl (r_c (ixt ha rfl (r_nil ⟨x, rfl, by have := hd.2; omega, fun H' s => ?_⟩))))))))))))
    exact r_nil ⟨le2, fun p hp => q p _ (s.trans (sameNew hp)) upd_same⟩
  | paste xs =>
    obtain ⟨t, ha, ht⟩ := ha
    refine r_asg (r_ix (r_v rfl (r_c (ixt ha rfl ?_))))
    refine sk_eq rfl (by decide +kernel) (tk_eq rfl (by decide +kernel) (r_ret (r_bin (r_lst (r_cons (r_v rfl (r_nil ⟨le1, fun p hp => ?_⟩)))))))
    have ha' := sameNew (o := .lst [.str "paste"]) hp _ _ ha
    have ht' := sameNew (o := .lst [.str "paste"]) hp _ _ ht
    refine r_compT (r_ix (r_v rfl (r_c (ixt ha' rfl ⟨t, _, rfl, SqT.of ht', comp_t ht' (by have := hd.2.1; simp; omega) (fun i ys _ => ys = ((xs.take i).map qtS).map V.str) (by simp) ?_ ?_⟩))))
    · intro i v ys H2 hi s e Q' k
      obtain ⟨x, hx, rfl⟩ := get_str hi
      have hi' : i < xs.length := (List.getElem?_eq_some_iff.mp hx).1
      have hl := (hd.2.2 x (List.mem_of_getElem? hx)).2
      refine r_callS spQuoted rfl (r_cons (r_v rfl (r_nil ⟨x, rfl, by omega, fun H' s' => k _ _ s' ?_⟩)))
      rw [e, List.take_succ_eq_append_getElem hi', (List.getElem?_eq_some_iff.mp hx).2, List.map_append, List.map_append]; rfl
    · intro ys H2 c s e hn
      have hp3 : upd H2 c (.lst ys) p = some (.lst [.str "paste"]) := sameNew (o := .lst ys) hn _ _ (s _ _ upd_same)
      have hl := hd.2.1
      rw [List.length_map, List.take_length] at e
      refine catL hp3 upd_same (by rw [e]; simp; omega) fun r hr => ?_
      refine q r _ (((sameNew hp).trans s).trans ((sameNew hn).trans (sameNew hr))) ?_
      rw [upd_same, e]; rfl
  | step x b =>
    refine r_asg (r_ix (r_v rfl (r_c (ixt ha rfl ?_))))
    refine sk_eq rfl (by decide +kernel) (sk_eq rfl (by decide +kernel) (tk_eq rfl (by decide +kernel) (r_ret (r_lst (r_cons (r_ife (r_ixT (r_v rfl (r_c (ixt ha rfl (tru_bl ?_)))))))))))
    cases b with
    | true => exact iT (r_c (r_cons (r_ix (r_v rfl (r_c (ixt ha rfl (r_nil ⟨le2, fun p hp => q p _ (sameNew hp) upd_same⟩)))))))
    | false => exact iF (r_c (r_cons (r_ix (r_v rfl (r_c (ixt ha rfl (r_nil ⟨le2, fun p hp => q p _ (sameNew hp) upd_same⟩)))))))
  | span b =>
    refine r_asg (r_ix (r_v rfl (r_c (ixt ha rfl ?_))))
    refine sk_eq rfl (by decide +kernel) (sk_eq rfl (by decide +kernel) (sk_eq rfl (by decide +kernel) (tk_eq rfl (by decide +kernel) (r_ret (r_lst (r_cons (r_v rfl (r_cons (r_ife (r_ixT (r_v rfl (r_c (ixt ha rfl (tru_bl ?_))))))))))))))
    cases b with
    | true => exact iT (r_c (r_nil ⟨le2, fun p hp => q p _ (sameNew hp) upd_same⟩))
    | false => exact iF (r_c (r_nil ⟨le2, fun p hp => q p _ (sameNew hp) upd_same⟩))
theorem line_len {d : Dd} (hd : okD d) : sz (wl d) + (wl d).length ≤ 1000000 := by
  have q2 : ∀ x : Str, x.length ≤ 1000 → (qtS x).length ≤ 2002 := fun x h => by have := qtS_len x; omega
  cases d with
  | bare w => rcases hd with rfl | rfl | rfl <;> decide +kernel
  | word w x =>
    have hx : x.length ≤ 10 := by
      rcases hd with ⟨_, h⟩ | ⟨_, h⟩
      · exact (show ∀ y ∈ eW, y.length ≤ 10 by decide +kernel) x h
      · exact (show ∀ y ∈ mW, y.length ≤ 10 by decide +kernel) x h
    have hw : w.length ≤ 10 := by rcases hd with ⟨rfl, _⟩ | ⟨rfl, _⟩ <;> decide +kernel
    show w.length + (x.length + 0) + 2 ≤ _
    omega
  | num w n =>
    have hw : w.length ≤ 10 := by rcases hd.1 with rfl | rfl <;> decide +kernel
    have hn : (num n).length ≤ 10 := PySem.W.KT.len_num (by omega) (by have := hd.2; omega)
    show w.length + ((num n).length + 0) + 2 ≤ _
    omega
  | enter x =>
    have := q2 x hd.2
    show (Str.ofString "enter").length + ((qtS x).length + 0) + 2 ≤ _
    have e : (Str.ofString "enter").length = 5 := rfl
    omega
  | paste xs =>
    have go : ∀ l : List Str, (∀ x ∈ l, x.length ≤ 1000) → sz (l.map qtS) ≤ 2002 * l.length := by
      intro l h
      induction l with
      | nil => exact Nat.le_refl _
      | cons x r ih =>
        have h1 := q2 x (h x List.mem_cons_self)
        have h2 := ih fun y hy => h y (List.mem_cons_of_mem _ hy)
        show (qtS x).length + sz (r.map qtS) ≤ 2002 * (r.length + 1)
        omega
    have g := go xs fun x hx => (hd.2.2 x hx).2
    have hl := hd.2.1
    show (Str.ofString "paste").length + sz (xs.map qtS) + ((xs.map qtS).length + 1) ≤ _
    have e : (Str.ofString "paste").length = 5 := rfl
    rw [List.length_map]
    omega
  | step x b =>
    have hx : x.length ≤ 10 := (show ∀ y ∈ sW, y.length ≤ 10 by decide +kernel) x hd
    cases b with
    | true => show (Str.ofString "hold").length + (x.length + 0) + 2 ≤ _; have e : (Str.ofString "hold").length = 4 := rfl; omega
    | false => show (Str.ofString "step").length + (x.length + 0) + 2 ≤ _; have e : (Str.ofString "step").length = 4 := rfl; omega
  | span b => cases b <;> decide +kernel
def spShown (C : Addr) : Sp := fun vs H Q E => ∃ v, vs = [v] ∧ ((∃ a d, v = .ref a ∧ DdAt H a d ∧ okD d ∧ ∀ H', Same H H' → Q (.str (line d)) H') ∨ (NoDeed v H ∧ ∀ H', Same H H' → E (.ref C) none H'))
theorem rd_shown {K : PySem.W.Frag} {C : Addr} (vs : List V) (H : Hp) (Q : VK) (E : XK) (h : spShown C vs H Q E) : rdSs (rcx K [("need_deed", spNeedD C), ("words_of", spWords)] [] (E := E)) b_shown (Dn Q) (start N_shown vs) H := by
  obtain ⟨v, rfl, ⟨a, d, rfl, ha, hd, q⟩ | ⟨hn, q⟩⟩ := h
  · refine r_drop (r_callS (spNeedD C) rfl (r_cons (r_v rfl (r_nil ⟨_, true, rfl, .inl ⟨rfl, a, d, rfl, ha, hd⟩, fun H1 s1 => iT ?_⟩))))
    refine r_ret (r_mth1 (r_c ⟨rfl, r_callS spWords rfl (r_cons (r_v rfl (r_nil ⟨a, d, rfl, ha.same s1, hd, fun p H2 s2 hp => ?_⟩)))⟩))
    exact ⟨wl d, SqL.of hp, joinOk_bl (line_len hd), q _ (s1.trans s2)⟩
  · exact r_drop (r_callS (spNeedD C) rfl (r_cons (r_v rfl (r_nil ⟨_, false, rfl, .inr ⟨rfl, hn⟩, fun H1 s1 => iF (q _ s1)⟩))))
end L2.K42
set_option maxRecDepth 100000
set_option maxHeartbeats 4000000
namespace L2.K42
open PySem PySem.Spec L2.B
/-! ### texts_of -/
def one (c : Nat) : V := .str ⟨#[c]⟩
def tx (l : List Nat) : V := .str (mk l)
theorem one_eq (c k : Nat) : ((⟨#[c]⟩ : Str) == ⟨#[k]⟩) = decide (c = k) := by
  by_cases h : c = k
  · subst h; simp
  · rw [decide_eq_false h]
    apply beq_eq_false_iff_ne.mpr
    intro e
    injection e with e
    have := congrArg Array.toList e
    simp at this
    exact h this
theorem cat_one (l : List Nat) : cat (l.map fun c => (⟨#[c]⟩ : Str)) = mk l := str_ext (by
  rw [cat_list]
  show _ = sg (mk l)
  rw [sg_mk]
  induction l with
  | nil => rfl
  | cons c r ih => rw [List.map_cons, List.map_cons, List.flatten_cons, ih]; rfl)
theorem sz_one : ∀ l : List Nat, sz (l.map fun c => (⟨#[c]⟩ : Str)) = l.length
  | [] => rfl
  | c :: r => by
    show 1 + sz (r.map fun c => (⟨#[c]⟩ : Str)) = r.length + 1
    rw [sz_one r]; omega
def tex (x : Str) : List (List Nat) := ((sg x).foldl stp ⟨[], [], false, false⟩).ts
def spTextsOf : Sp := fun vs H Q E => ∃ x, vs = [.str x] ∧ x.length ≤ 100000 ∧ ∀ p H', Same H H' → H' p = some (.lst ((tex x).map tx)) → Q (.ref p) H'
theorem stp_sz (t : Tx) (c : Nat) : (stp t c).sg.length ≤ t.sg.length + 1 ∧ (stp t c).ts.length ≤ t.ts.length + 1 := by
  unfold stp
  split
  · exact ⟨by simp, by simp⟩
  · split
    · exact ⟨by simp, by simp⟩
    · split
      · exact ⟨by simp, by simp⟩
      · refine ⟨by simp, ?_⟩
        show (if t.ins = true then t.ts ++ [t.sg] else t.ts).length ≤ _
        split <;> simp
theorem tyL {K : PySem.W.Frag} {H : Hp} {b : Addr} {xs : List V} (hb : H b = some (.lst xs)) : tyV K "list" (.ref b) H := .inl ⟨rfl, xs, SqL.of hb⟩
theorem r_appd {Γ : RCx} {σ : St} {H : Hp} {Q : VK} {i : Nat} {e : RE} {b : Addr} {xs : List V} {y : V} (hi : σ[i]? = some (some (.ref b))) (hb : H b = some (.lst xs)) (hl : xs.length ≤ 200000) (h : ∀ Q' : VK, Q' y H → rdE Γ e σ H Q') (q : Q .non (upd H b (.lst (xs ++ [y])))) : rdE Γ (.mth .append (.v i) [e]) σ H Q :=
  r_mth1 (r_v hi ⟨tyL hb, h _ ⟨xs, hb, lt_line (by omega), q⟩⟩)
theorem r_vT {Γ : RCx} {σ : St} {H : Hp} {QT : Bool → Hp → Prop} {i : Nat} {b : Bool} (hi : σ[i]? = some (some (.bl b))) (q : QT b H) : rdT Γ (.v i) σ H QT := ⟨_, hi, q⟩
theorem r_not {Γ : RCx} {σ : St} {H : Hp} {Q : VK} {a : RE} (h : rdE Γ a σ H fun x H1 => tru Γ.K x H1 fun b => Q (.bl (!b)) H1) : rdE Γ (.not a) σ H Q := h
def TxInv (H : Hp) (x : Str) (a : Addr) (i : Nat) (σ : St) (H2 : Hp) : Prop := ∃ (b : Addr) (u : Option V) (t : Tx), t = ((sg x).take i).foldl stp ⟨[], [], false, false⟩ ∧ σ = [some (.str x), some (.ref a), some (.ref b), some (.bl t.ins), some (.bl t.es), u] ∧
    Same H H2 ∧ H b = none ∧ b ≠ a ∧ H2 a = some (.lst (t.ts.map tx)) ∧ H2 b = some (.lst (t.sg.map one)) ∧ t.sg.length ≤ i ∧ t.ts.length ≤ i ∧ i ≤ x.length
theorem rd_textsOf {K : PySem.W.Frag} (vs : List V) (H : Hp) (Q : VK) (E : XK) (h : spTextsOf vs H Q E) : rdSs (rcx K [] [] (E := E)) b_texts_of (Dn Q) (start N_texts_of vs) H := by
  obtain ⟨x, rfl, hx, q⟩ := h
  refine r_asg (r_lst (r_nil ⟨Nat.zero_le _, fun a ha => r_asg (r_lst (r_nil ⟨Nat.zero_le _, fun b hb => r_asg (r_c (r_asg (r_c ?_)))⟩))⟩))
  have hb0 : H b = none := (sameNew ha).free hb
  have hab : b ≠ a := fun z => by rw [z, upd_same] at hb; cases hb
  refine ⟨_, rfl, x, rfl, for_txt (z := x) (TxInv H x a) ?_ ?_ ?_⟩
  · exact ⟨b, none, _, rfl, rfl, (sameNew ha).trans (sameNew hb), hb0, hab, by rw [upd_ne hab.symm, upd_same]; rfl, by rw [upd_same]; rfl, Nat.le_refl _, Nat.le_refl _, Nat.zero_le _⟩
  · rintro i c σ H2 hc ⟨b, u, t, et, rfl, s, hb0, hab, h1, h2, l1, l2, hi⟩
    have hlt : i < (sg x).length := (List.getElem?_eq_some_iff.mp hc).1
    have hlt' : i < x.length := by rw [len_list]; exact hlt
    have e : stp t c = ((sg x).take (i + 1)).foldl stp ⟨[], [], false, false⟩ := by
      rw [List.take_succ_eq_append_getElem hlt, (List.getElem?_eq_some_iff.mp hc).2, List.foldl_append, ← et]; rfl
    have sz := stp_sz t c
    have sb : ∀ o, Same H (upd H2 b o) := fun o d o' e' => by rw [upd_ne (ne_of_none e' hb0)]; exact s _ _ e'
    have sa : ∀ o, Same H (upd H2 a o) := fun o d o' e' => by rw [upd_ne (ne_of_none e' ha)]; exact s _ _ e'
    have k1 : t.sg.length ≤ 200000 := by omega
    have k2 : t.ts.length ≤ 200000 := by omega
    have g1 : (t.sg.map one).length ≤ 200000 := by rw [List.length_map]; exact k1
    have g2 : (t.ts.map tx).length ≤ 200000 := by rw [List.length_map]; exact k2
    obtain ⟨ts, sgs, ins, es⟩ := t
    show rdSs _ _ _ [some (.str x), some (.ref a), some (.ref b), some (.bl ins), some (.bl es), some (one c)] H2
    cases es with
    | true =>
      refine r_ite (r_vT rfl (iT ?_))
      have e1 : ((⟨#[c]⟩ : Str) == Str.ofString "n") = decide (c = 110) := one_eq c 110
      refine r_drop (r_appd (y := one (if c = 110 then 10 else c)) rfl h2 g1 (fun Q' q' => r_ife (r_cmpT (r_v rfl (r_c (ce_str ⟨_, rfl, ?_⟩))))) ?_)
      · rw [e1]
        by_cases h : c = 110
        · rw [if_pos h] at q'; exact iT (r_c q') (decide_eq_true h)
        · rw [if_neg h] at q'; exact iF (r_v rfl q') (decide_eq_false h)
      · refine r_asg (r_c ?_)
        have es : stp ⟨ts, sgs, ins, true⟩ c = ⟨ts, sgs ++ [if c = 110 then 10 else c], ins, false⟩ := rfl
        rw [es] at e sz
        exact ⟨b, _, _, e, rfl, sb _, hb0, hab, by rw [upd_ne hab.symm]; exact h1, by rw [upd_same, List.map_append]; rfl, by have := sz.1; omega, by have := sz.2; omega, by omega⟩
    | false =>
      refine r_ite (r_vT rfl (iF ?_))
      have e1 : ((⟨#[c]⟩ : Str) == Str.ofString "\\") = decide (c = 92) := one_eq c 92
      refine r_ite (r_cmpT (r_v rfl (r_c (ce_str ⟨_, rfl, ?_⟩))))
      rw [e1]
      by_cases h : c = 92
      · refine iT (r_asg (r_c ?_)) (decide_eq_true h)
        have es : stp ⟨ts, sgs, ins, false⟩ c = ⟨ts, sgs, ins, true⟩ := by simp [stp, h]
        rw [es] at e sz
        exact ⟨b, _, _, e, rfl, s, hb0, hab, h1, h2, by omega, by omega, by omega⟩
      · refine iF ?_ (decide_eq_false h)
        have e2 : ((⟨#[c]⟩ : Str) != Str.ofString "\"") = !decide (c = 34) := by rw [← one_eq c 34]; rfl
        refine r_ite (r_cmpT (r_v rfl (r_c (cn_str ⟨_, rfl, ?_⟩))))
        rw [e2]
        by_cases h3 : c = 34
        · refine iF ?_ (by rw [decide_eq_true h3]; rfl)
          have es : stp ⟨ts, sgs, ins, false⟩ c = ⟨if ins = true then ts ++ [sgs] else ts, [], !ins, false⟩ := by simp [stp, h3]
          rw [es] at e sz
          have fin : ∀ (D : Ends) (H3 : Hp), (∀ σ' H', TxInv H x a (i + 1) σ' H' → D.nx σ' H') → Same H H3 → H3 a = some (.lst ((if ins = true then ts ++ [sgs] else ts).map tx)) → rdSs (rcx K [] [] (E := E)) [.asg 2 (.lst []), .asg 3 (.not (.v 3))] D [some (.str x), some (.ref a), some (.ref b), some (.bl ins), some (.bl false), some (one c)] H3 := by
            intro D H3 hD s3 h3a
            refine r_asg (r_lst (r_nil ⟨Nat.zero_le _, fun d hd => r_asg (r_not (r_v rfl (tru_bl ?_)))⟩))
            have hda : d ≠ a := fun z => by rw [z, h3a] at hd; cases hd
            exact hD _ _ ⟨d, _, _, e, rfl, s3.trans (sameNew hd), s3.free hd, hda, by rw [upd_ne hda.symm]; exact h3a, by rw [upd_same]; rfl, by have := sz.1; omega, by have := sz.2; omega, by omega⟩
          refine r_ite (r_vT rfl ?_)
          cases ins with
          | false => exact iF (r_no (fin _ H2 (fun _ _ h => h) s h1))
          | true =>
            refine iT (r_drop (r_appd (y := tx sgs) rfl h1 g2 (fun Q' q' => r_mth1 (r_c ⟨rfl, r_v rfl ⟨sgs.map fun c => (⟨#[c]⟩ : Str), ?_, ?_, ?_⟩⟩)) ?_))
            · refine SqL.of ?_; rw [h2, List.map_map]; rfl
            · exact joinOk_of (by rw [sz_one]; exact Nat.le_trans k1 (by decide))
            · have := cat_one sgs
              show Q' (.str (cat _)) H2
              rw [this]; exact q'
            · exact fin _ _ (fun _ _ h => h) (sa _) (by rw [upd_same]; show some (HO.lst (ts.map tx ++ [tx sgs])) = some (HO.lst ((ts ++ [sgs]).map tx)); rw [List.map_append]; rfl)
        · refine iT ?_ (by rw [decide_eq_false h3]; rfl)
          have es : stp ⟨ts, sgs, ins, false⟩ c = ⟨ts, sgs ++ [c], ins, false⟩ := by simp [stp, h, h3]
          rw [es] at e sz
          refine r_drop (r_appd (y := one c) rfl h2 g1 (fun Q' q' => r_v rfl q') ?_)
          exact ⟨b, _, _, e, rfl, sb _, hb0, hab, by rw [upd_ne hab.symm]; exact h1, by rw [upd_same, List.map_append]; rfl, by have := sz.1; omega, by have := sz.2; omega, by omega⟩
  · rintro σ H2 ⟨b, u, t, et, rfl, s, hb0, hab, h1, h2, l1, l2, hi⟩
    refine r_ret (r_v rfl (q a H2 s ?_))
    rw [h1, et, len_list, List.take_length]; rfl
/-! ### number_of -/
theorem strip_all (x y : Str) (h : ∀ c ∈ x.cps.toList, y.cps.contains c = true) (h0 : 0 < x.length) : Txt.stripChars x y = "" := by
  have e0 : stripLo y.cps.contains true x = x.length := by
    unfold stripLo
    rw [if_pos rfl, takeWhile_all _ _ h, len_list]
  have e1 : stripHi y.cps.contains true x x.length = x.length := by
    unfold stripHi
    rw [if_pos rfl, len_list, List.drop_length]; rfl
  unfold Txt.stripChars Txt.stripBy stripSame stripped
  rw [e0, e1]
  have : (x.length == 0) = false := by simp; omega
  rw [this, Bool.false_and, if_neg Bool.false_ne_true]
  refine str_ext ?_
  show (x.cps.extract x.length x.length).toList = []
  simp
def FG : Str := "0123456789"
def spNum : Sp := fun vs H Q E => ∃ n : Nat, vs = [.str (num n)] ∧ n ≤ 999999999 ∧ Q (.int n) H
theorem num_digits (n : Nat) : ∀ c ∈ (num n).cps.toList, 48 ≤ c ∧ c ≤ 57 := by
  intro c hc
  unfold num at hc
  rw [PySem.W.KIN.signs_num] at hc
  obtain ⟨ch, hch, e⟩ := List.mem_map.mp hc
  have r := PyProof.Rows.digit_range (Nat.isDigit_of_mem_toDigits (by decide) (by decide) hch)
  rw [← e]
  exact r
theorem num_pos (n : Nat) : 0 < (num n).length := by
  rw [len_list]
  unfold num
  rw [PySem.W.KIN.signs_num, List.length_map]
  have := PySem.toDigits_len_ge 10 n
  omega
theorem num_le {n : Nat} (h : n ≤ 999999999) : (num n).length ≤ 9 := by
  have e : (10 : Int) ^ 9 = 1000000000 := by decide
  exact PyProof.Rows.toString_length_le (by omega) (by decide) (by rw [e]; omega)
theorem rd_num {K : PySem.W.Frag} (vs : List V) (H : Hp) (Q : VK) (E : XK) (h : spNum vs H Q E) : rdSs (rcx K [] [("MOST_FIGURES", .int 9), ("FIGURES", .str FG)] (E := E)) b_number_of (Dn Q) (start N_number_of vs) H := by
  obtain ⟨n, rfl, hn, q⟩ := h
  have h0 := num_pos n
  have h9 := num_le hn
  have hl : (num n).length ≤ sizeLine := le_line (by omega)
  refine r_ite (r_orC (r_cmpT (r_len (r_v rfl ⟨hl, r_c (ceI ⟨_, rfl, iF ?_ (decide_eq_false (by omega))⟩)⟩))))
  refine r_orC (r_cmpT (r_len (r_v rfl ⟨hl, r_g (gtI ⟨_, rfl, iF ?_ (decide_eq_false (by show ¬ (9 : Int) < _; omega))⟩)⟩)))
  refine r_or1 (r_cmpT (r_xm (T := xStrip) (rr := rStrip) rfl (r_v rfl ⟨rfl, r_g ⟨_, FG, rfl, rfl, hl, ?_⟩⟩)))
  rw [strip_all (num n) FG (fun c hc => ?_) h0]
  · refine r_c (cn_str ⟨_, rfl, iF (r_no (r_ret (r_intT (r_v rfl ⟨n, rfl, by omega, ?_, q⟩)))) (by decide)⟩)
    have e : (10 : Int) ^ 10 = 10000000000 := by decide
    rw [e]; omega
  · have := num_digits n c hc
    have all : ∀ k, k < 58 → 48 ≤ k → FG.cps.contains k = true := by decide +kernel
    exact all c (by omega) this.1
/-! ### guess, read -/
theorem sg_line (d : Dd) : sg (line d) = sep ((wl d).map sg) := join_sep _
theorem tex_paste (xs : List Str) (h : xs ≠ []) : (tex (mk (sep ((xs.map qtS).map sg)))).map tx = xs.map V.str := by
  unfold tex
  rw [sg_mk]
  have e : (xs.map qtS).map sg = (xs.map sg).map qt := by rw [List.map_map, List.map_map]; exact List.map_congr_left fun x _ => sg_qtS x
  rw [e, stp_sep _ _ _ (by simpa using h), List.nil_append, List.map_map]
  exact List.map_congr_left fun x _ => by show V.str (mk (sg x)) = _; rw [mk_sg]
def spGuess : Sp := fun vs H Q E => ∃ d, vs = [.str (line d)] ∧ okD d ∧ ∀ a H', Same H H' → DdAt H' a d → Q (.ref a) H'
abbrev tGuess : List (Str × Sp) := [("texts_of", spTextsOf), ("number_of", spNum)]
theorem r_part {Γ : RCx} {σ : St} {H : Hp} {Q : VK} {x : RE} (h : rdE Γ x σ H fun v H1 => tyV Γ.K "str" v H1 ∧ rPart v [.str " "] H1 Q) : rdE Γ (.xm xPart x [(.c (.str " "))]) σ H Q := h
theorem line_fits {d : Dd} (hd : okD d) : (line d).length ≤ 1000000 := by
  have h1 := line_len hd
  have h2 := sep_len ((wl d).map sg)
  rw [len_list]
  show (sg (line d)).length ≤ _
  rw [sg_line]
  have e : (((wl d).map sg).map List.length).sum = sz (wl d) := by
    unfold B.sz
    rw [List.map_map]
    congr 1
  rw [e, List.length_map] at h2
  omega
section
variable {K : PySem.W.Frag} {Q : VK} {E : XK} {H : Hp}
/-- the line parted -/
theorem guess_in {z w r : Str} (hz : z.length ≤ 1000000) (hp : partV z " " = [.str w, .str " ", .str r] ∨ (partV z " " = [.str w, .str Str.empty, .str Str.empty] ∧ r = Str.empty)) (h : ∀ (p : Addr) (H' : Hp), Same H H' → rdSs (rcx K tGuess [] (E := E)) (b_guess.drop 3) (Dn Q) [some (.str z), some (.ref p), some (.str w), some (.str r)] H') :
    rdSs (rcx K tGuess [] (E := E)) b_guess (Dn Q) (start N_guess [.str z]) H := by
  refine r_asg (r_part (r_v rfl ⟨rfl, z, " ", rfl, rfl, (by decide +kernel), le_line hz, fun p hp' => ?_⟩))
  rcases hp with hp | ⟨hp, rfl⟩
  · rw [hp]
    exact r_asg (r_ix (r_v rfl (r_c (ixt upd_same rfl (r_asg (r_ix (r_v rfl (r_c (ixt upd_same rfl (h p _ (sameNew hp')))))))))))
  · rw [hp]
    exact r_asg (r_ix (r_v rfl (r_c (ixt upd_same rfl (r_asg (r_ix (r_v rfl (r_c (ixt upd_same rfl (h p _ (sameNew hp')))))))))))
end
theorem r_tuple {Γ : RCx} {σ : St} {H : Hp} {Q : VK} {x : RE} (h : rdE Γ x σ H fun v H1 => rBlt Γ.K .tuple [v] H1 Q) : rdE Γ (.blt .tuple [x]) σ H Q := h
theorem rd_guess {K : PySem.W.Frag} (vs : List V) (H : Hp) (Q : VK) (E : XK) (h : spGuess vs H Q E) : rdSs (rcx K tGuess [] (E := E)) b_guess (Dn Q) (start N_guess vs) H := by
  obtain ⟨d, rfl, hd, q⟩ := h
  have hz := line_fits hd
  have two : ∀ (w r : Str), sg (line d) = sg w ++ 32 :: sg r → 32 ∉ sg w → partV (line d) " " = [.str w, .str " ", .str r] := fun w r h1 h2 => part_first h1 h2
  cases d with
  | bare w =>
    have hw : 32 ∉ sg w := by rcases hd with rfl | rfl | rfl <;> decide +kernel
    have e : line (.bare w) = w := str_ext (sg_line (.bare w))
    refine guess_in (w := w) (r := Str.empty) hz (.inr ⟨by rw [e]; exact part_none hw, rfl⟩) fun p H1 s1 => ?_
    have n : (w == "enter") = false ∧ (w == "paste") = false ∧ inV (.str w) [.str "step", .str "hold"] = false ∧ inV (.str w) [.str "spread", .str "go"] = false ∧ (w == "span") = false ∧ inV (.str w) [.str "only", .str "undo", .str "redo"] = true := by
      rcases hd with rfl | rfl | rfl <;> exact ⟨(by decide +kernel), (by decide +kernel), (by decide +kernel), (by decide +kernel), (by decide +kernel), (by decide +kernel)⟩
    refine sk_eq rfl n.1 (sk_eq rfl n.2.1 (sk_in2 rfl n.2.2.1 fun H2 s2 => sk_in2 rfl n.2.2.2.1 fun H3 s3 => sk_eq rfl n.2.2.2.2.1 (tk_in3 rfl n.2.2.2.2.2 fun H4 s4 => ?_)))
    exact r_ret (r_tup (r_cons (r_v rfl (r_nil ⟨le1, fun a ha => q a _ (s1.trans (s2.trans (s3.trans (s4.trans (sameNew ha))))) upd_same⟩))))
  | word w x =>
    have hw : 32 ∉ sg w := by rcases hd with ⟨rfl, _⟩ | ⟨rfl, _⟩ <;> decide +kernel
    refine guess_in (w := w) (r := x) hz (.inl (two w x (sg_line (.word w x)) hw)) fun p H1 s1 => ?_
    have n : (w == "enter") = false ∧ (w == "paste") = false ∧ inV (.str w) [.str "step", .str "hold"] = false ∧ inV (.str w) [.str "spread", .str "go"] = false ∧ (w == "span") = false ∧ inV (.str w) [.str "only", .str "undo", .str "redo"] = false := by
      rcases hd with ⟨rfl, _⟩ | ⟨rfl, _⟩ <;> exact ⟨(by decide +kernel), (by decide +kernel), (by decide +kernel), (by decide +kernel), (by decide +kernel), (by decide +kernel)⟩
    refine sk_eq rfl n.1 (sk_eq rfl n.2.1 (sk_in2 rfl n.2.2.1 fun H2 s2 => sk_in2 rfl n.2.2.2.1 fun H3 s3 => sk_eq rfl n.2.2.2.2.1 (sk_in3 rfl n.2.2.2.2.2 fun H4 s4 => ?_)))
    exact r_ret (r_tup (r_cons (r_v rfl (r_cons (r_v rfl (r_nil ⟨le2, fun a ha => q a _ (s1.trans (s2.trans (s3.trans (s4.trans (sameNew ha))))) upd_same⟩))))))
  | num w n =>
    have hw : 32 ∉ sg w := by rcases hd.1 with rfl | rfl <;> decide +kernel
    refine guess_in (w := w) (r := num n) hz (.inl (two w (num n) (sg_line (.num w n)) hw)) fun p H1 s1 => ?_
    have m : (w == "enter") = false ∧ (w == "paste") = false ∧ inV (.str w) [.str "step", .str "hold"] = false ∧ inV (.str w) [.str "spread", .str "go"] = true := by
      rcases hd.1 with rfl | rfl <;> exact ⟨(by decide +kernel), (by decide +kernel), (by decide +kernel), (by decide +kernel)⟩
    refine sk_eq rfl m.1 (sk_eq rfl m.2.1 (sk_in2 rfl m.2.2.1 fun H2 s2 => tk_in2 rfl m.2.2.2 fun H3 s3 => ?_))
    exact r_ret (r_tup (r_cons (r_v rfl (r_cons (r_callS spNum rfl (r_cons (r_v rfl (r_nil ⟨n, rfl, hd.2, r_nil ⟨le2, fun a ha => q a _ (s1.trans (s2.trans (s3.trans (sameNew ha)))) upd_same⟩⟩))))))))
  | enter x =>
    refine guess_in (w := "enter") (r := qtS x) hz (.inl (two "enter" (qtS x) (sg_line (.enter x)) (by decide +kernel))) fun p H1 s1 => ?_
    have ex := tex_paste [x] (by simp)
    have ex' : (tex (qtS x)).map tx = [.str x] := by
      have : mk (sep (([x].map qtS).map sg)) = qtS x := mk_sg _
      rw [this] at ex; exact ex
    have hl := qtS_len x
    refine tk_eq rfl (by decide +kernel) (r_ret (r_bin (r_tup (r_cons (r_v rfl (r_nil ⟨le1, fun a ha => ?_⟩))))))
    refine r_tuple (r_callS spTextsOf rfl (r_cons (r_v rfl (r_nil ⟨qtS x, rfl, by have := hd.2; omega, fun b H2 s2 hb => ?_⟩))))
    rw [ex'] at hb
    refine ⟨[.str x], .inl ⟨SqL.of hb, fun c hc => ?_⟩⟩
    have ha2 : upd H2 c (.tup [.str x]) a = some (.tup [.str "enter"]) := sameNew (o := .tup [.str x]) hc _ _ (s2 _ _ upd_same)
    refine .inr ⟨a, c, [.str "enter"], [.str x], rfl, rfl, SqT.of ha2, SqT.of upd_same, by simp, (by show 2 ≤ sizeLine; decide), fun z => (by cases z), fun _ r hr => ?_⟩
    exact q r _ (s1.trans ((sameNew ha).trans (s2.trans ((sameNew hc).trans (sameNew hr))))) upd_same
  | paste xs =>
    have hne : xs ≠ [] := fun z => by rw [z] at hd; exact absurd hd.1 (by decide)
    have esep : sg (line (.paste xs)) = sg (Str.ofString "paste") ++ 32 :: sg (mk (sep ((xs.map qtS).map sg))) := by
      rw [sg_line, sg_mk]
      cases xs with
      | nil => exact absurd rfl hne
      | cons x r => rfl
    refine guess_in (w := "paste") (r := mk (sep ((xs.map qtS).map sg))) hz (.inl (two _ _ esep (by decide +kernel))) fun p H1 s1 => ?_
    have ex := tex_paste xs hne
    have hl : (mk (sep ((xs.map qtS).map sg))).length ≤ 100000 := by
      have go : ∀ l : List Str, (∀ x ∈ l, x.length ≤ 1000) → (((l.map qtS).map sg).map List.length).sum ≤ 2002 * l.length := by
        intro l h
        induction l with
        | nil => exact Nat.le_refl _
        | cons x r ih =>
          have h1 := h x List.mem_cons_self
          have h2 := ih fun y hy => h y (List.mem_cons_of_mem _ hy)
          have h3 := qtS_len x
          rw [len_list (qtS x)] at h3
          show (sg (qtS x)).length + (((r.map qtS).map sg).map List.length).sum ≤ 2002 * (r.length + 1)
          have h3' : (sg (qtS x)).length ≤ 2 * x.length + 2 := h3
          omega
      have g := go xs fun x hx => (hd.2.2 x hx).2
      have g2 := sep_len ((xs.map qtS).map sg)
      have h40 := hd.2.1
      rw [len_list]
      show (sg (mk _)).length ≤ _
      rw [sg_mk]
      simp only [List.length_map] at g2
      omega
    refine sk_eq rfl (by decide +kernel) (tk_eq rfl (by decide +kernel) (r_ret (r_tup (r_cons (r_v rfl (r_cons (r_tuple (r_callS spTextsOf rfl (r_cons (r_v rfl (r_nil ⟨_, rfl, hl, fun b H2 s2 hb => ?_⟩)))))))))))
    rw [ex] at hb
    refine ⟨_, .inl ⟨SqL.of hb, fun c hc => r_nil ⟨le2, fun r hr => ?_⟩⟩⟩
    exact q r _ (s1.trans (s2.trans ((sameNew hc).trans (sameNew hr)))) ⟨c, upd_same, sameNew hr _ _ upd_same⟩
  | step x b =>
    have fin : ∀ w : Str, 32 ∉ sg w → inV (.str w) [.str "step", .str "hold"] = true → (w == "enter") = false → (w == "paste") = false → (w == "hold") = b → sg (line (.step x b)) = sg w ++ 32 :: sg x →
        rdSs (rcx K tGuess [] (E := E)) b_guess (Dn Q) (start N_guess [.str (line (.step x b))]) H := by
      intro w hw h1 h2 h3 h4 h5
      refine guess_in (w := w) (r := x) hz (.inl (two w x h5 hw)) fun p H1 s1 => ?_
      refine sk_eq rfl h2 (sk_eq rfl h3 (tk_in2 rfl h1 fun H2 s2 => ?_))
      refine r_ret (r_tup (r_cons (r_c (r_cons (r_v rfl (r_cons (r_cmp (r_v rfl (r_c (ce_str ?_))))))))))
      rw [h4]
      exact r_nil ⟨le3, fun a ha => q a _ (s1.trans (s2.trans (sameNew ha))) upd_same⟩
    cases b with
    | true => exact fin "hold" (by decide +kernel) (by decide +kernel) (by decide +kernel) (by decide +kernel) (by decide +kernel) (sg_line (.step x true))
    | false => exact fin "step" (by decide +kernel) (by decide +kernel) (by decide +kernel) (by decide +kernel) (by decide +kernel) (sg_line (.step x false))
  | span b =>
    have fin : ∀ r : Str, (r == "grows") = b → sg (line (.span b)) = sg (Str.ofString "span") ++ 32 :: sg r → rdSs (rcx K tGuess [] (E := E)) b_guess (Dn Q) (start N_guess [.str (line (.span b))]) H := by
      intro r h1 h2
      refine guess_in (w := "span") (r := r) hz (.inl (two _ r h2 (by decide +kernel))) fun p H1 s1 => ?_
      refine sk_eq rfl (by decide +kernel) (sk_eq rfl (by decide +kernel) (sk_in2 rfl (by decide +kernel) fun H2 s2 => sk_in2 rfl (by decide +kernel) fun H3 s3 => tk_eq rfl (by decide +kernel) ?_))
      refine r_ret (r_tup (r_cons (r_v rfl (r_cons (r_cmp (r_v rfl (r_c (ce_str ?_))))))))
      rw [h1]
      exact r_nil ⟨le2, fun a ha => q a _ (s1.trans (s2.trans (s3.trans (sameNew ha)))) upd_same⟩
    cases b with
    | true => exact fin "grows" (by decide +kernel) (sg_line (.span true))
    | false => exact fin "stays" (by decide +kernel) (sg_line (.span false))
def spRead : Sp := fun vs H Q E => ∃ d, vs = [.str (line d)] ∧ okD d ∧ ∀ a H', Same H H' → DdAt H' a d → Q (.ref a) H'
theorem rd_read {K : PySem.W.Frag} {C N : Addr} (vs : List V) (H : Hp) (Q : VK) (E : XK) (h : spRead vs H Q E) : rdSs (rcx K [("guess", spGuess), ("is_deed", spIsDeed), ("shown", spShown C)] [] (et := [("NoNote", N)]) (E := E)) b_read (Dn Q) (start N_read vs) H := by
  obtain ⟨d, rfl, hd, q⟩ := h
  refine r_ite (r_notT (r_isiT (r_v rfl (isi_st (iF (r_no ?_))))))
  refine r_asg (r_callS spGuess rfl (r_cons (r_v rfl (r_nil ⟨d, rfl, hd, fun a H1 s1 ha => ?_⟩))))
  refine r_ite (r_orC (r_notT (r_callTS spIsDeed rfl (r_cons (r_v rfl (r_nil ⟨_, true, rfl, .inl ⟨rfl, a, d, rfl, ha, hd⟩, fun H2 s2 => tru_bl (iF ?_)⟩))))))
  refine r_or1 (r_cmpT (r_callS (spShown C) rfl (r_cons (r_v rfl (r_nil ⟨_, rfl, .inl ⟨a, d, rfl, ha.same s2, hd, fun H3 s3 => r_v rfl (cnS ⟨_, rfl, iF (r_no ?_)⟩)⟩⟩)))))
  exact r_ret (r_v rfl (q a _ (s1.trans (s2.trans s3)) (ha.same (s2.trans s3))))
end L2.K42
set_option maxRecDepth 100000
set_option maxHeartbeats 4000000
namespace L2.K42
open PySem PySem.Spec L2.B
/-! ### _law_alike -/
def Alk (H : Hp) : Nat → V → V → Prop
  | 0, _, _ => False
  | n + 1, v, w => (∃ b, v = .bl b ∧ w = .bl b) ∨ (∃ x, v = .str x ∧ w = .str x) ∨ (∃ i, v = .int i ∧ w = .int i) ∨ ∃ a b xs ys, v = .ref a ∧ w = .ref b ∧ H a = some (.tup xs) ∧ H b = some (.tup ys) ∧ xs.length ≤ 1000 ∧ ys.length = xs.length ∧ ∀ (i : Nat) (x y : V), xs[i]? = some x → ys[i]? = some y → Alk H n x y
theorem Alk.same {H H' : Hp} (s : Same H H') : ∀ (n : Nat) {v w : V}, Alk H n v w → Alk H' n v w
  | 0, _, _, h => h
  | n + 1, v, w, h => by
    rcases h with h | h | h | ⟨a, b, xs, ys, e1, e2, h1, h2, h3, h4, h5⟩
    · exact .inl h
    · exact .inr (.inl h)
    · exact .inr (.inr (.inl h))
    · exact .inr (.inr (.inr ⟨a, b, xs, ys, e1, e2, s _ _ h1, s _ _ h2, h3, h4, fun i x y p q => Alk.same s n (h5 i x y p q)⟩))
def spAl (n : Nat) : Sp := fun vs H Q E => ∃ v w, vs = [v, w] ∧ Alk H n v w ∧ ∀ H', Same H H' → Q (.bl true) H'
theorem no_al (vs : List V) (H : Hp) (Q : VK) (E : XK) : ¬ spAl 0 vs H Q E := by
  rintro ⟨v, w, _, h, _⟩
  exact h
theorem r_compZ {Γ : RCx} {σ : St} {H : Hp} {Q : VK} {i j : Nat} {a b : Addr} {xs ys : List V} {elt : RE} (hi : σ[i]? = some (some (.ref a))) (hj : σ[j]? = some (some (.ref b))) (ha : H a = some (.tup xs)) (hb : H b = some (.tup ys)) (h : ∃ W : Nat → Nat → List V → Hp → Prop, (∃ m, W 0 m [] H) ∧ ∀ i m ys H2, W i m ys H2 →
      ((Itzt Γ.K a b).stop i H2 ∧ ∀ p, H2 p = none → Q (.ref p) (upd H2 p (.lst ys))) ∨
      ((Itzt Γ.K a b).go i H2 ∧ ∀ x H3, (Itzt Γ.K a b).yld i H2 x H3 → tgtK Γ.K (some 2) x H3 fun zs => tCond none (zs.map some ++ fvals σ []) H3 fun b H5 =>
        if b = true then rdE Γ.calm elt (zs.map some ++ fvals σ []) H5 fun y H6 => ys.length < sizeLine ∧ ∃ m', m' < m ∧ W (i + 1) m' (ys ++ [y]) H6 else ∃ m', m' < m ∧ W (i + 1) m' ys H5)) : rdE Γ (.comp (some 2) [] .zipT [(.v i), (.v j)] none elt) σ H Q :=
  ⟨_, hi, _, hj, a, b, rfl, ⟨_, SqT.of ha⟩, ⟨_, SqT.of hb⟩, h⟩
theorem rd_al {K : PySem.W.Frag} (n : Nat) (vs : List V) (H : Hp) (Q : VK) (E : XK) (h : spAl (n + 1) vs H Q E) : rdSs (rcx K [("_law_alike", spAl n), ("_law_whole", spWhole)] [] (E := E)) b_alikeL (Dn Q) (start N_alikeL vs) H := by
  obtain ⟨v, w, rfl, h, q⟩ := h
  rcases h with ⟨b, rfl, rfl⟩ | ⟨x, rfl, rfl⟩ | ⟨i, rfl, rfl⟩ | ⟨a, b, xs, ys, rfl, rfl, h1, h2, h3, h4, h5⟩
  · refine r_ite (r_isiT (r_v rfl (isi_bo (iF (r_no (r_ite (r_isiT (r_v rfl (isi_bo (iT ?_))))))))))
    refine r_ret (r_and2 ⟨_, rfl, rfl, _, rfl, iteT (r_cmp (r_v rfl (r_v rfl ?_)))⟩)
    show Q (.bl (false ^^ decide (V.bl b = V.bl b))) H
    rw [decide_eq_true rfl]; exact q _ (Same.refl _)
  · refine r_ite (r_isiT (r_v rfl (isi_st (iF (r_no (r_ite (r_isiT (r_v rfl (isi_st (iF (r_no (r_ite (r_isiT (r_v rfl (isi_st (iT ?_))))))))))))))))
    refine r_ret (r_and2 ⟨_, rfl, rfl, _, rfl, iteT (r_cmp (r_v rfl (r_v rfl (ce_str ?_))))⟩)
    rw [show (x == x) = true by simp]; exact q _ (Same.refl _)
  · refine r_ite (r_isiT (r_v rfl (isi_in (iF (r_no (r_ite (r_isiT (r_v rfl (isi_in (iF (r_no (r_ite (r_isiT (r_v rfl (isi_in (iF (r_no ?_)))))))))))))))))
    refine r_ret (r_and2 (r_callS spWhole rfl (r_cons (r_v rfl (r_nil ⟨i, rfl, _, rfl, iteT (r_cmp (r_v rfl (r_v rfl (ceI ?_))))⟩)))))
    rw [decide_eq_true rfl]; exact q _ (Same.refl _)
  · refine r_ite (r_isiT (r_v rfl (isi_tup h2 (iT ?_))))
    refine r_ite (r_orC (r_notT (r_isiT (r_v rfl (isi_tup h1 (iF ?_))))))
    refine r_or1 (r_cmpT (r_len (r_v rfl (lenT h1 (r_len (r_v rfl (lenT h2 (cnI ⟨_, rfl, iF (r_no ?_) ?_⟩))))))))
    · refine r_ret (r_all (r_compZ rfl rfl h1 h2 (comp_z h1 h2 h4 (by omega) (fun i ys _ => ys = List.replicate i (.bl true)) rfl ?_ (fun _ _ _ _ _ h => h) ?_)))
      · intro i x z us H2 hi hz s p Q' k
        refine r_callS (spAl n) rfl (r_cons (r_v rfl (r_cons (r_v rfl (r_nil ⟨x, z, rfl, (h5 i x z hi hz).same s, fun H' s' => k _ _ s' ?_⟩)))))
        rw [p, List.replicate_succ']
      · intro us H2 p s hp hn
        refine ⟨p, List.replicate xs.length true, rfl, SqL.of ?_, ?_⟩
        · rw [upd_same, hp]; simp
        · rw [show (List.replicate xs.length true).all id = true by simp]
          exact q _ (s.trans (sameNew hn))
    · rw [h4, decide_eq_true rfl]; rfl
theorem alk_deed {H : Hp} {a b : Addr} {d : Dd} (ha : DdAt H a d) (hb : DdAt H b d) (hd : okD d) : Alk H 3 (.ref a) (.ref b) := by
  have flat : ∀ (xs : List V) (n : Nat), (∀ v ∈ xs, (∃ b, v = .bl b) ∨ (∃ x, v = .str x) ∨ ∃ i, v = .int i) → ∀ (i : Nat) (x y : V), xs[i]? = some x → xs[i]? = some y → Alk H (n + 1) x y := by
    intro xs n h i x y hx hy
    rw [hx] at hy; cases hy
    rcases h x (List.mem_of_getElem? hx) with ⟨b, rfl⟩ | ⟨x, rfl⟩ | ⟨i, rfl⟩
    · exact .inl ⟨b, rfl, rfl⟩
    · exact .inr (.inl ⟨x, rfl, rfl⟩)
    · exact .inr (.inr (.inl ⟨i, rfl, rfl⟩))
  cases d with
  | paste xs =>
    obtain ⟨t, h1, h2⟩ := ha
    obtain ⟨u, g1, g2⟩ := hb
    refine .inr (.inr (.inr ⟨a, b, _, _, rfl, rfl, h1, g1, Nat.le_of_ble_eq_true rfl, rfl, fun i x y hx hy => ?_⟩))
    match i, hx, hy with
    | 0, hx, hy => cases hx; cases hy; exact .inr (.inl ⟨_, rfl, rfl⟩)
    | 1, hx, hy =>
      cases hx; cases hy
      refine .inr (.inr (.inr ⟨t, u, _, _, rfl, rfl, h2, g2, by have := hd.2.1; simp; omega, rfl, flat _ 0 fun v hv => ?_⟩))
      obtain ⟨x, _, rfl⟩ := List.mem_map.mp hv
      exact .inr (.inl ⟨x, rfl⟩)
    | i + 2, hx, hy => simp at hx
  | bare w => exact .inr (.inr (.inr ⟨a, b, _, _, rfl, rfl, ha, hb, Nat.le_of_ble_eq_true rfl, rfl, flat _ 1 (by simp)⟩))
  | word w x => exact .inr (.inr (.inr ⟨a, b, _, _, rfl, rfl, ha, hb, Nat.le_of_ble_eq_true rfl, rfl, flat _ 1 (by simp)⟩))
  | num w n => exact .inr (.inr (.inr ⟨a, b, _, _, rfl, rfl, ha, hb, Nat.le_of_ble_eq_true rfl, rfl, flat _ 1 (by simp)⟩))
  | enter x => exact .inr (.inr (.inr ⟨a, b, _, _, rfl, rfl, ha, hb, Nat.le_of_ble_eq_true rfl, rfl, flat _ 1 (by simp)⟩))
  | step x b => exact .inr (.inr (.inr ⟨a, _, _, _, rfl, rfl, ha, hb, Nat.le_of_ble_eq_true rfl, rfl, flat _ 1 (by simp)⟩))
  | span b => exact .inr (.inr (.inr ⟨a, _, _, _, rfl, rfl, ha, hb, Nat.le_of_ble_eq_true rfl, rfl, flat _ 1 (by simp)⟩))
/-! ### _law_quoted, _law_line -/
def QInv (H : Hp) (x : Str) (i : Nat) (σ : St) (H2 : Hp) : Prop := ∃ (z : Str) (u : Option V), σ = [some (.str x), some (.str z), u] ∧ H2 = H ∧ sg z = esc ((sg x).take i) ∧ i ≤ x.length
theorem rd_quotedL {K : PySem.W.Frag} (vs : List V) (H : Hp) (Q : VK) (E : XK) (h : spQuoted vs H Q E) : rdSs (rcx K [] [] (E := E)) b_quotedL (Dn Q) (start N_quotedL vs) H := by
  obtain ⟨x, rfl, hx, q⟩ := h
  refine r_asg (r_c ?_)
  refine ⟨_, rfl, x, rfl, for_txt (z := x) (QInv H x) ?_ ?_ ?_⟩
  · exact ⟨_, none, rfl, rfl, rfl, Nat.zero_le _⟩
  · rintro i c σ H2 hc ⟨z, u, rfl, rfl, hz, hi⟩
    have hlt : i < (sg x).length := (List.getElem?_eq_some_iff.mp hc).1
    have hlt' : i < x.length := by rw [len_list]; exact hlt
    have e : esc ((sg x).take (i + 1)) = sg z ++ esc1 c := by
      rw [List.take_succ_eq_append_getElem hlt, (List.getElem?_eq_some_iff.mp hc).2, hz]
      show (List.flatMap esc1 (_ ++ [c])) = _
      rw [List.flatMap_append]; simp [esc]
    have lz : z.length ≤ 200000 := by
      rw [len_list]; show (sg z).length ≤ _
      rw [hz]
      have := esc_len ((sg x).take i)
      rw [List.length_take] at this
      omega
    show rdSs _ _ _ [some (.str x), some (.str z), some (one c)] H2
    have e1 : ((⟨#[c]⟩ : Str) == Str.ofString "\n") = decide (c = 10) := one_eq c 10
    have e2 : ((⟨#[c]⟩ : Str) == Str.ofString "\"") = decide (c = 34) := one_eq c 34
    have e3 : ((⟨#[c]⟩ : Str) == Str.ofString "\\") = decide (c = 92) := one_eq c 92
    have fin : ∀ w : Str, sg w = esc1 c → ∃ (z' : Str) (u : Option V), [some (V.str x), some (.str (z ++ w)), some (one c)] = [some (.str x), some (.str z'), u] ∧ H2 = H2 ∧ sg z' = esc ((sg x).take (i + 1)) ∧ i + 1 ≤ x.length := fun w hw =>
      ⟨z ++ w, _, rfl, rfl, by rw [e, ← hw]; exact app_list _ _, hlt'⟩
    refine r_ite (r_cmpT (r_v rfl (r_c (ce_str ⟨_, rfl, ?_⟩))))
    rw [e1]
    by_cases h1 : c = 10
    · refine iT (r_asg (r_bin (r_v rfl (r_c ⟨le_line (by show z.length + 2 ≤ _; omega), ?_⟩)))) (decide_eq_true h1)
      exact fin "\\n" (by subst h1; rfl)
    · refine iF ?_ (decide_eq_false h1)
      have two : ∀ D : Ends, (∀ σ' H', QInv H2 x (i + 1) σ' H' → D.nx σ' H') → (c = 34 ∨ c = 92) → rdSs (rcx K [] [] (E := E)) [.asg 1 (.bin .Add (.bin .Add (.v 1) (.c (.str "\\"))) (.v 2))] D [some (.str x), some (.str z), some (one c)] H2 := by
        intro D hD h
        refine r_asg (r_bin (r_bin (r_v rfl (r_c ⟨le_line (by show z.length + 1 ≤ _; omega), r_v rfl ⟨le_line (by rw [app_len]; show z.length + 1 + 1 ≤ _; omega), ?_⟩⟩))))
        refine hD _ _ ⟨_, _, rfl, rfl, ?_, hlt'⟩
        rw [e]
        show ((z ++ Str.ofString "\\") ++ (⟨#[c]⟩ : Str)).cps.toList = _
        rw [app_list, app_list, List.append_assoc]
        congr 1
        rcases h with h | h <;> (subst h; rfl)
      refine r_ite (r_orC (r_cmpT (r_v rfl (r_c (ce_str ⟨_, rfl, ?_⟩)))))
      rw [e2]
      by_cases h2 : c = 34
      · exact iT (iT (two _ (fun _ _ h => h) (.inl h2))) (decide_eq_true h2)
      · refine iF (r_or1 (r_cmpT (r_v rfl (r_c (ce_str ⟨_, rfl, ?_⟩))))) (decide_eq_false h2)
        rw [e3]
        by_cases h3 : c = 92
        · exact iT (two _ (fun _ _ h => h) (.inr h3)) (decide_eq_true h3)
        · refine iF (r_asg (r_bin (r_v rfl (r_v rfl ⟨le_line (by show z.length + 1 ≤ _; omega), ?_⟩)))) (decide_eq_false h3)
          exact fin ⟨#[c]⟩ (by simp [esc1, h1, h2, h3, sg])
  · rintro σ H2 ⟨z, u, rfl, rfl, hz, hi⟩
    rw [len_list, List.take_length] at hz
    have lz : z.length ≤ 200000 := by
      rw [len_list]; show (sg z).length ≤ _
      rw [hz]
      have := esc_len x.cps.toList
      rw [len_list] at hx
      omega
    refine r_ret (r_bin (r_bin (r_c (r_v rfl ⟨le_line (by show 1 + z.length ≤ _; omega), r_c ⟨le_line (by rw [app_len]; show 1 + z.length + 1 ≤ _; omega), ?_⟩⟩))))
    have := q H2 (Same.refl _)
    rw [← qt_eq hz] at this
    exact this
theorem r_forT {Γ : RCx} {D : Ends} {σ : St} {H : Hp} {r body : List RS} {i : Nat} {x : RE} (h : rdE Γ x σ H fun v H1 => ∃ a, v = .ref a ∧ (∃ xs, SqT Γ.K H1 a xs) ∧ ∃ W : Nat → Nat → St → Hp → Prop, (∃ m, W 0 m σ H1) ∧ ∀ j m σ H, W j m σ H →
    ((Itt Γ.K a).stop j H ∧ ({ D with nx := rdSs Γ r D } : Ends).nx σ H) ∨ ((Itt Γ.K a).go j H ∧ ∃ N : St → Hp → Prop, (∀ σ' H', N σ' H' → ∃ m', m' < m ∧ W (j + 1) m' σ' H') ∧ ∀ x H', (Itt Γ.K a).yld j H x H' → gName i x σ H' fun σ2 H2 => rdSs Γ body { ({ D with nx := rdSs Γ r D } : Ends) with nx := N, ct := N, bk := ({ D with nx := rdSs Γ r D } : Ends).nx } σ2 H2)) :
    rdSs Γ (.for1 i .tup [x] body :: r) D σ H := r_mono (x := x) _ _ (fun _ _ => Iff.rfl) h
def spLine : Sp := fun vs H Q E => ∃ a d, vs = [.ref a] ∧ DdAt H a d ∧ okD d ∧ ∀ H', Same H H' → Q (.str (line d)) H'
theorem line_two (w x : Str) : (w ++ Str.ofString " ") ++ x = mk (sep [sg w, sg x]) := str_ext (by
  show _ = sg (mk _)
  rw [sg_mk, app_list, app_list, List.append_assoc]; rfl)
theorem line_eq {d : Dd} {z : Str} (h : sg z = sep ((wl d).map sg)) : z = line d := str_ext (by
  show sg z = sg (line d)
  rw [h, sg_line])
theorem rd_line {K : PySem.W.Frag} (vs : List V) (H : Hp) (Q : VK) (E : XK) (h : spLine vs H Q E) : rdSs (rcx K [("_law_quoted", spQuoted)] [] (E := E)) b_lineL (Dn Q) (start N_lineL vs) H := by
  obtain ⟨a, d, rfl, ha, hd, q⟩ := h
  have last : ∀ (w : Str) (v : V) (x : Str), H a = some (.tup [.str w, v]) → (w == "enter") = false → (w == "paste") = false → (w == "step") = false → (w == "span") = false → w.length ≤ 1000 → x.length ≤ 1000 → (∀ (H2 : Hp) (Q2 : VK), Q2 (.str x) H2 → rStrV [v] H2 Q2) → (wl d).map sg = [sg w, sg x] →
      rdSs (rcx K [("_law_quoted", spQuoted)] [] (E := E)) b_lineL (Dn Q) (start N_lineL [.ref a]) H := by
    intro w v x ha n1 n2 n3 n4 lw lx hv ew
    refine sk_ix rfl ha rfl n1 (sk_ix rfl ha rfl n2 ?_)
    refine r_ite (r_andC (r_cmpT (r_ix (r_v rfl (r_c (ixt ha rfl (r_c (ce_str ⟨_, rfl, iF (iF (r_no ?_)) n3⟩))))))))
    refine r_ite (r_andC (r_cmpT (r_ix (r_v rfl (r_c (ixt ha rfl (r_c (ce_str ⟨_, rfl, iF (iF (r_no ?_)) n4⟩))))))))
    refine sk_ix rfl ha rfl n4 ?_
    refine r_ite (r_cmpT (r_len (r_v rfl (lenT ha (r_c (ceI ⟨_, rfl, iF (r_no ?_) (by show decide ((2 : Int) = 1) = false; decide)⟩))))))
    refine r_ret (r_bin (r_bin (r_ix (r_v rfl (r_c (ixt ha rfl (r_c ⟨le_line (by show w.length + 1 ≤ _; omega), r_str (r_ix (r_v rfl (r_c (ixt ha rfl (hv _ _ ⟨le_line (by rw [app_len]; show w.length + 1 + x.length ≤ _; omega), ?_⟩)))))⟩)))))))
    have := q H (Same.refl _)
    rw [← line_eq (d := d) (z := (w ++ Str.ofString " ") ++ x) (by rw [ew, line_two, sg_mk])] at this
    exact this
  cases d with
  | bare w =>
    have n : (w == "enter") = false ∧ (w == "paste") = false ∧ (w == "step") = false ∧ (w == "span") = false := by
      rcases hd with rfl | rfl | rfl <;> exact ⟨(by decide +kernel), (by decide +kernel), (by decide +kernel), (by decide +kernel)⟩
    refine sk_ix rfl ha rfl n.1 (sk_ix rfl ha rfl n.2.1 ?_)
    refine r_ite (r_andC (r_cmpT (r_ix (r_v rfl (r_c (ixt ha rfl (r_c (ce_str ⟨_, rfl, iF (iF (r_no ?_)) n.2.2.1⟩))))))))
    refine r_ite (r_andC (r_cmpT (r_ix (r_v rfl (r_c (ixt ha rfl (r_c (ce_str ⟨_, rfl, iF (iF (r_no ?_)) n.2.2.2⟩))))))))
    refine sk_ix rfl ha rfl n.2.2.2 ?_
    refine r_ite (r_cmpT (r_len (r_v rfl (lenT ha (r_c (ceI ⟨_, rfl, iT (r_ret (r_ix (r_v rfl (r_c (ixt ha rfl ?_))))) rfl⟩))))))
    have := q H (Same.refl _)
    rw [← line_eq (d := .bare w) (z := w) rfl] at this
    exact this
  | word w x =>
    have n : (w == "enter") = false ∧ (w == "paste") = false ∧ (w == "step") = false ∧ (w == "span") = false ∧ w.length ≤ 1000 := by
      rcases hd with ⟨rfl, _⟩ | ⟨rfl, _⟩ <;> exact ⟨(by decide +kernel), (by decide +kernel), (by decide +kernel), (by decide +kernel), (by decide +kernel)⟩
    have hx : x.length ≤ 10 := by
      rcases hd with ⟨_, h⟩ | ⟨_, h⟩
      · exact (show ∀ y ∈ eW, y.length ≤ 10 by decide +kernel) x h
      · exact (show ∀ y ∈ mW, y.length ≤ 10 by decide +kernel) x h
    exact last w (.str x) x ha n.1 n.2.1 n.2.2.1 n.2.2.2.1 n.2.2.2.2 (by omega) (fun H2 Q2 q2 => .inr ⟨x, rfl, q2⟩) rfl
  | num w n =>
    have m : (w == "enter") = false ∧ (w == "paste") = false ∧ (w == "step") = false ∧ (w == "span") = false ∧ w.length ≤ 1000 := by
      rcases hd.1 with rfl | rfl <;> exact ⟨(by decide +kernel), (by decide +kernel), (by decide +kernel), (by decide +kernel), (by decide +kernel)⟩
    exact last w (.int n) (num n) ha m.1 m.2.1 m.2.2.1 m.2.2.2.1 m.2.2.2.2 (by have := num_le hd.2; omega) (fun H2 Q2 q2 => .inl ⟨_, rfl, lt_num hd.2, q2⟩) rfl
  | enter x =>
    have hx := hd.2
    have hl := qtS_len x
    refine tk_ix rfl ha rfl (by decide +kernel) (r_ret (r_bin (r_c (r_callS spQuoted rfl (r_cons (r_ix (r_v rfl (r_c (ixt ha rfl (r_nil ⟨x, rfl, by omega, fun H' s => ⟨le_line (by show 6 + (qtS x).length ≤ _; omega), ?_⟩⟩))))))))))
    have := q H' s
    rw [← line_eq (d := .enter x) (z := Str.ofString "enter " ++ qtS x) (by
      show (Str.ofString "enter " ++ qtS x).cps.toList = _
      rw [app_list]; rfl)] at this
    exact this
  | step x b =>
    have hx : x.length ≤ 10 := (show ∀ y ∈ sW, y.length ≤ 10 by decide +kernel) x hd
    refine sk_ix rfl ha rfl (by decide +kernel) (sk_ix rfl ha rfl (by decide +kernel) ?_)
    refine r_ite (r_andC (r_cmpT (r_ix (r_v rfl (r_c (ixt ha rfl (r_c (ce_str ⟨_, rfl, iT (r_and1 (r_ixT (r_v rfl (r_c (ixt ha rfl (tru_bl ?_)))))) (by decide +kernel)⟩))))))))
    cases b with
    | true =>
      refine iT (r_ret (r_bin (r_c (r_ix (r_v rfl (r_c (ixt ha rfl ⟨le_line (by show 5 + x.length ≤ _; omega), ?_⟩)))))))
      have := q H (Same.refl _)
      rw [← line_eq (d := .step x true) (z := Str.ofString "hold " ++ x) (by
        show (Str.ofString "hold " ++ x).cps.toList = _
        rw [app_list]; rfl)] at this
      exact this
    | false =>
      refine iF (r_no ?_)
      refine r_ite (r_andC (r_cmpT (r_ix (r_v rfl (r_c (ixt ha rfl (r_c (ce_str ⟨_, rfl, iF (iF (r_no ?_)) (by decide +kernel)⟩))))))))
      refine sk_ix rfl ha rfl (by decide +kernel) ?_
      refine r_ite (r_cmpT (r_len (r_v rfl (lenT ha (r_c (ceI ⟨_, rfl, iF (r_no ?_) (by show decide ((3 : Int) = 1) = false; decide)⟩))))))
      refine r_ret (r_bin (r_bin (r_ix (r_v rfl (r_c (ixt ha rfl (r_c ⟨by decide +kernel, r_str (r_ix (r_v rfl (r_c (ixt ha rfl (.inr ⟨x, rfl, le_line (by rw [app_len]; show 4 + 1 + x.length ≤ _; omega), ?_⟩)))))⟩)))))))
      have := q H (Same.refl _)
      rw [← line_eq (d := .step x false) (z := (Str.ofString "step" ++ Str.ofString " ") ++ x) (by rw [line_two, sg_mk]; rfl)] at this
      exact this
  | span b =>
    refine sk_ix rfl ha rfl (by decide +kernel) (sk_ix rfl ha rfl (by decide +kernel) ?_)
    refine r_ite (r_andC (r_cmpT (r_ix (r_v rfl (r_c (ixt ha rfl (r_c (ce_str ⟨_, rfl, iF (iF (r_no ?_)) (by decide +kernel)⟩))))))))
    refine r_ite (r_andC (r_cmpT (r_ix (r_v rfl (r_c (ixt ha rfl (r_c (ce_str ⟨_, rfl, iT (r_and1 (r_ixT (r_v rfl (r_c (ixt ha rfl (tru_bl ?_)))))) (by decide +kernel)⟩))))))))
    cases b with
    | true =>
      refine iT (r_ret (r_c ?_))
      have := q H (Same.refl _)
      rw [← line_eq (d := .span true) (z := Str.ofString "span grows") (by decide +kernel)] at this
      exact this
    | false =>
      refine iF (r_no (tk_ix rfl ha rfl (by decide +kernel) (r_ret (r_c ?_))))
      have := q H (Same.refl _)
      rw [← line_eq (d := .span false) (z := Str.ofString "span stays") (by decide +kernel)] at this
      exact this
  | paste xs =>
    obtain ⟨t, ha, ht⟩ := ha
    refine sk_ix rfl ha rfl (by decide +kernel) (tk_ix rfl ha rfl (by decide +kernel) (r_asg (r_c ?_)))
    have sep2 : ∀ (l : List (List Nat)) (y : List Nat), l ≠ [] → sep (l ++ [y]) = sep l ++ 32 :: y := by
      intro l y hl
      induction l with
      | nil => exact absurd rfl hl
      | cons x r ih =>
        cases r with
        | nil => rfl
        | cons z r =>
          show x ++ 32 :: sep ((z :: r) ++ [y]) = (x ++ 32 :: sep (z :: r)) ++ 32 :: y
          rw [ih (by simp)]; simp
    have len : ∀ i, i ≤ xs.length → (sep ((wl (.paste (xs.take i))).map sg)).length ≤ 200000 := by
      intro i hi
      by_cases h0 : i = 0
      · subst h0; show (sep ((wl (.paste [])).map sg)).length ≤ 200000; decide +kernel
      · have hd' : okD (.paste (xs.take i)) := ⟨by rw [List.length_take]; omega, by have := hd.2.1; rw [List.length_take]; omega, fun x hx => hd.2.2 x (List.mem_of_mem_take hx)⟩
        have h1 := sep_len ((wl (.paste (xs.take i))).map sg)
        have go : ∀ l : List Str, (∀ x ∈ l, x.length ≤ 1000) → (((l.map qtS).map sg).map List.length).sum ≤ 2002 * l.length := by
          intro l h
          induction l with
          | nil => exact Nat.le_refl _
          | cons x r ih =>
            have h1 := h x List.mem_cons_self
            have h2 := ih fun y hy => h y (List.mem_cons_of_mem _ hy)
            have h3 := qtS_len x
            rw [len_list (qtS x)] at h3
            show (sg (qtS x)).length + (((r.map qtS).map sg).map List.length).sum ≤ 2002 * (r.length + 1)
            have h3' : (sg (qtS x)).length ≤ 2 * x.length + 2 := h3
            omega
        have g := go (xs.take i) fun x hx => (hd'.2.2 x hx).2
        have h40 := hd'.2.1
        have e0 : (sg (Str.ofString "paste")).length = 5 := rfl
        show (sep (sg (Str.ofString "paste") :: ((xs.take i).map qtS).map sg)).length ≤ _
        have h1' : (sep (sg (Str.ofString "paste") :: ((xs.take i).map qtS).map sg)).length ≤ ((sg (Str.ofString "paste")).length + (((((xs.take i).map qtS).map sg).map List.length).sum)) + ((((xs.take i).map qtS).map sg).length + 1) := h1
        rw [List.length_map, List.length_map] at h1'
        omega
    refine r_forT (r_ix (r_v rfl (r_c (ixt ha rfl ⟨t, rfl, ⟨_, SqT.of ht⟩, for_tup (K := K) (a := t) (xs := xs.map V.str) (fun i σ H2 => ∃ (z : Str) (u : Option V), σ = [some (.ref a), some (.str z), u] ∧ Same H H2 ∧ sg z = sep ((wl (.paste (xs.take i))).map sg) ∧ i ≤ xs.length) ?_ ?_ ?_ ?_⟩))))
    · exact ⟨_, none, rfl, Same.refl _, rfl, Nat.zero_le _⟩
    · rintro i σ H2 hi ⟨z, u, rfl, s, _⟩
      exact SqT.of (s _ _ ht)
    · rintro i v σ H2 hv ⟨z, u, rfl, s, hz, hi⟩
      obtain ⟨x, hx, rfl⟩ := get_str hv
      have hi' : i < xs.length := (List.getElem?_eq_some_iff.mp hx).1
      have hl := (hd.2.2 x (List.mem_of_getElem? hx)).2
      have lq := qtS_len x
      have lz : z.length ≤ 200000 := by rw [len_list]; show (sg z).length ≤ _; rw [hz]; exact len i hi
      show rdSs _ _ _ [some (.ref a), some (.str z), some (.str x)] H2
      refine r_asg (r_bin (r_bin (r_v rfl (r_c ⟨le_line (by show z.length + 1 ≤ _; omega), r_callS spQuoted rfl (r_cons (r_v rfl (r_nil ⟨x, rfl, by omega, fun H' s' => ⟨le_line (by rw [app_len]; show z.length + 1 + (qtS x).length ≤ _; omega), ?_⟩⟩)))⟩))))
      refine ⟨_, _, rfl, s.trans s', ?_, hi'⟩
      have e : (wl (.paste (xs.take (i + 1)))).map sg = (wl (.paste (xs.take i))).map sg ++ [sg (qtS x)] := by
        rw [List.take_succ_eq_append_getElem hi', (List.getElem?_eq_some_iff.mp hx).2]
        simp [wl]
      rw [e, sep2 _ _ (by simp [wl]), ← hz]
      show ((z ++ Str.ofString " ") ++ qtS x).cps.toList = _
      rw [app_list, app_list, List.append_assoc]; rfl
    · rintro σ H2 ⟨z, u, rfl, s, hz, hi⟩
      rw [List.length_map, List.take_length] at hz
      have := q H2 s
      rw [← line_eq hz] at this
      exact r_ret (r_v rfl this)
end L2.K42
set_option maxRecDepth 100000
set_option maxHeartbeats 4000000
namespace L2.K42
open PySem PySem.Spec L2.B
section
variable {Γ : RCx} {D : Ends} {σ : St} {H : Hp} {r t : List RS} {Q : VK} {K : PySem.W.Frag} {i : Nat}
theorem sk_i {n k : Int} (e : σ[i]? = some (some (.int n))) (hn : n ≠ k) (h : rdSs Γ r D σ H) : rdSs Γ (.ite (.cmp .Eq (.v i) (.c (.int k))) t [] :: r) D σ H :=
  r_ite (r_cmpT (r_v e (r_c (ceI ⟨_, rfl, iF (r_no h) (decide_eq_false hn)⟩))))
theorem tk_i {n k : Int} (e : σ[i]? = some (some (.int n))) (hn : n = k) (h : rdSs Γ t { D with nx := rdSs Γ r D } σ H) : rdSs Γ (.ite (.cmp .Eq (.v i) (.c (.int k))) t [] :: r) D σ H :=
  r_ite (r_cmpT (r_v e (r_c (ceI ⟨_, rfl, iT h (decide_eq_true hn)⟩))))
theorem sk_lt {n k : Int} (e : σ[i]? = some (some (.int n))) (hn : ¬ n < k) (h : rdSs Γ r D σ H) : rdSs Γ (.ite (.cmp .Lt (.v i) (.c (.int k))) t [] :: r) D σ H :=
  r_ite (r_cmpT (r_v e (r_c (ltI ⟨_, rfl, iF (r_no h) (decide_eq_false hn)⟩))))
theorem tk_lt {n k : Int} (e : σ[i]? = some (some (.int n))) (hn : n < k) (h : rdSs Γ t { D with nx := rdSs Γ r D } σ H) : rdSs Γ (.ite (.cmp .Lt (.v i) (.c (.int k))) t [] :: r) D σ H :=
  r_ite (r_cmpT (r_v e (r_c (ltI ⟨_, rfl, iT h (decide_eq_true hn)⟩))))
theorem r_compR {fv : List (Str × Nat)} {x elt : RE} (h : rdE Γ x σ H fun v H1 => ∃ j : Int, [v] = [.int j] ∧ -(2 ^ 62) ≤ j ∧ j < 2 ^ 62 ∧ ∃ W : Nat → Nat → List V → Hp → Prop, (∃ m, W 0 m [] H1) ∧ ∀ i m ys H2, W i m ys H2 →
      ((Itr 0 j.toNat).stop i H2 ∧ ∀ p, H2 p = none → Q (.ref p) (upd H2 p (.lst ys))) ∨
      ((Itr 0 j.toNat).go i H2 ∧ ∀ x H3, (Itr 0 j.toNat).yld i H2 x H3 → tgtK Γ.K none x H3 fun zs => tCond none (zs.map some ++ fvals σ fv) H3 fun b H5 =>
        if b = true then rdE Γ.calm elt (zs.map some ++ fvals σ fv) H5 fun y H6 => ys.length < sizeLine ∧ ∃ m', m' < m ∧ W (i + 1) m' (ys ++ [y]) H6 else ∃ m', m' < m ∧ W (i + 1) m' ys H5)) : rdE Γ (.comp none fv .rng [x] none elt) σ H Q := by
  have e : ∀ (A B : VK), (∀ v H1, A v H1 ↔ B v H1) → rdE Γ x σ H A → rdE Γ x σ H B := fun A B hab ha => by
    have : A = B := funext fun x => funext fun H1 => propext (hab x H1)
    rw [← this]; exact ha
  exact e _ _ (fun v H1 => Iff.rfl) h
theorem r_slT {x y : RE} (h : rdE Γ x σ H fun v H1 => rdE Γ y σ H1 fun u H2 => ∃ i, u = .int i ∧ rSl Γ.K v none (some i) H2 Q) : rdE Γ (.sl x none (some y)) σ H Q := r_mono (x := x) _ _ (fun _ _ => Iff.rfl) h
theorem r_slL {x y : RE} (h : rdE Γ x σ H fun v H1 => rdE Γ y σ H1 fun u H2 => ∃ i, u = .int i ∧ rSl Γ.K v (some i) none H2 Q) : rdE Γ (.sl x (some y) none) σ H Q := r_mono (x := x) _ _ (fun _ _ => Iff.rfl) h
theorem r_negc {k : Int} (q : Q (.int (-k)) H) : rdE Γ (.neg (.c (.int k))) σ H Q := q
theorem r_listB {x : RE} (h : rdE Γ x σ H fun v H1 => rBlt Γ.K .list [v] H1 Q) : rdE Γ (.blt .list [x]) σ H Q := h
end
/-- more % [a, b][int(more % 7 == 6)] -/
theorem r_much {Γ : RCx} {σ : St} {H : Hp} {Q : VK} {m A : Int} (e : σ[2]? = some (some (.int m))) (hA : 0 < A) (hB : A ≤ 1000000000) (q : ∀ (n : Nat) (H' : Hp), n ≤ 999999999 → Same H H' → Q (.int n) H') :
    rdE Γ (.bin .Mod (.v 2) (.ix (.lst [(.c (.int A)), (.c (.int 1000000000))]) (.blt .int [(.cmp .Eq (.bin .Mod (.v 2) (.c (.int 7))) (.c (.int 6)))]))) σ H Q := by
  refine r_bin (r_v e (r_ix (r_lst (r_cons (r_c (r_cons (r_c (r_nil ⟨le2, fun l hl => ?_⟩))))))))
  refine r_blt (r_cons (r_cmp (r_bin (r_v e (r_c ⟨(by show (0 : Int) < 7; decide), r_c (ceI (r_nil ?_))⟩)))))
  have fin : ∀ B : Int, 0 < B → B ≤ 1000000000 → rBin Γ.K .Mod (.int m) (.int B) (upd H l (.lst [.int A, .int 1000000000])) Q := fun B h0 h1 => by
    refine ⟨h0, ?_⟩
    have p0 := Int.emod_nonneg m (show B ≠ 0 by omega)
    have p1 := Int.emod_lt_of_pos m h0
    have := q (m % B).toNat _ (by omega) (sameNew (o := .lst [.int A, .int 1000000000]) hl)
    rw [show (((m % B).toNat : Nat) : Int) = m % B by omega] at this
    exact this
  by_cases h : m % 7 = 6
  · rw [decide_eq_true h]
    exact ixl upd_same rfl (fin _ (by decide) (by decide))
  · rw [decide_eq_false h]
    exact ixl upd_same rfl (fin A hA hB)
def spDeedL : Sp := fun vs H Q E => ∃ c, vs = [.int c] ∧ ∀ a d H', Same H H' → DdAt H' a d → okD d → Q (.ref a) H'
abbrev tDeedL : List (Str × Sp) := [("_law_text", spTextL)]
theorem mod_in (m k : Int) (hk : 0 < k) : 0 ≤ m % k ∧ m % k < k := ⟨Int.emod_nonneg _ (by omega), Int.emod_lt_of_pos _ hk⟩
theorem pickS {ws : List Str} {j : Int} (h0 : 0 ≤ j) (h1 : j < ws.length) : ∃ w ∈ ws, atI (ws.map V.str) j = some (.str w) := by
  obtain ⟨v, hv, e⟩ := pick (its := ws.map V.str) h0 (by simpa using h1)
  obtain ⟨w, hw, rfl⟩ := List.mem_map.mp hv
  exact ⟨w, hw, e⟩
section
variable {K : PySem.W.Frag} {Q : VK} {E : XK}
theorem deed_body {H : Hp} {c k m : Int} {x : Str} (h0 : 0 ≤ k) (h1 : k < 12) (gx : good x) (lx : x.length ≤ 9) (q : ∀ a d H', Same H H' → DdAt H' a d → okD d → Q (.ref a) H') :
    rdSs (rcx K tDeedL [] (E := E)) (b_deedL.drop 3) (Dn Q) [some (.int c), some (.int k), some (.int m), some (.str x), none] H := by
  by_cases k2 : k < 3
  · exact tk_lt rfl k2 (r_ret (r_tup (r_cons (r_c (r_cons (r_v rfl (r_nil ⟨le2, fun a ha => q a (.enter x) _ (sameNew ha) upd_same ⟨gx, by omega⟩⟩)))))))
  refine sk_lt rfl k2 ?_
  by_cases k3 : k = 3
  · refine tk_i rfl k3 (r_ret (r_tup (r_cons (r_c (r_cons (r_tuple (r_compR (r_bin (r_c (r_bin (r_v rfl (r_c ⟨(by show (0 : Int) < 3; decide), addI' ⟨1 + m % 3, rfl, ?_, ?_, ?_⟩⟩))))))))))))
    · have := mod_in m 3 (by decide); omega
    · have := mod_in m 3 (by decide); omega
    · have mm := mod_in m 3 (by decide)
      refine comp_r (by omega) (fun i ys _ => ∃ xs : List Str, ys = xs.map V.str ∧ xs.length = i ∧ ∀ x ∈ xs, good x ∧ x.length ≤ 1000) ⟨[], rfl, rfl, fun x hx => by cases hx⟩ ?_ ?_
      · rintro i ys H2 hi s ⟨xs, rfl, hl, hx⟩ Q' kk
        refine r_callS spTextL rfl (r_cons (r_bin (r_v rfl (r_v rfl (addI' (r_cons (r_bin (r_c (r_v rfl (addI' (r_nil ⟨_, _, rfl, by omega, by omega, fun y H3 gy ly s3 => ?_⟩)))))))))))
        refine kk _ _ s3 ⟨xs ++ [y], by rw [List.map_append]; rfl, by simp [hl], fun z hz => ?_⟩
        rcases List.mem_append.mp hz with z' | z'
        · exact hx z z'
        · rw [List.mem_singleton.mp z']; exact ⟨gy, by rw [ly]; omega⟩
      · rintro ys H2 p s ⟨xs, rfl, hl, hx⟩ hp
        refine ⟨_, .inl ⟨SqL.of upd_same, fun t ht => r_nil ⟨le2, fun a ha => ?_⟩⟩⟩
        refine q a (.paste xs) _ (s.trans ((sameNew hp).trans ((sameNew ht).trans (sameNew ha)))) ⟨t, upd_same, sameNew ha _ _ upd_same⟩ ⟨by omega, by omega, hx⟩
  refine sk_i rfl k3 ?_
  by_cases k4 : k = 4
  · refine tk_i rfl k4 (r_ret (r_tup (r_cons (r_c (r_cons (r_ix (r_lst (r_cons (r_c (r_cons (r_c (r_cons (r_c (r_cons (r_c (r_cons (r_c (r_cons (r_c (r_nil ⟨(by show 6 ≤ sizeLine; decide), fun l hl => ?_⟩))))))))))))))))))))
    obtain ⟨w, hw, e⟩ := pickS (ws := eW) (j := m % 6) (mod_in m 6 (by decide)).1 (mod_in m 6 (by decide)).2
    refine r_bin (r_v rfl (r_c ⟨(by show (0 : Int) < 6; decide), ixl upd_same e (r_nil ⟨le2, fun a ha => ?_⟩)⟩))
    exact q a (.word "erase" w) _ ((sameNew hl).trans (sameNew ha)) upd_same (.inl ⟨rfl, hw⟩)
  refine sk_i rfl k4 ?_
  by_cases k7 : k < 7
  · refine tk_lt rfl k7 (r_asg (r_lst (r_cons (r_c (r_cons (r_c (r_cons (r_c (r_cons (r_c (r_cons (r_c (r_cons (r_c (r_cons (r_c (r_cons (r_c (r_cons (r_c (r_cons (r_c (r_nil ⟨(by show 10 ≤ sizeLine; decide), fun l hl => ?_⟩)))))))))))))))))))))))
    obtain ⟨w, hw, e⟩ := pickS (ws := ["left", "right", "up", "down", "home", "end", "top", "bottom", "back", "on"]) (j := m % 10) (mod_in m 10 (by decide)).1 (mod_in m 10 (by decide)).2
    have hw' : w ∈ sW := (show ∀ y ∈ (["left", "right", "up", "down", "home", "end", "top", "bottom", "back", "on"] : List Str), y ∈ sW by decide +kernel) w hw
    refine r_ret (r_tup (r_cons (r_c (r_cons (r_ix (r_v rfl (r_bin (r_v rfl (r_c ⟨(by show (0 : Int) < 10; decide), ixl upd_same e ?_⟩)))))))))
    refine r_cons (r_cmp (r_bin (r_bin (r_v rfl (r_c ⟨⟨by decide, by decide⟩, r_c ⟨(by show (0 : Int) < 2; decide), r_c (ceI (r_nil ⟨le3, fun a ha => ?_⟩))⟩⟩)))))
    exact q a (.step w _) _ ((sameNew hl).trans (sameNew ha)) upd_same hw'
  refine sk_lt rfl k7 ?_
  by_cases k8 : k = 7
  · refine tk_i rfl k8 (r_ret (r_tup (r_cons (r_c (r_cons (r_much rfl (by decide) (by decide) fun n H' hn s => r_nil ⟨le2, fun a ha => ?_⟩))))))
    exact q a (.num "spread" n) _ (s.trans (sameNew ha)) upd_same ⟨.inl rfl, hn⟩
  refine sk_i rfl k8 ?_
  by_cases k9 : k = 8
  · refine tk_i rfl k9 (r_ret (r_ix (r_lst (r_cons (r_tup (r_cons (r_c (r_cons (r_ix (r_lst (r_cons (r_c (r_cons (r_c (r_nil ⟨le2, fun l hl => ?_⟩)))))))))))))))
    obtain ⟨w, hw, e⟩ := pickS (ws := mW) (j := m / 2 % 2) (mod_in (m / 2) 2 (by decide)).1 (mod_in (m / 2) 2 (by decide)).2
    refine r_bin (r_bin (r_v rfl (r_c ⟨⟨by decide, by decide⟩, r_c ⟨(by show (0 : Int) < 2; decide), ixl upd_same e (r_nil ⟨le2, fun a ha => ?_⟩)⟩⟩)))
    refine r_cons (r_tup (r_cons (r_c (r_cons (r_cmp (r_bin (r_bin (r_v rfl (r_c ⟨⟨by decide, by decide⟩, r_c ⟨(by show (0 : Int) < 2; decide), r_c (ceI (r_nil ⟨le2, fun b hb => r_nil ⟨le2, fun p hp => ?_⟩⟩))⟩⟩)))))))))
    refine r_bin (r_v rfl (r_c ⟨(by show (0 : Int) < 2; decide), ?_⟩))
    have hm := mod_in m 2 (by decide)
    by_cases z : m % 2 = 0
    · exact ixl upd_same (i := m % 2) (by rw [z]; rfl) (q a (.word "mark" w) _ ((sameNew hl).trans ((sameNew ha).trans ((sameNew hb).trans (sameNew hp)))) (((sameNew hb).trans (sameNew hp)) _ _ upd_same) (.inr ⟨rfl, hw⟩))
    · exact ixl upd_same (i := m % 2) (by rw [show m % 2 = 1 by omega]; rfl) (q b (.span _) _ ((sameNew hl).trans ((sameNew ha).trans ((sameNew hb).trans (sameNew hp)))) ((sameNew hp) _ _ upd_same) trivial)
  refine sk_i rfl k9 ?_
  by_cases k10 : k = 9
  · exact tk_i rfl k10 (r_ret (r_tup (r_cons (r_c (r_nil ⟨le1, fun a ha => q a (.bare "undo") _ (sameNew ha) upd_same (.inr (.inl rfl))⟩)))))
  refine sk_i rfl k10 ?_
  by_cases k11 : k = 10
  · refine tk_i rfl k11 (r_ret (r_ix (r_lst (r_cons (r_tup (r_cons (r_c (r_nil ⟨le1, fun a ha => r_cons (r_tup (r_cons (r_c (r_nil ⟨le1, fun b hb => r_nil ⟨le2, fun p hp => ?_⟩⟩))))⟩))))))))
    refine r_bin (r_v rfl (r_c ⟨(by show (0 : Int) < 2; decide), ?_⟩))
    have hm := mod_in m 2 (by decide)
    by_cases z : m % 2 = 0
    · exact ixl upd_same (i := m % 2) (by rw [z]; rfl) (q a (.bare "redo") _ ((sameNew ha).trans ((sameNew hb).trans (sameNew hp))) (((sameNew hb).trans (sameNew hp)) _ _ upd_same) (.inr (.inr rfl)))
    · exact ixl upd_same (i := m % 2) (by rw [show m % 2 = 1 by omega]; rfl) (q b (.bare "only") _ ((sameNew ha).trans ((sameNew hb).trans (sameNew hp))) ((sameNew hp) _ _ upd_same) (.inl rfl))
  refine sk_i rfl k11 ?_
  refine r_ret (r_tup (r_cons (r_c (r_cons (r_much rfl (by decide) (by decide) fun n H' hn s => r_nil ⟨le2, fun a ha => ?_⟩)))))
  exact q a (.num "go" n) _ (s.trans (sameNew ha)) upd_same ⟨.inr rfl, hn⟩
end
theorem rd_deedL {K : PySem.W.Frag} (vs : List V) (H : Hp) (Q : VK) (E : XK) (h : spDeedL vs H Q E) : rdSs (rcx K tDeedL [] (E := E)) b_deedL (Dn Q) (start N_deedL vs) H := by
  obtain ⟨c, rfl, q⟩ := h
  refine r_asg (r_bin (r_v rfl (r_c ⟨(by show (0 : Int) < 12; decide), r_asg (r_bin (r_v rfl (r_c ⟨⟨by decide, by decide⟩, ?_⟩)))⟩)))
  have hk := mod_in c 12 (by decide)
  refine r_asg (r_callS spTextL rfl (r_cons (r_v rfl (r_cons (r_ix (r_lst (r_cons (r_c (r_cons (r_c (r_cons (r_c (r_cons (r_c (r_cons (r_c (r_cons (r_c (r_nil ⟨(by show 6 ≤ sizeLine; decide), fun l hl => ?_⟩)))))))))))))))))))
  obtain ⟨v, hv, e⟩ := pick (its := [.int 1, .int 2, .int 0, .int 5, .int 1, .int 9]) (j := c / 12 / 3 % 6) (mod_in _ 6 (by decide)).1 (mod_in _ 6 (by decide)).2
  obtain ⟨n, rfl, n0, n9⟩ : ∃ n : Int, v = .int n ∧ 0 ≤ n ∧ n ≤ 9 := by
    simp only [List.mem_cons, List.not_mem_nil, or_false] at hv
    rcases hv with rfl | rfl | rfl | rfl | rfl | rfl <;> exact ⟨_, rfl, by decide, by decide⟩
  refine r_bin (r_bin (r_v rfl (r_c ⟨⟨by decide, by decide⟩, r_c ⟨(by show (0 : Int) < 6; decide), ixl upd_same e (r_nil ⟨_, n, rfl, n0, by omega, fun x H1 gx lx s1 => ?_⟩)⟩⟩)))
  exact deed_body hk.1 hk.2 gx (by rw [lx]; omega) fun a d H' s' => q a d H' ((sameNew hl).trans (s1.trans s'))
/-! ### _law_long -/
def spLong (K : PySem.W.Frag) : Sp := fun vs H Q E => ∃ (a b : Addr) (ns : List Int) (d : Dd), vs = [.ref a, .ref b] ∧ SqL K H a (ns.map V.int) ∧ DdAt H b d ∧ okD d ∧ ∀ p d' H', Same H H' → DdAt H' p d' → okD d' → Q (.ref p) H'
abbrev tLong (K : PySem.W.Frag) : List (Str × Sp) := [("_law_cell_at", spCell K), ("_law_text", spTextL), ("_law_size", spSizeL), ("_law_mixed", spMixed)]
theorem sgn_ok : ∀ w ∈ (["\"", "\\", "\n", " "] : List Str), good w ∧ w.length = 1 := by
  have h : ∀ w ∈ (["\"", "\\", "\n", " "] : List Str), (w.length = 1) ∧ (w.cps.toList.all fun c => SG.cps.contains c) = true := by decide +kernel
  intro w hw
  obtain ⟨h1, h2⟩ := h w hw
  exact ⟨⟨by omega, List.all_eq_true.mp h2⟩, h1⟩
theorem rd_long {K : PySem.W.Frag} (vs : List V) (H : Hp) (Q : VK) (E : XK) (h : spLong K vs H Q E) : rdSs (rcx K (tLong K) [] (E := E)) b_longL (Dn Q) (start N_longL vs) H := by
  obtain ⟨a, b, ns, d, rfl, ha, hb, hd, q⟩ := h
  refine r_asg (r_callS (spCell K) rfl (r_cons (r_v rfl (r_cons (r_c (r_nil ⟨a, ns, 1, rfl, ha, by decide, ?_⟩))))))
  refine r_asg (r_callS spTextL rfl (r_cons (r_callS (spCell K) rfl (r_cons (r_v rfl (r_cons (r_c (r_nil ⟨a, ns, 2, rfl, ha, by decide, ?_⟩))))))))
  refine r_cons (r_callS spSizeL rfl (r_cons (r_callS (spCell K) rfl (r_cons (r_v rfl (r_cons (r_c (r_nil ⟨a, ns, 3, rfl, ha, by decide, r_nil ⟨_, rfl, fun n n0 n4 => r_nil ⟨_, n, rfl, n0, by omega, fun x H1 gx lx s1 => ?_⟩⟩⟩))))))))
  generalize cell ns (1 : Int).toNat = c
  have lx' : x.length ≤ 400 := by rw [lx]; omega
  refine r_asg (r_ix (r_lst (r_cons (r_c (r_cons (r_c (r_cons (r_c (r_cons (r_c (r_nil ⟨(by show 4 ≤ sizeLine; decide), fun l hl => ?_⟩)))))))))))
  obtain ⟨w, hw, e⟩ := pickS (ws := ["\"", "\\", "\n", " "]) (j := c / 4 % 4) (mod_in _ 4 (by decide)).1 (mod_in _ 4 (by decide)).2
  refine r_bin (r_bin (r_v rfl (r_c ⟨⟨by decide, by decide⟩, r_c ⟨(by show (0 : Int) < 4; decide), ixl upd_same e ?_⟩⟩)))
  obtain ⟨gw, lw⟩ := sgn_ok w hw
  have s2 : Same H (upd H1 l (.lst ((["\"", "\\", "\n", " "] : List Str).map V.str))) := s1.trans (sameNew hl)
  revert s2
  show Same H (upd H1 l (.lst [.str "\"", .str "\\", .str "\n", .str " "])) → _
  generalize upd H1 l (.lst [.str "\"", .str "\\", .str "\n", .str " "]) = H2
  intro s2
  refine r_asg (r_bin (r_bin (r_v rfl (r_c ⟨⟨by decide, by decide⟩, r_bin (r_len (r_v rfl ⟨le_line (by omega), r_c (addI' ⟨(by show (0 : Int) < (x.length : Int) + 1; omega), ?_⟩)⟩))⟩))))
  refine r_ite (r_cmpT (r_bin (r_v rfl (r_c ⟨(by show (0 : Int) < 4; decide), r_c (ceI ⟨_, rfl, ?_⟩)⟩))))
  by_cases h1 : c % 4 = 1
  · refine iT ?_ (decide_eq_true h1)
    obtain ⟨g1, c1⟩ := good_cut gx none (some (c / 16 % ((x.length : Int) + 1)))
    obtain ⟨g2, c2⟩ := good_cut gx (some (c / 16 % ((x.length : Int) + 1))) none
    have g3 := good_app g1 gw (by omega)
    have l3 := app_len (cutS x none (some (c / 16 % ((x.length : Int) + 1)))) w
    have g4 := good_app g3 g2 (by omega)
    have l4 := app_len (cutS x none (some (c / 16 % ((x.length : Int) + 1))) ++ w) (cutS x (some (c / 16 % ((x.length : Int) + 1))) none)
    refine r_ret (r_tup (r_cons (r_c (r_cons (r_bin (r_bin (r_slT (r_v rfl (r_v rfl ⟨_, rfl, le_line (by omega), ?_⟩)))))))))
    refine r_v rfl ⟨le_line (by omega), ?_⟩
    refine r_slL (r_v rfl (r_v rfl ⟨_, rfl, le_line (by omega), ?_⟩))
    refine ⟨le_line (by omega), r_nil ⟨le2, fun p hp => ?_⟩⟩
    exact q p (.enter _) _ (s2.trans (sameNew hp)) upd_same ⟨g4, by omega⟩
  · refine iF (r_no ?_) (decide_eq_false h1)
    refine r_ite (r_cmpT (r_bin (r_v rfl (r_c ⟨(by show (0 : Int) < 4; decide), r_c (ceI ⟨_, rfl, ?_⟩)⟩))))
    by_cases h2 : c % 4 = 2
    · refine iT (r_asg (r_bin (r_c (r_bin (r_bin (r_v rfl (r_c ⟨⟨by decide, by decide⟩, r_c ⟨(by show (0 : Int) < 40; decide), addI' ?_⟩⟩))))))) (decide_eq_true h2)
      have mm := mod_in (c / 16) 40 (by decide)
      refine r_ret (r_tup (r_cons (r_c (r_cons (r_tuple (r_compR (r_v rfl ⟨1 + c / 16 % 40, rfl, by omega, by omega, ?_⟩)))))))
      refine comp_r (by omega) (fun i ys _ => ∃ xs : List Str, ys = xs.map V.str ∧ xs.length = i ∧ ∀ x ∈ xs, good x ∧ x.length ≤ 1000) ⟨[], rfl, rfl, fun x hx => by cases hx⟩ ?_ ?_
      · rintro i ys H3 hi s ⟨xs, rfl, hl, hx⟩ Q' kk
        have m5 := mod_in (0 + (i : Int)) 5 (by decide)
        refine r_bin (r_callS spTextL rfl (r_cons (r_callS spMixed rfl (r_cons (r_v rfl (r_cons (r_v rfl (r_nil ⟨_, _, rfl, ?_⟩))))))))
        refine r_cons (r_bin (r_v rfl (r_c ⟨(by show (0 : Int) < 5; decide), r_nil ⟨_, _, rfl, m5.1, by omega, fun y H4 gy ly s4 => r_v rfl ⟨le_line (by omega), ?_⟩⟩⟩)))
        have ly' : y.length ≤ 5 := by rw [ly]; omega
        have gz := good_app gy gw (by omega)
        have lz := app_len y w
        refine kk _ _ s4 ⟨xs ++ [y ++ w], by rw [List.map_append]; rfl, by simp [hl], fun z hz => ?_⟩
        rcases List.mem_append.mp hz with z' | z'
        · exact hx z z'
        · rw [List.mem_singleton.mp z']; exact ⟨gz, by omega⟩
      · rintro ys H3 p s ⟨xs, rfl, hl, hx⟩ hp
        refine ⟨_, .inl ⟨SqL.of upd_same, fun t ht => r_nil ⟨le2, fun a ha => ?_⟩⟩⟩
        exact q a (.paste xs) _ (s2.trans (s.trans ((sameNew hp).trans ((sameNew ht).trans (sameNew ha))))) ⟨t, upd_same, sameNew ha _ _ upd_same⟩ ⟨by omega, by omega, hx⟩
    · exact iF (r_no (r_ret (r_v rfl (q b d _ s2 (hb.same s2) hd)))) (decide_eq_false h2)
/-! ### _law_refused -/
def spRefused : Sp := fun vs H Q E => ∃ v, vs = [v] ∧ NoDeed v H ∧ ∀ H', Same H H' → Q (.str "deed") H'
theorem rd_refused {K : PySem.W.Frag} {cs : List Addr} {ink C : Addr} (kD : Kits K cs ink C 8) (xD : PySem.W.exmOne K (.ref C) (.ref ink) = some true) (vs : List V) (H : Hp) (Q : VK) (E : XK) (h : spRefused vs H Q E) :
    rdSs (rcx K [("shown", spShown C)] [("InkError", .ref ink)] (ht := [("_law_word", spWordL K cs ink)]) (E := E)) b_refusedL (Dn Q) (start N_refusedL vs) H := by
  obtain ⟨v, rfl, hn, q⟩ := h
  refine ⟨ink, rfl, ?_⟩
  refine r_drop (r_callS (spShown C) rfl (r_cons (r_v rfl (r_nil ⟨v, rfl, .inr ⟨hn, fun H1 s1 => ?_⟩⟩))))
  refine ⟨xD, fun ea ob vs σ' hea hl hob => ?_⟩
  have s2 := sameNew (o := .frz ob excU) hea
  have he : ExcAt (upd H1 ea (.frz ob excU)) ea C := ⟨ob, vs, upd_same, hob⟩
  exact ⟨_, (by rw [List.getElem?_set_self (by omega)]), ⟨ea, C, rfl, he⟩, ea, C, 8, rfl, he, kD, by decide, fun H3 s3 => q _ (s1.trans (s2.trans s3))⟩
/-! ### the law -/
theorem rd_wholeL {K : PySem.W.Frag} (vs : List V) (H : Hp) (Q : VK) (E : XK) (h : spWhole vs H Q E) : rdSs (rcx K [] [] (E := E)) b_wholeL (Dn Q) (start N_wholeL vs) H := by
  obtain ⟨i, rfl, q⟩ := h
  exact ⟨_, rfl, rfl, _, rfl, iteT ⟨_, rfl, rfl, q⟩⟩
def spLaw (K : PySem.W.Frag) : Sp := fun vs H Q E => ∃ (a : Addr) (ns : List Int), vs = [.ref a] ∧ SqL K H a (ns.map V.int) ∧ ∀ H', Q (.bl true) H'
abbrev tLaw (K : PySem.W.Frag) (C : Addr) : List (Str × Sp) := [("_law_long", spLong K), ("_law_deed", spDeedL), ("_law_mixed", spMixed), ("_law_cell_at", spCell K), ("shown", spShown C), ("_law_line", spLine), ("_law_alike", spAl 3), ("read", spRead), ("_law_refused", spRefused)]
theorem deed_tup {H : Hp} {a : Addr} {d : Dd} (h : DdAt H a d) (hd : okD d) : ∃ xs, H a = some (.tup xs) ∧ xs.length ≤ 1000 := by
  cases d with
  | paste xs => obtain ⟨t, h, _⟩ := h; exact ⟨_, h, Nat.le_of_ble_eq_true rfl⟩
  | _ => exact ⟨_, h, Nat.le_of_ble_eq_true rfl⟩
theorem rd_law {K : PySem.W.Frag} {C : Addr} (vs : List V) (H : Hp) (Q : VK) (E : XK) (h : spLaw K vs H Q E) : rdSs (rcx K (tLaw K C) [] (E := E)) b_law (Dn Q) (start N_law vs) H := by
  obtain ⟨a, ns, rfl, ha, k⟩ := h
  refine r_asg (r_callS (spLong K) rfl (r_cons (r_v rfl (r_cons (r_callS spDeedL rfl (r_cons (r_callS spMixed rfl (r_cons (r_callS (spCell K) rfl (r_cons (r_v rfl (r_cons (r_c (r_nil ⟨a, ns, 0, rfl, ha, by decide, ?_⟩))))))))))))))
  refine r_cons (r_c (r_nil ⟨_, _, rfl, r_nil ⟨_, rfl, fun b d0 H1 s1 hb0 hd0 => r_nil ⟨a, b, ns, d0, rfl, s1.seq ha, hb0, hd0, fun b d H2 s2 hb hd => ?_⟩⟩⟩))
  have s02 : Same H H2 := s1.trans s2
  clear hb0 hd0 s1 s2
  refine r_asg (r_callS (spShown C) rfl (r_cons (r_v rfl (r_nil ⟨_, rfl, .inl ⟨b, d, rfl, hb, hd, fun H3 s3 => ?_⟩⟩))))
  have hb3 := hb.same s3
  refine r_ite (r_orC (r_notT (r_isiT (r_v rfl (isi_st (iF ?_))))))
  refine r_or1 (r_cmpT (r_v rfl (r_callS spLine rfl (r_cons (r_v rfl (r_nil ⟨b, d, rfl, hb3, hd, fun H4 s4 => cnS ⟨_, rfl, iF (r_no ?_)⟩⟩))))))
  have hb4 := hb3.same s4
  refine r_ite (r_notT (r_callTS (spAl 3) rfl (r_cons (r_callS spRead rfl (r_cons (r_v rfl (r_nil ⟨d, rfl, hd, fun e H5 s5 he => ?_⟩)))))))
  have hb5 := hb4.same s5
  refine r_cons (r_v rfl (r_nil ⟨_, _, rfl, alk_deed he hb5 hd, fun H6 s6 => tru_bl (iF (r_no ?_))⟩))
  obtain ⟨xs, hx, lx⟩ := deed_tup (hb5.same s6) hd
  have s06 : Same H H6 := s02.trans (s3.trans (s4.trans (s5.trans s6)))
  refine r_asg (r_lst (r_cons (r_c (r_cons (r_c (r_cons (r_tup (r_cons (r_c (r_nil ⟨le1, fun t1 f1 => ?_⟩))))))))))
  have hx1 := sameNew (o := .tup [.str "Only"]) f1 _ _ hx
  refine r_cons (r_listB (r_v rfl ⟨xs, .inr (SqT.of hx1), fun t2 f2 => ?_⟩))
  refine r_cons (r_tup (r_cons (r_c (r_cons (r_c (r_nil ⟨le2, fun t3 f3 => ?_⟩))))))
  refine r_cons (r_tup (r_cons (r_c (r_cons (r_negc (r_nil ⟨le2, fun t4 f4 => ?_⟩))))))
  refine r_cons (r_tup (r_cons (r_c (r_cons (r_c (r_nil ⟨le2, fun t5 f5 => ?_⟩))))))
  refine r_cons (r_tup (r_cons (r_c (r_cons (r_c (r_nil ⟨le2, fun t6 f6 => r_nil ⟨(by show 8 ≤ sizeLine; decide), fun l f7 => ?_⟩⟩))))))
  have sA := sameNew (o := .tup [.str "Only"]) f1
  have sB := sameNew (o := .lst xs) f2
  have sC := sameNew (o := .tup [.str "enter", .str "a\t"]) f3
  have sD := sameNew (o := .tup [.str "go", .int (-1)]) f4
  have sE := sameNew (o := .tup [.str "go", .int 1000000000]) f5
  have sF := sameNew (o := .tup [.str "span", .int 1]) f6
  have sG := sameNew (o := .lst [.non, .str "only", .ref t1, .ref t2, .ref t3, .ref t4, .ref t5, .ref t6]) f7
  have hl := upd_same (H := upd (upd (upd (upd (upd (upd H6 t1 (.tup [.str "Only"])) t2 (.lst xs)) t3 (.tup [.str "enter", .str "a\t"])) t4 (.tup [.str "go", .int (-1)])) t5 (.tup [.str "go", .int 1000000000])) t6 (.tup [.str "span", .int 1])) (a := l) (o := .lst [.non, .str "only", .ref t1, .ref t2, .ref t3, .ref t4, .ref t5, .ref t6])
  have h1 := ((sB.trans (sC.trans (sD.trans (sE.trans (sF.trans sG)))))) _ _ (upd_same (a := t1))
  have h2 := (sC.trans (sD.trans (sE.trans (sF.trans sG)))) _ _ (upd_same (a := t2))
  have h3 := (sD.trans (sE.trans (sF.trans sG))) _ _ (upd_same (a := t3))
  have h4 := (sE.trans (sF.trans sG)) _ _ (upd_same (a := t4))
  have h5 := (sF.trans sG) _ _ (upd_same (a := t5))
  have h6 := sG _ _ (upd_same (a := t6))
  have s0 := s06.trans (sA.trans (sB.trans (sC.trans (sD.trans (sE.trans (sF.trans sG))))))
  revert hl h1 h2 h3 h4 h5 h6 s0
  generalize upd (upd (upd (upd (upd (upd (upd H6 t1 (.tup [.str "Only"])) t2 (.lst xs)) t3 (.tup [.str "enter", .str "a\t"])) t4 (.tup [.str "go", .int (-1)])) t5 (.tup [.str "go", .int 1000000000])) t6 (.tup [.str "span", .int 1])) l (.lst [.non, .str "only", .ref t1, .ref t2, .ref t3, .ref t4, .ref t5, .ref t6]) = H7
  intro hl h1 h2 h3 h4 h5 h6 s0
  refine r_ret (r_cmp (r_callS spRefused rfl (r_cons (r_ix (r_v rfl (r_bin (r_callS (spCell K) rfl (r_cons (r_v rfl (r_cons (r_c (r_nil ⟨a, ns, 4, rfl, s0.seq ha, by decide, r_c ⟨(by show (0 : Int) < 8; decide), ?_⟩⟩))))))))))))
  obtain ⟨v, hv, ev⟩ := pick (its := [.non, .str "only", .ref t1, .ref t2, .ref t3, .ref t4, .ref t5, .ref t6]) (j := cell ns (4 : Int).toNat % 8) (mod_in _ 8 (by decide)).1 (mod_in _ 8 (by decide)).2
  have hno : NoDeed v H7 := by
    simp only [List.mem_cons, List.not_mem_nil, or_false] at hv
    rcases hv with rfl | rfl | rfl | rfl | rfl | rfl | rfl | rfl
    · exact .inl rfl
    · exact .inl rfl
    · exact .inr ⟨_, rfl, .inl h1⟩
    · refine .inl ?_
      unfold NotTy isiV
      simp only [h2]
      rfl
    · exact .inr ⟨_, rfl, .inr (.inl h3)⟩
    · exact .inr ⟨_, rfl, .inr (.inr (.inl ⟨-1, .inl (by decide), h4⟩))⟩
    · exact .inr ⟨_, rfl, .inr (.inr (.inl ⟨1000000000, .inr (by decide), h5⟩))⟩
    · exact .inr ⟨_, rfl, .inr (.inr (.inr h6))⟩
  refine ixl hl ev (r_nil ⟨v, rfl, hno, fun H8 s8 => r_c (ce_str ?_)⟩)
  rw [show ((Str.ofString "deed") == (Str.ofString "deed")) = true by simp]
  exact k _
end L2.K42
set_option maxRecDepth 100000
set_option maxHeartbeats 4000000
namespace L2.K42
open PySem PySem.Spec PyProof.Rows L2.B
theorem all_mk {l : PySem.W.OpenLaw} {w : World} {K : PySem.W.Frag} {h : Heap} {mg : Str → Option Value} {fa f0 f1 f2 f3 f4 f5 f6 f7 f8 f9 f10 f11 f12 f13 f14 f15 f16 f17 f18 f19 f20 f21 f22 f23 f24 f25 f26 f27 f28 : Addr} {C_InkError : Addr} {C_BadText : Addr} {C_BadChange : Addr} {C_BadFit : Addr} {C_NoPlace : Addr} {C_BadSide : Addr} {C_NoMark : Addr} {C_NoNode : Addr} {C_NoCursor : Addr} {C_BadDeed : Addr} {C_BadLetter : Addr} {C_NoLetter : Addr} {C_NoHand : Addr} {C_NoNote : Addr} (X : K.In h) (G : h.Ns mainGlobals mg) (hfa : mg "law" = some (.ref fa))
    {od0 an0 : Option Addr} {sl0 : Array (Option Value)} {oc0 kV0 dc0 pm0 cd0 ct0 : Value}
    {od1 an1 : Option Addr} {sl1 : Array (Option Value)} {oc1 kV1 dc1 pm1 cd1 ct1 : Value}
    {od2 an2 : Option Addr} {sl2 : Array (Option Value)} {oc2 kV2 dc2 pm2 cd2 ct2 : Value}
    {od3 an3 : Option Addr} {sl3 : Array (Option Value)} {oc3 kV3 dc3 pm3 cd3 ct3 : Value}
    {od4 an4 : Option Addr} {sl4 : Array (Option Value)} {oc4 kV4 dc4 pm4 cd4 ct4 : Value}
    {od5 an5 : Option Addr} {sl5 : Array (Option Value)} {oc5 kV5 dc5 pm5 cd5 ct5 : Value}
    {od6 an6 : Option Addr} {sl6 : Array (Option Value)} {oc6 kV6 dc6 pm6 cd6 ct6 : Value}
    {od7 an7 : Option Addr} {sl7 : Array (Option Value)} {oc7 kV7 dc7 pm7 cd7 ct7 : Value}
    {od8 an8 : Option Addr} {sl8 : Array (Option Value)} {oc8 kV8 dc8 pm8 cd8 ct8 : Value}
    {od9 an9 : Option Addr} {sl9 : Array (Option Value)} {oc9 kV9 dc9 pm9 cd9 ct9 : Value}
    {od10 an10 : Option Addr} {sl10 : Array (Option Value)} {oc10 kV10 dc10 pm10 cd10 ct10 : Value}
    {od11 an11 : Option Addr} {sl11 : Array (Option Value)} {oc11 kV11 dc11 pm11 cd11 ct11 : Value}
    {od12 an12 : Option Addr} {sl12 : Array (Option Value)} {oc12 kV12 dc12 pm12 cd12 ct12 : Value}
    {od13 an13 : Option Addr} {sl13 : Array (Option Value)} {oc13 kV13 dc13 pm13 cd13 ct13 : Value}
    {od14 an14 : Option Addr} {sl14 : Array (Option Value)} {oc14 kV14 dc14 pm14 cd14 ct14 : Value}
    {od15 an15 : Option Addr} {sl15 : Array (Option Value)} {oc15 kV15 dc15 pm15 cd15 ct15 : Value}
    {od16 an16 : Option Addr} {sl16 : Array (Option Value)} {oc16 kV16 dc16 pm16 cd16 ct16 : Value}
    {od17 an17 : Option Addr} {sl17 : Array (Option Value)} {oc17 kV17 dc17 pm17 cd17 ct17 : Value}
    {od18 an18 : Option Addr} {sl18 : Array (Option Value)} {oc18 kV18 dc18 pm18 cd18 ct18 : Value}
    {od19 an19 : Option Addr} {sl19 : Array (Option Value)} {oc19 kV19 dc19 pm19 cd19 ct19 : Value}
    {od20 an20 : Option Addr} {sl20 : Array (Option Value)} {oc20 kV20 dc20 pm20 cd20 ct20 : Value}
    {od21 an21 : Option Addr} {sl21 : Array (Option Value)} {oc21 kV21 dc21 pm21 cd21 ct21 : Value}
    {od22 an22 : Option Addr} {sl22 : Array (Option Value)} {oc22 kV22 dc22 pm22 cd22 ct22 : Value}
    {od23 an23 : Option Addr} {sl23 : Array (Option Value)} {oc23 kV23 dc23 pm23 cd23 ct23 : Value}
    {od24 an24 : Option Addr} {sl24 : Array (Option Value)} {oc24 kV24 dc24 pm24 cd24 ct24 : Value}
    {od25 an25 : Option Addr} {sl25 : Array (Option Value)} {oc25 kV25 dc25 pm25 cd25 ct25 : Value}
    {od26 an26 : Option Addr} {sl26 : Array (Option Value)} {oc26 kV26 dc26 pm26 cd26 ct26 : Value}
    {od27 an27 : Option Addr} {sl27 : Array (Option Value)} {oc27 kV27 dc27 pm27 cd27 ct27 : Value}
    {od28 an28 : Option Addr} {sl28 : Array (Option Value)} {oc28 kV28 dc28 pm28 cd28 ct28 : Value}
    {tk_SIGNS : Tok}
    {tk_MOST_CURSORS : Tok}
    {tk_MOST_NUMBER : Tok}
    {tk_FIGURES : Tok}
    {tk_MOST_FIGURES : Tok}
    {p_SIDES : Addr} {n_SIDES : Nat} {SIDES_t0 SIDES_t1 : Tok}
    {p_STEP_WORDS : Addr} {n_STEP_WORDS : Nat} {STEP_WORDS_t0 STEP_WORDS_t1 STEP_WORDS_t2 STEP_WORDS_t3 STEP_WORDS_t4 STEP_WORDS_t5 STEP_WORDS_t6 STEP_WORDS_t7 STEP_WORDS_t8 STEP_WORDS_t9 : Tok}
    {p_ERASE_WORDS : Addr} {n_ERASE_WORDS : Nat} {ERASE_WORDS_t0 ERASE_WORDS_t1 ERASE_WORDS_t2 ERASE_WORDS_t3 ERASE_WORDS_t4 ERASE_WORDS_t5 : Tok}
    (g_InkError : PySem.W.nsIn K mainGlobals "InkError" = some (some (.ref C_InkError)))
    (g_BadText : PySem.W.nsIn K mainGlobals "BadText" = some (some (.ref C_BadText)))
    (g_BadChange : PySem.W.nsIn K mainGlobals "BadChange" = some (some (.ref C_BadChange)))
    (g_BadFit : PySem.W.nsIn K mainGlobals "BadFit" = some (some (.ref C_BadFit)))
    (g_NoPlace : PySem.W.nsIn K mainGlobals "NoPlace" = some (some (.ref C_NoPlace)))
    (g_BadSide : PySem.W.nsIn K mainGlobals "BadSide" = some (some (.ref C_BadSide)))
    (g_NoMark : PySem.W.nsIn K mainGlobals "NoMark" = some (some (.ref C_NoMark)))
    (g_NoNode : PySem.W.nsIn K mainGlobals "NoNode" = some (some (.ref C_NoNode)))
    (g_NoCursor : PySem.W.nsIn K mainGlobals "NoCursor" = some (some (.ref C_NoCursor)))
    (g_BadDeed : PySem.W.nsIn K mainGlobals "BadDeed" = some (some (.ref C_BadDeed)))
    (g_BadLetter : PySem.W.nsIn K mainGlobals "BadLetter" = some (some (.ref C_BadLetter)))
    (g_NoLetter : PySem.W.nsIn K mainGlobals "NoLetter" = some (some (.ref C_NoLetter)))
    (g_NoHand : PySem.W.nsIn K mainGlobals "NoHand" = some (some (.ref C_NoHand)))
    (g_NoNote : PySem.W.nsIn K mainGlobals "NoNote" = some (some (.ref C_NoNote)))
    (x_BadDeed : PySem.W.excIn K C_BadDeed [.type "ValueError", .type "Exception", .type "BaseException", .type "object"] "ValueError.__new__" = true)
    (x_NoNote : PySem.W.excIn K C_NoNote [.type "ValueError", .type "Exception", .type "BaseException", .type "object"] "ValueError.__new__" = true)
    (e1_BadDeed : PySem.W.findIn K (.ref C_BadDeed) "__getattribute__" = some (some (.builtin "BaseException.__getattribute__")))
    (e2_BadDeed : PySem.W.findIn K (.ref C_BadDeed) "__getattr__" = some none)
    (e3_BadDeed : (PySem.W.clsIn K C_BadDeed).isSome = true)
    (e4_BadDeed : PySem.W.findIn K (.ref C_BadDeed) "__class__" = some (some (.builtin "object.__class__")))
    (e7_BadDeed : PySem.W.mroIn K C_BadDeed (.type "object") = some true)
    (e8_BadDeed : PySem.W.mroIn K C_BadDeed (.type "BaseException") = some true)
    (kt_BadDeed_BadText : PySem.W.kitOne K (.ref C_BadDeed) (.ref C_BadText) = some false)
    (kt_BadDeed_BadChange : PySem.W.kitOne K (.ref C_BadDeed) (.ref C_BadChange) = some false)
    (kt_BadDeed_BadFit : PySem.W.kitOne K (.ref C_BadDeed) (.ref C_BadFit) = some false)
    (kt_BadDeed_NoPlace : PySem.W.kitOne K (.ref C_BadDeed) (.ref C_NoPlace) = some false)
    (kt_BadDeed_BadSide : PySem.W.kitOne K (.ref C_BadDeed) (.ref C_BadSide) = some false)
    (kt_BadDeed_NoMark : PySem.W.kitOne K (.ref C_BadDeed) (.ref C_NoMark) = some false)
    (kt_BadDeed_NoNode : PySem.W.kitOne K (.ref C_BadDeed) (.ref C_NoNode) = some false)
    (kt_BadDeed_NoCursor : PySem.W.kitOne K (.ref C_BadDeed) (.ref C_NoCursor) = some false)
    (kt_BadDeed_BadDeed : PySem.W.kitOne K (.ref C_BadDeed) (.ref C_BadDeed) = some true)
    (kt_BadDeed_BadLetter : PySem.W.kitOne K (.ref C_BadDeed) (.ref C_BadLetter) = some false)
    (kt_BadDeed_NoLetter : PySem.W.kitOne K (.ref C_BadDeed) (.ref C_NoLetter) = some false)
    (kt_BadDeed_NoHand : PySem.W.kitOne K (.ref C_BadDeed) (.ref C_NoHand) = some false)
    (kt_BadDeed_NoNote : PySem.W.kitOne K (.ref C_BadDeed) (.ref C_NoNote) = some false)
    (ki_BadDeed : PySem.W.kitOne K (.ref C_BadDeed) (.ref C_InkError) = some true)
    (kv_BadDeed : PySem.W.kitOne K (.ref C_BadDeed) (.type "ValueError") = some true)
    (X_BadDeed : PySem.W.exmOne K (.ref C_BadDeed) (.ref C_InkError) = some true)
    (e5 : PySem.W.specialIn K (.builtin "object.__class__") "__get__" = some (some (.builtin "getset_descriptor.__get__")))
    (e6 : PySem.W.takesIn K (.builtin "object.__class__") = some true)
    (a0 : PySem.W.nsIn K mainGlobals "is_whole" = some (some (.ref f0)))
    (l0 : K.lookup f0 = some ⟨oc0, od0, .func (PySem.W.fnOf "is_whole" "is_whole" (defArgs s_is_whole) (defBody s_is_whole) (defScope s_is_whole) .none kV0 dc0 pm0 an0 cd0 ct0), sl0⟩)
    (c0 : PySem.W.codeIn K cd0 "is_whole" = true)
    (k0 : PySem.W.keepIn K (.ref f0) = true)
    (a1 : PySem.W.nsIn K mainGlobals "is_between" = some (some (.ref f1)))
    (l1 : K.lookup f1 = some ⟨oc1, od1, .func (PySem.W.fnOf "is_between" "is_between" (defArgs s_is_between) (defBody s_is_between) (defScope s_is_between) .none kV1 dc1 pm1 an1 cd1 ct1), sl1⟩)
    (c1 : PySem.W.codeIn K cd1 "is_between" = true)
    (k1 : PySem.W.keepIn K (.ref f1) = true)
    (a2 : PySem.W.nsIn K mainGlobals "is_truth" = some (some (.ref f2)))
    (l2 : K.lookup f2 = some ⟨oc2, od2, .func (PySem.W.fnOf "is_truth" "is_truth" (defArgs s_is_truth) (defBody s_is_truth) (defScope s_is_truth) .none kV2 dc2 pm2 an2 cd2 ct2), sl2⟩)
    (c2 : PySem.W.codeIn K cd2 "is_truth" = true)
    (k2 : PySem.W.keepIn K (.ref f2) = true)
    (a3 : PySem.W.nsIn K mainGlobals "is_word" = some (some (.ref f3)))
    (l3 : K.lookup f3 = some ⟨oc3, od3, .func (PySem.W.fnOf "is_word" "is_word" (defArgs s_is_word) (defBody s_is_word) (defScope s_is_word) .none kV3 dc3 pm3 an3 cd3 ct3), sl3⟩)
    (c3 : PySem.W.codeIn K cd3 "is_word" = true)
    (k3 : PySem.W.keepIn K (.ref f3) = true)
    (a4 : PySem.W.nsIn K mainGlobals "is_text" = some (some (.ref f4)))
    (l4 : K.lookup f4 = some ⟨oc4, od4, .func (PySem.W.fnOf "is_text" "is_text" (defArgs s_is_text) (defBody s_is_text) (defScope s_is_text) .none kV4 dc4 pm4 an4 cd4 ct4), sl4⟩)
    (c4 : PySem.W.codeIn K cd4 "is_text" = true)
    (k4 : PySem.W.keepIn K (.ref f4) = true)
    (a5 : PySem.W.nsIn K mainGlobals "are_texts" = some (some (.ref f5)))
    (l5 : K.lookup f5 = some ⟨oc5, od5, .func (PySem.W.fnOf "are_texts" "are_texts" (defArgs s_are_texts) (defBody s_are_texts) (defScope s_are_texts) .none kV5 dc5 pm5 an5 cd5 ct5), sl5⟩)
    (c5 : PySem.W.codeIn K cd5 "are_texts" = true)
    (k5 : PySem.W.keepIn K (.ref f5) = true)
    (a6 : PySem.W.nsIn K mainGlobals "is_object" = some (some (.ref f6)))
    (l6 : K.lookup f6 = some ⟨oc6, od6, .func (PySem.W.fnOf "is_object" "is_object" (defArgs s_is_object) (defBody s_is_object) (defScope s_is_object) .none kV6 dc6 pm6 an6 cd6 ct6), sl6⟩)
    (c6 : PySem.W.codeIn K cd6 "is_object" = true)
    (k6 : PySem.W.keepIn K (.ref f6) = true)
    (a7 : PySem.W.nsIn K mainGlobals "is_deed" = some (some (.ref f7)))
    (l7 : K.lookup f7 = some ⟨oc7, od7, .func (PySem.W.fnOf "is_deed" "is_deed" (defArgs s_is_deed) (defBody s_is_deed) (defScope s_is_deed) .none kV7 dc7 pm7 an7 cd7 ct7), sl7⟩)
    (c7 : PySem.W.codeIn K cd7 "is_deed" = true)
    (k7 : PySem.W.keepIn K (.ref f7) = true)
    (a8 : PySem.W.nsIn K mainGlobals "need_deed" = some (some (.ref f8)))
    (l8 : K.lookup f8 = some ⟨oc8, od8, .func (PySem.W.fnOf "need_deed" "need_deed" (defArgs s_need_deed) (defBody s_need_deed) (defScope s_need_deed) .none kV8 dc8 pm8 an8 cd8 ct8), sl8⟩)
    (c8 : PySem.W.codeIn K cd8 "need_deed" = true)
    (k8 : PySem.W.keepIn K (.ref f8) = true)
    (a9 : PySem.W.nsIn K mainGlobals "quoted" = some (some (.ref f9)))
    (l9 : K.lookup f9 = some ⟨oc9, od9, .func (PySem.W.fnOf "quoted" "quoted" (defArgs s_quoted) (defBody s_quoted) (defScope s_quoted) .none kV9 dc9 pm9 an9 cd9 ct9), sl9⟩)
    (c9 : PySem.W.codeIn K cd9 "quoted" = true)
    (k9 : PySem.W.keepIn K (.ref f9) = true)
    (a10 : PySem.W.nsIn K mainGlobals "words_of" = some (some (.ref f10)))
    (l10 : K.lookup f10 = some ⟨oc10, od10, .func (PySem.W.fnOf "words_of" "words_of" (defArgs s_words_of) (defBody s_words_of) (defScope s_words_of) .none kV10 dc10 pm10 an10 cd10 ct10), sl10⟩)
    (c10 : PySem.W.codeIn K cd10 "words_of" = true)
    (k10 : PySem.W.keepIn K (.ref f10) = true)
    (a11 : PySem.W.nsIn K mainGlobals "shown" = some (some (.ref f11)))
    (l11 : K.lookup f11 = some ⟨oc11, od11, .func (PySem.W.fnOf "shown" "shown" (defArgs s_shown) (defBody s_shown) (defScope s_shown) .none kV11 dc11 pm11 an11 cd11 ct11), sl11⟩)
    (c11 : PySem.W.codeIn K cd11 "shown" = true)
    (k11 : PySem.W.keepIn K (.ref f11) = true)
    (a12 : PySem.W.nsIn K mainGlobals "texts_of" = some (some (.ref f12)))
    (l12 : K.lookup f12 = some ⟨oc12, od12, .func (PySem.W.fnOf "texts_of" "texts_of" (defArgs s_texts_of) (defBody s_texts_of) (defScope s_texts_of) .none kV12 dc12 pm12 an12 cd12 ct12), sl12⟩)
    (c12 : PySem.W.codeIn K cd12 "texts_of" = true)
    (k12 : PySem.W.keepIn K (.ref f12) = true)
    (a13 : PySem.W.nsIn K mainGlobals "number_of" = some (some (.ref f13)))
    (l13 : K.lookup f13 = some ⟨oc13, od13, .func (PySem.W.fnOf "number_of" "number_of" (defArgs s_number_of) (defBody s_number_of) (defScope s_number_of) .none kV13 dc13 pm13 an13 cd13 ct13), sl13⟩)
    (c13 : PySem.W.codeIn K cd13 "number_of" = true)
    (k13 : PySem.W.keepIn K (.ref f13) = true)
    (a14 : PySem.W.nsIn K mainGlobals "guess" = some (some (.ref f14)))
    (l14 : K.lookup f14 = some ⟨oc14, od14, .func (PySem.W.fnOf "guess" "guess" (defArgs s_guess) (defBody s_guess) (defScope s_guess) .none kV14 dc14 pm14 an14 cd14 ct14), sl14⟩)
    (c14 : PySem.W.codeIn K cd14 "guess" = true)
    (k14 : PySem.W.keepIn K (.ref f14) = true)
    (a15 : PySem.W.nsIn K mainGlobals "read" = some (some (.ref f15)))
    (l15 : K.lookup f15 = some ⟨oc15, od15, .func (PySem.W.fnOf "read" "read" (defArgs s_read) (defBody s_read) (defScope s_read) .none kV15 dc15 pm15 an15 cd15 ct15), sl15⟩)
    (c15 : PySem.W.codeIn K cd15 "read" = true)
    (k15 : PySem.W.keepIn K (.ref f15) = true)
    (a16 : PySem.W.nsIn K mainGlobals "_law_cell_at" = some (some (.ref f16)))
    (l16 : K.lookup f16 = some ⟨oc16, od16, .func (PySem.W.fnOf "_law_cell_at" "_law_cell_at" (defArgs s_cell_atL) (defBody s_cell_atL) (defScope s_cell_atL) .none kV16 dc16 pm16 an16 cd16 ct16), sl16⟩)
    (c16 : PySem.W.codeIn K cd16 "_law_cell_at" = true)
    (k16 : PySem.W.keepIn K (.ref f16) = true)
    (a17 : PySem.W.nsIn K mainGlobals "_law_whole" = some (some (.ref f17)))
    (l17 : K.lookup f17 = some ⟨oc17, od17, .func (PySem.W.fnOf "_law_whole" "_law_whole" (defArgs s_wholeL) (defBody s_wholeL) (defScope s_wholeL) .none kV17 dc17 pm17 an17 cd17 ct17), sl17⟩)
    (c17 : PySem.W.codeIn K cd17 "_law_whole" = true)
    (k17 : PySem.W.keepIn K (.ref f17) = true)
    (a18 : PySem.W.nsIn K mainGlobals "_law_mixed" = some (some (.ref f18)))
    (l18 : K.lookup f18 = some ⟨oc18, od18, .func (PySem.W.fnOf "_law_mixed" "_law_mixed" (defArgs s_mixedL) (defBody s_mixedL) (defScope s_mixedL) .none kV18 dc18 pm18 an18 cd18 ct18), sl18⟩)
    (c18 : PySem.W.codeIn K cd18 "_law_mixed" = true)
    (k18 : PySem.W.keepIn K (.ref f18) = true)
    (a19 : PySem.W.nsIn K mainGlobals "_law_text" = some (some (.ref f19)))
    (l19 : K.lookup f19 = some ⟨oc19, od19, .func (PySem.W.fnOf "_law_text" "_law_text" (defArgs s_textL) (defBody s_textL) (defScope s_textL) .none kV19 dc19 pm19 an19 cd19 ct19), sl19⟩)
    (c19 : PySem.W.codeIn K cd19 "_law_text" = true)
    (k19 : PySem.W.keepIn K (.ref f19) = true)
    (a20 : PySem.W.nsIn K mainGlobals "_law_size" = some (some (.ref f20)))
    (l20 : K.lookup f20 = some ⟨oc20, od20, .func (PySem.W.fnOf "_law_size" "_law_size" (defArgs s_sizeL) (defBody s_sizeL) (defScope s_sizeL) .none kV20 dc20 pm20 an20 cd20 ct20), sl20⟩)
    (c20 : PySem.W.codeIn K cd20 "_law_size" = true)
    (k20 : PySem.W.keepIn K (.ref f20) = true)
    (a21 : PySem.W.nsIn K mainGlobals "_law_deed" = some (some (.ref f21)))
    (l21 : K.lookup f21 = some ⟨oc21, od21, .func (PySem.W.fnOf "_law_deed" "_law_deed" (defArgs s_deedL) (defBody s_deedL) (defScope s_deedL) .none kV21 dc21 pm21 an21 cd21 ct21), sl21⟩)
    (c21 : PySem.W.codeIn K cd21 "_law_deed" = true)
    (k21 : PySem.W.keepIn K (.ref f21) = true)
    (a22 : PySem.W.nsIn K mainGlobals "_law_alike" = some (some (.ref f22)))
    (l22 : K.lookup f22 = some ⟨oc22, od22, .func (PySem.W.fnOf "_law_alike" "_law_alike" (defArgs s_alikeL) (defBody s_alikeL) (defScope s_alikeL) .none kV22 dc22 pm22 an22 cd22 ct22), sl22⟩)
    (c22 : PySem.W.codeIn K cd22 "_law_alike" = true)
    (k22 : PySem.W.keepIn K (.ref f22) = true)
    (a23 : PySem.W.nsIn K mainGlobals "_law_word" = some (some (.ref f23)))
    (l23 : K.lookup f23 = some ⟨oc23, od23, .func (PySem.W.fnOf "_law_word" "_law_word" (defArgs s_wordL) (defBody s_wordL) (defScope s_wordL) .none kV23 dc23 pm23 an23 cd23 ct23), sl23⟩)
    (c23 : PySem.W.codeIn K cd23 "_law_word" = true)
    (k23 : PySem.W.keepIn K (.ref f23) = true)
    (a24 : PySem.W.nsIn K mainGlobals "_law_quoted" = some (some (.ref f24)))
    (l24 : K.lookup f24 = some ⟨oc24, od24, .func (PySem.W.fnOf "_law_quoted" "_law_quoted" (defArgs s_quotedL) (defBody s_quotedL) (defScope s_quotedL) .none kV24 dc24 pm24 an24 cd24 ct24), sl24⟩)
    (c24 : PySem.W.codeIn K cd24 "_law_quoted" = true)
    (k24 : PySem.W.keepIn K (.ref f24) = true)
    (a25 : PySem.W.nsIn K mainGlobals "_law_line" = some (some (.ref f25)))
    (l25 : K.lookup f25 = some ⟨oc25, od25, .func (PySem.W.fnOf "_law_line" "_law_line" (defArgs s_lineL) (defBody s_lineL) (defScope s_lineL) .none kV25 dc25 pm25 an25 cd25 ct25), sl25⟩)
    (c25 : PySem.W.codeIn K cd25 "_law_line" = true)
    (k25 : PySem.W.keepIn K (.ref f25) = true)
    (a26 : PySem.W.nsIn K mainGlobals "_law_long" = some (some (.ref f26)))
    (l26 : K.lookup f26 = some ⟨oc26, od26, .func (PySem.W.fnOf "_law_long" "_law_long" (defArgs s_longL) (defBody s_longL) (defScope s_longL) .none kV26 dc26 pm26 an26 cd26 ct26), sl26⟩)
    (c26 : PySem.W.codeIn K cd26 "_law_long" = true)
    (k26 : PySem.W.keepIn K (.ref f26) = true)
    (a27 : PySem.W.nsIn K mainGlobals "_law_refused" = some (some (.ref f27)))
    (l27 : K.lookup f27 = some ⟨oc27, od27, .func (PySem.W.fnOf "_law_refused" "_law_refused" (defArgs s_refusedL) (defBody s_refusedL) (defScope s_refusedL) .none kV27 dc27 pm27 an27 cd27 ct27), sl27⟩)
    (c27 : PySem.W.codeIn K cd27 "_law_refused" = true)
    (k27 : PySem.W.keepIn K (.ref f27) = true)
    (a28 : PySem.W.nsIn K mainGlobals "law" = some (some (.ref f28)))
    (l28 : K.lookup f28 = some ⟨oc28, od28, .func (PySem.W.fnOf "law" "law" (defArgs s_law) (defBody s_law) (defScope s_law) .none kV28 dc28 pm28 an28 cd28 ct28), sl28⟩)
    (c28 : PySem.W.codeIn K cd28 "law" = true)
    (k28 : PySem.W.keepIn K (.ref f28) = true)
    (g_SIGNS : PySem.W.nsIn K mainGlobals "SIGNS" = some (some (Value.str SG tk_SIGNS)))
    (g_MOST_CURSORS : PySem.W.nsIn K mainGlobals "MOST_CURSORS" = some (some (Value.int 40 tk_MOST_CURSORS)))
    (g_MOST_NUMBER : PySem.W.nsIn K mainGlobals "MOST_NUMBER" = some (some (Value.int 999999999 tk_MOST_NUMBER)))
    (g_FIGURES : PySem.W.nsIn K mainGlobals "FIGURES" = some (some (Value.str FG tk_FIGURES)))
    (g_MOST_FIGURES : PySem.W.nsIn K mainGlobals "MOST_FIGURES" = some (some (Value.int 9 tk_MOST_FIGURES)))
    (g_SIDES : PySem.W.nsIn K mainGlobals "SIDES" = some (some (.ref p_SIDES)))
    (d_SIDES : K.lookup p_SIDES = some ⟨.type "tuple", none, .seq #[.str "left" SIDES_t0, .str "right" SIDES_t1] n_SIDES, #[]⟩)
    (g_STEP_WORDS : PySem.W.nsIn K mainGlobals "STEP_WORDS" = some (some (.ref p_STEP_WORDS)))
    (d_STEP_WORDS : K.lookup p_STEP_WORDS = some ⟨.type "tuple", none, .seq #[.str "left" STEP_WORDS_t0, .str "right" STEP_WORDS_t1, .str "home" STEP_WORDS_t2, .str "end" STEP_WORDS_t3, .str "top" STEP_WORDS_t4, .str "bottom" STEP_WORDS_t5, .str "back" STEP_WORDS_t6, .str "on" STEP_WORDS_t7, .str "up" STEP_WORDS_t8, .str "down" STEP_WORDS_t9] n_STEP_WORDS, #[]⟩)
    (g_ERASE_WORDS : PySem.W.nsIn K mainGlobals "ERASE_WORDS" = some (some (.ref p_ERASE_WORDS)))
    (d_ERASE_WORDS : K.lookup p_ERASE_WORDS = some ⟨.type "tuple", none, .seq #[.str "left" ERASE_WORDS_t0, .str "right" ERASE_WORDS_t1, .str "back" ERASE_WORDS_t2, .str "on" ERASE_WORDS_t3, .str "home" ERASE_WORDS_t4, .str "end" ERASE_WORDS_t5] n_ERASE_WORDS, #[]⟩)
    (z_ValueError : PySem.W.nsIn K mainGlobals "ValueError" = some none)
    (z_all : PySem.W.nsIn K mainGlobals "all" = some none)
    (z_bool : PySem.W.nsIn K mainGlobals "bool" = some none)
    (z_int : PySem.W.nsIn K mainGlobals "int" = some none)
    (z_isinstance : PySem.W.nsIn K mainGlobals "isinstance" = some none)
    (z_len : PySem.W.nsIn K mainGlobals "len" = some none)
    (z_list : PySem.W.nsIn K mainGlobals "list" = some none)
    (z_range : PySem.W.nsIn K mainGlobals "range" = some none)
    (z_str : PySem.W.nsIn K mainGlobals "str" = some none)
    (z_tuple : PySem.W.nsIn K mainGlobals "tuple" = some none)
    (z_zip : PySem.W.nsIn K mainGlobals "zip" = some none)
    : ∃ fd : FuncData, (∀ (s : Shared) (v : Value), BindsTo s fd ⟨[v], []⟩ [("_law_script", v)]) ∧ ∀ base : Heap, K.In base → base.Ns mainGlobals mg → FnOk l.prog w K mg base CX0 8 fa fd ["_law_script"] (fun vs H Q _ => (spLaw K) vs H Q E0) := by
  have e := hfa.symm.trans (PySem.W.mg_of X G a28)
  cases e
  have y_ValueError : mg "ValueError" = none := PySem.W.mg_none_of X G z_ValueError
  have y_all : mg "all" = none := PySem.W.mg_none_of X G z_all
  have y_bool : mg "bool" = none := PySem.W.mg_none_of X G z_bool
  have y_int : mg "int" = none := PySem.W.mg_none_of X G z_int
  have y_isinstance : mg "isinstance" = none := PySem.W.mg_none_of X G z_isinstance
  have y_len : mg "len" = none := PySem.W.mg_none_of X G z_len
  have y_list : mg "list" = none := PySem.W.mg_none_of X G z_list
  have y_range : mg "range" = none := PySem.W.mg_none_of X G z_range
  have y_str : mg "str" = none := PySem.W.mg_none_of X G z_str
  have y_tuple : mg "tuple" = none := PySem.W.mg_none_of X G z_tuple
  have y_zip : mg "zip" = none := PySem.W.mg_none_of X G z_zip
  have u_SIGNS : GvT mg ("SIGNS", .str SG) := ⟨_, PySem.W.mg_of X G g_SIGNS, ⟨_, rfl⟩⟩
  have u_MOST_CURSORS : GvT mg ("MOST_CURSORS", .int 40) := ⟨_, PySem.W.mg_of X G g_MOST_CURSORS, ⟨_, rfl⟩⟩
  have u_MOST_NUMBER : GvT mg ("MOST_NUMBER", .int 999999999) := ⟨_, PySem.W.mg_of X G g_MOST_NUMBER, ⟨_, rfl⟩⟩
  have u_FIGURES : GvT mg ("FIGURES", .str FG) := ⟨_, PySem.W.mg_of X G g_FIGURES, ⟨_, rfl⟩⟩
  have u_MOST_FIGURES : GvT mg ("MOST_FIGURES", .int 9) := ⟨_, PySem.W.mg_of X G g_MOST_FIGURES, ⟨_, rfl⟩⟩
  have u_InkError : GvT mg ("InkError", .ref C_InkError) := ⟨_, PySem.W.mg_of X G g_InkError, rfl⟩
  have u_BadText : GvT mg ("BadText", .ref C_BadText) := ⟨_, PySem.W.mg_of X G g_BadText, rfl⟩
  have u_BadChange : GvT mg ("BadChange", .ref C_BadChange) := ⟨_, PySem.W.mg_of X G g_BadChange, rfl⟩
  have u_BadFit : GvT mg ("BadFit", .ref C_BadFit) := ⟨_, PySem.W.mg_of X G g_BadFit, rfl⟩
  have u_NoPlace : GvT mg ("NoPlace", .ref C_NoPlace) := ⟨_, PySem.W.mg_of X G g_NoPlace, rfl⟩
  have u_BadSide : GvT mg ("BadSide", .ref C_BadSide) := ⟨_, PySem.W.mg_of X G g_BadSide, rfl⟩
  have u_NoMark : GvT mg ("NoMark", .ref C_NoMark) := ⟨_, PySem.W.mg_of X G g_NoMark, rfl⟩
  have u_NoNode : GvT mg ("NoNode", .ref C_NoNode) := ⟨_, PySem.W.mg_of X G g_NoNode, rfl⟩
  have u_NoCursor : GvT mg ("NoCursor", .ref C_NoCursor) := ⟨_, PySem.W.mg_of X G g_NoCursor, rfl⟩
  have u_BadDeed : GvT mg ("BadDeed", .ref C_BadDeed) := ⟨_, PySem.W.mg_of X G g_BadDeed, rfl⟩
  have u_BadLetter : GvT mg ("BadLetter", .ref C_BadLetter) := ⟨_, PySem.W.mg_of X G g_BadLetter, rfl⟩
  have u_NoLetter : GvT mg ("NoLetter", .ref C_NoLetter) := ⟨_, PySem.W.mg_of X G g_NoLetter, rfl⟩
  have u_NoHand : GvT mg ("NoHand", .ref C_NoHand) := ⟨_, PySem.W.mg_of X G g_NoHand, rfl⟩
  have u_NoNote : GvT mg ("NoNote", .ref C_NoNote) := ⟨_, PySem.W.mg_of X G g_NoNote, rfl⟩
  have W_BadDeed : Kits K [C_BadText, C_BadChange, C_BadFit, C_NoPlace, C_BadSide, C_NoMark, C_NoNode, C_NoCursor, C_BadDeed, C_BadLetter, C_NoLetter, C_NoHand, C_NoNote] C_InkError C_BadDeed 8 := kits_of ⟨e1_BadDeed, e2_BadDeed, e3_BadDeed, e4_BadDeed, e5, e6, e7_BadDeed, e8_BadDeed⟩ ki_BadDeed kv_BadDeed kt_BadDeed_BadText kt_BadDeed_BadChange kt_BadDeed_BadFit kt_BadDeed_NoPlace kt_BadDeed_BadSide kt_BadDeed_NoMark kt_BadDeed_NoNode kt_BadDeed_NoCursor kt_BadDeed_BadDeed kt_BadDeed_BadLetter kt_BadDeed_NoLetter kt_BadDeed_NoHand kt_BadDeed_NoNote
  have u_SIDES : GvT mg ("SIDES", .ref p_SIDES) := ⟨_, PySem.W.mg_of X G g_SIDES, rfl⟩
  have q_SIDES : TupC K p_SIDES [.str "left", .str "right"] := fun _ => .inr ⟨_, _, _, d_SIDES, rfl, rfl, (by show 2 ≤ sizeLine; decide), (.cons ⟨_, rfl⟩ (.cons ⟨_, rfl⟩ .nil))⟩
  have u_STEP_WORDS : GvT mg ("STEP_WORDS", .ref p_STEP_WORDS) := ⟨_, PySem.W.mg_of X G g_STEP_WORDS, rfl⟩
  have q_STEP_WORDS : TupC K p_STEP_WORDS [.str "left", .str "right", .str "home", .str "end", .str "top", .str "bottom", .str "back", .str "on", .str "up", .str "down"] := fun _ => .inr ⟨_, _, _, d_STEP_WORDS, rfl, rfl, (by show 10 ≤ sizeLine; decide), (.cons ⟨_, rfl⟩ (.cons ⟨_, rfl⟩ (.cons ⟨_, rfl⟩ (.cons ⟨_, rfl⟩ (.cons ⟨_, rfl⟩ (.cons ⟨_, rfl⟩ (.cons ⟨_, rfl⟩ (.cons ⟨_, rfl⟩ (.cons ⟨_, rfl⟩ (.cons ⟨_, rfl⟩ .nil))))))))))⟩
  have u_ERASE_WORDS : GvT mg ("ERASE_WORDS", .ref p_ERASE_WORDS) := ⟨_, PySem.W.mg_of X G g_ERASE_WORDS, rfl⟩
  have q_ERASE_WORDS : TupC K p_ERASE_WORDS [.str "left", .str "right", .str "back", .str "on", .str "home", .str "end"] := fun _ => .inr ⟨_, _, _, d_ERASE_WORDS, rfl, rfl, (by show 6 ≤ sizeLine; decide), (.cons ⟨_, rfl⟩ (.cons ⟨_, rfl⟩ (.cons ⟨_, rfl⟩ (.cons ⟨_, rfl⟩ (.cons ⟨_, rfl⟩ (.cons ⟨_, rfl⟩ .nil))))))⟩
  refine ⟨PySem.W.fnOf "law" "law" (defArgs s_law) (defBody s_law) (defScope s_law) .none kV28 dc28 pm28 an28 cd28 ct28, fun s v => .of_eq rfl, fun base X2 G2 => ?_⟩
  have v_BadDeed : ExT mg base ("BadDeed", C_BadDeed) := ext_of X2 G2 g_BadDeed x_BadDeed
  have v_NoNote : ExT mg base ("NoNote", C_NoNote) := ext_of X2 G2 g_NoNote x_NoNote
  have F0 := fun_mk (st := s_is_whole) l0 c0 k0
  have B0 := F0.binds (ps := P_is_whole) fun _ _ _ _ _ _ us hl => match us, hl with | [_], _ => rfl
  have T0 : FnT l.prog w K mg base 1 "is_whole" (spWholeX) := ⟨_, _, _, (def_fnX (k := 0) F0 sc_is_whole [] [] l_is_whole [] [] [] [] b_is_whole m_is_whole am_nil am_nil (am_cons y_isinstance (am_cons y_int (am_cons y_bool am_nil))) [] am_nil am_nil am_nil am_nil am_nil (by rintro vs H Q E ⟨_, rfl, _⟩; rfl) rd_wholeX), PySem.W.mg_of X G a0, F0.kp, B0⟩
  have F1 := fun_mk (st := s_is_between) l1 c1 k1
  have B1 := F1.binds (ps := P_is_between) fun _ _ _ _ _ _ us hl => match us, hl with | [_, _, _], _ => rfl
  have T1 : FnT l.prog w K mg base 2 "is_between" (spBetweenX) := ⟨_, _, _, (def_fnX (k := 1) F1 sc_is_between [("is_whole", spWholeX)] [] l_is_between [] [] [] [] b_is_between m_is_between (am_cons (T0.mono (by omega)) am_nil) am_nil am_nil [] am_nil am_nil am_nil am_nil am_nil (by rintro vs H Q E ⟨_, _, _, rfl, _⟩; rfl) rd_betweenX), PySem.W.mg_of X G a1, F1.kp, B1⟩
  have F2 := fun_mk (st := s_is_truth) l2 c2 k2
  have B2 := F2.binds (ps := P_is_truth) fun _ _ _ _ _ _ us hl => match us, hl with | [_], _ => rfl
  have T2 : FnT l.prog w K mg base 1 "is_truth" (spTruth) := ⟨_, _, _, (def_fnX (k := 0) F2 sc_is_truth [] [] l_is_truth [] [] [] [] b_is_truth m_is_truth am_nil am_nil am_nil [] am_nil am_nil am_nil am_nil am_nil (by rintro vs H Q E ⟨_, rfl, _⟩; rfl) rd_truth), PySem.W.mg_of X G a2, F2.kp, B2⟩
  have F3 := fun_mk (st := s_is_word) l3 c3 k3
  have B3 := F3.binds (ps := P_is_word) fun _ _ _ _ _ _ us hl => match us, hl with | [_, _], _ => rfl
  have T3 : FnT l.prog w K mg base 1 "is_word" (spWordX K) := ⟨_, _, _, (def_fnX (k := 0) F3 sc_is_word [] [] l_is_word [] [] [] [] b_is_word m_is_word am_nil am_nil (am_cons y_isinstance (am_cons y_str am_nil)) [] am_nil am_nil am_nil am_nil am_nil (by rintro vs H Q E ⟨_, _, _, rfl, _⟩; rfl) rd_wordX), PySem.W.mg_of X G a3, F3.kp, B3⟩
  have F4 := fun_mk (st := s_is_text) l4 c4 k4
  have B4 := F4.binds (ps := P_is_text) fun _ _ _ _ _ _ us hl => match us, hl with | [_], _ => rfl
  have T4 : FnT l.prog w K mg base 1 "is_text" (spTextX) := ⟨_, _, _, (def_fnX (k := 0) F4 sc_is_text [] [("SIGNS", .str SG)] l_is_text [] [] [] [] b_is_text m_is_text am_nil (am_cons u_SIGNS am_nil) (am_cons y_isinstance (am_cons y_str am_nil)) [] am_nil am_nil am_nil am_nil am_nil (by rintro vs H Q E ⟨_, rfl, _⟩; rfl) rd_textX), PySem.W.mg_of X G a4, F4.kp, B4⟩
  have F5 := fun_mk (st := s_are_texts) l5 c5 k5
  have B5 := F5.binds (ps := P_are_texts) fun _ _ _ _ _ _ us hl => match us, hl with | [_], _ => rfl
  have T5 : FnT l.prog w K mg base 2 "are_texts" (spAreT) := ⟨_, _, _, (def_fnX (k := 1) F5 sc_are_texts [("is_text", spTextX)] [("MOST_CURSORS", .int 40)] l_are_texts [] [] [] [] b_are_texts m_are_texts (am_cons (T4.mono (by omega)) am_nil) (am_cons u_MOST_CURSORS am_nil) (am_cons y_isinstance (am_cons y_tuple (am_cons y_len (am_cons y_all am_nil)))) [] am_nil am_nil am_nil am_nil am_nil (by rintro vs H Q E ⟨_, _, rfl, _⟩; rfl) rd_areT), PySem.W.mg_of X G a5, F5.kp, B5⟩
  have F6 := fun_mk (st := s_is_object) l6 c6 k6
  have B6 := F6.binds (ps := P_is_object) fun _ _ _ _ _ _ us hl => match us, hl with | [_, _], _ => rfl
  have T6 : FnT l.prog w K mg base 3 "is_object" (spObj) := ⟨_, _, _, (def_fnX (k := 2) F6 sc_is_object [("is_text", spTextX), ("are_texts", spAreT), ("is_word", spWordX K), ("is_between", spBetweenX), ("is_truth", spTruth)] [("ERASE_WORDS", .ref p_ERASE_WORDS), ("MOST_NUMBER", .int 999999999), ("SIDES", .ref p_SIDES)] l_is_object [] [] [] [] b_is_object m_is_object (am_cons (T4.mono (by omega)) (am_cons (T5.mono (by omega)) (am_cons (T3.mono (by omega)) (am_cons (T1.mono (by omega)) (am_cons (T2.mono (by omega)) am_nil))))) (am_cons u_ERASE_WORDS (am_cons u_MOST_NUMBER (am_cons u_SIDES am_nil))) am_nil [] am_nil am_nil am_nil am_nil am_nil (by rintro vs H Q E ⟨_, _, _, rfl, _⟩; rfl) (rd_obj q_ERASE_WORDS q_SIDES)), PySem.W.mg_of X G a6, F6.kp, B6⟩
  have F7 := fun_mk (st := s_is_deed) l7 c7 k7
  have B7 := F7.binds (ps := P_is_deed) fun _ _ _ _ _ _ us hl => match us, hl with | [_], _ => rfl
  have T7 : FnT l.prog w K mg base 4 "is_deed" (spIsDeed) := ⟨_, _, _, (def_fnX (k := 3) F7 sc_is_deed [("is_word", spWordX K), ("is_truth", spTruth), ("is_object", spObj)] [("STEP_WORDS", .ref p_STEP_WORDS)] l_is_deed [] [] [] [] b_is_deed m_is_deed (am_cons (T3.mono (by omega)) (am_cons (T2.mono (by omega)) (am_cons (T6.mono (by omega)) am_nil))) (am_cons u_STEP_WORDS am_nil) (am_cons y_isinstance (am_cons y_tuple (am_cons y_len (am_cons y_str am_nil)))) [] am_nil am_nil am_nil am_nil am_nil (by rintro vs H Q E ⟨_, _, rfl, _⟩; rfl) (rd_isDeed q_STEP_WORDS)), PySem.W.mg_of X G a7, F7.kp, B7⟩
  have F8 := fun_mk (st := s_need_deed) l8 c8 k8
  have B8 := F8.binds (ps := P_need_deed) fun _ _ _ _ _ _ us hl => match us, hl with | [_], _ => rfl
  have T8 : FnT l.prog w K mg base 5 "need_deed" (spNeedD C_BadDeed) := ⟨_, _, _, (def_fnX (k := 4) F8 sc_need_deed [("is_deed", spIsDeed)] [] l_need_deed [] [] [("BadDeed", C_BadDeed)] [] b_need_deed m_need_deed (am_cons (T7.mono (by omega)) am_nil) am_nil am_nil [] am_nil am_nil am_nil (am_cons v_BadDeed am_nil) am_nil (by rintro vs H Q E ⟨_, _, rfl, _⟩; rfl) rd_needD), PySem.W.mg_of X G a8, F8.kp, B8⟩
  have F9 := fun_mk (st := s_quoted) l9 c9 k9
  have B9 := F9.binds (ps := P_quoted) fun _ _ _ _ _ _ us hl => match us, hl with | [_], _ => rfl
  have T9 : FnT l.prog w K mg base 1 "quoted" (spQuoted) := ⟨_, _, _, (def_fnX (k := 0) F9 sc_quoted [] [] l_quoted [] [] [] [] b_quoted m_quoted am_nil am_nil am_nil [] am_nil am_nil am_nil am_nil am_nil (by rintro vs H Q E ⟨_, rfl, _⟩; rfl) rd_quoted), PySem.W.mg_of X G a9, F9.kp, B9⟩
  have F10 := fun_mk (st := s_words_of) l10 c10 k10
  have B10 := F10.binds (ps := P_words_of) fun _ _ _ _ _ _ us hl => match us, hl with | [_], _ => rfl
  have T10 : FnT l.prog w K mg base 2 "words_of" (spWords) := ⟨_, _, _, (def_fnX (k := 1) F10 sc_words_of [("quoted", spQuoted)] [] l_words_of [] [] [] [] b_words_of m_words_of (am_cons (T9.mono (by omega)) am_nil) am_nil (am_cons y_str am_nil) [] am_nil am_nil am_nil am_nil am_nil (by rintro vs H Q E ⟨_, _, rfl, _⟩; rfl) rd_words), PySem.W.mg_of X G a10, F10.kp, B10⟩
  have F11 := fun_mk (st := s_shown) l11 c11 k11
  have B11 := F11.binds (ps := P_shown) fun _ _ _ _ _ _ us hl => match us, hl with | [_], _ => rfl
  have T11 : FnT l.prog w K mg base 6 "shown" (spShown C_BadDeed) := ⟨_, _, _, (def_fnX (k := 5) F11 sc_shown [("need_deed", spNeedD C_BadDeed), ("words_of", spWords)] [] l_shown [] [] [] [] b_shown m_shown (am_cons (T8.mono (by omega)) (am_cons (T10.mono (by omega)) am_nil)) am_nil am_nil [] am_nil am_nil am_nil am_nil am_nil (by rintro vs H Q E ⟨_, rfl, _⟩; rfl) rd_shown), PySem.W.mg_of X G a11, F11.kp, B11⟩
  have F12 := fun_mk (st := s_texts_of) l12 c12 k12
  have B12 := F12.binds (ps := P_texts_of) fun _ _ _ _ _ _ us hl => match us, hl with | [_], _ => rfl
  have T12 : FnT l.prog w K mg base 1 "texts_of" (spTextsOf) := ⟨_, _, _, (def_fnX (k := 0) F12 sc_texts_of [] [] l_texts_of [] [] [] [] b_texts_of m_texts_of am_nil am_nil am_nil [] am_nil am_nil am_nil am_nil am_nil (by rintro vs H Q E ⟨_, rfl, _⟩; rfl) rd_textsOf), PySem.W.mg_of X G a12, F12.kp, B12⟩
  have F13 := fun_mk (st := s_number_of) l13 c13 k13
  have B13 := F13.binds (ps := P_number_of) fun _ _ _ _ _ _ us hl => match us, hl with | [_], _ => rfl
  have T13 : FnT l.prog w K mg base 1 "number_of" (spNum) := ⟨_, _, _, (def_fnX (k := 0) F13 sc_number_of [] [("MOST_FIGURES", .int 9), ("FIGURES", .str FG)] l_number_of [] [] [] [] b_number_of m_number_of am_nil (am_cons u_MOST_FIGURES (am_cons u_FIGURES am_nil)) (am_cons y_len (am_cons y_int am_nil)) [] am_nil am_nil am_nil am_nil am_nil (by rintro vs H Q E ⟨_, rfl, _⟩; rfl) rd_num), PySem.W.mg_of X G a13, F13.kp, B13⟩
  have F14 := fun_mk (st := s_guess) l14 c14 k14
  have B14 := F14.binds (ps := P_guess) fun _ _ _ _ _ _ us hl => match us, hl with | [_], _ => rfl
  have T14 : FnT l.prog w K mg base 2 "guess" (spGuess) := ⟨_, _, _, (def_fnX (k := 1) F14 sc_guess [("texts_of", spTextsOf), ("number_of", spNum)] [] l_guess [] [] [] [] b_guess m_guess (am_cons (T12.mono (by omega)) (am_cons (T13.mono (by omega)) am_nil)) am_nil (am_cons y_tuple am_nil) [] am_nil am_nil am_nil am_nil am_nil (by rintro vs H Q E ⟨_, rfl, _⟩; rfl) rd_guess), PySem.W.mg_of X G a14, F14.kp, B14⟩
  have F15 := fun_mk (st := s_read) l15 c15 k15
  have B15 := F15.binds (ps := P_read) fun _ _ _ _ _ _ us hl => match us, hl with | [_], _ => rfl
  have T15 : FnT l.prog w K mg base 7 "read" (spRead) := ⟨_, _, _, (def_fnX (k := 6) F15 sc_read [("guess", spGuess), ("is_deed", spIsDeed), ("shown", spShown C_BadDeed)] [] l_read [] [] [("NoNote", C_NoNote)] [] b_read m_read (am_cons (T14.mono (by omega)) (am_cons (T7.mono (by omega)) (am_cons (T11.mono (by omega)) am_nil))) am_nil (am_cons y_isinstance (am_cons y_str am_nil)) [] am_nil am_nil am_nil (am_cons v_NoNote am_nil) am_nil (by rintro vs H Q E ⟨_, rfl, _⟩; rfl) rd_read), PySem.W.mg_of X G a15, F15.kp, B15⟩
  have F16 := fun_mk (st := s_cell_atL) l16 c16 k16
  have B16 := F16.binds (ps := P_cell_atL) fun _ _ _ _ _ _ us hl => match us, hl with | [_, _], _ => rfl
  have T16 : FnT l.prog w K mg base 1 "_law_cell_at" (spCell K) := ⟨_, _, _, (def_fnX (k := 0) F16 sc_cell_atL [] [] l_cell_atL [] [] [] [] b_cell_atL m_cell_atL am_nil am_nil (am_cons y_len am_nil) [] am_nil am_nil am_nil am_nil am_nil (by rintro vs H Q E ⟨_, _, _, rfl, _⟩; rfl) rd_cell), PySem.W.mg_of X G a16, F16.kp, B16⟩
  have F17 := fun_mk (st := s_wholeL) l17 c17 k17
  have B17 := F17.binds (ps := P_wholeL) fun _ _ _ _ _ _ us hl => match us, hl with | [_], _ => rfl
  have T17 : FnT l.prog w K mg base 1 "_law_whole" (spWhole) := ⟨_, _, _, (def_fnX (k := 0) F17 sc_wholeL [] [] l_wholeL [] [] [] [] b_wholeL m_wholeL am_nil am_nil (am_cons y_isinstance (am_cons y_int (am_cons y_bool am_nil))) [] am_nil am_nil am_nil am_nil am_nil (by rintro vs H Q E ⟨_, rfl, _⟩; rfl) rd_wholeL), PySem.W.mg_of X G a17, F17.kp, B17⟩
  have F18 := fun_mk (st := s_mixedL) l18 c18 k18
  have B18 := F18.binds (ps := P_mixedL) fun _ _ _ _ _ _ us hl => match us, hl with | [_, _], _ => rfl
  have T18 : FnT l.prog w K mg base 1 "_law_mixed" (spMixed) := ⟨_, _, _, (def_fnX (k := 0) F18 sc_mixedL [] [] l_mixedL [] [] [] [] b_mixedL m_mixedL am_nil am_nil am_nil [] am_nil am_nil am_nil am_nil am_nil (by rintro vs H Q E ⟨_, _, rfl, _⟩; rfl) rd_mixed), PySem.W.mg_of X G a18, F18.kp, B18⟩
  have F19 := fun_mk (st := s_textL) l19 c19 k19
  have B19 := F19.binds (ps := P_textL) fun _ _ _ _ _ _ us hl => match us, hl with | [_, _], _ => rfl
  have T19 : FnT l.prog w K mg base 2 "_law_text" (spTextL) := ⟨_, _, _, (def_fnX (k := 1) F19 sc_textL [("_law_mixed", spMixed)] [] l_textL [] [] [] [] b_textL m_textL (am_cons (T18.mono (by omega)) am_nil) am_nil (am_cons y_range (am_cons y_len am_nil)) [] am_nil am_nil am_nil am_nil am_nil (by rintro vs H Q E ⟨_, _, rfl, _⟩; rfl) rd_textL), PySem.W.mg_of X G a19, F19.kp, B19⟩
  have F20 := fun_mk (st := s_sizeL) l20 c20 k20
  have B20 := F20.binds (ps := P_sizeL) fun _ _ _ _ _ _ us hl => match us, hl with | [_], _ => rfl
  have T20 : FnT l.prog w K mg base 1 "_law_size" (spSizeL) := ⟨_, _, _, (def_fnX (k := 0) F20 sc_sizeL [] [] l_sizeL [] [] [] [] b_sizeL m_sizeL am_nil am_nil am_nil [] am_nil am_nil am_nil am_nil am_nil (by rintro vs H Q E ⟨_, rfl, _⟩; rfl) rd_sizeL), PySem.W.mg_of X G a20, F20.kp, B20⟩
  have F21 := fun_mk (st := s_deedL) l21 c21 k21
  have B21 := F21.binds (ps := P_deedL) fun _ _ _ _ _ _ us hl => match us, hl with | [_], _ => rfl
  have T21 : FnT l.prog w K mg base 3 "_law_deed" (spDeedL) := ⟨_, _, _, (def_fnX (k := 2) F21 sc_deedL [("_law_text", spTextL)] [] l_deedL [] [] [] [] b_deedL m_deedL (am_cons (T19.mono (by omega)) am_nil) am_nil (am_cons y_tuple (am_cons y_range (am_cons y_int am_nil))) [] am_nil am_nil am_nil am_nil am_nil (by rintro vs H Q E ⟨_, rfl, _⟩; rfl) rd_deedL), PySem.W.mg_of X G a21, F21.kp, B21⟩
  have F22 := fun_mk (st := s_alikeL) l22 c22 k22
  have B22 := F22.binds (ps := P_alikeL) fun _ _ _ _ _ _ us hl => match us, hl with | [_, _], _ => rfl
  have R22 : ∀ n, FnT l.prog w K mg base (1 + n + 1) "_law_alike" (spAl n) := by
    intro n
    induction n with
    | zero => exact fn_never F22 sc_alikeL (PySem.W.mg_of X G a22) B22 no_al
    | succ n ih => exact ⟨_, _, _, (def_fnX (k := 1 + n + 1) F22 sc_alikeL [("_law_alike", spAl n), ("_law_whole", spWhole)] [] l_alikeL [] [] [] [] b_alikeL m_alikeL (am_cons ih (am_cons (T17.mono (by omega)) am_nil)) am_nil (am_cons y_isinstance (am_cons y_tuple (am_cons y_len (am_cons y_all (am_cons y_zip (am_cons y_bool (am_cons y_str am_nil))))))) [] am_nil am_nil am_nil am_nil am_nil (by rintro vs H Q E ⟨_, _, rfl, _⟩; rfl) (rd_al n)), PySem.W.mg_of X G a22, F22.kp, B22⟩
  have T22 : FnT l.prog w K mg base 5 "_law_alike" (spAl 3) := R22 3
  have F23 := fun_mk (st := s_wordL) l23 c23 k23
  have B23 := F23.binds (ps := P_wordL) fun _ _ _ _ _ _ us hl => match us, hl with | [_], _ => rfl
  have T23 : FnTH l.prog w K mg base 1 "_law_word" (spWordL K [C_BadText, C_BadChange, C_BadFit, C_NoPlace, C_BadSide, C_NoMark, C_NoNode, C_NoCursor, C_BadDeed, C_BadLetter, C_NoLetter, C_NoHand, C_NoNote] C_InkError) := def_okH (k := 0) F23 sc_wordL (PySem.W.mg_of X G a23) B23 [("BadText", .ref C_BadText), ("BadChange", .ref C_BadChange), ("BadFit", .ref C_BadFit), ("NoPlace", .ref C_NoPlace), ("BadSide", .ref C_BadSide), ("NoMark", .ref C_NoMark), ("NoNode", .ref C_NoNode), ("NoCursor", .ref C_NoCursor), ("BadDeed", .ref C_BadDeed), ("BadLetter", .ref C_BadLetter), ("NoLetter", .ref C_NoLetter), ("NoHand", .ref C_NoHand), ("NoNote", .ref C_NoNote), ("InkError", .ref C_InkError)] l_wordL b_wordL m_wordL (am_cons u_BadText (am_cons u_BadChange (am_cons u_BadFit (am_cons u_NoPlace (am_cons u_BadSide (am_cons u_NoMark (am_cons u_NoNode (am_cons u_NoCursor (am_cons u_BadDeed (am_cons u_BadLetter (am_cons u_NoLetter (am_cons u_NoHand (am_cons u_NoNote (am_cons u_InkError am_nil)))))))))))))) (am_cons y_isinstance (am_cons y_ValueError am_nil)) (by rintro vs H Q E ⟨_, _, _, rfl, _⟩; rfl) rd_wordL
  have F24 := fun_mk (st := s_quotedL) l24 c24 k24
  have B24 := F24.binds (ps := P_quotedL) fun _ _ _ _ _ _ us hl => match us, hl with | [_], _ => rfl
  have T24 : FnT l.prog w K mg base 1 "_law_quoted" (spQuoted) := ⟨_, _, _, (def_fnX (k := 0) F24 sc_quotedL [] [] l_quotedL [] [] [] [] b_quotedL m_quotedL am_nil am_nil am_nil [] am_nil am_nil am_nil am_nil am_nil (by rintro vs H Q E ⟨_, rfl, _⟩; rfl) rd_quotedL), PySem.W.mg_of X G a24, F24.kp, B24⟩
  have F25 := fun_mk (st := s_lineL) l25 c25 k25
  have B25 := F25.binds (ps := P_lineL) fun _ _ _ _ _ _ us hl => match us, hl with | [_], _ => rfl
  have T25 : FnT l.prog w K mg base 2 "_law_line" (spLine) := ⟨_, _, _, (def_fnX (k := 1) F25 sc_lineL [("_law_quoted", spQuoted)] [] l_lineL [] [] [] [] b_lineL m_lineL (am_cons (T24.mono (by omega)) am_nil) am_nil (am_cons y_len (am_cons y_str am_nil)) [] am_nil am_nil am_nil am_nil am_nil (by rintro vs H Q E ⟨_, _, rfl, _⟩; rfl) rd_line), PySem.W.mg_of X G a25, F25.kp, B25⟩
  have F26 := fun_mk (st := s_longL) l26 c26 k26
  have B26 := F26.binds (ps := P_longL) fun _ _ _ _ _ _ us hl => match us, hl with | [_, _], _ => rfl
  have T26 : FnT l.prog w K mg base 3 "_law_long" (spLong K) := ⟨_, _, _, (def_fnX (k := 2) F26 sc_longL [("_law_cell_at", spCell K), ("_law_text", spTextL), ("_law_size", spSizeL), ("_law_mixed", spMixed)] [] l_longL [] [] [] [] b_longL m_longL (am_cons (T16.mono (by omega)) (am_cons (T19.mono (by omega)) (am_cons (T20.mono (by omega)) (am_cons (T18.mono (by omega)) am_nil)))) am_nil (am_cons y_len (am_cons y_tuple (am_cons y_range am_nil))) [] am_nil am_nil am_nil am_nil am_nil (by rintro vs H Q E ⟨_, _, _, _, rfl, _⟩; rfl) rd_long), PySem.W.mg_of X G a26, F26.kp, B26⟩
  have F27 := fun_mk (st := s_refusedL) l27 c27 k27
  have B27 := F27.binds (ps := P_refusedL) fun _ _ _ _ _ _ us hl => match us, hl with | [_], _ => rfl
  have T27 : FnT l.prog w K mg base 7 "_law_refused" (spRefused) := ⟨_, _, _, (def_fnX (k := 6) F27 sc_refusedL [("shown", spShown C_BadDeed)] [("InkError", .ref C_InkError)] l_refusedL [] [] [] [("_law_word", spWordL K [C_BadText, C_BadChange, C_BadFit, C_NoPlace, C_BadSide, C_NoMark, C_NoNode, C_NoCursor, C_BadDeed, C_BadLetter, C_NoLetter, C_NoHand, C_NoNote] C_InkError)] b_refusedL m_refusedL (am_cons (T11.mono (by omega)) am_nil) (am_cons u_InkError am_nil) am_nil [] am_nil am_nil am_nil am_nil (am_cons (T23.mono (by omega)) am_nil) (by rintro vs H Q E ⟨_, rfl, _⟩; rfl) (rd_refused W_BadDeed X_BadDeed)), PySem.W.mg_of X G a27, F27.kp, B27⟩
  have F28 := fun_mk (st := s_law) l28 c28 k28
  have B28 := F28.binds (ps := P_law) fun _ _ _ _ _ _ us hl => match us, hl with | [_], _ => rfl
  exact FnOk.top (def_fnX (k := 7) F28 sc_law [("_law_long", spLong K), ("_law_deed", spDeedL), ("_law_mixed", spMixed), ("_law_cell_at", spCell K), ("shown", spShown C_BadDeed), ("_law_line", spLine), ("_law_alike", spAl 3), ("read", spRead), ("_law_refused", spRefused)] [] l_law [] [] [] [] b_law m_law (am_cons (T26.mono (by omega)) (am_cons (T21.mono (by omega)) (am_cons (T18.mono (by omega)) (am_cons (T16.mono (by omega)) (am_cons (T11.mono (by omega)) (am_cons (T25.mono (by omega)) (am_cons (T22.mono (by omega)) (am_cons (T15.mono (by omega)) (am_cons (T27.mono (by omega)) am_nil))))))))) am_nil (am_cons y_isinstance (am_cons y_str (am_cons y_list am_nil))) [] am_nil am_nil am_nil am_nil am_nil (by rintro vs H Q E ⟨_, _, rfl, _⟩; rfl) rd_law)
theorem walk {l : PySem.W.OpenLaw} {q : Program} {loose : List Str} {XP : (Str → Option Value) → Heap → Prop} {YP : World → Heap → Prop} {d : DefRec} {K : Params → PySem.W.Frag} (hn : l.most = some 63) (hdf : d.params.defaults = [])
    (hY : ∀ (w : World) (h : Heap), YP w h → (K w.params).In h)
    (F : ∀ (w : World) (mg : Str → Option Value) (fa : Addr) (h : Heap), (K w.params).In h → h.Ns mainGlobals mg → mg d.name = some (.ref fa) →
      ∃ fd : FuncData, (∀ (s : Shared) (u : Value), BindsTo s fd ⟨[u], []⟩ [("_law_script", u)]) ∧ ∀ base : Heap, (K w.params).In base → base.Ns mainGlobals mg → FnOk l.prog w (K w.params) mg base CX0 8 fa fd ["_law_script"] ((fun K => (fun vs H Q _ => (spLaw K) vs H Q E0)) (K w.params))) :
    PySem.W.WalkO q loose XP YP l.row.toRowW d [] (fun f vs => PySem.call f vs) :=
  L2.walk_of (n := 63) (k := 8) (x := "_law_script") (CX := fun _ => CX0) (sp := fun w => (fun K => (fun vs H Q _ => (spLaw K) vs H Q E0)) (K w.params)) hn (by decide) hdf ⟨rfl, by decide, by decide⟩ hY F (fun _ _ a ns hl _ hS => ⟨a, ns, rfl, hS, fun _ => rfl⟩) fun _ _ _ _ _ z => z
end L2.K42
-- names that the head would fill with long twins of its tables; taken, the head goes on without them
def PySem.W.Fast.tw12092259668928233450 : Unit := ()
def PySem.W.Fast.tw12981986108210861420 : Unit := ()
def PySem.W.Fast.tw1989276247396889382 : Unit := ()
def PySem.W.Fast.tw5144583698423730605 : Unit := ()
def PySem.W.Fast.tw11880563541223833105 : Unit := ()
def PySem.W.Fast.tw13880333638534190595 : Unit := ()
def PySem.W.Fast.tw7546862043126064458 : Unit := ()
def PySem.W.Fast.tw3099592400987216315 : Unit := ()
def PySem.W.Fast.tw2400676806106191216 : Unit := ()
def PySem.W.Fast.tw8644976510793036363 : Unit := ()
def PySem.W.Fast.tw18419815210860404654 : Unit := ()
def PySem.W.Fast.tw6834750669377078748 : Unit := ()
def PySem.W.Fast.tw1956433794022011017 : Unit := ()
def PySem.W.Fast.tw15439414876062825030 : Unit := ()
def PySem.W.Fast.tw17006702458554976015 : Unit := ()
def PySem.W.Fast.tw15525070778068329750 : Unit := ()
def PySem.W.Fast.tw16029117496740610786 : Unit := ()
def PySem.W.Fast.tw3719539142266860430 : Unit := ()
def PySem.W.Fast.tw11029673848958185322 : Unit := ()
def PySem.W.Fast.tw1795468818748049042 : Unit := ()
def PySem.W.Fast.tw4179177107231392939 : Unit := ()
def PySem.W.Fast.tw1425816993828841089 : Unit := ()
def PySem.W.Fast.tw2111812729742568528 : Unit := ()
def PySem.W.Fast.tw16364837879251333888 : Unit := ()
def PySem.W.Fast.tw2163109872416611266 : Unit := ()
def PySem.W.Fast.tw8005825442441472705 : Unit := ()
open PySem PySem.W PyProof.Rows
set_option maxRecDepth 100000 in
set_option maxHeartbeats 0 in
theorem PySem.Challenge.cw_inkloom_k42_lines_there_and_back_holds : PySem.Challenge.rw_inkloom_k42_lines_there_and_back.Holds := by
  w_on; o_law; k_head; (case hw => w_witness2)
  k_fill
  refine L2.K42.walk (l := PySem.Challenge.rw_inkloom_k42_lines_there_and_back) rfl rfl (fun w h Y => PySem.W.kIn_of Y) ?F
  case F =>
    intro w mg fa h KX G hmg
    refine' L2.K42.all_mk KX G hmg ?g_InkError ?g_BadText ?g_BadChange ?g_BadFit ?g_NoPlace ?g_BadSide ?g_NoMark ?g_NoNode ?g_NoCursor ?g_BadDeed ?g_BadLetter ?g_NoLetter ?g_NoHand ?g_NoNote ?x_BadDeed ?x_NoNote ?e1_BadDeed ?e2_BadDeed ?e3_BadDeed ?e4_BadDeed ?e7_BadDeed ?e8_BadDeed ?kt_BadDeed_BadText ?kt_BadDeed_BadChange ?kt_BadDeed_BadFit ?kt_BadDeed_NoPlace ?kt_BadDeed_BadSide ?kt_BadDeed_NoMark ?kt_BadDeed_NoNode ?kt_BadDeed_NoCursor ?kt_BadDeed_BadDeed ?kt_BadDeed_BadLetter ?kt_BadDeed_NoLetter ?kt_BadDeed_NoHand ?kt_BadDeed_NoNote ?ki_BadDeed ?kv_BadDeed ?X_BadDeed ?e5 ?e6 ?a0 ?l0 ?c0 ?k0 ?a1 ?l1 ?c1 ?k1 ?a2 ?l2 ?c2 ?k2 ?a3 ?l3 ?c3 ?k3 ?a4 ?l4 ?c4 ?k4 ?a5 ?l5 ?c5 ?k5 ?a6 ?l6 ?c6 ?k6 ?a7 ?l7 ?c7 ?k7 ?a8 ?l8 ?c8 ?k8 ?a9 ?l9 ?c9 ?k9 ?a10 ?l10 ?c10 ?k10 ?a11 ?l11 ?c11 ?k11 ?a12 ?l12 ?c12 ?k12 ?a13 ?l13 ?c13 ?k13 ?a14 ?l14 ?c14 ?k14 ?a15 ?l15 ?c15 ?k15 ?a16 ?l16 ?c16 ?k16 ?a17 ?l17 ?c17 ?k17 ?a18 ?l18 ?c18 ?k18 ?a19 ?l19 ?c19 ?k19 ?a20 ?l20 ?c20 ?k20 ?a21 ?l21 ?c21 ?k21 ?a22 ?l22 ?c22 ?k22 ?a23 ?l23 ?c23 ?k23 ?a24 ?l24 ?c24 ?k24 ?a25 ?l25 ?c25 ?k25 ?a26 ?l26 ?c26 ?k26 ?a27 ?l27 ?c27 ?k27 ?a28 ?l28 ?c28 ?k28 ?g_SIGNS ?g_MOST_CURSORS ?g_MOST_NUMBER ?g_FIGURES ?g_MOST_FIGURES ?g_SIDES ?d_SIDES ?g_STEP_WORDS ?d_STEP_WORDS ?g_ERASE_WORDS ?d_ERASE_WORDS ?z_ValueError ?z_all ?z_bool ?z_int ?z_isinstance ?z_len ?z_list ?z_range ?z_str ?z_tuple ?z_zip
    (case g_InkError => k_is)
    (case g_BadText => k_is)
    (case g_BadChange => k_is)
    (case g_BadFit => k_is)
    (case g_NoPlace => k_is)
    (case g_BadSide => k_is)
    (case g_NoMark => k_is)
    (case g_NoNode => k_is)
    (case g_NoCursor => k_is)
    (case g_BadDeed => k_is)
    (case g_BadLetter => k_is)
    (case g_NoLetter => k_is)
    (case g_NoHand => k_is)
    (case g_NoNote => k_is)
    (case x_BadDeed => k_exc)
    (case x_NoNote => k_exc)
    (case e1_BadDeed => k_is)
    (case e2_BadDeed => k_is)
    (case e3_BadDeed => kernel_rfl)
    (case e4_BadDeed => k_is)
    (case e7_BadDeed => k_is)
    (case e8_BadDeed => k_is)
    (case kt_BadDeed_BadText => kernel_rfl)
    (case kt_BadDeed_BadChange => kernel_rfl)
    (case kt_BadDeed_BadFit => kernel_rfl)
    (case kt_BadDeed_NoPlace => kernel_rfl)
    (case kt_BadDeed_BadSide => kernel_rfl)
    (case kt_BadDeed_NoMark => kernel_rfl)
    (case kt_BadDeed_NoNode => kernel_rfl)
    (case kt_BadDeed_NoCursor => kernel_rfl)
    (case kt_BadDeed_BadDeed => kernel_rfl)
    (case kt_BadDeed_BadLetter => kernel_rfl)
    (case kt_BadDeed_NoLetter => kernel_rfl)
    (case kt_BadDeed_NoHand => kernel_rfl)
    (case kt_BadDeed_NoNote => kernel_rfl)
    (case ki_BadDeed => kernel_rfl)
    (case kv_BadDeed => kernel_rfl)
    (case X_BadDeed => kernel_rfl)
    (case e5 => k_is)
    (case e6 => k_is)
    (case a0 => k_is)
    (case l0 => k_is)
    (case c0 => k_is)
    (case k0 => k_is)
    (case a1 => k_is)
    (case l1 => k_is)
    (case c1 => k_is)
    (case k1 => k_is)
    (case a2 => k_is)
    (case l2 => k_is)
    (case c2 => k_is)
    (case k2 => k_is)
    (case a3 => k_is)
    (case l3 => k_is)
    (case c3 => k_is)
    (case k3 => k_is)
    (case a4 => k_is)
    (case l4 => k_is)
    (case c4 => k_is)
    (case k4 => k_is)
    (case a5 => k_is)
    (case l5 => k_is)
    (case c5 => k_is)
    (case k5 => k_is)
    (case a6 => k_is)
    (case l6 => k_is)
    (case c6 => k_is)
    (case k6 => k_is)
    (case a7 => k_is)
    (case l7 => k_is)
    (case c7 => k_is)
    (case k7 => k_is)
    (case a8 => k_is)
    (case l8 => k_is)
    (case c8 => k_is)
    (case k8 => k_is)
    (case a9 => k_is)
    (case l9 => k_is)
    (case c9 => k_is)
    (case k9 => k_is)
    (case a10 => k_is)
    (case l10 => k_is)
    (case c10 => k_is)
    (case k10 => k_is)
    (case a11 => k_is)
    (case l11 => k_is)
    (case c11 => k_is)
    (case k11 => k_is)
    (case a12 => k_is)
    (case l12 => k_is)
    (case c12 => k_is)
    (case k12 => k_is)
    (case a13 => k_is)
    (case l13 => k_is)
    (case c13 => k_is)
    (case k13 => k_is)
    (case a14 => k_is)
    (case l14 => k_is)
    (case c14 => k_is)
    (case k14 => k_is)
    (case a15 => k_is)
    (case l15 => k_is)
    (case c15 => k_is)
    (case k15 => k_is)
    (case a16 => k_is)
    (case l16 => k_is)
    (case c16 => k_is)
    (case k16 => k_is)
    (case a17 => k_is)
    (case l17 => k_is)
    (case c17 => k_is)
    (case k17 => k_is)
    (case a18 => k_is)
    (case l18 => k_is)
    (case c18 => k_is)
    (case k18 => k_is)
    (case a19 => k_is)
    (case l19 => k_is)
    (case c19 => k_is)
    (case k19 => k_is)
    (case a20 => k_is)
    (case l20 => k_is)
    (case c20 => k_is)
    (case k20 => k_is)
    (case a21 => k_is)
    (case l21 => k_is)
    (case c21 => k_is)
    (case k21 => k_is)
    (case a22 => k_is)
    (case l22 => k_is)
    (case c22 => k_is)
    (case k22 => k_is)
    (case a23 => k_is)
    (case l23 => k_is)
    (case c23 => k_is)
    (case k23 => k_is)
    (case a24 => k_is)
    (case l24 => k_is)
    (case c24 => k_is)
    (case k24 => k_is)
    (case a25 => k_is)
    (case l25 => k_is)
    (case c25 => k_is)
    (case k25 => k_is)
    (case a26 => k_is)
    (case l26 => k_is)
    (case c26 => k_is)
    (case k26 => k_is)
    (case a27 => k_is)
    (case l27 => k_is)
    (case c27 => k_is)
    (case k27 => k_is)
    (case a28 => k_is)
    (case l28 => k_is)
    (case c28 => k_is)
    (case k28 => k_is)
    (case g_SIGNS => k_is)
    (case g_MOST_CURSORS => k_is)
    (case g_MOST_NUMBER => k_is)
    (case g_FIGURES => k_is)
    (case g_MOST_FIGURES => k_is)
    (case g_SIDES => k_is)
    (case d_SIDES => k_is)
    (case g_STEP_WORDS => k_is)
    (case d_STEP_WORDS => k_is)
    (case g_ERASE_WORDS => k_is)
    (case d_ERASE_WORDS => k_is)
    (case z_ValueError => k_is)
    (case z_all => k_is)
    (case z_bool => k_is)
    (case z_int => k_is)
    (case z_isinstance => k_is)
    (case z_len => k_is)
    (case z_list => k_is)
    (case z_range => k_is)
    (case z_str => k_is)
    (case z_tuple => k_is)
    (case z_zip => k_is)
