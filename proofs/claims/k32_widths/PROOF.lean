import PyProof.Rows.All
import Wide.All
import OpenK.AllK
import Wide.FinOn
import Lean
import PyProof.EqAt
import PyProof.EqKinds
import PyProof.TupleCall
import KE.KSortTup
import PyProof.Rows.SortShellK
import PyProof.Rows.SortWalk
import PyProof.DictWalks
import KE.KDictList
import PyProof.CollectWalk
import PySem.SetTable
import PyProof.SetScanFacts
import PyProof.SetKind
import PyProof.SetRoads
import PyProof.DictKinds
import PyProof.SetNew
import PyProof.Rows.SetFrom
import PyProof.MeetsSeq2
import PyProof.Walks
import PyProof.DictIter
import PyProof.FactsAll.set_1
import PyProof.FactsAll.set_2
import PyProof.FactsAll.subtypes_5
import PyProof.AttrMiss
import PyProof.IsiH_list
import PyProof.Rows.SortShell
import KE.KDictOf
import PyProof.ConsumeS
import PyProof.ZipIter
import PyProof.EnumStmt
import PyProof.EnumMake
import PyProof.Rows.EnumRows
import KE.KLam
import PySem.Challenge.RW_whenrows_k32_widths
set_option Elab.async false
set_option linter.all false
set_option maxRecDepth 100000
/-! THE HAND LAYER, for ints, bools, texts, own classes, LISTS and tuples (index, slices, in, append, pop ..), calls, loops. Paste it whole ahead of your own text; what your proof does not reach may be deleted. -/
namespace L2
open PySem PySem.Spec PyProof.Rows

/-- a key: an int or a str -/
abbrev Key := Sum Int Str
def keyIs : Key → Value → Bool
  | .inl k, v => Value.isInt k v
  | .inr x, v => Value.isStrOf x v
def keyH (w : World) : Key → Int
  | .inl k => hashInt k
  | .inr x => hashStr w x
theorem keyIs_shape : ∀ {k : Key} {v : Value}, keyIs k v = true → (∃ i t, k = Sum.inl i ∧ v = Value.int i t) ∨ (∃ x t, k = Sum.inr x ∧ v = Value.str x t)
  | .inl i, v, h => by
    obtain ⟨t, e⟩ := Value.isInt_shape (k := i) (v := v) h
    exact .inl ⟨i, t, rfl, e⟩
  | .inr x, v, h => by
    obtain ⟨t, e⟩ := Value.isStrOf_shape (x := x) (v := v) h
    exact .inr ⟨x, t, rfl, e⟩
theorem keyIs_int (i : Int) (t : Tok) : keyIs (.inl i) (.int i t) = true := by simp [keyIs, Value.isInt]
theorem keyIs_str (x : Str) (t : Tok) : keyIs (.inr x) (.str x t) = true := by simp [keyIs, Value.isStrOf]
theorem key_ll (a b : Int) : decide ((Sum.inl a : Key) = Sum.inl b) = (a == b) := by
  by_cases e : a = b
  · subst e; simp
  · have h : ¬ (Sum.inl a : Key) = Sum.inl b := fun q => e (Sum.inl.inj q)
    rw [decide_eq_false h]
    exact (beq_eq_false_iff_ne.mpr e).symm
theorem key_rr (a b : Str) : decide ((Sum.inr a : Key) = Sum.inr b) = decide (a = b) := by
  by_cases e : a = b
  · subst e; simp
  · have h : ¬ (Sum.inr a : Key) = Sum.inr b := fun q => e (Sum.inr.inj q)
    rw [decide_eq_false h, decide_eq_false e]
theorem key_lr (a : Int) (b : Str) : decide ((Sum.inl a : Key) = Sum.inr b) = false := decide_eq_false (fun q => nomatch q)
theorem key_rl (a : Str) (b : Int) : decide ((Sum.inr a : Key) = Sum.inl b) = false := decide_eq_false (fun q => nomatch q)

def mixKind (prog : Program) (w : World) : PySem.KeyKind prog w Key where
  is := keyIs
  hash := keyH w
  inj := fun v a b ha hb => by
    rcases keyIs_shape ha with ⟨i, t, rfl, rfl⟩ | ⟨x, t, rfl, rfl⟩
    · rcases keyIs_shape hb with ⟨j, u, rfl, e⟩ | ⟨y, u, rfl, e⟩
      · injection e with e1 _; rw [e1]
      · exact nomatch e
    · rcases keyIs_shape hb with ⟨j, u, rfl, e⟩ | ⟨y, u, rfl, e⟩
      · exact nomatch e
      · injection e with e1 _; rw [e1]
  byValue := fun k v h => by
    rcases keyIs_shape h with ⟨i, t, rfl, rfl⟩ | ⟨x, t, rfl, rfl⟩ <;> rfl
  pyHash := fun hv h => by
    rcases keyIs_shape hv with ⟨i, t, rfl, rfl⟩ | ⟨x, t, rfl, rfl⟩
    · exact wpAny_pyHash_int h
    · exact wpAny_pyHash_str h
  eqBool := fun hu hv h => by
    rcases keyIs_shape hu with ⟨i, t, rfl, rfl⟩ | ⟨x, t, rfl, rfl⟩
    · rcases keyIs_shape hv with ⟨j, u, rfl, rfl⟩ | ⟨y, u, rfl, rfl⟩
      · rw [key_ll] at h; exact wpAny_eqBool_int h
      · rw [key_lr] at h; exact SeqAt.EqAt.int_str i t y u _ _ _ _ h
    · rcases keyIs_shape hv with ⟨j, u, rfl, rfl⟩ | ⟨y, u, rfl, rfl⟩
      · rw [key_rl] at h; exact SeqAt.EqAt.str_int x t j u _ _ _ _ h
      · rw [key_rr] at h; exact wpAny_eqBool_str h
  «strs» := fun k x t v h => by
    rcases keyIs_shape h with ⟨i, u, rfl, e⟩ | ⟨y, u, rfl, e⟩
    · exact nomatch e
    · injection e with e1 _
      subst e1
      cases v <;> rfl

theorem mixKind_int (prog : Program) (w : World) (i : Int) (t : Tok) : (mixKind prog w).is (.inl i) (.int i t) = true := keyIs_int i t
theorem mixKind_str (prog : Program) (w : World) (x : Str) (t : Tok) : (mixKind prog w).is (.inr x) (.str x t) = true := keyIs_str x t
end L2

namespace L2
open PySem PySem.Spec PyProof.Rows

/-- a value, without the heap -/
inductive V where
  | non | bl (b : Bool) | int (i : Int) | str (x : Str) | byt (b : Array UInt8) | flt (b : UInt64) | ref (a : Addr) | ty (n : String)
  deriving DecidableEq

def RelV : V → Value → Prop
  | .non, u => u = Value.none
  | .bl b, u => u = Value.bool b
  | .int i, u => ∃ t, u = Value.int i t
  | .str x, u => ∃ t, u = Value.str x t
  | .byt b, u => ∃ t, u = Value.bytes b t
  | .flt b, u => ∃ t, u = Value.float b t
  | .ref a, u => u = Value.ref a
  | .ty n, u => u = Value.type n

abbrev Vals : List V → List Value → Prop := Paired RelV
theorem Vals.length {xs : List V} {us : List Value} (r : Vals xs us) : xs.length = us.length := Paired.length r
theorem Vals.get : ∀ {xs : List V} {us : List Value} {i : Nat} {x : V}, Vals xs us → xs[i]? = some x → ∃ u, us[i]? = some u ∧ RelV x u
  | _, _, _, _, .nil, e => by simp at e
  | _, _, 0, _, .cons r _, e => by simp at e; subst e; exact ⟨_, rfl, r⟩
  | _, _, i + 1, x, .cons _ t, e => by
    obtain ⟨u, h1, h2⟩ := Vals.get (i := i) (x := x) t (by simpa using e)
    exact ⟨u, by simpa using h1, h2⟩
theorem Vals.set {x : V} {u : Value} (r : RelV x u) : ∀ {xs : List V} {us : List Value} (i : Nat), Vals xs us → Vals (xs.set i x) (us.set i u)
  | _, _, _, .nil => .nil
  | _, _, 0, .cons _ t => .cons r t
  | _, _, i + 1, .cons q t => .cons q (Vals.set r i t)
theorem Vals.append : ∀ {xs ys : List V} {us ws : List Value}, Vals xs us → Vals ys ws → Vals (xs ++ ys) (us ++ ws)
  | _, _, _, _, .nil, s => s
  | _, _, _, _, .cons r t, s => .cons r (Vals.append t s)
theorem Vals.take : ∀ {xs : List V} {us : List Value} (n : Nat), Vals xs us → Vals (xs.take n) (us.take n)
  | _, _, 0, _ => .nil
  | _, _, _ + 1, .nil => .nil
  | _, _, n + 1, .cons r t => .cons r (Vals.take n t)
theorem Vals.drop : ∀ {xs : List V} {us : List Value} (n : Nat), Vals xs us → Vals (xs.drop n) (us.drop n)
  | _, _, 0, r => r
  | _, _, _ + 1, .nil => .nil
  | _, _, n + 1, .cons _ t => Vals.drop n t
def RelO : Option V → Option Value → Prop
  | some v, some u => RelV v u
  | none, none => True
  | _, _ => False
def KV {κ : Type} : List (κ × V) → List (κ × Value) → Prop := Paired fun (p : κ × V) (q : κ × Value) => p.1 = q.1 ∧ RelV p.2 q.2

/-- a key of a dict (00_mix): an int or a text -/
def kV : Key → V
  | .inl i => .int i
  | .inr x => .str x

/-- what stands at a tracked address -/
inductive HO where
  /-- a list -/
  | lst (xs : List V)
  /-- a tuple (never changes) -/
  | tup (xs : List V)
  /-- a dict whose keys are ints and texts; one whose keys are tuples of ints and texts (the empty one is both) -/
  | dK (kvs : List (Key × V)) | dT (kvs : List (List Key × V))
  /-- a set of ints: its members, its size -/
  | set (S : Int → Bool) (n : Nat)
  /-- an instance of the class at C, its dict at dx, its attributes -/
  | ins (C dx : Addr) (fs : List (Str × V))
  /-- the dict of the instance at x -/
  | own (x : Addr)
  /-- the dict of an exception -/
  | xd (fs : List (Str × V))
  /-- a bound method, f of x -/
  | met (f x : Addr)
  /-- a range object lo, lo + 1, .. below hi -/
  | rng (lo hi : Int)
  /-- a thing that is known to the object (the script; a dict while a loop walks it): read, never written while it is so -/
  | frz (o : Obj) (u : HO)
  /-- a code object's table -/
  | tbl (ps : Array Value)
  /-- any other thing, by what is true of its one object (a def of one's own: SetO a S n := HO.ext fun h => ..) -/
  | ext (φ : Heap → Prop)

abbrev Hp := Addr → Option HO
def upd (H : Hp) (a : Addr) (o : HO) : Hp := fun b => if b = a then some o else H b
theorem upd_same {H : Hp} {a : Addr} {o : HO} : upd H a o a = some o := by unfold upd; rw [if_pos rfl]
theorem upd_ne {H : Hp} {a b : Addr} {o : HO} (h : b ≠ a) : upd H a o b = H b := by unfold upd; rw [if_neg h]
/-- two objects of different content stand apart -/
theorem ne_of {H : Hp} {a b : Addr} {o u : HO} (h : H a = some o) (h' : H b = some u) (d : o ≠ u) : a ≠ b := by
  intro e; subst e; rw [h] at h'; exact d (Option.some.inj h')
theorem ne_of_none {H : Hp} {a b : Addr} {o : HO} (h : H a = some o) (h' : H b = none) : a ≠ b := by
  intro e; subst e; rw [h] at h'; cases h'

section
variable (P : Program) (w : World)
def ObjOk (H : Hp) (h : Heap) (a : Addr) : HO → Prop
  | .lst xs => xs.length ≤ sizeLine ∧ ∃ (its : List Value) (n : Nat), Vals xs its ∧ h.get? a = some { cls := .type "list", data := .seq its.toArray n }
  | .tup xs => xs.length ≤ sizeLine ∧ ∃ its : List Value, Vals xs its ∧ IsTup h a its.toArray
  | .dK kvs => kvs.length ≤ sizeLine ∧ (a == sysModules) = false ∧ ∃ vs, KV kvs vs ∧ h.DictOf (mixKind P w) a vs
  | .dT kvs => kvs.length ≤ sizeLine ∧ (a == sysModules) = false ∧ ∃ xs : List (List Key × Addr × Value),
      Paired (fun (p : List Key × V) (q : List Key × Addr × Value) => p.1 = q.1 ∧ H q.2.1 = some (.tup (p.1.map kV)) ∧ RelV p.2 q.2.2) kvs xs ∧
      ∃ o es ep, h.get? a = some o ∧ o.ExactDict ∧ o.data = .dict es ep ∧ es.toList = xs.map (entryOfKey (tupleKind (mixKind P w))) ∧ (xs.map (·.1)).Nodup
  | .set S n => h.SetOf (intKind P w) a S n
  | .ins C dx fs => H dx = some (.own a) ∧ fs.length ≤ 1000 ∧ dx ≠ a ∧ h.get? a = some (PySem.W.instObj C dx) ∧
      ∃ mA, h.Ns1 dx mA ∧ (∀ f, RelO (fs.lookup f) (mA f)) ∧ PySem.Within mA (fs.map (·.1))
  | .own _ => ∃ o, h.get? a = some o
  | .xd fs => ∃ mA, h.Ns1 a mA ∧ ∀ f, RelO (fs.lookup f) (mA f)
  | .rng lo hi => ∃ t u v, h.get? a = some { cls := .type "range", data := .fields #[.int lo t, .int hi u, .int 1 v] }
  | .frz o u => h.get? a = some o ∧ ObjOk H h a u
  | .tbl ps => h.get? a = some { cls := .none, data := .fields ps }
  | .met f x => h.get? a = some (PySem.W.methodObj (.ref f) (.ref x))
  | .ext φ => φ h ∧ (∃ o, h.get? a = some o) ∧ ∀ h1 h2 : Heap, φ h1 → (∀ o, h1.get? a = some o → h2.get? a = some o) → φ h2
/-- the abstract heap is held -/
def HOk (H : Hp) (h : Heap) : Prop := ∀ a o, H a = some o → ObjOk P w H h a o
end

section
variable {P : Program} {w : World} {H H' : Hp} {h h' : Heap} {a : Addr} {o : HO}
theorem ObjOk.lt (x : ObjOk P w H h a o) : a < h.objs.size := by
  cases o with
  | lst xs => obtain ⟨_, _, _, _, e⟩ := x; exact Heap.lt_size e
  | tup xs => obtain ⟨_, _, _, p⟩ := x; exact p.lt
  | dK kvs => obtain ⟨_, _, _, _, o, _, _, e, _⟩ := x; exact Heap.lt_size e
  | dT kvs => obtain ⟨_, _, _, _, o, _, _, e, _⟩ := x; exact Heap.lt_size e
  | set S n => obtain ⟨o, _, _, _, e, _⟩ := x; exact Heap.lt_size e
  | ins C dx fs => obtain ⟨_, _, _, e, _⟩ := x; exact Heap.lt_size e
  | own y => obtain ⟨_, e⟩ := x; exact Heap.lt_size e
  | xd fs => obtain ⟨_, ⟨_, _, _, e, _⟩, _⟩ := x; exact Heap.lt_size e
  | rng lo hi => obtain ⟨_, _, _, e⟩ := x; exact Heap.lt_size e
  | frz ob u => obtain ⟨e, _⟩ := x; exact Heap.lt_size e
  | tbl ps => exact Heap.lt_size (show h.get? a = some _ from x)
  | met f y => exact Heap.lt_size (show h.get? a = some _ from x)
  | ext φ => obtain ⟨_, ⟨_, e⟩, _⟩ := x; exact Heap.lt_size e
theorem Paired.mapP {α β : Type} {F G : α → β → Prop} : ∀ {l₁ : List α} {l₂ : List β}, Paired F l₁ l₂ → (∀ a b, F a b → G a b) → Paired G l₁ l₂
  | _, _, .nil, _ => .nil
  | _, _, .cons r t, f => .cons (f _ _ r) (Paired.mapP t f)
/-- what an object's description leans on: its own object, its own dict, the tuples -/
theorem ObjOk.stay (x : ObjOk P w H h a o) (k : ∀ b u, (b = a ∨ H b = some (.own a)) → h.get? b = some u → h'.get? b = some u)
    (ho : ∀ b, H b = some (.own a) → H' b = some (.own a)) (ht : ∀ b xs, H b = some (.tup xs) → H' b = some (.tup xs)) : ObjOk P w H' h' a o := by
  induction o with
  | lst xs => obtain ⟨z, its, n, r, e⟩ := x; exact ⟨z, its, n, r, k _ _ (.inl rfl) e⟩
  | tup xs => obtain ⟨z, its, r, ob, e, c⟩ := x; exact ⟨z, its, r, ob, k _ _ (.inl rfl) e, c⟩
  | dK kvs => obtain ⟨z, y, vs, r, ob, es, ep, e, c⟩ := x; exact ⟨z, y, vs, r, ob, es, ep, k _ _ (.inl rfl) e, c⟩
  | dT kvs =>
    obtain ⟨z, y, xs, r, ob, es, ep, e, c⟩ := x
    exact ⟨z, y, xs, Paired.mapP r fun p q z => ⟨z.1, ht _ _ z.2.1, z.2.2⟩, ob, es, ep, k _ _ (.inl rfl) e, c⟩
  | set S n => obtain ⟨ob, es, ep, t, e, c⟩ := x; exact ⟨ob, es, ep, t, k _ _ (.inl rfl) e, c⟩
  | ins C dx fs =>
    obtain ⟨d, z, ne, e, mA, ⟨od, es, ep, e2, c⟩, r⟩ := x
    exact ⟨ho _ d, z, ne, k _ _ (.inl rfl) e, mA, ⟨od, es, ep, k _ _ (.inr d) e2, c⟩, r⟩
  | own y => obtain ⟨ob, e⟩ := x; exact ⟨ob, k _ _ (.inl rfl) e⟩
  | xd fs => obtain ⟨mA, ⟨od, es, ep, e, c⟩, r⟩ := x; exact ⟨mA, ⟨od, es, ep, k _ _ (.inl rfl) e, c⟩, r⟩
  | rng lo hi => obtain ⟨t, u, v, e⟩ := x; exact ⟨t, u, v, k _ _ (.inl rfl) e⟩
  | frz ob u ih => obtain ⟨e, q⟩ := x; exact ⟨k _ _ (.inl rfl) e, ih q⟩
  | tbl ps =>
    have e : h.get? a = some { cls := .none, data := .fields ps } := x
    show h'.get? a = some { cls := .none, data := .fields ps }
    exact k a _ (.inl rfl) e
  | met f y =>
    have e : h.get? a = some (PySem.W.methodObj (.ref f) (.ref y)) := x
    show h'.get? a = some (PySem.W.methodObj (.ref f) (.ref y))
    exact k a _ (.inl rfl) e
  | ext φ => obtain ⟨p, ⟨o, e⟩, st⟩ := x; exact ⟨st _ _ p fun o q => k _ _ (.inl rfl) q, ⟨o, k _ _ (.inl rfl) e⟩, st⟩
theorem HOk.lt (x : HOk P w H h) (e : H a = some o) : a < h.objs.size := (x a o e).lt
theorem HOk.fresh (x : HOk P w H h) (e : h.objs.size ≤ a) : H a = none := by
  cases q : H a with
  | none => rfl
  | some u => exact absurd (Nat.lt_of_lt_of_le (x.lt q) e) (Nat.lt_irrefl _)
/-- every object of the heap is kept -/
theorem HOk.kept (x : HOk P w H h) (k : ∀ b u, h.get? b = some u → h'.get? b = some u) : HOk P w H h' := fun a o e =>
  (x a o e).stay (fun b u _ q => k b u q) (fun _ q => q) fun _ _ q => q
/-- a new object is laid and tracked -/
theorem HOk.laid (x : HOk P w H h) (k : ∀ b u, h.get? b = some u → h'.get? b = some u) (hp : h.objs.size ≤ a) (new : ObjOk P w (upd H a o) h' a o) : HOk P w (upd H a o) h' := fun b u e => by
  have hn := x.fresh hp
  by_cases hb : b = a
  · subst hb; rw [upd_same] at e; cases e; exact new
  · rw [upd_ne hb] at e
    exact (x b u e).stay (fun c v _ q => k c v q) (fun c q => by rw [upd_ne (ne_of_none q hn)]; exact q) fun c xs q => by rw [upd_ne (ne_of_none q hn)]; exact q
end

/-- what may be read as u: it is u, or a known u -/
def Rd (H : Hp) (a : Addr) (u : HO) : Prop := H a = some u ∨ ∃ o, H a = some (.frz o u)
theorem Rd.ok {P : Program} {w : World} {H : Hp} {h : Heap} {a : Addr} {u : HO} (r : Rd H a u) (x : HOk P w H h) : ObjOk P w H h a u := by
  rcases r with r | ⟨o, r⟩
  · exact x a u r
  · obtain ⟨_, q⟩ := x a _ r
    exact q
/-- what may be written -/
def Mut : Option HO → Prop
  | some (.lst _) => True
  | some (.dK _) => True
  | some (.dT _) => True
  | some (.set _ _) => True
  | some (.ins _ _ _) => True
  | some (.ext _) => True
  | _ => False
section
variable {P : Program} {w : World} {H : Hp} {h h' : Heap} {x e : Addr} {o' : HO}
/-- the object at e is changed: x itself, or the dict of the instance x -/
theorem HOk.write (ok : HOk P w H h) (mu : Mut (H x)) (he : e = x ∨ H e = some (.own x)) (k : ∀ b u, b ≠ e → h.get? b = some u → h'.get? b = some u) (heo : ∃ u, h'.get? e = some u)
    (new : ObjOk P w (upd H x o') h' x o') : HOk P w (upd H x o') h' := fun b u q => by
  have nown : ∀ c y, H c = some (.own y) → c ≠ x := fun c y r z => by subst z; rw [r] at mu; exact mu
  have ntup : ∀ c xs, H c = some (.tup xs) → c ≠ x := fun c xs r z => by subst z; rw [r] at mu; exact mu
  by_cases hb : b = x
  · subst hb; rw [upd_same] at q; cases q; exact new
  · rw [upd_ne hb] at q
    by_cases hbe : b = e
    · have q' : H b = some (.own x) := by
        rcases he with z | z
        · exact absurd (hbe.trans z) hb
        · rw [hbe]; exact z
      rw [q] at q'; cases q'
      obtain ⟨v, hv⟩ := heo
      exact ⟨v, by rw [hbe]; exact hv⟩
    · refine (ok b u q).stay (fun c v hc r => k c v ?_ r) (fun c r => by rw [upd_ne (nown c b r)]; exact r) fun c xs r => by rw [upd_ne (ntup c xs r)]; exact r
      rcases hc with rfl | hc
      · exact hbe
      · rintro rfl
        rcases he with z | z
        · exact nown c b hc z
        · rw [hc] at z; cases z; exact hb rfl
end

/-! ### kept unless tracked; of the frames at fs (the callers') the slots may change (an exception that passes writes there); of the records at ex (iterators) nothing is said -/
structure Un (fs ex : List Addr) (H H' : Hp) (h h' : Heap) : Prop where
  keep : ∀ b o, h.get? b = some o → H b = none → b ∉ fs → b ∉ ex → h'.get? b = some o
  slot : ∀ b o, h.get? b = some o → H b = none → b ∈ fs → b ∉ ex → ∃ sl, h'.get? b = some { o with slots := sl }
  free : ∀ b o, h.get? b = some o → H b = none → b ∉ ex → H' b = none
  there : ∀ b o, h.get? b = some o → b ∉ ex → ∃ o', h'.get? b = some o'
  tups : ∀ b xs, H b = some (.tup xs) → H' b = some (.tup xs)
  frzs : ∀ b o u, H b = some (.frz o u) → H' b = some (.frz o u)
  tbls : ∀ b ps, H b = some (.tbl ps) → ∃ more, H' b = some (.tbl (ps ++ more))
section
variable {fs fs' ex ex' : List Addr} {H H1 H2 : Hp} {h h1 h2 h' : Heap} {a x e : Addr} {o : HO}
theorem Un.any (u : Un fs ex H H1 h h1) {b : Addr} {ob : Obj} (q : h.get? b = some ob) (n : H b = none) (hx : b ∉ ex) : ∃ sl, h1.get? b = some { ob with slots := sl } := by
  by_cases hb : b ∈ fs
  · exact u.slot b ob q n hb hx
  · exact ⟨ob.slots, u.keep b ob q n hb hx⟩
theorem Un.trans (a : Un fs ex H H1 h h1) (b : Un fs ex H1 H2 h1 h2) : Un fs ex H H2 h h2 where
  keep := fun c ob q n hc hx => b.keep c ob (a.keep c ob q n hc hx) (a.free c ob q n hx) hc hx
  slot := fun c ob q n hc hx => by
    obtain ⟨sl, e1⟩ := a.slot c ob q n hc hx
    obtain ⟨sl', e2⟩ := b.slot c _ e1 (a.free c ob q n hx) hc hx
    exact ⟨sl', e2⟩
  free := fun c ob q n hx => by
    obtain ⟨o', e1⟩ := a.there c ob q hx
    exact b.free c o' e1 (a.free c ob q n hx) hx
  there := fun c ob q hx => by
    obtain ⟨o', e1⟩ := a.there c ob q hx
    exact b.there c o' e1 hx
  tups := fun c xs q => b.tups c xs (a.tups c xs q)
  frzs := fun c ob xs q => b.frzs c ob xs (a.frzs c ob xs q)
  tbls := fun c ps q => by
    obtain ⟨m1, e1⟩ := a.tbls c ps q
    obtain ⟨m2, e2⟩ := b.tbls c _ e1
    exact ⟨m1 ++ m2, by rw [e2, Array.append_assoc]⟩
theorem Un.kept (k : ∀ b u, h.get? b = some u → h'.get? b = some u) : Un fs ex H H h h' :=
  ⟨fun b ob q _ _ _ => k b ob q, fun b ob q _ _ _ => ⟨ob.slots, k b ob q⟩, fun _ _ _ n _ => n, fun b ob q _ => ⟨ob, k b ob q⟩, fun _ _ q => q, fun _ _ _ q => q, fun _ ps q => ⟨#[], by rw [q]; simp⟩⟩
theorem Un.refl : Un fs ex H H h h := Un.kept fun _ _ q => q
theorem Un.laid (k : ∀ b u, h.get? b = some u → h'.get? b = some u) (hp : h.objs.size ≤ a) (hn : H a = none) : Un fs ex H (upd H a o) h h' where
  keep := fun b u q _ _ _ => k b u q
  slot := fun b u q _ _ _ => ⟨u.slots, k b u q⟩
  free := fun b u q n _ => by rw [upd_ne (Nat.ne_of_lt (Nat.lt_of_lt_of_le (Heap.lt_size q) hp))]; exact n
  there := fun b u q _ => ⟨u, k b u q⟩
  tups := fun b xs q => by rw [upd_ne (ne_of_none q hn)]; exact q
  frzs := fun b u xs q => by rw [upd_ne (ne_of_none q hn)]; exact q
  tbls := fun b ps q => ⟨#[], by rw [upd_ne (ne_of_none q hn), q]; simp⟩
theorem Un.write (mu : Mut (H x)) (he : e = x ∨ H e = some (.own x)) (k : ∀ b u, b ≠ e → h.get? b = some u → h'.get? b = some u) (heo : ∃ u, h'.get? e = some u) : Un fs ex H (upd H x o) h h' := by
  have hx : ∀ b, H b = none → b ≠ x := fun b n z => by subst z; rw [n] at mu; exact mu
  have hb : ∀ b, H b = none → b ≠ e := fun b n z => by
    subst z
    rcases he with r | r
    · exact hx b n r
    · rw [n] at r; cases r
  have hm : ∀ b u, H b = some u → ¬ Mut (some u) → b ≠ x := fun b u q nm z => by subst z; rw [q] at mu; exact nm mu
  refine ⟨fun b u q n _ _ => k b u (hb b n) q, fun b u q n _ _ => ⟨u.slots, k b u (hb b n) q⟩, fun b u q n _ => by rw [upd_ne (hx b n)]; exact n, fun b u q _ => ?_,
    fun b xs q => by rw [upd_ne (hm b _ q fun z => z)]; exact q, fun b u xs q => by rw [upd_ne (hm b _ q fun z => z)]; exact q, fun b ps q => ⟨#[], by rw [upd_ne (hm b _ q fun z => z), q]; simp⟩⟩
  by_cases hbe : b = e
  · subst hbe; exact heo
  · exact ⟨u, k b u hbe q⟩
end

/-! ### the heap without what is tracked -/
def trk (h : Heap) (H : Hp) : List Addr := (List.range h.objs.size).filter fun a => (H a).isSome
def hidT (h : Heap) (H : Hp) : Heap := PySem.W.hideAll h (trk h H)
theorem hidT_size (h : Heap) (H : Hp) : (hidT h H).objs.size = h.objs.size := PySem.W.hideAll_size _ _
theorem hidT_get {h : Heap} {H : Hp} {b : Addr} {o : Obj} (e : h.get? b = some o) (n : H b = none) : (hidT h H).get? b = some o :=
  PySem.W.hideAll_get _ e fun hm => by
    have q : (H b).isSome = true := (List.mem_filter.mp hm).2
    rw [n] at q; simp at q
theorem of_hidT {h : Heap} {H : Hp} {b : Addr} {o : Obj} (e : (hidT h H).get? b = some o) : h.get? b = some o ∧ H b = none := by
  have e' : h.get? b = some o := PySem.W.of_hideAll (trk h H) e
  refine ⟨e', ?_⟩
  cases q : H b with
  | none => rfl
  | some x =>
    have hm : b ∈ trk h H := List.mem_filter.mpr ⟨List.mem_range.mpr (Heap.lt_size e'), by simp [q]⟩
    have z : (hidT h H).get? b = none := PySem.W.hideAll_none (trk h H) hm
    rw [z] at e; cases e

/-! ### OpenK's ledger, filled with every new object but one -/
def allNews (g h : Heap) (L : Addr) : List (Addr × Obj) := (List.range h.objs.size).filterMap fun a => if a = L ∨ (g.get? a).isSome = true then none else (h.get? a).map fun o => (a, o)
def rest (g h : Heap) (L d : Addr) : List (Addr × Obj) := (allNews g h L).filter fun p => decide (p.1 ≠ d)
end L2

namespace L2
open PySem PySem.Spec PyProof.Rows

/-- the module's facts, over the base: the heap at the law's entry without what is tracked there -/
structure Mod (K : PySem.W.Frag) (mg : Str → Option Value) (base : Heap) : Prop where
  kin : K.In base
  glob : base.Ns mainGlobals mg
  blt : ∃ mb, base.Ns builtinsNs mb ∧ ∀ x : Str, x ≠ "__name__" → mb x = bootBuiltins x
  nolimit : base.NoLimit

/-- the context: a def's body (or a comprehension's block) running. base: fixed through the whole law; s₀, H₀: the entry; outer: the frames whose slots others may change (a def's callers); stack: all frames that run;
   ex: iterators that were made ahead of the entry and are walked here (a comprehension's); fn: the names whose cells were made at the entry (a def: all; a comprehension's block: its own); calm: not within an except suite; pn: pins that every state bears; xe: what is wanted of an exception that leaves the code -/
structure Cx where
  prog : Program
  w : World
  K : PySem.W.Frag
  mg : Str → Option Value
  base : Heap
  A : Around
  N : List Str
  s₀ : Shared
  H₀ : Hp
  env : Env
  outer : List Env
  stack : List Env
  ex : List Addr
  fn : Str → Bool
  calm : Bool
  pn : List (Addr × Obj)
  xe : Value → Shared → Prop
/-- the callers' frames -/
def frs (l : List Env) : List Addr := l.filterMap (·.frame)
abbrev Cx.fs (X : Cx) : List Addr := frs X.outer

def Vis (sc : Scope) (x : Str) : Prop := sc.names.lookup x = some .local ∨ sc.names.lookup x = some .cell ∨ sc.names.lookup x = some .free
def Loc (sc : Scope) (x : Str) : Prop := sc.names.lookup x = some .local ∨ sc.names.lookup x = some .cell
def Look (env : Env) (h : Heap) (m : Str → Option Value) (x : Str) (u : Value) : Prop :=
  (env.kindOf x = some .local ∧ m x = some u) ∨ ((env.kindOf x = some .cell ∨ env.kindOf x = some .free) ∧ ∃ c, env.cells.lookup x = some c ∧ h.IsCell c (some u))

structure Cx.Ok (X : Cx) : Prop where
  mod : Mod X.K X.mg X.base
  kind : X.env.scope.kind = .function
  glob : X.env.globals = mainGlobals
  blt : X.env.builtins = builtinsNs
  above : X.s₀.heap.objs.size ≤ X.env.locals
  inj : ∀ x y c, X.env.cells.lookup x = some c → X.env.cells.lookup y = some c → x = y
  has : ∀ x, (X.env.kindOf x = some .cell ∨ X.env.kindOf x = some .free) → ∃ c, X.env.cells.lookup x = some c
  cab : ∀ x c, X.fn x = true → X.env.cells.lookup x = some c → X.s₀.heap.objs.size ≤ c
  hd : X.calm = true → X.A.handled = none
  frames : X.A.frames = some X.stack
  stk : X.stack = X.outer ∨ (X.stack = X.env :: X.outer ∧ X.env.frame = some X.env.locals)
  exf : ∀ b ∈ X.ex, b ≠ X.env.locals ∧ ∀ x c, X.env.cells.lookup x = some c → c ≠ b
  bs : ∀ b o, X.base.get? b = some o → X.s₀.heap.get? b = some o ∧ X.H₀ b = none
  bsz : X.base.objs.size ≤ X.s₀.heap.objs.size
  noex : ∀ b o, X.base.get? b = some o → b ∉ X.ex
  exfs : ∀ b ∈ X.ex, b ∉ X.fs
  funs : X.s₀.heap.FunFrames X.base X.outer
  frf : ∀ b ∈ X.fs, X.H₀ b = none

structure Inv (X : Cx) (pins : List (Addr × Obj)) (σ : List (Option V)) (H : Hp) (s : Shared) : Prop where
  ok : X.Ok
  os : s.os = X.s₀.os
  bare : AllBare s.gens
  base : Un X.fs X.ex X.H₀ H X.s₀.heap s.heap
  loc : ∃ m, s.heap.Ns X.env.locals m ∧ ∀ (i : Nat) (x : Str) (v : V), X.N[i]? = some x → σ[i]? = some (some v) → Vis X.env.scope x → ∃ u, RelV v u ∧ Look X.env s.heap m x u
  cell : ∀ x c, X.env.cells.lookup x = some c → ∃ v, s.heap.IsCell c v
  free : H X.env.locals = none
  freeC : ∀ x c, X.env.cells.lookup x = some c → H c = none
  pin : ∀ p ∈ X.pn ++ pins, s.heap.get? p.1 = some p.2 ∧ H p.1 = none ∧ p.1 ≠ X.env.locals ∧ p.1 ∉ X.fs ∧ ∀ v, p.2.data ≠ .cell v
  hok : HOk X.prog X.w H s.heap
  len : σ.length = X.N.length

section
variable {X : Cx} {pins : List (Addr × Obj)} {σ : List (Option V)} {H H' : Hp} {s : Shared} {h' : Heap}

theorem Cx.Ok.nofr (ok : X.Ok) {b : Addr} {o : Obj} (e : X.base.get? b = some o) : b ∉ X.fs := fun hb => by
  have := (ok.funs.mem hb).1
  rw [e] at this; cases this
theorem Inv.bs (I : Inv X pins σ H s) : ∀ b o, X.base.get? b = some o → s.heap.get? b = some o ∧ H b = none := fun b o e =>
  ⟨I.base.keep b o (I.ok.bs b o e).1 (I.ok.bs b o e).2 (I.ok.nofr e) (I.ok.noex b o e), I.base.free b o (I.ok.bs b o e).1 (I.ok.bs b o e).2 (I.ok.noex b o e)⟩
theorem Inv.bk (I : Inv X pins σ H s) : ∀ b o, X.base.get? b = some o → s.heap.get? b = some o := fun b o e => (I.bs b o e).1
theorem Inv.mod (I : Inv X pins σ H s) : Mod X.K X.mg X.base := I.ok.mod
theorem Inv.kIn (I : Inv X pins σ H s) : X.K.In s.heap := I.ok.mod.kin.keeps I.bk
theorem Inv.nolimit (I : Inv X pins σ H s) : s.heap.NoLimit := I.ok.mod.nolimit.keeps I.bk
theorem Inv.lt (I : Inv X pins σ H s) : X.env.locals < s.heap.objs.size := let ⟨_, hn, _⟩ := I.loc; hn.lt
theorem Inv.sz (I : Inv X pins σ H s) : X.s₀.heap.objs.size ≤ s.heap.objs.size := Nat.le_trans I.ok.above (Nat.le_of_lt I.lt)
theorem Inv.nofs (I : Inv X pins σ H s) {a : Addr} (h : s.heap.objs.size ≤ a) : a ∉ X.fs := fun hb => by
  obtain ⟨_, o, ho, _⟩ := I.ok.funs.mem hb
  exact absurd (Nat.lt_of_lt_of_le (Heap.lt_size ho) (Nat.le_trans I.sz h)) (Nat.lt_irrefl _)
theorem Inv.cne (I : Inv X pins σ H s) : ∀ x c, X.env.cells.lookup x = some c → c ≠ X.env.locals := fun x c e z => by
  obtain ⟨v, o, ho, hd⟩ := I.cell x c e
  obtain ⟨m, ⟨o', es, ep, ho', hd', _⟩, _⟩ := I.loc
  rw [z, ho'] at ho; cases ho; rw [hd'] at hd; cases hd
theorem Inv.funs (I : Inv X pins σ H s) : s.heap.FunFrames X.base X.outer := by
  have all : ∀ (l : List Env), (∀ b ∈ frs l, b ∈ X.fs) → X.s₀.heap.FunFrames X.base l → s.heap.FunFrames X.base l := by
    intro l
    induction l with
    | nil => intro _ _; trivial
    | cons env r ih =>
      intro hs hl
      obtain ⟨hk, ⟨L, o, hf, hn, ho, hd⟩, hr⟩ := hl
      have hL : L ∈ X.fs := hs L (by unfold frs; rw [List.filterMap_cons, hf]; exact List.mem_cons_self)
      obtain ⟨sl, e⟩ := I.base.slot L o ho (I.ok.frf L hL) hL fun z => I.ok.exfs L z hL
      exact ⟨hk, ⟨L, _, hf, hn, e, hd⟩, ih (fun b hb => hs b (by unfold frs; rw [List.filterMap_cons, hf]; exact List.mem_cons_of_mem _ hb)) hr⟩
  exact all X.outer (fun _ hb => hb) I.ok.funs

/-- the frames that run, for a call -/
theorem Inv.stack (I : Inv X pins σ H s) : s.heap.FunFrames X.base X.stack := by
  rcases I.ok.stk with e | ⟨e, hf⟩
  · rw [e]; exact I.funs
  · rw [e]
    obtain ⟨m, hn, _⟩ := I.loc
    refine .cons (by rw [I.ok.kind]; decide) hf hn ?_ I.funs
    exact Heap.get?_none_of_le (Nat.le_trans I.ok.bsz I.ok.above)
theorem Inv.stkSub (I : Inv X pins σ H s) : ∀ b ∈ frs X.stack, b ∈ X.env.locals :: X.fs := fun b hb => by
  rcases I.ok.stk with e | ⟨e, hf⟩
  · rw [e] at hb; exact List.mem_cons_of_mem _ hb
  · rw [e] at hb
    unfold frs at hb
    rw [List.filterMap_cons, hf] at hb
    exact hb
theorem Inv.stkFree (I : Inv X pins σ H s) : ∀ b ∈ frs X.stack, H b = none := fun b hb => by
  rcases List.mem_cons.mp (I.stkSub b hb) with e | hb
  · rw [e]; exact I.free
  · obtain ⟨_, o, ho, _⟩ := I.ok.funs.mem hb
    exact I.base.free b o ho (I.ok.frf b hb) fun z => I.ok.exfs b z hb

/-- THE STEP: the untracked objects but the frame and the records at ch are kept (the callers' frames up to slots), the frame's map is kept, the new abstract heap is held -/
theorem Inv.step {g' : Array GenState} {t' : Nat} {d' : Drawn} {ch : List Addr} (I : Inv X pins σ H s)
    (hch : ∀ b ∈ ch, (b ∈ X.ex ∨ X.s₀.heap.objs.size ≤ b) ∧ b ≠ X.env.locals ∧ (∀ x c, X.env.cells.lookup x = some c → c ≠ b) ∧ ∀ p ∈ X.pn ++ pins, p.1 ≠ b)
    (keep : ∀ b o, b ≠ X.env.locals → b ∉ X.fs → b ∉ ch → s.heap.get? b = some o → H b = none → h'.get? b = some o)
    (slot : ∀ b o, b ≠ X.env.locals → b ∈ X.fs → b ∉ ch → s.heap.get? b = some o → H b = none → ∃ sl, h'.get? b = some { o with slots := sl }) (free : ∀ b o, b ∉ ch → s.heap.get? b = some o → H b = none → H' b = none)
    (there : ∀ b o, b ∉ ch → s.heap.get? b = some o → ∃ o', h'.get? b = some o')
    (tups : ∀ b xs, H b = some (.tup xs) → H' b = some (.tup xs)) (frzs : ∀ b o u, H b = some (.frz o u) → H' b = some (.frz o u)) (tbls : ∀ b ps, H b = some (.tbl ps) → ∃ more, H' b = some (.tbl (ps ++ more)))
    (ns : ∀ m, s.heap.Ns X.env.locals m → h'.Ns X.env.locals m) (hok : HOk X.prog X.w H' h') (hg : AllBare g') :
    Inv X pins σ H' { s with heap := h', gens := g', drawn := d', toks := t' } := by
  have neL : ∀ b o, X.s₀.heap.get? b = some o → b ≠ X.env.locals := fun b o e => Nat.ne_of_lt (Nat.lt_of_lt_of_le (Heap.lt_size e) I.ok.above)
  have neC : ∀ b o, X.s₀.heap.get? b = some o → b ∉ X.ex → b ∉ ch := fun b o e hx hb => by
    rcases (hch b hb).1 with z | z
    · exact hx z
    · exact absurd (Nat.lt_of_lt_of_le (Heap.lt_size e) z) (Nat.lt_irrefl _)
  have cellK : ∀ x c, X.env.cells.lookup x = some c → ∀ v, s.heap.IsCell c v → h'.IsCell c v := fun x c e v ⟨o, ho, hd⟩ => by
    have nch : c ∉ ch := fun z => (hch c z).2.2.1 x c e rfl
    by_cases hc : c ∈ X.fs
    · obtain ⟨sl, q⟩ := slot c o (I.cne x c e) hc nch ho (I.freeC x c e)
      exact ⟨_, q, hd⟩
    · exact ⟨o, keep c o (I.cne x c e) hc nch ho (I.freeC x c e), hd⟩
  refine ⟨I.ok, I.os, hg, ⟨fun b o e n hb hx => ?_, fun b o e n hb hx => ?_, fun b o e n hx => ?_, fun b o e hx => ?_, fun b xs e => tups b xs (I.base.tups b xs e), fun b o xs e => frzs b o xs (I.base.frzs b o xs e), fun b ps e => ?_⟩, ?_, fun x c e => ?_, ?_, fun x c e => ?_, fun p hp => ?_, hok, I.len⟩
  · exact keep b o (neL b o e) hb (neC b o e hx) (I.base.keep b o e n hb hx) (I.base.free b o e n hx)
  · obtain ⟨sl, e1⟩ := I.base.slot b o e n hb hx
    obtain ⟨sl', e2⟩ := slot b _ (neL b o e) hb (neC b o e hx) e1 (I.base.free b o e n hx)
    exact ⟨sl', e2⟩
  · obtain ⟨o', e1⟩ := I.base.there b o e hx
    exact free b o' (neC b o e hx) e1 (I.base.free b o e n hx)
  · obtain ⟨o', e1⟩ := I.base.there b o e hx
    exact there b o' (neC b o e hx) e1
  · obtain ⟨m1, e1⟩ := I.base.tbls b ps e
    obtain ⟨m2, e2⟩ := tbls b _ e1
    exact ⟨m1 ++ m2, by rw [e2, Array.append_assoc]⟩
  · obtain ⟨m, hn, hl⟩ := I.loc
    refine ⟨m, ns m hn, fun i x v e1 e2 e3 => ?_⟩
    obtain ⟨u, r, l⟩ := hl i x v e1 e2 e3
    refine ⟨u, r, ?_⟩
    rcases l with l | ⟨k, c, e, z⟩
    · exact .inl l
    · exact .inr ⟨k, c, e, cellK x c e _ z⟩
  · obtain ⟨v, z⟩ := I.cell x c e
    exact ⟨v, cellK x c e v z⟩
  · obtain ⟨m, ⟨o, _, _, ho, _⟩, _⟩ := I.loc
    exact free _ o (fun z => (hch _ z).2.1 rfl) ho I.free
  · obtain ⟨v, o, ho, hd⟩ := I.cell x c e
    exact free c o (fun z => (hch c z).2.2.1 x c e rfl) ho (I.freeC x c e)
  · obtain ⟨e, n, ne, nf, d⟩ := I.pin p hp
    have nch : p.1 ∉ ch := fun z => (hch p.1 z).2.2.2 p hp rfl
    exact ⟨keep p.1 p.2 ne nf nch e n, free p.1 p.2 nch e n, ne, nf, d⟩
/-- .. where the frame's own object is kept too -/
theorem Inv.un {t' : Nat} (I : Inv X pins σ H s) (u : Un X.fs [] H H' s.heap h') (hok : HOk X.prog X.w H' h') : Inv X pins σ H' { s with heap := h', toks := t' } := by
  obtain ⟨m, ⟨o, es, ep, ho, r⟩, _⟩ := id I.loc
  obtain ⟨sl, hL⟩ := u.any ho I.free (by simp)
  exact I.step (g' := s.gens) (d' := s.drawn) (ch := []) (fun _ z => nomatch z) (fun b o _ hb _ e n => u.keep b o e n hb (by simp)) (fun b o _ hb _ e n => u.slot b o e n hb (by simp)) (fun b o _ e n => u.free b o e n (by simp)) (fun b o _ e => u.there b o e (by simp)) u.tups u.frzs u.tbls (fun m' hm => by
    obtain ⟨o', es', ep', ho', r'⟩ := hm
    rw [ho] at ho'; cases ho'
    exact ⟨_, es', ep', hL, r'⟩) hok I.bare
/-- behind a call (or a comprehension's block): the slots of this frame may have changed too, the records at ch may have turned -/
theorem Inv.call {g' : Array GenState} {t' : Nat} {d' : Drawn} {ch : List Addr} (I : Inv X pins σ H s) (u : Un (frs X.stack) ch H H' s.heap h') (hok : HOk X.prog X.w H' h') (hg : AllBare g')
    (hch : ∀ b ∈ ch, (b ∈ X.ex ∨ X.s₀.heap.objs.size ≤ b) ∧ b ≠ X.env.locals ∧ (∀ x c, X.env.cells.lookup x = some c → c ≠ b) ∧ ∀ p ∈ X.pn ++ pins, p.1 ≠ b) :
    Inv X pins σ H' { s with heap := h', gens := g', drawn := d', toks := t' } := by
  obtain ⟨m, ⟨o, es, ep, ho, r⟩, _⟩ := id I.loc
  obtain ⟨sl, hL⟩ := u.any ho I.free fun z => (hch _ z).2.1 rfl
  exact I.step (ch := ch) hch (fun b o hL hb hc e n => u.keep b o e n (fun z => (List.mem_cons.mp (I.stkSub b z)).elim hL hb) hc) (fun b o _ _ hc e n => u.any e n hc) (fun b o hc e n => u.free b o e n hc) (fun b o hc e => u.there b o e hc) u.tups u.frzs u.tbls (fun m' hm => by
    obtain ⟨o', es', ep', ho', r'⟩ := hm
    rw [ho] at ho'; cases ho'
    exact ⟨_, es', ep', hL, r'⟩) hok hg
/-- an untracked record of ours (an iterator) has turned -/
theorem Inv.turned {t' : Nat} {it : Addr} (I : Inv X pins σ H s) (k : ∀ b o, b ≠ it → s.heap.get? b = some o → h'.get? b = some o) (hn : H it = none) (hL : it ≠ X.env.locals)
    (h1 : it ∈ X.ex ∨ X.s₀.heap.objs.size ≤ it) (h2 : ∀ x c, X.env.cells.lookup x = some c → c ≠ it) (h3 : ∀ p ∈ X.pn ++ pins, p.1 ≠ it) : Inv X pins σ H { s with heap := h', toks := t' } := by
  have nit : ∀ b u, H b = some u → b ≠ it := fun b u e z => by rw [z, hn] at e; cases e
  refine I.step (g' := s.gens) (d' := s.drawn) (ch := [it]) (fun b hb => ?_) (fun b o _ _ hc e _ => k b o (fun z => hc (by simp [z])) e) (fun b o _ _ hc e _ => ⟨o.slots, k b o (fun z => hc (by simp [z])) e⟩) (fun _ _ _ _ n => n)
    (fun b o hc e => ⟨o, k b o (fun z => hc (by simp [z])) e⟩) (fun _ _ e => e) (fun _ _ _ e => e) (fun b ps e => ⟨#[], by rw [e]; simp⟩) (fun m hm => ?_) (fun b u e => ?_) I.bare
  · have e : b = it := by simpa using hb
    subst e
    exact ⟨h1, hL, h2, h3⟩
  · obtain ⟨o, es, ep, ho, r⟩ := hm
    exact ⟨o, es, ep, k _ o (Ne.symm hL) ho, r⟩
  · refine (I.hok b u e).stay (fun c v hc q => k c v ?_ q) (fun _ q => q) fun _ _ q => q
    rcases hc with z | z
    · rw [z]; exact nit b u e
    · exact nit c _ z
theorem Inv.tok (I : Inv X pins σ H s) (t : Nat) : Inv X pins σ H { s with toks := t } := I.un (h' := s.heap) (t' := t) Un.refl I.hok
/-- all objects kept -/
theorem Inv.kept {t' : Nat} (I : Inv X pins σ H s) (k : ∀ b u, s.heap.get? b = some u → h'.get? b = some u) : Inv X pins σ H { s with heap := h', toks := t' } := I.un (Un.kept k) (I.hok.kept k)
/-- a new object laid and tracked -/
theorem Inv.laid {a : Addr} {o : HO} {t' : Nat} (I : Inv X pins σ H s) (k : ∀ b u, s.heap.get? b = some u → h'.get? b = some u) (hp : s.heap.objs.size ≤ a) (new : ObjOk X.prog X.w (upd H a o) h' a o) :
    Inv X pins σ (upd H a o) { s with heap := h', toks := t' } := I.un (Un.laid k hp (I.hok.fresh hp)) (I.hok.laid k hp new)
/-- an object written -/
theorem Inv.write {x e : Addr} {o : HO} {t' : Nat} (I : Inv X pins σ H s) (mu : Mut (H x)) (he : e = x ∨ H e = some (.own x)) (k : ∀ b u, b ≠ e → s.heap.get? b = some u → h'.get? b = some u) (heo : ∃ u, h'.get? e = some u)
    (new : ObjOk X.prog X.w (upd H x o) h' x o) : Inv X pins σ (upd H x o) { s with heap := h', toks := t' } := I.un (Un.write mu he k heo) (I.hok.write mu he k heo new)
theorem Inv.pins_of {pins' : List (Addr × Obj)} (I : Inv X pins σ H s) (h : ∀ p ∈ pins', s.heap.get? p.1 = some p.2 ∧ H p.1 = none ∧ p.1 ≠ X.env.locals ∧ p.1 ∉ X.fs ∧ ∀ v, p.2.data ≠ .cell v) : Inv X pins' σ H s :=
  ⟨I.ok, I.os, I.bare, I.base, I.loc, I.cell, I.free, I.freeC, fun p hp => (List.mem_append.mp hp).elim (fun z => I.pin p (List.mem_append_left _ z)) (h p), I.hok, I.len⟩

theorem nodup_ix {N : List Str} (hN : N.Nodup) {i j : Nat} {x : Str} (a : N[i]? = some x) (b : N[j]? = some x) : i = j := by
  obtain ⟨h1, e1⟩ := List.getElem?_eq_some_iff.mp a
  obtain ⟨h2, e2⟩ := List.getElem?_eq_some_iff.mp b
  exact (List.getElem_inj hN).mp (e1.trans e2.symm)

/-- a name is stored; what changed -/
theorem store_ok2 {M : Model} {A : Around} {E : Value → Shared → Prop} {i : Nat} {x : Str} {v : V} {u : Value} {Q : Unit → Shared → Prop} (I : Inv X pins σ H s) (hN : X.N.Nodup) (hi : X.N[i]? = some x) (hx : Loc X.env.scope x) (r : RelV v u)
    (h : ∀ s', Inv X pins (σ.set i (some v)) H s' → (∃ a, Heap.SameBut a s.heap s'.heap ∧ (a = X.env.locals ∨ X.env.cells.lookup x = some a)) → Q () s') (hf : X.fn x = true ∨ X.env.scope.names.lookup x = some .local := by first | exact .inl rfl | exact .inr rfl | assumption) : wpAny M A (storeName X.env x u) Q E s := by
  obtain ⟨m, hn, hl⟩ := id I.loc
  have hcls : (X.env.scope.kind == .class || (X.env.scope.kind == .module && X.env.locals != X.env.globals)) = false := by rw [I.ok.kind]; rfl
  have hiσ : i < σ.length := by rw [I.len]; exact (List.getElem?_eq_some_iff.mp hi).1
  have cne := I.cne
  have tracked : ∀ {a : Addr} {h' : Heap}, (∃ o, s.heap.get? a = some o ∧ H a = none) → Heap.SameBut a s.heap h' → HOk X.prog X.w H h' := fun {a h'} ha hs b ob e => by
    obtain ⟨_, _, hfree⟩ := ha
    refine (I.hok b ob e).stay (fun c w' hc q => (hs.2 c ?_).trans q) (fun _ q => q) fun _ _ q => q
    rintro rfl
    rcases hc with rfl | hc
    · rw [hfree] at e; cases e
    · rw [hfree] at hc; cases hc
  rcases hx with hk | hk
  · refine wpAny_storeName_local hk hn (fun h' hn' hs => ?_) hcls
    obtain ⟨oL, _, _, hoL, _⟩ := id hn
    refine h _ ⟨I.ok, I.os, I.bare, ⟨fun b o e n hb hx => ?_, fun b o e n hb hx => ?_, I.base.free, fun b o e hx => ?_, I.base.tups, I.base.frzs, I.base.tbls⟩, ⟨_, hn', fun j y v' e1 e2 e3 => ?_⟩, fun y c e => ?_, I.free, I.freeC, fun p hp => ?_, tracked ⟨oL, hoL, I.free⟩ hs, by simpa using I.len⟩ ⟨_, hs, .inl rfl⟩
    · exact (hs.2 b (Nat.ne_of_lt (Nat.lt_of_lt_of_le (Heap.lt_size e) I.ok.above))).trans (I.base.keep b o e n hb hx)
    · obtain ⟨sl, e1⟩ := I.base.slot b o e n hb hx
      exact ⟨sl, (hs.2 b (Nat.ne_of_lt (Nat.lt_of_lt_of_le (Heap.lt_size e) I.ok.above))).trans e1⟩
    · obtain ⟨o', e1⟩ := I.base.there b o e hx
      exact ⟨o', (hs.2 b (Nat.ne_of_lt (Nat.lt_of_lt_of_le (Heap.lt_size e) I.ok.above))).trans e1⟩
    · by_cases hj : j = i
      · subst hj
        rw [hi] at e1; cases e1
        rw [List.getElem?_set_self hiσ] at e2
        cases e2
        exact ⟨u, r, .inl ⟨hk, by simp⟩⟩
      · rw [List.getElem?_set_ne (Ne.symm hj)] at e2
        obtain ⟨u', r', q⟩ := hl j y v' e1 e2 e3
        refine ⟨u', r', ?_⟩
        rcases q with ⟨k, e⟩ | ⟨k, c, e, z⟩
        · refine .inl ⟨k, ?_⟩
          have : y ≠ x := fun e => hj (nodup_ix hN e1 (e ▸ hi))
          simp [this, e]
        · exact .inr ⟨k, c, e, z.sameBut hs (cne y c e)⟩
    · obtain ⟨w', z⟩ := I.cell y c e
      exact ⟨w', z.sameBut hs (cne y c e)⟩
    · obtain ⟨e, n, ne, nf, d⟩ := I.pin p hp
      exact ⟨(hs.2 p.1 ne).trans e, n, ne, nf, d⟩
  · have hfn : X.fn x = true := by
      rcases hf with z | z
      · exact z
      · rw [z] at hk; cases hk
    obtain ⟨c, hc⟩ := I.ok.has x (.inl hk)
    obtain ⟨w', z⟩ := I.cell x c hc
    refine wpAny_storeName_cell I.ok.kind hk hc z (fun h' hc' hs => ?_)
    obtain ⟨oc, hoc, hocd⟩ := id z
    refine h { s with heap := h' } ⟨I.ok, I.os, I.bare, ⟨fun b o e n hb hx => ?_, fun b o e n hb hx => ?_, I.base.free, fun b o e hx => ?_, I.base.tups, I.base.frzs, I.base.tbls⟩, ⟨m, hn.sameBut hs (Ne.symm (cne x c hc)), fun j y v' e1 e2 e3 => ?_⟩, fun y c' e => ?_, I.free, I.freeC, fun p hp => ?_, tracked ⟨oc, hoc, I.freeC x c hc⟩ hs, by simpa using I.len⟩ ⟨c, hs, .inr hc⟩
    · exact (hs.2 b (Nat.ne_of_lt (Nat.lt_of_lt_of_le (Heap.lt_size e) (I.ok.cab x c hfn hc)))).trans (I.base.keep b o e n hb hx)
    · obtain ⟨sl, e1⟩ := I.base.slot b o e n hb hx
      exact ⟨sl, (hs.2 b (Nat.ne_of_lt (Nat.lt_of_lt_of_le (Heap.lt_size e) (I.ok.cab x c hfn hc)))).trans e1⟩
    · obtain ⟨o', e1⟩ := I.base.there b o e hx
      exact ⟨o', (hs.2 b (Nat.ne_of_lt (Nat.lt_of_lt_of_le (Heap.lt_size e) (I.ok.cab x c hfn hc)))).trans e1⟩
    · by_cases hj : j = i
      · subst hj
        rw [hi] at e1; cases e1
        rw [List.getElem?_set_self hiσ] at e2
        cases e2
        exact ⟨u, r, .inr ⟨.inl hk, c, hc, hc'⟩⟩
      · rw [List.getElem?_set_ne (Ne.symm hj)] at e2
        obtain ⟨u', r', q⟩ := hl j y v' e1 e2 e3
        refine ⟨u', r', ?_⟩
        rcases q with q | ⟨k, c', e, z'⟩
        · exact .inl q
        · refine .inr ⟨k, c', e, z'.sameBut hs ?_⟩
          rintro rfl
          exact hj (nodup_ix hN e1 (I.ok.inj _ _ _ e hc ▸ hi))
    · by_cases hcc : c' = c
      · subst hcc; exact ⟨_, hc'⟩
      · obtain ⟨w2, z2⟩ := I.cell y c' e
        exact ⟨w2, z2.sameBut hs hcc⟩
    · obtain ⟨e, n, ne, nf, d⟩ := I.pin p hp
      refine ⟨(hs.2 p.1 ?_).trans e, n, ne, nf, d⟩
      intro q
      rw [q, hoc] at e
      have q' : oc = p.2 := Option.some.inj e
      exact d w' (by rw [← q']; exact hocd)
theorem store_ok {M : Model} {A : Around} {E : Value → Shared → Prop} {i : Nat} {x : Str} {v : V} {u : Value} {Q : Unit → Shared → Prop} (I : Inv X pins σ H s) (hN : X.N.Nodup) (hi : X.N[i]? = some x) (hx : Loc X.env.scope x) (r : RelV v u)
    (h : ∀ s', Inv X pins (σ.set i (some v)) H s' → Q () s') (hf : X.fn x = true ∨ X.env.scope.names.lookup x = some .local := by first | exact .inl rfl | exact .inr rfl | assumption) : wpAny M A (storeName X.env x u) Q E s :=
  store_ok2 I hN hi hx r (fun s' I' _ => h s' I') hf
/-- behind a call or a block, the state as it is -/
theorem Inv.call' {s' : Shared} {ch : List Addr} (I : Inv X pins σ H s) (ho : s'.os = s.os) (u : Un (frs X.stack) ch H H' s.heap s'.heap) (hok : HOk X.prog X.w H' s'.heap) (hg : AllBare s'.gens)
    (hch : ∀ b ∈ ch, (b ∈ X.ex ∨ X.s₀.heap.objs.size ≤ b) ∧ b ≠ X.env.locals ∧ (∀ x c, X.env.cells.lookup x = some c → c ≠ b) ∧ ∀ p ∈ X.pn ++ pins, p.1 ≠ b) : Inv X pins σ H' s' := by
  obtain ⟨h', g', d', t', o'⟩ := s'
  have e : o' = s.os := ho
  subst e
  exact I.call (g' := g') (t' := t') (d' := d') u hok hg hch
end

/-! ### the judgements -/
/-- an exception: its class, its own dict's address (where it has one), the abstract heap behind it -/
abbrev XK := Value → Option Addr → Hp → Prop
abbrev St := List (Option V)
abbrev VK := V → Hp → Prop
/-- an expression's reading; a test's; an argument list's -/
abbrev TE := St → Hp → VK → Prop
abbrev TT := St → Hp → (Bool → Hp → Prop) → Prop
abbrev TA := St → Hp → (List V → Hp → Prop) → Prop
/-- what is wanted behind a statement -/
structure Ends where
  nx : St → Hp → Prop
  rt : VK
  bk : St → Hp → Prop := fun _ _ => False
  ct : St → Hp → Prop := fun _ _ => False
abbrev TS := Ends → St → Hp → Prop

def EP (X : Cx) (pins : List (Addr × Obj)) (σ : St) (Q : VK) (u : Value) (s' : Shared) : Prop := ∃ v H', Inv X pins σ H' s' ∧ RelV v u ∧ Q v H'
def TP (X : Cx) (pins : List (Addr × Obj)) (σ : St) (Q : Bool → Hp → Prop) (b : Bool) (s' : Shared) : Prop := ∃ H', Inv X pins σ H' s' ∧ Q b H'
def AP (X : Cx) (pins : List (Addr × Obj)) (σ : St) (Q : List V → Hp → Prop) (us : List Value) (s' : Shared) : Prop := ∃ vs H', Inv X pins σ H' s' ∧ Vals vs us ∧ Q vs H'
def SP (X : Cx) (pins : List (Addr × Obj)) (D : Ends) (f : Flow) (s' : Shared) : Prop :=
  match f with
  | .next => ∃ σ' H', Inv X pins σ' H' s' ∧ D.nx σ' H'
  | .brk => ∃ σ' H', Inv X pins σ' H' s' ∧ D.bk σ' H'
  | .cont => ∃ σ' H', Inv X pins σ' H' s' ∧ D.ct σ' H'
  | .ret u => ∃ v σ' H', Inv X pins σ' H' s' ∧ RelV v u ∧ D.rt v H'

def PE (X : Cx) (e : Expr) (t : TE) : Prop :=
  ∀ (pins : List (Addr × Obj)) (s : Shared) (σ : St) (H : Hp) (Q : VK), Inv X pins σ H s → t σ H Q → wpAny (model X.prog X.w) X.A (eval e X.env) (EP X pins σ Q) X.xe s
def PT (X : Cx) (e : Expr) (t : TT) : Prop :=
  ∀ (pins : List (Addr × Obj)) (s : Shared) (σ : St) (H : Hp) (Q : Bool → Hp → Prop), Inv X pins σ H s → t σ H Q → wpAny (model X.prog X.w) X.A (isTrue e X.env (eval e X.env)) (TP X pins σ Q) X.xe s
/-- a test whatever its 'whole' is (and, or) -/
def PW (X : Cx) (e : Expr) (t : TT) : Prop :=
  ∀ (whole : Sem Value) (pins : List (Addr × Obj)) (s : Shared) (σ : St) (H : Hp) (Q : Bool → Hp → Prop), Inv X pins σ H s → t σ H Q → wpAny (model X.prog X.w) X.A (isTrue e X.env whole) (TP X pins σ Q) X.xe s
theorem PW.pt {X : Cx} {e : Expr} {t : TT} (h : PW X e t) : PT X e t := h _
/-- an argument list (no star), from the left -/
def PA (X : Cx) (es : List Expr) (t : TA) : Prop :=
  ∀ (pos : Pos) (pins : List (Addr × Obj)) (s : Shared) (σ : St) (H : Hp) (Q : List V → Hp → Prop), Inv X pins σ H s → t σ H Q → wpAny (model X.prog X.w) X.A (spliced (backTo pos (starEach es X.env))) (AP X pins σ Q) X.xe s
def PS (X : Cx) (st : Stmt) (t : TS) : Prop :=
  ∀ (pins : List (Addr × Obj)) (s : Shared) (σ : St) (H : Hp) (D : Ends), Inv X pins σ H s → t D σ H → wpAny (model X.prog X.w) X.A (exec st X.env) (SP X pins D) X.xe s
def PSs (X : Cx) (st : List Stmt) (t : TS) : Prop :=
  ∀ (pins : List (Addr × Obj)) (s : Shared) (σ : St) (H : Hp) (D : Ends), Inv X pins σ H s → t D σ H → wpAny (model X.prog X.w) X.A (execs st X.env) (SP X pins D) X.xe s
/-- weaken the end -/
theorem thn {α : Type} {t : Sem α} {Q Q' : α → Shared → Prop} {M : Model} {A : Around} {E : Value → Shared → Prop} {s : Shared} (h : wpAny M A t Q E s) (hQ : ∀ a s, Q a s → Q' a s) : wpAny M A t Q' E s := wpAny_mono h hQ fun _ _ x => x
end L2

namespace L2
open PySem PySem.Spec PyProof.Rows
section
variable {X : Cx}

/-- two expressions in a row -/
theorem bin {a b : Expr} {ta tb : TE} (ha : PE X a ta) (hb : PE X b tb) {pins : List (Addr × Obj)} {s : Shared} {σ : St} {H : Hp} {R : V → V → Hp → Prop} (I : Inv X pins σ H s) (h : ta σ H fun x H1 => tb σ H1 fun y H2 => R x y H2)
    {α : Type} {Q : α → Shared → Prop} {f : Value → Value → Sem α}
    (hf : ∀ v u s2 x y H2, Inv X pins σ H2 s2 → RelV x v → RelV y u → R x y H2 → wpAny (model X.prog X.w) X.A (f v u) Q X.xe s2) :
    wpAny (model X.prog X.w) X.A (eval a X.env) (fun v s₁ => wpAny (model X.prog X.w) X.A (eval b X.env) (fun u s₂ => wpAny (model X.prog X.w) X.A (f v u) Q X.xe s₂) X.xe s₁) X.xe s := by
  refine thn (ha pins s σ H _ I h) fun v s1 ⟨x, H1, I1, r1, q1⟩ => ?_
  refine thn (hb pins s1 σ H1 _ I1 q1) fun u s2 ⟨y, H2, I2, r2, q2⟩ => ?_
  exact hf v u s2 x y H2 I2 r1 r2 q2

/-! ### names and constants -/
def tVar (i : Nat) : TE := fun σ H Q => ∃ v, σ[i]? = some (some v) ∧ Q v H
def tC (v : V) : TE := fun _ H Q => Q v H
theorem pe_var {i : Nat} {x : Str} {pos : Pos} (hN : X.N[i]? = some x) (hv : Vis X.env.scope x) (hd : (x == ("__debug__" : Str)) = false := by decide) (hcd : (x == ("__classdict__" : Str)) = false := by decide) : PE X (.Name x pos) (tVar i) := by
  intro pins s σ H Q I h
  obtain ⟨v, e, h⟩ := h
  obtain ⟨m, hn, hl⟩ := I.loc
  obtain ⟨u, r, l⟩ := hl i x v hN e hv
  have fin : EP X pins σ Q u s := ⟨v, H, I, r, h⟩
  rcases l with ⟨hk, hm⟩ | ⟨hk, c, hc, hcell⟩
  · exact wpAny_Name (wpAny_loadName_local I.ok.kind hk hn hm fin) hd
  · rcases hk with hk | hk
    · exact wpAny_Name (wpAny_loadName_cell I.ok.kind hk hc hcell fin) hd
    · exact wpAny_Name (wpAny_loadName_free I.ok.kind hk hc hcell fin hcd) hd
theorem pe_int {i j pos} : PE X (.Constant (.int i) j pos) (tC (.int i)) := fun _ _ _ H _ I h => wpAny_Constant_int ⟨.int i, H, I.tok _, ⟨_, rfl⟩, h⟩
theorem pe_bl {b j pos} : PE X (.Constant (.bool b) j pos) (tC (.bl b)) := fun _ _ _ H _ I h => Constant_bool ⟨.bl b, H, I, rfl, h⟩
theorem pe_non {j pos} : PE X (.Constant .none j pos) (tC .non) := fun _ _ _ H _ I h => Constant_none ⟨.non, H, I, rfl, h⟩
theorem pe_str {x j pos} : PE X (.Constant (.str x) j pos) (tC (.str x)) := fun _ _ _ H _ I h => Calls.Constant_str ⟨.str x, H, I.tok _, ⟨_, rfl⟩, h⟩

/-- a global name of the def -/
def Gl (X : Cx) (x : Str) : Prop := X.env.kindOf x = some .globalImplicit
theorem ld_glob {E : Value → Shared → Prop} {pins : List (Addr × Obj)} {s : Shared} {σ : St} {H : Hp} {x : Str} {u : Value} {pos : Pos} {Q : Value → Shared → Prop} (I : Inv X pins σ H s) (hg : Gl X x) (hm : X.mg x = some u) (h : Q u s)
    (hd : (x == ("__debug__" : Str)) = false := by decide) : wpAny (model X.prog X.w) X.A (eval (.Name x pos) X.env) Q E s :=
  Calls.Name_function_global I.ok.kind hg (Calls.loadGlobal_global (by rw [I.ok.glob]; exact I.mod.glob.keeps I.bk) hm h) hd
theorem ld_blt {E : Value → Shared → Prop} {pins : List (Addr × Obj)} {s : Shared} {σ : St} {H : Hp} {x : Str} {u : Value} {pos : Pos} {Q : Value → Shared → Prop} (I : Inv X pins σ H s) (hg : Gl X x) (hm : X.mg x = none) (hv : bootBuiltins x = some u) (h : Q u s)
    (hn : x ≠ "__name__" := by decide) (hd : (x == ("__debug__" : Str)) = false := by decide) : wpAny (model X.prog X.w) X.A (eval (.Name x pos) X.env) Q E s := by
  obtain ⟨mb, h1, h2⟩ := I.mod.blt
  exact Calls.Name_function_global I.ok.kind hg (Calls.loadGlobal_builtin (by rw [I.ok.glob]; exact I.mod.glob.keeps I.bk) hm (by rw [I.ok.blt]; exact h1.keeps I.bk) ((h2 x hn).trans hv) h) hd
/-- a module's constant, a class, a function, as a value -/
theorem pe_glob {x : Str} {v : V} {u : Value} {pos : Pos} (hg : Gl X x) (hm : X.mg x = some u) (r : RelV v u) (hd : (x == ("__debug__" : Str)) = false := by decide) : PE X (.Name x pos) (tC v) :=
  fun _ _ _ H _ I h => ld_glob I hg hm ⟨v, H, I, r, h⟩ hd
theorem pe_bltn {x : Str} {v : V} {u : Value} {pos : Pos} (hg : Gl X x) (hm : X.mg x = none) (hv : bootBuiltins x = some u) (r : RelV v u) (hn : x ≠ "__name__" := by decide) (hd : (x == ("__debug__" : Str)) = false := by decide) : PE X (.Name x pos) (tC v) :=
  fun _ _ _ H _ I h => ld_blt I hg hm hv ⟨v, H, I, r, h⟩ hn hd

/-! ### arithmetic -/
variable {a b : Expr} {ta tb : TE} {pos : Pos}
/-! ### comparisons -/
def PC (X : Cx) (op : CmpOp) (a b : Expr) (t : TE) : Prop :=
  ∀ (pins : List (Addr × Obj)) (s : Shared) (σ : St) (H : Hp) (Q : VK), Inv X pins σ H s → t σ H Q →
    wpAny (model X.prog X.w) X.A (eval a X.env) (fun v s₁ => wpAny (model X.prog X.w) X.A (eval b X.env) (fun u s₂ => wpAny (model X.prog X.w) X.A (compareOp op v u) (EP X pins σ Q) X.xe s₂) X.xe s₁) X.xe s
theorem nobehind (b : Expr) {op : CmpOp} (h : op ≠ .In) (h2 : op ≠ .NotIn) : behindInMarks op b = false := by
  have e1 : (op == CmpOp.In) = false := by cases op <;> first | rfl | exact absurd rfl h
  have e2 : (op == CmpOp.NotIn) = false := by cases op <;> first | rfl | exact absurd rfl h2
  cases b <;> simp [behindInMarks, e1, e2]
def tNotN (ta : TE) : TE := fun σ H Q => ta σ H fun x H1 => Q (.bl (!decide (x = .non))) H1
theorem RelV.none_iff {x : V} {v : Value} (r : RelV x v) : (v == Value.none) = decide (x = .non) := by
  cases x with
  | non => cases r; rfl
  | bl _ => cases r; rfl
  | int _ => obtain ⟨t, rfl⟩ := r; rfl
  | str _ => obtain ⟨t, rfl⟩ := r; rfl
  | byt _ => obtain ⟨t, rfl⟩ := r; rfl
  | flt _ => obtain ⟨t, rfl⟩ := r; rfl
  | ref _ => cases r; rfl
  | ty _ => cases r; rfl
theorem pc_notN {j pos'} (ha : PE X a ta) : PC X .IsNot a (.Constant .none j pos') (tNotN ta) := by
  intro pins s σ H Q I h
  refine thn (ha pins s σ H _ I h) fun v s1 ⟨x, H1, I1, r1, q1⟩ => ?_
  exact Constant_none (isnot_none_gen ⟨.bl _, H1, I1, by rw [r1.none_iff]; rfl, q1⟩)
/-- a comparison as a value, as a test -/
def tB (t : TE) : TT := fun σ H Q => t σ H fun x H1 => ∃ c, x = .bl c ∧ Q c H1
theorem pt_cmp {op : CmpOp} {t : TE} (h : PC X op a b t) (h1 : behindInMarks op b = false := by first | exact nobehind _ (by decide) (by decide) | rfl) : PT X (.Compare a [op] [b] pos) (tB t) := by
  intro pins s σ H Q I hw
  refine wpAny_isTrue_Compare1 (thn (h pins s σ H _ I hw) fun v s1 h1 => thn h1 fun u s2 h2 => thn h2 fun c s3 ⟨x, H1, I1, r1, q1⟩ => ?_) h1
  obtain ⟨d, rfl, q⟩ := q1
  cases r1
  exact wpAny_truthy_bool ⟨H1, I1, q⟩
/-- an expression whose value is a bool, as a test -/
theorem pt_val {e : Expr} {t : TE} (h : PE X e t) (he : ∀ whole, isTrue e X.env whole = (do let v ← whole; standAt e.pos; holding [v] (truthy v)) := by intro _; rfl) : PT X e (tB t) := by
  intro pins s σ H Q I hw
  refine isTrue_plain (thn (h pins s σ H _ I hw) fun v s1 ⟨x, H1, I1, r1, q1⟩ => ?_) (he _)
  obtain ⟨d, rfl, q⟩ := q1
  cases r1
  exact wpAny_truthy_bool ⟨H1, I1, q⟩

/-! ### and, or, not -/
variable {tA tB' : TT} {rest : List Expr}
def tOr (t u : TT) : TT := fun σ H Q => t σ H fun c H1 => if c = true then Q true H1 else u σ H1 Q
def tNot (t : TT) : TT := fun σ H Q => t σ H fun c H1 => Q (!c) H1
theorem pw_or1 (ha : PT X a tA) : PW X (.BoolOp .Or [a] pos) tA := by
  intro wh pins s σ H Q I h
  refine isTrue_or (thn (ha pins s σ H Q I h) fun c s1 e => ?_)
  cases c with
  | false => exact isTrue_or_nil e
  | true => exact e
theorem pw_or (ha : PT X a tA) (hb : PW X (.BoolOp .Or (b :: rest) pos) tB') : PW X (.BoolOp .Or (a :: b :: rest) pos) (tOr tA tB') := by
  intro wh pins s σ H Q I h
  refine isTrue_or (thn (ha pins s σ H _ I h) fun c s1 ⟨H1, I1, q1⟩ => ?_)
  cases c with
  | true => exact ⟨H1, I1, q1⟩
  | false => exact hb wh pins s1 σ H1 Q I1 q1
theorem pt_not (ha : PT X a tA) : PT X (.UnaryOp .Not a pos) (tNot tA) := by
  intro pins s σ H Q I h
  exact isTrue_not (ha pins s σ H (fun c H1 => Q (!c) H1) I h)
/-- .. as values (bools) -/
def tAndV (ta tb : TE) : TE := fun σ H Q => ta σ H fun x H1 => ∃ c, x = .bl c ∧ if c = true then tb σ H1 Q else Q (.bl false) H1
def tNotV (ta : TE) : TE := fun σ H Q => ta σ H fun x H1 => ∃ c, x = .bl c ∧ Q (.bl (!c)) H1
theorem pe_one {op} {t : TE} (h : PE X a t) : PE X (.BoolOp op [a] pos) t := fun pins s σ H Q I hw => BoolOp_one (h pins s σ H Q I hw)
theorem pe_and (ha : PE X a ta) (hb : PE X (.BoolOp .And (b :: rest) pos) tb) : PE X (.BoolOp .And (a :: b :: rest) pos) (tAndV ta tb) := by
  intro pins s σ H Q I h
  refine BoolOp_and (thn (ha pins s σ H _ I h) fun v s1 ⟨x, H1, I1, r1, q1⟩ => ?_)
  obtain ⟨c, rfl, q1⟩ := q1
  cases r1
  refine wpAny_truthy_bool ?_
  cases c with
  | true => exact hb pins s1 σ H1 Q I1 q1
  | false => exact ⟨.bl false, H1, I1, rfl, q1⟩
theorem pe_not (ha : PE X a ta) : PE X (.UnaryOp .Not a pos) (tNotV ta) := by
  intro pins s σ H Q I h
  refine UnaryOp_ (thn (ha pins s σ H _ I h) fun v s1 ⟨x, H1, I1, r1, q1⟩ => ?_)
  obtain ⟨c, rfl, q1⟩ := q1
  cases r1
  exact not_of (wpAny_truthy_bool ⟨.bl (!c), H1, I1, rfl, q1⟩)
end
end L2

namespace L2
open PySem PySem.Spec PyProof.Rows

/-! ### a list, a tuple that is read: tracked, frozen, or an object of the module -/
def SqL (K : PySem.W.Frag) (H : Hp) (a : Addr) (xs : List V) : Prop :=
  Rd H a (.lst xs) ∨
    ∃ (o : Obj) (its : Array Value) (n : Nat), K.lookup a = some o ∧ o.cls = .type "list" ∧ o.dict = none ∧ o.data = .seq its n ∧ its.size ≤ sizeLine ∧ Vals xs its.toList
def SqT (K : PySem.W.Frag) (H : Hp) (a : Addr) (xs : List V) : Prop :=
  Rd H a (.tup xs) ∨
    ∃ (o : Obj) (its : Array Value) (n : Nat), K.lookup a = some o ∧ o.cls = .type "tuple" ∧ o.data = .seq its n ∧ its.size ≤ sizeLine ∧ Vals xs its.toList
def absV : Value → Option V
  | .none => some .non
  | .bool b => some (.bl b)
  | .int i _ => some (.int i)
  | .str x _ => some (.str x)
  | .bytes b _ => some (.byt b)
  | .float b _ => some (.flt b)
  | .ref a => some (.ref a)
  | .type n => some (.ty n)
  | _ => none
theorem RelV.abs {x : V} {u : Value} (r : RelV x u) : absV u = some x := by
  cases x with
  | non => cases r; rfl
  | bl _ => cases r; rfl
  | int _ => obtain ⟨t, rfl⟩ := r; rfl
  | str _ => obtain ⟨t, rfl⟩ := r; rfl
  | byt _ => obtain ⟨t, rfl⟩ := r; rfl
  | flt _ => obtain ⟨t, rfl⟩ := r; rfl
  | ref _ => cases r; rfl
  | ty _ => cases r; rfl
theorem RelV.inj {x y : V} {u : Value} (r : RelV x u) (q : RelV y u) : x = y := Option.some.inj (r.abs.symm.trans q.abs)
theorem Vals.inj : ∀ {xs ys : List V} {us : List Value}, Vals xs us → Vals ys us → xs = ys
  | _, _, _, .nil, .nil => rfl
  | _, _, _, .cons r t, .cons r' t' => by rw [r.inj r', Vals.inj t t']
section
variable {X : Cx} {pins : List (Addr × Obj)} {σ : St} {H : Hp} {s : Shared} {a : Addr} {xs ys : List V}
theorem SqL.of {K : PySem.W.Frag} (h : H a = some (.lst xs)) : SqL K H a xs := .inl (.inl h)
theorem SqT.of {K : PySem.W.Frag} (h : H a = some (.tup xs)) : SqT K H a xs := .inl (.inl h)
theorem Inv.list (I : Inv X pins σ H s) (h : SqL X.K H a xs) : ∃ its : List Value, Vals xs its ∧ PlainL s.heap a its.toArray ∧ xs.length ≤ sizeLine := by
  rcases h with h | ⟨o, its, n, hk, hc, hd, hs, hz, r⟩
  · obtain ⟨z, its, n, r, e⟩ := h.ok I.hok
    exact ⟨its, r, ⟨_, n, e, rfl, rfl, rfl⟩, z⟩
  · refine ⟨its.toList, r, ⟨o, n, I.kIn a o hk, hc, hd, by simpa using hs⟩, ?_⟩
    have e := r.length
    simp only [Array.length_toList] at e
    omega
theorem Inv.tuple (I : Inv X pins σ H s) (h : SqT X.K H a xs) : ∃ its : List Value, Vals xs its ∧ IsTup s.heap a its.toArray ∧ xs.length ≤ sizeLine := by
  rcases h with h | ⟨o, its, n, hk, hc, hs, hz, r⟩
  · obtain ⟨z, its, r, p⟩ := h.ok I.hok
    exact ⟨its, r, p, z⟩
  · refine ⟨its.toList, r, ⟨o, I.kIn a o hk, hc, n, by simpa using hs⟩, ?_⟩
    have e := r.length
    simp only [Array.length_toList] at e
    omega
theorem Inv.list_inj (I : Inv X pins σ H s) (h : SqL X.K H a xs) (h' : SqL X.K H a ys) : xs = ys := by
  obtain ⟨its, r, ⟨o, n, e, _, _, d⟩, _⟩ := I.list h
  obtain ⟨its', r', ⟨o', n', e', _, _, d'⟩, _⟩ := I.list h'
  rw [e] at e'; cases e'
  rw [d] at d'
  injection d' with d1 _
  have : its = its' := by simpa using congrArg Array.toList d1
  subst this
  exact r.inj r'
end

/-! ### another wish about exceptions -/
abbrev Cx.wish (X : Cx) (E : Value → Shared → Prop) : Cx := { X with xe := E }
/-- no exception leaves -/
abbrev Cx.nox (X : Cx) : Cx := X.wish fun _ _ => False
theorem Cx.Ok.wish {X : Cx} (ok : X.Ok) (E : Value → Shared → Prop) : (X.wish E).Ok :=
  ⟨ok.mod, ok.kind, ok.glob, ok.blt, ok.above, ok.inj, ok.has, ok.cab, ok.hd, ok.frames, ok.stk, ok.exf, ok.bs, ok.bsz, ok.noex, ok.exfs, ok.funs, ok.frf⟩
theorem Cx.Ok.unwish {X : Cx} {E : Value → Shared → Prop} (ok : (X.wish E).Ok) : X.Ok :=
  ⟨ok.mod, ok.kind, ok.glob, ok.blt, ok.above, ok.inj, ok.has, ok.cab, ok.hd, ok.frames, ok.stk, ok.exf, ok.bs, ok.bsz, ok.noex, ok.exfs, ok.funs, ok.frf⟩
section
variable {X : Cx} {pins : List (Addr × Obj)} {σ : St} {H : Hp} {s : Shared} {E : Value → Shared → Prop}
theorem Inv.wish (I : Inv X pins σ H s) (E : Value → Shared → Prop) : Inv (X.wish E) pins σ H s := ⟨I.ok.wish E, I.os, I.bare, I.base, I.loc, I.cell, I.free, I.freeC, I.pin, I.hok, I.len⟩
theorem Inv.unwish (I : Inv (X.wish E) pins σ H s) : Inv X pins σ H s := ⟨I.ok.unwish, I.os, I.bare, I.base, I.loc, I.cell, I.free, I.freeC, I.pin, I.hok, I.len⟩
theorem SP.unwish {D : Ends} {f : Flow} {s' : Shared} (h : SP (X.wish E) pins D f s') : SP X pins D f s' := by
  cases f with
  | next => obtain ⟨σ', H', I, q⟩ := h; exact ⟨σ', H', I.unwish, q⟩
  | brk => obtain ⟨σ', H', I, q⟩ := h; exact ⟨σ', H', I.unwish, q⟩
  | cont => obtain ⟨σ', H', I, q⟩ := h; exact ⟨σ', H', I.unwish, q⟩
  | ret u => obtain ⟨v, σ', H', I, r, q⟩ := h; exact ⟨v, σ', H', I.unwish, r, q⟩
theorem PSs.nox {st : List Stmt} {t : TS} (h : PSs X.nox st t) : PSs X st t := fun pins s σ H D I hw =>
  wpAny_mono (h pins s σ H D (I.wish _) hw) (fun _ _ q => q.unwish) fun _ _ z => False.elim z
end

/-! ### blocks and small statements -/
section
variable {X : Cx} {st : Stmt} {rest : List Stmt} {t u : TS} {e : Expr} {te : TE} {pos : Pos}
def tNext : TS := fun D σ H => D.nx σ H
def tSeq (t u : TS) : TS := fun D σ H => t { D with nx := u D } σ H
theorem pss_nil : PSs X [] tNext := fun _ _ σ H _ I h => wpAny_execs_nil ⟨σ, H, I, h⟩
theorem pss_cons (h1 : PS X st t) (h2 : PSs X rest u) : PSs X (st :: rest) (tSeq t u) := by
  intro pins s σ H D I h
  refine wpAny_execs_cons (thn (h1 pins s σ H { D with nx := u D } I h) fun f s1 q => ?_)
  cases f with
  | next =>
    obtain ⟨σ', H', I', q⟩ := q
    exact h2 pins s1 σ' H' D I' q
  | ret v => exact q
  | brk => exact q
  | cont => exact q
theorem pss_one (h1 : PS X st t) : PSs X [st] t := by
  intro pins s σ H D I h
  refine wpAny_execs_cons (thn (h1 pins s σ H D I h) fun f s1 q => ?_)
  cases f with
  | next => exact wpAny_execs_nil q
  | ret v => exact q
  | brk => exact q
  | cont => exact q
/-- in a def's body nothing is shown -/
theorem Inv.quiet {pins : List (Addr × Obj)} {σ : St} {H : Hp} {s : Shared} (I : Inv X pins σ H s) : interactive X.env = false := by simp [interactive, I.ok.kind]
/-- an expression whose value is dropped -/
def tDrop (te : TE) : TS := fun D σ H => te σ H fun _ H1 => D.nx σ H1
theorem ps_expr (he : PE X e te) (hs : swapsWith e none pos.line X.env = pure false := by rfl) : PS X (.Expr e pos) (tDrop te) := by
  intro pins s σ H D I h
  exact wpAny_Expr_any (thn (he pins s σ H _ I h) fun v s1 ⟨x, H1, I1, r1, q1⟩ => ⟨σ, H1, I1, q1⟩) I.quiet hs
def tRet (te : TE) : TS := fun D σ H => te σ H D.rt
theorem ps_ret (he : PE X e te) : PS X (.Return (some e) pos) (tRet te) := by
  intro pins s σ H D I h
  exact wpAny_Return_some (thn (he pins s σ H _ I h) fun v s1 ⟨x, H1, I1, r1, q1⟩ => ⟨x, σ, H1, I1, r1, q1⟩)
def tIfS (c : TT) (t u : TS) : TS := fun D σ H => c σ H fun b H1 => if b = true then t D σ H1 else u D σ H1
theorem ps_if {c : Expr} {a b : List Stmt} {tc : TT} (hc : PT X c tc) (ha : PSs X a t) (hb : PSs X b u) : PS X (.If c a b pos) (tIfS tc t u) := by
  intro pins s σ H D I h
  refine wpAny_If (thn (hc pins s σ H _ I h) fun d s1 ⟨H1, I1, q1⟩ => ?_)
  cases d with
  | true => exact ha pins s1 σ H1 D I1 q1
  | false => exact hb pins s1 σ H1 D I1 q1
end

/-! ### targets -/
abbrev TG := V → St → Hp → (St → Hp → Prop) → Prop
abbrev TGs := List V → St → Hp → (St → Hp → Prop) → Prop
def PG (X : Cx) (target : Expr) (t : TG) : Prop :=
  ∀ (pins : List (Addr × Obj)) (s : Shared) (σ : St) (H : Hp) (v : V) (u : Value) (Q : St → Hp → Prop), Inv X pins σ H s → RelV v u → t v σ H Q →
    wpAny (model X.prog X.w) X.A (assign target X.env u) (fun _ s' => ∃ σ' H', Inv X pins σ' H' s' ∧ Q σ' H') X.xe s
/-- several targets, one after another -/
def PGs (X : Cx) (ts : List Expr) (t : TGs) : Prop :=
  ∀ (pins : List (Addr × Obj)) (s : Shared) (σ : St) (H : Hp) (vs : List V) (us : List Value) (Q : St → Hp → Prop), Inv X pins σ H s → Vals vs us → t vs σ H Q →
    wpAny (model X.prog X.w) X.A (assignInOrder ((assignEach ts X.env).map (·.2)) us) (fun _ s' => ∃ σ' H', Inv X pins σ' H' s' ∧ Q σ' H') X.xe s
/-- o[i] = v, by values -/
abbrev TSet := V → V → V → Hp → (Hp → Prop) → Prop
def PSet (X : Cx) (t : TSet) : Prop :=
  ∀ (pins : List (Addr × Obj)) (s : Shared) (σ : St) (H : Hp) (o i v : V) (ov iv u : Value) (Q : Hp → Prop), Inv X pins σ H s → RelV o ov → RelV i iv → RelV v u → t o i v H Q →
    wpAny (model X.prog X.w) X.A (setItem ov iv u) (fun _ s' => ∃ H', Inv X pins σ H' s' ∧ Q H') X.xe s
section
variable {X : Cx} {pos : Pos}
def gName (i : Nat) : TG := fun v σ H Q => Q (σ.set i (some v)) H
theorem pg_name {i : Nat} {x : Str} (hN : X.N.Nodup) (hi : X.N[i]? = some x) (hx : Loc X.env.scope x) (hf : X.fn x = true ∨ X.env.scope.names.lookup x = some .local := by first | exact .inl rfl | exact .inr rfl | assumption) : PG X (.Name x pos) (gName i) := by
  intro pins s σ H v u Q I r h
  exact wpAny_assign_Name (store_ok I hN hi hx r (fun s' I' => ⟨_, H, I', h⟩) hf)
/-- target = value -/
def tAsg (te : TE) (g : TG) : TS := fun D σ H => te σ H fun x H1 => g x σ H1 D.nx
/-- name = value -/
theorem ps_set {i : Nat} {x : Str} {e : Expr} {te : TE} {pos' : Pos} (hN : X.N.Nodup) (hi : X.N[i]? = some x) (hx : Loc X.env.scope x) (he : PE X e te) (hs : swapsWith e (some (.Name x pos')) pos.line X.env = pure false := by rfl) (hf : X.fn x = true ∨ X.env.scope.names.lookup x = some .local := by first | exact .inl rfl | exact .inr rfl | assumption) :
    PS X (.Assign [.Name x pos'] e pos) (tAsg te (gName i)) := by
  intro pins s σ H D I h
  refine wpAny_Assign_Name (thn (he pins s σ H _ I h) fun v s1 ⟨y, H1, I1, r1, q1⟩ => ?_) hs
  exact store_ok I1 hN hi hx r1 (fun s2 I2 => ⟨_, H1, I2, q1⟩) hf
end

/-! ### while -/
section
variable {X : Cx} {pos : Pos}
end

/-! ### what a loop or a comprehension walks -/
/-- at turn i: it yields x (the heap may grow), or it stops -/
structure It where
  go : Nat → Hp → Prop
  yld : Nat → Hp → V → Hp → Prop
  stop : Nat → Hp → Prop
/-- the iterator's own objects may turn: they are not the frame's, not pinned, younger than the entry (or a comprehension's own) -/
def FpOk (X : Cx) (pins : List (Addr × Obj)) (H : Hp) (b : Addr) : Prop :=
  H b = none ∧ b ≠ X.env.locals ∧ b ∉ X.fs ∧ (b ∈ X.ex ∨ X.s₀.heap.objs.size ≤ b) ∧ (∀ x c, X.env.cells.lookup x = some c → c ≠ b) ∧ ∀ p ∈ X.pn ++ pins, p.1 ≠ b
theorem Inv.fpOk {X : Cx} {pins : List (Addr × Obj)} {σ : St} {H H' : Hp} {s : Shared} {b : Addr} (I : Inv X pins σ H s) (hb : s.heap.objs.size ≤ b) (hn : H' b = none) : FpOk X pins H' b := by
  refine ⟨hn, Nat.ne_of_gt (Nat.lt_of_lt_of_le I.lt hb), I.nofs hb, .inr (Nat.le_trans I.sz hb), fun x c e z => ?_, fun p hp z => ?_⟩
  · obtain ⟨v, q⟩ := I.cell x c e
    exact absurd (Nat.lt_of_lt_of_le q.lt (by rw [z]; exact hb)) (Nat.lt_irrefl _)
  · exact absurd (Nat.lt_of_lt_of_le (Heap.lt_size (I.pin p hp).1) (by rw [z]; exact hb)) (Nat.lt_irrefl _)
structure Turn (P : Program) (w : World) (K : PySem.W.Frag) (tg : Expr) (J : It) (fp : List Addr) (it : Addr) (tn : Nat → Heap → Prop) : Prop where
  mem : it ∈ fp
  obj : ∀ i h, tn i h → ∀ b ∈ fp, ∃ o, h.get? b = some o ∧ ∀ v, o.data ≠ .cell v
  keep : ∀ i h h', tn i h → (∀ b ∈ fp, ∀ o, h.get? b = some o → h'.get? b = some o) → tn i h'
  item : ∀ (X : Cx), X.prog = P → X.w = w → X.K = K → X.calm = true → ∀ (i : Nat) (pins : List (Addr × Obj)) (s : Shared) (σ : St) (H : Hp) (E : Value → Shared → Prop), Inv X pins σ H s → (∀ b ∈ fp, FpOk X pins H b) → tn i s.heap → J.go i H →
    wpAny (model P w) X.A (pyNext (.ref it)) (fun r s1 => ∃ u, r = some u ∧
      wpAny (model P w) X.A (letOwnedTupleGo tg (.ref it) u) (fun _ s2 => ∃ x H', Inv X pins σ H' s2 ∧ RelV x u ∧ J.yld i H x H' ∧ tn (i + 1) s2.heap ∧ ∀ b ∈ fp, H' b = none) E s1) E s
  done : ∀ (X : Cx), X.prog = P → X.w = w → X.K = K → X.calm = true → ∀ (i : Nat) (pins : List (Addr × Obj)) (s : Shared) (σ : St) (H : Hp) (E : Value → Shared → Prop), Inv X pins σ H s → (∀ b ∈ fp, FpOk X pins H b) → tn i s.heap → J.stop i H →
    wpAny (model P w) X.A (pyNext (.ref it)) (fun r s1 => r = none ∧ Inv X pins σ H s1) E s
  self : ∀ (A : Around) (i : Nat) (s : Shared) (Q : Value → Shared → Prop) (E : Value → Shared → Prop), tn i s.heap → Q (.ref it) s → wpAny (model P w) A (pyIter (.ref it)) Q E s
abbrev TI := St → Hp → (It → Hp → Prop) → Prop
/-- an iterator has come -/
def PIE (X : Cx) (pins : List (Addr × Obj)) (σ : St) (tg : Expr) (R : It → Hp → Prop) (itv : Value) (s2 : Shared) : Prop :=
  ∃ (it : Addr) (fp : List Addr) (tn : Nat → Heap → Prop) (J : It) (H' : Hp), itv = .ref it ∧ Inv X pins σ H' s2 ∧ Turn X.prog X.w X.K tg J fp it tn ∧ tn 0 s2.heap ∧ (∀ b ∈ fp, FpOk X pins H' b) ∧ R J H'
def PI (X : Cx) (tg iter : Expr) (wi : TI) : Prop :=
  ∀ (pins : List (Addr × Obj)) (s : Shared) (σ : St) (H : Hp) (R : It → Hp → Prop), Inv X pins σ H s → wi σ H R →
    wpAny (model X.prog X.w) X.A (eval iter X.env) (fun v s1 => wpAny (model X.prog X.w) X.A (pyIter v) (PIE X pins σ tg R) X.xe s1) X.xe s

/-- the step ahead of the store is nothing for an iterator that keeps no tuple -/
theorem go_of {M : Model} {A : Around} {E : Value → Shared → Prop} {s : Shared} {tg : Expr} {it : Addr} {u : Value} {o : Obj} {n : String} {vs : Array Value} {Q : Unit → Shared → Prop} (ho : s.heap.get? it = some o) (hc : o.cls = .type n) (hd : o.data = .fields vs)
    (hn : ["enumerate", "zip", "dict_itemiterator", "dict_reverseitemiterator", "odict_iterator", "itertools.zip_longest", "itertools.pairwise"].contains n = false) (hQ : Q () s) : wpAny M A (letOwnedTupleGo tg (.ref it) u) Q E s := by
  unfold letOwnedTupleGo
  cases tg <;> first
    | exact wpAny_pure hQ
    | (cases u <;> first
        | exact wpAny_pure hQ
        | (refine wpAny_bind (wpAny_load ho ?_)
           rw [hc, hd]
           show wpAny M A (if (["enumerate", "zip", "dict_itemiterator", "dict_reverseitemiterator", "odict_iterator", "itertools.zip_longest", "itertools.pairwise"].contains n && vs[0]? == some (rawInt _)) = true then _ else _) Q E s
           rw [if_neg (by intro h; rw [hn, Bool.false_and] at h; cases h)]
           exact wpAny_pure hQ))

/-- the list at a, as it stands at each turn (a loop may append to it) -/
def Itl (K : PySem.W.Frag) (a : Addr) : It :=
  ⟨fun i H => ∃ xs x, SqL K H a xs ∧ xs[i]? = some x, fun i H x H' => H' = H ∧ ∀ xs, SqL K H a xs → xs[i]? = some x, fun i H => ∃ xs, SqL K H a xs ∧ xs.length ≤ i⟩
/-- lo, lo + 1, .. (n of them) -/
def Itr (lo : Int) (n : Nat) : It := ⟨fun i _ => i < n, fun i H x H' => H' = H ∧ x = .int (lo + i), fun i _ => n ≤ i⟩
theorem turn_list {P : Program} {w : World} {K : PySem.W.Frag} {tg : Expr} (a it : Addr) : Turn P w K tg (Itl K a) [it] it (fun i h => h.IsListIter it a i) where
  mem := by simp
  obj := fun i h st b hb => by
    have e : b = it := by simpa using hb
    subst e
    obtain ⟨o, e, c, d⟩ := st
    exact ⟨o, e, fun v z => by rw [d] at z; cases z⟩
  keep := fun i h h' st k => st.at fun o e => k it (by simp) o e
  item := by
    intro X hP hw hK hc i pins s σ H E I hf st hg
    subst hP hw hK
    obtain ⟨xs, x, hq, hx⟩ := hg
    obtain ⟨its, rv, p, hz⟩ := I.list hq
    obtain ⟨u, hu, ru⟩ := rv.get hx
    obtain ⟨f0, f1, f2, f3, f4, f5⟩ := hf it (by simp)
    refine wpAny_pyNext_list_item st p.isList (x := u) (by simpa using hu) fun h' st' sb => ?_
    have I1 : Inv X pins σ H { s with heap := h' } := I.turned (t' := s.toks) (fun b o hb e => (sb.2 b hb).trans e) f0 f1 f3 f4 f5
    obtain ⟨o, e, c, d⟩ := id st'
    exact ⟨u, rfl, go_of (s := { s with heap := h' }) e c d (by decide) ⟨x, H, I1, ru, ⟨rfl, fun ys hy => by rw [I.list_inj hy hq]; exact hx⟩, st', fun b hb => (hf b hb).1⟩⟩
  done := by
    intro X hP hw hK hc i pins s σ H E I hf st hg
    subst hP hw hK
    obtain ⟨xs, hq, hx⟩ := hg
    obtain ⟨its, rv, p, hz⟩ := I.list hq
    obtain ⟨f0, f1, f2, f3, f4, f5⟩ := hf it (by simp)
    have hl := rv.length
    exact wpAny_pyNext_list_end (I.ok.hd hc) st p.isList (by simp; omega) fun h' eb => ⟨rfl, I.turned (t' := s.toks) (fun b o hb e => eb b o hb e) f0 f1 f3 f4 f5⟩
  self := fun _ _ _ _ _ st h => wpAny_pyIter_listiter st h
theorem turn_range {P : Program} {w : World} {K : PySem.W.Frag} {tg : Expr} (it : Addr) (lo : Int) (n : Nat) : Turn P w K tg (Itr lo n) [it] it (fun i h => IsRangeIter h it (lo + (i : Nat) * 1) ((n : Int) - (i : Nat)) 1) where
  mem := by simp
  obj := fun i h st b hb => by
    have e : b = it := by simpa using hb
    subst e
    exact ⟨_, st, fun v z => by
      have z' : Data.fields _ = Data.cell v := z
      cases z'⟩
  keep := fun i h h' st k => k it (by simp) _ st
  item := by
    intro X hP hw hK hc i pins s σ H E I hf st hg
    subst hP hw hK
    obtain ⟨f0, f1, f2, f3, f4, f5⟩ := hf it (by simp)
    have W := Walks.range (prog := X.prog) (w := X.w) (I.ok.hd hc) it lo 1 n
    refine W.item i s _ _ hg st fun v h' tk hv st' kk => ?_
    obtain ⟨t, rfl⟩ := hv
    have I1 : Inv X pins σ H { s with heap := h', toks := tk } := I.turned (fun b o hb e => kk b o (by simpa using hb) e) f0 f1 f3 f4 f5
    refine ⟨_, rfl, go_of (s := { s with heap := h', toks := tk }) (n := "range_iterator") st' rfl rfl (by decide) ⟨.int (lo + i), H, I1, ⟨t, ?_⟩, ⟨rfl, rfl⟩, st', fun b hb => (hf b hb).1⟩⟩
    rw [Int.mul_one]
  done := by
    intro X hP hw hK hc i pins s σ H E I hf st hg
    subst hP hw hK
    obtain ⟨f0, f1, f2, f3, f4, f5⟩ := hf it (by simp)
    exact wpAny_pyNext_range_end (I.ok.hd hc) st (by have : n ≤ i := hg; omega) fun h' eb => ⟨rfl, I.turned (t' := s.toks) (fun b o hb e => eb b o hb e) f0 f1 f3 f4 f5⟩
  self := fun _ _ _ _ _ st h => wpAny_pyIter_rangeiter st h
end L2

namespace L2
open PySem PySem.Spec PyProof.Rows
section
variable {X : Cx} {tg : Expr}
def iList (K : PySem.W.Frag) (tl : TE) : TI := fun σ H R => tl σ H fun x H1 => ∃ a, x = .ref a ∧ (∃ xs, SqL K H1 a xs) ∧ R (Itl K a) H1
theorem pi_list {l : Expr} {tl : TE} (hl : PE X l tl) : PI X tg l (iList X.K tl) := by
  intro pins s σ H R I h
  refine thn (hl pins s σ H _ I h) fun v s1 ⟨x, H1, I1, r1, q1⟩ => ?_
  obtain ⟨a, e, ⟨xs, hq⟩, q⟩ := q1
  subst e
  cases r1
  obtain ⟨its, rv, p, hz⟩ := I1.list hq
  refine wpAny_pyIter_list p.isList ?_
  refine ⟨s1.heap.objs.size, [s1.heap.objs.size], _, _, H1, rfl, I1.kept (t' := s1.toks) fun b o e => Heap.get?_push_of_some _ e, turn_list a _, ⟨_, Heap.get?_push_size _ rfl, rfl, rfl⟩, fun b hb => ?_, q⟩
  have e : b = s1.heap.objs.size := by simpa using hb
  subst e
  exact I1.fpOk (Nat.le_refl _) (I1.hok.fresh (Nat.le_refl _))
/-- a range object just made, walked -/
theorem range_it {pins : List (Addr × Obj)} {σ : St} {H : Hp} {s : Shared} {R : It → Hp → Prop} {E : Value → Shared → Prop} {lo hi : Int} {t u v : Tok} {tk : Nat} (I : Inv X pins σ H s) (h1 : -(2 ^ 62) ≤ lo) (h2 : lo < 2 ^ 62) (h3 : -(2 ^ 62) ≤ hi) (h4 : hi < 2 ^ 62)
    (q : R (Itr lo (hi - lo).toNat) H) : wpAny (model X.prog X.w) X.A (pyIter (.ref s.heap.objs.size)) (PIE X pins σ tg R) E { s with heap := s.heap.push { cls := .type "range", data := .fields #[.int lo t, .int hi u, .int 1 v] }, toks := tk } := by
  refine wpAny_pyIter_range (IsRange.new ..) (small_one h1 h2 h3 h4) ?_
  have I1 : Inv X pins σ H { s with heap := s.heap.push { cls := .type "range", data := .fields #[.int lo t, .int hi u, .int 1 v] }, toks := tk } := I.kept fun b o e => Heap.get?_push_of_some _ e
  refine ⟨(s.heap.push { cls := .type "range", data := .fields #[.int lo t, .int hi u, .int 1 v] }).objs.size, [(s.heap.push { cls := .type "range", data := .fields #[.int lo t, .int hi u, .int 1 v] }).objs.size], _, _, H, rfl,
    I1.kept (t' := tk) fun b o e => Heap.get?_push_of_some _ e, turn_range _ lo (hi - lo).toNat, ?_, fun b hb => ?_, q⟩
  · have e1 : lo + ((0 : Nat) : Int) * 1 = lo := by simp
    have e2 : (((hi - lo).toNat : Nat) : Int) - ((0 : Nat) : Int) = Builtin.Range.rangeSize lo hi 1 := by rw [rangeSize_one]; split <;> omega
    show IsRangeIter _ _ (lo + ((0 : Nat) : Int) * 1) ((((hi - lo).toNat : Nat) : Int) - ((0 : Nat) : Int)) 1
    rw [e1, e2]
    exact Heap.get?_push_size _ rfl
  · have e : b = (s.heap.push { cls := .type "range", data := .fields #[.int lo t, .int hi u, .int 1 v] }).objs.size := by simpa using hb
    subst e
    exact I1.fpOk (Nat.le_refl _) (I1.hok.fresh (Nat.le_refl _))
def iRng1 (ta : TA) : TI := fun σ H R => ta σ H fun vs H1 => ∃ j : Int, vs = [.int j] ∧ -(2 ^ 62) ≤ j ∧ j < 2 ^ 62 ∧ R (Itr 0 j.toNat) H1
theorem pi_range1 {a : Expr} {ta : TA} {p pos : Pos} (hg : Gl X "range") (hm : X.mg "range" = none) (ha : PA X [a] ta) (hs : starEach [a] X.env = [(false, eval a X.env)] := by rfl) : PI X tg (.Call (.Name "range" p) [a] [] pos) (iRng1 ta) := by
  intro pins s σ H R I h
  refine Call_ (ld_blt I hg hm boot_range (PyProof.Rows.callWith_type1 (thn (ha pos pins s σ H _ I h) fun us s1 ⟨vs, H1, I1, r1, q1⟩ => ?_) hs rfl))
  obtain ⟨j, e, q1, q2, q⟩ := q1
  subst e
  cases r1 with
  | cons r rr =>
    cases rr
    obtain ⟨t, rfl⟩ := r
    exact call_range_1 (range_it I1 (by omega) (by omega) q1 q2 (by simpa using q))
/-! ### for -/
/-- W: the invariant by the turn and a measure; N: what the body is to reach -/
def tFor (wi : TI) (g : TG) (tb : TS) : TS := fun D σ H => wi σ H fun J H1 => ∃ W : Nat → Nat → St → Hp → Prop, (∃ m, W 0 m σ H1) ∧ ∀ i m σ H, W i m σ H →
  (J.stop i H ∧ D.nx σ H) ∨ (J.go i H ∧ ∃ N : St → Hp → Prop, (∀ σ' H', N σ' H' → ∃ m', m' < m ∧ W (i + 1) m' σ' H') ∧ ∀ x H', J.yld i H x H' → g x σ H' fun σ2 H2 => tb { D with nx := N, ct := N, bk := D.nx } σ2 H2)
/-- the records at fp as they stand -/
def pinsAt (fp : List Addr) (h : Heap) : List (Addr × Obj) := fp.filterMap fun b => (h.get? b).map fun o => (b, o)
theorem mem_pinsAt {fp : List Addr} {h : Heap} {b : Addr} {o : Obj} (hb : b ∈ fp) (e : h.get? b = some o) : (b, o) ∈ pinsAt fp h := List.mem_filterMap.mpr ⟨b, hb, by rw [e]; rfl⟩
theorem of_pinsAt {fp : List Addr} {h : Heap} {p : Addr × Obj} (hp : p ∈ pinsAt fp h) : p.1 ∈ fp ∧ h.get? p.1 = some p.2 := by
  obtain ⟨b, hb, e⟩ := List.mem_filterMap.mp hp
  cases q : h.get? b with
  | none => rw [q] at e; cases e
  | some o =>
    rw [q] at e
    have e' : (b, o) = p := Option.some.inj e
    subst e'
    exact ⟨hb, q⟩
theorem Inv.pinned {pins : List (Addr × Obj)} {σ : St} {H : Hp} {s : Shared} {fp : List Addr} (I : Inv X pins σ H s) (hf : ∀ b ∈ fp, FpOk X pins H b) (ho : ∀ b ∈ fp, ∃ o, s.heap.get? b = some o ∧ ∀ v, o.data ≠ .cell v) : Inv X (pins ++ pinsAt fp s.heap) σ H s :=
  I.pins_of fun p hp => (List.mem_append.mp hp).elim (fun z => I.pin p (List.mem_append_right _ z)) fun z => by
    obtain ⟨hb, e⟩ := of_pinsAt z
    obtain ⟨f0, f1, f2, _⟩ := hf p.1 hb
    obtain ⟨o, e', d⟩ := ho p.1 hb
    rw [e] at e'; cases e'
    exact ⟨e, f0, f1, f2, d⟩
theorem Inv.unpinned {pins pl : List (Addr × Obj)} {σ : St} {H : Hp} {s : Shared} (I : Inv X (pins ++ pl) σ H s) : Inv X pins σ H s := I.pins_of fun p hp => I.pin p (List.mem_append_right _ (List.mem_append_left _ hp))
theorem ps_for {iter : Expr} {body : List Stmt} {wi : TI} {g : TG} {tb : TS} {pos : Pos} (hp : PassesOwn (model X.prog X.w) X.A X.env X.xe) (hc : X.calm = true) (hi : PI X tg iter wi) (hg : PG X tg g) (hb : PSs X body tb)
    (hs : ∀ x, foldedSetIterable iter X.env x = pure x := by intro _; rfl) : PS X (.For tg iter body [] pos) (tFor wi g tb) := by
  intro pins s σ H D I h
  refine wpAny_For (thn (hi pins s σ H _ I h) fun v s1 h1 => thn h1 fun itv s2 h2 => ?_) hs
  obtain ⟨it, fp, tn, J, H2, e, I2, T, st2, f2, W, ⟨m0, w0⟩, turn⟩ := h2
  subst e
  -- what stays true of the iterator's objects through the loop
  have stat : ∀ {H' : Hp}, (∀ b ∈ fp, H' b = none) → ∀ b ∈ fp, FpOk X pins H' b := fun hn b hb => ⟨hn b hb, (f2 b hb).2⟩
  refine codeAny_forLoop_any (fun n s' => ∃ i σ' H', Inv X pins σ' H' s' ∧ tn i s'.heap ∧ (∀ b ∈ fp, H' b = none) ∧ W i n σ' H') ?_ m0 ⟨0, σ, H2, I2, st2, fun b hb => (f2 b hb).1, w0⟩
  rintro n s3 ⟨i, σ3, H3, I3, st3, fr3, w3⟩
  rcases turn i n σ3 H3 w3 with ⟨stop, qn⟩ | ⟨go, N, hN, step⟩
  · refine wpAny_passesOwn hp (thn (T.done X rfl rfl rfl hc i pins s3 σ3 H3 X.xe I3 (stat fr3) st3 stop) fun r s4 ⟨hr, I4⟩ => ?_)
    subst hr
    exact wpAny_execs_nil ⟨σ3, H3, I4, qn⟩
  · refine wpAny_passesOwn hp (thn (T.item X rfl rfl rfl hc i pins s3 σ3 H3 X.xe I3 (stat fr3) st3 go) fun r s4 ⟨u, hr, h4⟩ => ?_)
    subst hr
    refine wpAny_passesOwn hp (thn h4 fun _ s5 ⟨x, H5, I5, r5, y5, st5, fr5⟩ => ?_)
    have I5' := I5.pinned (stat fr5) (T.obj _ _ st5)
    refine wpAny_passesOwn hp (thn (hg _ s5 σ3 H5 x u _ I5' r5 (step x H5 y5)) fun _ s6 ⟨σ6, H6, I6, q6⟩ => ?_)
    refine wpAny_passesOwn hp (thn (hb _ s6 σ6 H6 _ I6 q6) fun f s7 q7 => ?_)
    have again : ∀ {σ7 : St} {H7 : Hp}, Inv X (pins ++ pinsAt fp s5.heap) σ7 H7 s7 → N σ7 H7 → ∃ m, m < n ∧ ∃ i σ' H', Inv X pins σ' H' s7 ∧ tn i s7.heap ∧ (∀ b ∈ fp, H' b = none) ∧ W i m σ' H' := fun {σ7 H7} I7 n7 => by
      obtain ⟨m', hm, w7⟩ := hN σ7 H7 n7
      refine ⟨m', hm, i + 1, σ7, H7, I7.unpinned, T.keep _ _ _ st5 fun b hb o e => (I7.pin (b, o) (List.mem_append_right _ (List.mem_append_right _ (mem_pinsAt hb e)))).1, fun b hb => ?_, w7⟩
      obtain ⟨o, e, d⟩ := T.obj _ _ st5 b hb
      exact (I7.pin (b, o) (List.mem_append_right _ (List.mem_append_right _ (mem_pinsAt hb e)))).2.1
    cases f with
    | next => obtain ⟨σ7, H7, I7, n7⟩ := q7; exact again I7 n7
    | cont => obtain ⟨σ7, H7, I7, n7⟩ := q7; exact again I7 n7
    | brk => obtain ⟨σ7, H7, I7, q7⟩ := q7; exact ⟨σ7, H7, I7.unpinned, q7⟩
    | ret v => obtain ⟨x7, σ7, H7, I7, r7, q7⟩ := q7; exact ⟨x7, σ7, H7, I7.unpinned, r7, q7⟩
end

/-! ### the forms one uses -/
/-- over a list that the body leaves as it is -/
theorem for_list {K : PySem.W.Frag} {a : Addr} {xs : List V} {g : TG} {tb : TS} {D : Ends} {σ : St} {H : Hp} (Pv : Nat → St → Hp → Prop) (h0 : Pv 0 σ H) (hl : ∀ i σ H, i ≤ xs.length → Pv i σ H → SqL K H a xs)
    (hs : ∀ i x σ H, xs[i]? = some x → Pv i σ H → g x σ H fun σ2 H2 => tb { D with nx := Pv (i + 1), ct := Pv (i + 1), bk := D.nx } σ2 H2) (hd : ∀ σ H, Pv xs.length σ H → D.nx σ H) :
    ∃ W : Nat → Nat → St → Hp → Prop, (∃ m, W 0 m σ H) ∧ ∀ i m σ H, W i m σ H →
      ((Itl K a).stop i H ∧ D.nx σ H) ∨ ((Itl K a).go i H ∧ ∃ N : St → Hp → Prop, (∀ σ' H', N σ' H' → ∃ m', m' < m ∧ W (i + 1) m' σ' H') ∧ ∀ x H', (Itl K a).yld i H x H' → g x σ H' fun σ2 H2 => tb { D with nx := N, ct := N, bk := D.nx } σ2 H2) := by
  refine ⟨fun i m σ H => m = xs.length - i ∧ i ≤ xs.length ∧ Pv i σ H, ⟨xs.length, by simp, Nat.zero_le _, h0⟩, ?_⟩
  rintro i m σ H ⟨rfl, hi, p⟩
  have q := hl i σ H hi p
  by_cases hlt : i < xs.length
  · refine .inr ⟨⟨xs, xs[i], q, by simp [hlt]⟩, Pv (i + 1), fun σ' H' p' => ⟨xs.length - (i + 1), by omega, rfl, hlt, p'⟩, fun x H' y => ?_⟩
    obtain ⟨e, y⟩ := y
    subst e
    exact hs i x σ _ (y xs q) p
  · have e : i = xs.length := by omega
    subst e
    exact .inl ⟨⟨xs, q, Nat.le_refl _⟩, hd σ H p⟩
theorem for_range {lo : Int} {n : Nat} {g : TG} {tb : TS} {D : Ends} {σ : St} {H : Hp} (Pv : Nat → St → Hp → Prop) (h0 : Pv 0 σ H)
    (hs : ∀ i σ H, i < n → Pv i σ H → g (.int (lo + i)) σ H fun σ2 H2 => tb { D with nx := Pv (i + 1), ct := Pv (i + 1), bk := D.nx } σ2 H2) (hd : ∀ σ H, Pv n σ H → D.nx σ H) :
    ∃ W : Nat → Nat → St → Hp → Prop, (∃ m, W 0 m σ H) ∧ ∀ i m σ H, W i m σ H →
      ((Itr lo n).stop i H ∧ D.nx σ H) ∨ ((Itr lo n).go i H ∧ ∃ N : St → Hp → Prop, (∀ σ' H', N σ' H' → ∃ m', m' < m ∧ W (i + 1) m' σ' H') ∧ ∀ x H', (Itr lo n).yld i H x H' → g x σ H' fun σ2 H2 => tb { D with nx := N, ct := N, bk := D.nx } σ2 H2) := by
  refine ⟨fun i m σ H => m = n - i ∧ i ≤ n ∧ Pv i σ H, ⟨n, by simp, Nat.zero_le _, h0⟩, ?_⟩
  rintro i m σ H ⟨rfl, hi, p⟩
  by_cases hlt : i < n
  · refine .inr ⟨hlt, Pv (i + 1), fun σ' H' p' => ⟨n - (i + 1), by omega, rfl, hlt, p'⟩, fun x H' y => ?_⟩
    obtain ⟨e, y⟩ := y
    subst e y
    exact hs i σ _ hlt p
  · have e : i = n := by omega
    subst e
    exact .inl ⟨Nat.le_refl _, hd σ H p⟩
end L2

namespace L2
open PySem PySem.Spec PyProof.Rows

abbrev R2 := V → V → Hp → VK → Prop
/-- a two-place operation on values: f is binaryOp op, inplaceOp op or compareOp op -/
def OpR (X : Cx) (f : Value → Value → Sem Value) (r : R2) : Prop :=
  ∀ (pins : List (Addr × Obj)) (s : Shared) (σ : St) (H : Hp) (x y : V) (v u : Value) (Q : VK), Inv X pins σ H s → RelV x v → RelV y u → r x y H Q →
    wpAny (model X.prog X.w) X.A (f v u) (EP X pins σ Q) X.xe s
/-- a one-place operation -/
def UnR (X : Cx) (f : Value → Sem Value) (r : V → Hp → VK → Prop) : Prop :=
  ∀ (pins : List (Addr × Obj)) (s : Shared) (σ : St) (H : Hp) (x : V) (v : Value) (Q : VK), Inv X pins σ H s → RelV x v → r x H Q →
    wpAny (model X.prog X.w) X.A (f v) (EP X pins σ Q) X.xe s
/-- a call of a value that is known (a builtin, a type) with values -/
def CallR (X : Cx) (f : Value) (r : List V → Hp → VK → Prop) : Prop :=
  ∀ (pins : List (Addr × Obj)) (s : Shared) (σ : St) (H : Hp) (xs : List V) (us : List Value) (Q : VK), Inv X pins σ H s → Vals xs us → r xs H Q →
    wpAny (model X.prog X.w) X.A (call f us) (EP X pins σ Q) X.xe s
def tOp (r : R2) (ta tb : TE) : TE := fun σ H Q => ta σ H fun x H1 => tb σ H1 fun y H2 => r x y H2 Q
def tUn (r : V → Hp → VK → Prop) (ta : TE) : TE := fun σ H Q => ta σ H fun x H1 => r x H1 Q
/-- ints in, under C, and a value out -/
def rI (C : Int → Int → Prop) (g : Int → Int → V) : R2 := fun x y H Q => ∃ i j, x = .int i ∧ y = .int j ∧ C i j ∧ Q (g i j) H
def rI0 (g : Int → Int → V) : R2 := fun x y H Q => ∃ i j, x = .int i ∧ y = .int j ∧ Q (g i j) H
def rU (g : Int → V) : V → Hp → VK → Prop := fun x H Q => ∃ i, x = .int i ∧ Q (g i) H

section
variable {X : Cx} {a b c : Expr} {ta tb tc : TE} {pos : Pos}

theorem binT (ha : PE X a ta) (hb : PE X b tb) {pins : List (Addr × Obj)} {s : Shared} {σ : St} {H : Hp} {R : V → V → Hp → Prop} (I : Inv X pins σ H s)
    (h : ta σ H fun x H1 => tb σ H1 fun y H2 => R x y H2) {Q : Value → Shared → Prop} {f : Value → Value → Sem Value}
    (hf : ∀ v u s2 x y H2, Inv X pins σ H2 s2 → RelV x v → RelV y u → R x y H2 → wpAny (model X.prog X.w) X.A (f v u) Q X.xe s2) :
    wpAny (model X.prog X.w) X.A (eval a X.env) (fun v s₁ => wpAny (model X.prog X.w) X.A (eval b X.env) (fun u s₂ => wpAny (model X.prog X.w) X.A (f v u) Q X.xe s₂) X.xe s₁) X.xe s := by
  refine thn (ha pins s σ H _ I h) fun v s1 ⟨x, H1, I1, r1, q1⟩ => ?_
  refine thn (hb pins s1 σ H1 _ I1 q1) fun u s2 ⟨y, H2, I2, r2, q2⟩ => ?_
  exact hf v u s2 x y H2 I2 r1 r2 q2

theorem pe_op {op : Operator} {r : R2} (ho : OpR X (binaryOp op) r) (ha : PE X a ta) (hb : PE X b tb) : PE X (.BinOp a op b pos) (tOp r ta tb) := by
  intro pins s σ H Q I h
  exact wpAny_BinOp (binT ha hb I h fun v u s2 x y H2 I2 rx ry q => ho pins s2 σ H2 x y v u Q I2 rx ry q)
theorem pe_un {op : UnaryOp} {r : V → Hp → VK → Prop} (ho : UnR X (unaryOp op) r) (ha : PE X a ta) : PE X (.UnaryOp op a pos) (tUn r ta) := by
  intro pins s σ H Q I h
  exact UnaryOp_ (thn (ha pins s σ H _ I h) fun v s1 ⟨x, H1, I1, r1, q1⟩ => ho pins s1 σ H1 x v Q I1 r1 q1)
/-! ### ints -/
theorem opI {f : Value → Value → Sem Value} {C : Int → Int → Prop} {g : Int → Int → Int}
    (rule : ∀ (i j : Int) (t u : Tok) (s : Shared) (Q : Value → Shared → Prop) (E : Value → Shared → Prop), C i j → Q (.int (g i j) s.toks) { s with toks := s.toks + 1 } → wpAny (model X.prog X.w) X.A (f (.int i t) (.int j u)) Q E s) :
    OpR X f (rI C fun i j => .int (g i j)) := by
  intro pins s σ H x y v u Q I rx ry h
  obtain ⟨i, j, rfl, rfl, hc, q⟩ := h
  obtain ⟨t, rfl⟩ := rx
  obtain ⟨t', rfl⟩ := ry
  exact rule i j t t' s _ _ hc ⟨.int (g i j), H, I.tok _, ⟨_, rfl⟩, q⟩
theorem opI0 {f : Value → Value → Sem Value} {g : Int → Int → Int}
    (rule : ∀ (i j : Int) (t u : Tok) (s : Shared) (Q : Value → Shared → Prop) (E : Value → Shared → Prop), Q (.int (g i j) s.toks) { s with toks := s.toks + 1 } → wpAny (model X.prog X.w) X.A (f (.int i t) (.int j u)) Q E s) :
    OpR X f (rI0 fun i j => .int (g i j)) := by
  intro pins s σ H x y v u Q I rx ry h
  obtain ⟨i, j, rfl, rfl, q⟩ := h
  obtain ⟨t, rfl⟩ := rx
  obtain ⟨t', rfl⟩ := ry
  exact rule i j t t' s _ _ ⟨.int (g i j), H, I.tok _, ⟨_, rfl⟩, q⟩
theorem opB0 {f : Value → Value → Sem Value} {g : Int → Int → Bool}
    (rule : ∀ (i j : Int) (t u : Tok) (s : Shared) (Q : Value → Shared → Prop) (E : Value → Shared → Prop), Q (.bool (g i j)) s → wpAny (model X.prog X.w) X.A (f (.int i t) (.int j u)) Q E s) :
    OpR X f (rI0 fun i j => .bl (g i j)) := by
  intro pins s σ H x y v u Q I rx ry h
  obtain ⟨i, j, rfl, rfl, q⟩ := h
  obtain ⟨t, rfl⟩ := rx
  obtain ⟨t', rfl⟩ := ry
  exact rule i j t t' s _ _ ⟨.bl (g i j), H, I, rfl, q⟩

def CDiv (i j : Int) : Prop := 0 < j ∧ j < 1073741824
def CPow (i j : Int) : Prop := 0 ≤ j ∧ j ≤ 1000000 ∧ i.natAbs < 2 ^ 64
def CMul (i j : Int) : Prop := (-(2 ^ 64) < i ∧ i < 2 ^ 64) ∨ (-(2 ^ 64) < j ∧ j < 2 ^ 64)
theorem CMul.ok {i j : Int} (h : CMul i j) : IntMulOk i j := by
  rcases h with ⟨h1, h2⟩ | ⟨h1, h2⟩
  · exact .of_left (intBits_le_64 h1 h2)
  · exact .of_right (intBits_le_64 h1 h2)
theorem op_add : OpR X (binaryOp .Add) (rI0 fun i j => .int (i + j)) := opI0 fun _ _ _ _ _ _ _ q => add_int q
theorem op_sub : OpR X (binaryOp .Sub) (rI0 fun i j => .int (i - j)) := opI0 fun _ _ _ _ _ _ _ q => sub_int q
theorem op_mul : OpR X (binaryOp .Mult) (rI CMul fun i j => .int (i * j)) := opI fun _ _ _ _ _ _ _ hc q => mul_int q hc.ok
/-- // by a positive divisor -/
theorem op_fdiv : OpR X (binaryOp .FloorDiv) (rI CDiv fun i j => .int (i / j)) := opI fun i j _ _ _ _ _ hc q => by
  have h1 : (0 : Int) < j := hc.1
  have h2 : j < 1073741824 := hc.2
  exact floordiv_int (by omega) (by rw [Int.fdiv_eq_ediv_of_nonneg i (by omega)]; exact q) (.inl (PyProof.noPylong_small (by omega)))
/-- % by a positive divisor of any size -/
theorem op_mod : OpR X (binaryOp .Mod) (rI (fun _ j => 0 < j) fun i j => .int (i % j)) := opI fun i j _ _ _ _ _ hc q => by
  have h1 : (0 : Int) < j := hc
  exact mod_int' (by omega) (by rw [Int.fmod_eq_emod_of_nonneg i (by omega)]; exact q)
theorem op_pow : OpR X (binaryOp .Pow) (rI CPow fun i j => .int (i ^ j.toNat)) := opI fun _ _ _ _ _ _ _ hc q => pow_int_small hc.1 hc.2.1 hc.2.2 q
theorem unI {f : Value → Sem Value} {g : Int → Int}
    (rule : ∀ (i : Int) (t : Tok) (s : Shared) (Q : Value → Shared → Prop) (E : Value → Shared → Prop), Q (.int (g i) s.toks) { s with toks := s.toks + 1 } → wpAny (model X.prog X.w) X.A (f (.int i t)) Q E s) :
    UnR X f (rU fun i => .int (g i)) := by
  intro pins s σ H x v Q I rx h
  obtain ⟨i, rfl, q⟩ := h
  obtain ⟨t, rfl⟩ := rx
  exact rule i t s _ _ ⟨.int (g i), H, I.tok _, ⟨_, rfl⟩, q⟩
theorem un_neg : UnR X (unaryOp .USub) (rU fun i => .int (-i)) := unI fun _ _ _ _ _ q => neg_int q
/-! ### bools among ints: n += (a < b) -/
end

/-! ### comparisons -/
/-- the scalars that == tells apart as data does -/
def scal : V → V → Bool
  | .non, .non => true | .non, .int _ => true | .int _, .non => true | .non, .bl _ => true | .bl _, .non => true | .non, .str _ => true | .str _, .non => true
  | .int _, .int _ => true | .bl _, .bl _ => true | .str _, .str _ => true | .byt _, .byt _ => true
  | .int _, .str _ => true | .str _, .int _ => true | .bl _, .str _ => true | .str _, .bl _ => true
  | _, _ => false
def rEq : R2 := fun x y H Q => scal x y = true ∧ Q (.bl (decide (x = y))) H
def rNe : R2 := fun x y H Q => scal x y = true ∧ Q (.bl (!decide (x = y))) H

theorem dec_int {i j : Int} : decide (V.int i = V.int j) = (i == j) := by
  rw [Bool.eq_iff_iff]
  simp
theorem dec_bl {i j : Bool} : decide (V.bl i = V.bl j) = (i == j) := by
  rw [Bool.eq_iff_iff]
  simp
theorem dec_str {i j : Str} : decide (V.str i = V.str j) = (i == j) := by
  rw [Bool.eq_iff_iff]
  simp
theorem dec_byt {i j : Array UInt8} : decide (V.byt i = V.byt j) = (i.toList == j.toList) := by
  rw [Bool.eq_iff_iff]
  cases i
  cases j
  simp

section
variable {X : Cx} {a b c : Expr} {ta tb tc : TE} {pos : Pos}
theorem fin_bl {pins : List (Addr × Obj)} {σ : St} {H : Hp} {s : Shared} {Q : VK} {k k' : Bool} (I : Inv X pins σ H s) (q : Q (.bl k) H) (e : k = k') : EP X pins σ Q (.bool k') s := by
  subst e
  exact ⟨.bl k, H, I, rfl, q⟩
theorem op_eq : OpR X (compareOp .Eq) rEq := by
  intro pins s σ H x y v u Q I rx ry h
  obtain ⟨hs, q⟩ := h
  cases x with
  | non =>
    cases rx
    cases y with
    | non => cases ry; exact PySem.EqNone.eq_none_none (fin_bl I q (by simp))
    | bl j => cases ry; exact PySem.EqNone.eq_none_bool (fin_bl I q (by simp))
    | int j => obtain ⟨t', rfl⟩ := ry; exact PySem.EqNone.eq_none_int (fin_bl I q (by simp))
    | str j => obtain ⟨t', rfl⟩ := ry; exact PySem.EqNone.eq_none_str (fin_bl I q (by simp))
    | _ => exact absurd (show false = true from hs) Bool.false_ne_true
  | bl i =>
    cases rx
    cases y with
    | non => cases ry; exact PySem.EqNone.eq_bool_none (fin_bl I q (by simp))
    | bl j => cases ry; exact eq_bool (fin_bl I q dec_bl)
    | str j => obtain ⟨t', rfl⟩ := ry; exact PySem.EqMixed.eq_bool_str (fin_bl I q (by simp))
    | _ => exact absurd (show false = true from hs) Bool.false_ne_true
  | int i =>
    obtain ⟨t, rfl⟩ := rx
    cases y with
    | non => cases ry; exact PySem.EqNone.eq_int_none (fin_bl I q (by simp))
    | int j => obtain ⟨t', rfl⟩ := ry; exact eq_int (fin_bl I q dec_int)
    | str j => obtain ⟨t', rfl⟩ := ry; exact PySem.EqMixed.eq_int_str (fin_bl I q (by simp))
    | _ => exact absurd (show false = true from hs) Bool.false_ne_true
  | str i =>
    obtain ⟨t, rfl⟩ := rx
    cases y with
    | non => cases ry; exact PySem.EqNone.eq_str_none (fin_bl I q (by simp))
    | bl j => cases ry; exact PySem.EqMixed.eq_str_bool (fin_bl I q (by simp))
    | int j => obtain ⟨t', rfl⟩ := ry; exact PySem.EqMixed.eq_str_int (fin_bl I q (by simp))
    | str j => obtain ⟨t', rfl⟩ := ry; exact eq_str (fin_bl I q dec_str)
    | _ => exact absurd (show false = true from hs) Bool.false_ne_true
  | byt i =>
    obtain ⟨t, rfl⟩ := rx
    cases y with
    | byt j => obtain ⟨t', rfl⟩ := ry; exact PySem.W.eq_bytes (fin_bl I q dec_byt)
    | _ => exact absurd (show false = true from hs) Bool.false_ne_true
  | _ => cases y <;> exact absurd (show false = true from hs) Bool.false_ne_true
theorem op_ne : OpR X (compareOp .NotEq) rNe := by
  intro pins s σ H x y v u Q I rx ry h
  obtain ⟨hs, q⟩ := h
  cases x with
  | non =>
    cases rx
    cases y with
    | non => cases ry; exact PySem.EqNone.ne_none_none (fin_bl I q (by simp))
    | bl j => cases ry; exact PySem.EqNone.ne_none_bool (fin_bl I q (by simp))
    | int j => obtain ⟨t', rfl⟩ := ry; exact PySem.EqNone.ne_none_int (fin_bl I q (by simp))
    | str j => obtain ⟨t', rfl⟩ := ry; exact PySem.EqNone.ne_none_str (fin_bl I q (by simp))
    | _ => exact absurd (show false = true from hs) Bool.false_ne_true
  | bl i =>
    cases rx
    cases y with
    | non => cases ry; exact PySem.EqNone.ne_bool_none (fin_bl I q (by simp))
    | bl j => cases ry; exact ne_bool (fin_bl I q (congrArg not dec_bl))
    | str j => obtain ⟨t', rfl⟩ := ry; exact PySem.EqMixed.ne_bool_str (fin_bl I q (by simp))
    | _ => exact absurd (show false = true from hs) Bool.false_ne_true
  | int i =>
    obtain ⟨t, rfl⟩ := rx
    cases y with
    | non => cases ry; exact PySem.EqNone.ne_int_none (fin_bl I q (by simp))
    | int j => obtain ⟨t', rfl⟩ := ry; exact ne_int (fin_bl I q (congrArg not dec_int))
    | str j => obtain ⟨t', rfl⟩ := ry; exact PySem.EqMixed.ne_int_str (fin_bl I q (by simp))
    | _ => exact absurd (show false = true from hs) Bool.false_ne_true
  | str i =>
    obtain ⟨t, rfl⟩ := rx
    cases y with
    | non => cases ry; exact PySem.EqNone.ne_str_none (fin_bl I q (by simp))
    | bl j => cases ry; exact PySem.EqMixed.ne_str_bool (fin_bl I q (by simp))
    | int j => obtain ⟨t', rfl⟩ := ry; exact PySem.EqMixed.ne_str_int (fin_bl I q (by simp))
    | str j => obtain ⟨t', rfl⟩ := ry; exact ne_str (fin_bl I q (congrArg not dec_str))
    | _ => exact absurd (show false = true from hs) Bool.false_ne_true
  | byt i =>
    obtain ⟨t, rfl⟩ := rx
    cases y with
    | byt j => obtain ⟨t', rfl⟩ := ry; exact PySem.W.ne_bytes (fin_bl I q (congrArg not dec_byt))
    | _ => exact absurd (show false = true from hs) Bool.false_ne_true
  | _ => cases y <;> exact absurd (show false = true from hs) Bool.false_ne_true

theorem op_lt : OpR X (compareOp .Lt) (rI0 fun i j => .bl (decide (i < j))) := opB0 fun _ _ _ _ _ _ _ q => lt_int q
theorem op_gt : OpR X (compareOp .Gt) (rI0 fun i j => .bl (decide (j < i))) := opB0 fun _ _ _ _ _ _ _ q => gt_int q
theorem op_ge : OpR X (compareOp .GtE) (rI0 fun i j => .bl (decide (j ≤ i))) := opB0 fun _ _ _ _ _ _ _ q => ge_int q
theorem nomark (b : Expr) {op : CmpOp} (h : op ≠ .In := by decide) (h2 : op ≠ .NotIn := by decide) : behindInMarks op b = false := by
  have e1 : (op == CmpOp.In) = false := by cases op <;> first | rfl | exact absurd rfl h
  have e2 : (op == CmpOp.NotIn) = false := by cases op <;> first | rfl | exact absurd rfl h2
  cases b <;> simp [behindInMarks, e1, e2]
/-- a comparison as a value; hm: nomark b, or (for in, not in) by with_unfolding_all rfl -/
theorem pe_cmpR {op : CmpOp} {r : R2} (ho : OpR X (compareOp op) r) (ha : PE X a ta) (hb : PE X b tb) (hm : behindInMarks op b = false) : PE X (.Compare a [op] [b] pos) (tOp r ta tb) := by
  intro pins s σ H Q I h
  exact wpAny_Compare1 (binT ha hb I h fun v u s2 x y H2 I2 rx ry q => ho pins s2 σ H2 x y v u Q I2 rx ry q) hm
/-- a reading of a value as a test -/
def tTest (t : TE) : TT := fun σ H Q => t σ H fun x H' => ∃ k, x = .bl k ∧ Q k H'
theorem pt_cmpR {op : CmpOp} {r : R2} (ho : OpR X (compareOp op) r) (ha : PE X a ta) (hb : PE X b tb) (hm : behindInMarks op b = false) : PT X (.Compare a [op] [b] pos) (tTest (tOp r ta tb)) := by
  intro pins s σ H Q I h
  refine wpAny_isTrue_Compare1 (thn (ha pins s σ H _ I h) fun v s1 ⟨x, H1, I1, r1, q1⟩ => thn (hb pins s1 σ H1 _ I1 q1) fun u s2 ⟨y, H2, I2, r2, q2⟩ =>
    thn (ho pins s2 σ H2 x y v u _ I2 r1 r2 q2) fun c s3 ⟨z, H3, I3, r3, k, e, q3⟩ => ?_) hm
  subst e
  cases r3
  exact wpAny_truthy_bool ⟨H3, I3, q3⟩
/-! ### truth -/
theorem line63 : (sizeLine : Nat) < 2 ^ 63 := by rw [sizeLine_eq]; decide
/-! ### strs and bytes -/
theorem op_add_str : OpR X (binaryOp .Add) (fun x y H Q => ∃ i j, x = .str i ∧ y = .str j ∧ i.length + j.length ≤ sizeLine ∧ Q (.str (i ++ j)) H) := by
  intro pins s σ H x y v u Q I rx ry h
  obtain ⟨i, j, rfl, rfl, hz, q⟩ := h
  obtain ⟨t, rfl⟩ := rx
  obtain ⟨t', rfl⟩ := ry
  exact add_str (fun t' tk => ⟨.str (i ++ j), H, I.tok _, ⟨_, rfl⟩, q⟩) hz
/-! ### scalar builtins, by CallR -/
theorem vals1 {x : V} {us : List Value} (r : Vals [x] us) : ∃ u, us = [u] ∧ RelV x u := by
  cases r with
  | cons r1 r2 => cases r2; exact ⟨_, rfl, r1⟩
theorem vals2 {x y : V} {us : List Value} (r : Vals [x, y] us) : ∃ u w', us = [u, w'] ∧ RelV x u ∧ RelV y w' := by
  cases r with
  | cons r1 r2 =>
    cases r2 with
    | cons r3 r4 => cases r4; exact ⟨_, _, rfl, r1, r3⟩
end
end L2

namespace L2
open PySem PySem.Spec PyProof.Rows

/-! ### an instance, its attributes a map -/
structure ObjM (h : Heap) (x dx C : Addr) (mA : Str → Option Value) : Prop where
  obj : h.get? x = some (PySem.W.instObj C dx)
  ns : h.Ns1 dx mA
  ne : dx ≠ x

theorem lookIn_ns {h : Heap} {dx : Addr} {mA : Str → Option Value} (n : h.Ns1 dx mA) : ∃ od, h.get? dx = some od ∧ ∀ name, PySem.W.lookIn name od = some (mA name) := by
  obtain ⟨o, es, ep, ho, hd, hk, _, hm⟩ := n
  refine ⟨o, ho, fun name => ?_⟩
  have e := hm name
  unfold nsFind findBy at e
  rw [← Array.find?_toList] at e
  unfold PySem.W.lookIn
  rw [hd]
  dsimp only
  split
  · rename_i y q
    rw [q] at e
    exact congrArg some e
  · rename_i q
    rw [q] at e
    have a : es.toList.any (·.refKey) = false := by
      rw [List.any_eq_false]
      intro y hy
      obtain ⟨z, t, hkey⟩ := hk y (Array.mem_toList_iff.mp hy)
      simp [DictEntry.refKey, hkey]
    have a' : ¬ es.toList.any (·.refKey) = true := by rw [a]; exact Bool.false_ne_true
    rw [if_neg a']
    exact congrArg some e

theorem ObjM.look {h : Heap} {x dx C : Addr} {mA : Str → Option Value} (I : ObjM h x dx C mA) : ∃ od, PySem.W.InstAt h x (PySem.W.instObj C dx) C (some od) ∧ ∀ name, PySem.W.lookIn name od = some (mA name) :=
  let ⟨od, ho, hl⟩ := lookIn_ns I.ns
  ⟨od, ⟨I.obj, rfl, rfl, ho⟩, hl⟩

section
variable {prog : Program} {w : World} {A : Around} {E : Value → Shared → Prop} {s : Shared} {K : PySem.W.Frag} {x dx C f : Addr} {mA : Str → Option Value} {name : Str} {v : Value}

end

/-! ### the attributes as a list of pairs -/
theorem RelO.some_of {v : V} {o : Option Value} (r : RelO (some v) o) : ∃ u, o = some u ∧ RelV v u := by
  cases o with
  | none => exact (show False from r).elim
  | some u => exact ⟨u, rfl, r⟩
section
variable {P : Program} {w : World} {H H' : Hp} {h h' : Heap} {a C dx : Addr} {fs fs' : List (Str × V)}
theorem ins_get (hok : HOk P w H h) (e : H a = some (.ins C dx fs)) : ∃ mA, ObjM h a dx C mA ∧ (∀ f, RelO (fs.lookup f) (mA f)) ∧ PySem.Within mA (fs.map (·.1)) ∧ fs.length ≤ 1000 ∧ H dx = some (.own a) := by
  obtain ⟨d, z, ne, ob, mA, n, r, q⟩ := (show ObjOk P w H h a (.ins C dx fs) from hok a _ e)
  exact ⟨mA, ⟨ob, n, ne⟩, r, q, z, d⟩
end

/-! ### what of the text a class must have -/
structure Cls (K : PySem.W.Frag) (C : Addr) : Prop where
  pg : PySem.W.plainGet K C Str.empty = true
  hd : PySem.W.hasDictIn K C = true
  po : PySem.W.plainOver K C = true
  sa : PySem.W.findIn K (.ref C) "__setattr__" = some (some (.builtin "object.__setattr__"))
theorem Cls.get {K : PySem.W.Frag} {C : Addr} (c : Cls K C) (f : Str) : PySem.W.plainGet K C f = true := c.pg
section
variable {X : Cx} {pins : List (Addr × Obj)} {σ : St} {H : Hp} {s : Shared} {a C dx : Addr} {fs : List (Str × V)} {f : Str} {v : V} {A : Around} {E : Value → Shared → Prop}

end

/-! ### readings and rules -/
section
variable {X : Cx} {o e value : Expr} {f : Str} {pos pos' tpos : Pos} {ta tv : TE}
end

/-! ### isinstance -/
section
variable {X : Cx} {pins : List (Addr × Obj)} {σ : St} {H : Hp} {s : Shared} {A : Around} {E : Value → Shared → Prop} {Q : Value → Shared → Prop} {c : Value} {b : Bool}
/-- the type of a value, as the fragment's deciders take it; for an instance its class -/
inductive TyOf (K : PySem.W.Frag) (H : Hp) : V → Value → Prop where
  | non : TyOf K H .non (.type "NoneType")
  | bl (x : Bool) : TyOf K H (.bl x) (.type "bool")
  | int (i : Int) : TyOf K H (.int i) (.type "int")
  | str (x : Str) : TyOf K H (.str x) (.type "str")
  | flt (x : UInt64) : TyOf K H (.flt x) (.type "float")
  | lst {a : Addr} {xs : List V} (e : H a = some (.lst xs)) : TyOf K H (.ref a) (.type "list")
  | frz {a : Addr} {o : Obj} {xs : List V} (e : H a = some (.frz o (.lst xs))) : TyOf K H (.ref a) (.type "list")
  | tup {a : Addr} {xs : List V} (e : H a = some (.tup xs)) : TyOf K H (.ref a) (.type "tuple")
  | dK {a : Addr} {kvs : List (Key × V)} (e : H a = some (.dK kvs)) : TyOf K H (.ref a) (.type "dict")
  | dT {a : Addr} {kvs : List (List Key × V)} (e : H a = some (.dT kvs)) : TyOf K H (.ref a) (.type "dict")
  | ins {a C dx : Addr} {fs : List (Str × V)} (e : H a = some (.ins C dx fs)) (cl : Cls K C) (ha : PySem.W.findIn K (.ref C) "__class__" = some (some (.builtin "object.__class__")))
      (hn : PySem.W.specialIn K (.builtin "object.__class__") "__get__" = some (some (.builtin "getset_descriptor.__get__"))) (htk : PySem.W.takesIn K (.builtin "object.__class__") = some true)
      (hm : PySem.W.mroIn K C (.type "object") = some true) : TyOf K H (.ref a) (.ref C)
/-- isinstance(x, c) for one class c, a built-in or an own one: kitOne's answer -/
theorem isinst_ok {x : V} {u t : Value} (I : Inv X pins σ H s) (rx : RelV x u) (ty : TyOf X.K H x t) (e : PySem.W.kitOne X.K t c = some b) (h : ∀ tk, Q (.bool b) { s with toks := tk }) :
    wpAny (model X.prog X.w) A (call (.builtin "isinstance") [u, c]) Q E s := by
  cases ty with
  | non => cases (show u = Value.none from rx); exact PySem.W.kia_one PySem.W.kitx_none I.kIn True.intro e (fun z => nomatch z) h
  | bl y => cases (show u = Value.bool y from rx); exact PySem.W.kia_one PySem.W.kitx_bool I.kIn True.intro e (fun z => nomatch z) h
  | int i => obtain ⟨t, q⟩ := (show ∃ t, u = Value.int i t from rx); cases q; exact PySem.W.kia_one PySem.W.kitx_int I.kIn True.intro e (fun z => nomatch z) h
  | str y => obtain ⟨t, q⟩ := (show ∃ t, u = Value.str y t from rx); cases q; exact PySem.W.kia_one PySem.W.kitx_str I.kIn True.intro e (fun z => nomatch z) h
  | flt y => obtain ⟨t, q⟩ := (show ∃ t, u = Value.float y t from rx); cases q; exact PySem.W.kia_one PySem.W.kitx_float I.kIn True.intro e (fun z => nomatch z) h
  | @lst a xs ea =>
    cases (show u = Value.ref a from rx)
    obtain ⟨_, _, n, _, h1⟩ := (show ObjOk X.prog X.w H s.heap a (.lst xs) from I.hok a _ ea)
    exact PySem.W.kia_one PySem.W.kitx_list I.kIn ⟨_, h1, rfl⟩ e (fun z => nomatch z) h
  | @frz a ob xs ea =>
    cases (show u = Value.ref a from rx)
    obtain ⟨_, _, _, n, _, h1⟩ := (show ObjOk X.prog X.w H s.heap a (.frz ob (.lst xs)) from I.hok a _ ea)
    exact PySem.W.kia_one PySem.W.kitx_list I.kIn ⟨_, h1, rfl⟩ e (fun z => nomatch z) h
  | @tup a xs ea =>
    cases (show u = Value.ref a from rx)
    obtain ⟨_, _, _, p⟩ := (show ObjOk X.prog X.w H s.heap a (.tup xs) from I.hok a _ ea)
    obtain ⟨o, h1, h2, _⟩ := p
    exact PySem.W.kia_one PySem.W.kitx_tuple I.kIn ⟨o, h1, h2⟩ e (fun z => nomatch z) h
  | @dK a kvs ea =>
    cases (show u = Value.ref a from rx)
    obtain ⟨_, _, vs, _, p⟩ := (show ObjOk X.prog X.w H s.heap a (.dK kvs) from I.hok a _ ea)
    obtain ⟨o, es, ep, h1, h2, _⟩ := p
    exact PySem.W.kia_one PySem.W.kitx_dict I.kIn ⟨o, h1, h2.1⟩ e (fun z => nomatch z) h
  | @dT a kvs ea =>
    cases (show u = Value.ref a from rx)
    obtain ⟨_, _, xs, _, o, es, ep, h1, h2, _⟩ := (show ObjOk X.prog X.w H s.heap a (.dT kvs) from I.hok a _ ea)
    exact PySem.W.kia_one PySem.W.kitx_dict I.kIn ⟨o, h1, h2.1⟩ e (fun z => nomatch z) h
  | @ins a C dx fs ea cl ha hn htk hm =>
    cases (show u = Value.ref a from rx)
    obtain ⟨mA, O, _⟩ := ins_get I.hok ea
    obtain ⟨od, J, _⟩ := O.look
    exact PySem.W.kia_one (PySem.W.kitx_own (cl.get _) cl.hd ha hn htk hm) I.kIn J e (fun z => nomatch z) h
end
end L2

namespace L2
open PySem PySem.Spec PyProof.Rows

/-! ### room -/
structure Room (k : Nat) (A : Around) : Prop where
  hd : A.handled = none
  dp : A.depth + 3 * k + 5 < recursionLimit
  un : A.units + 16 * k + 200 < cLine
theorem Room.mono {j k : Nat} {A : Around} (r : Room k A) (h : j ≤ k) : Room j A := ⟨r.hd, by have := r.dp; omega, by have := r.un; omega⟩
theorem Room.deeper {k : Nat} {A : Around} (r : Room (k + 1) A) (env : Env) : Room k (A.deeper env) :=
  ⟨r.hd, by have := r.dp; show A.depth + 1 + 3 * k + 5 < _; omega, by have := r.un; show A.units + 3 + 16 * k + 200 < _; omega⟩
theorem Room.depth {k : Nat} {A : Around} (r : Room k A) : A.depth < recursionLimit := by have := r.dp; omega
theorem Room.units {k : Nat} {A : Around} (r : Room k A) : A.units + 64 < cLine := by have := r.un; omega
/-! ### argument lists and displays -/
def tNil : TA := fun _ H Q => Q [] H
def tCons (ta : TE) (tr : TA) : TA := fun σ H Q => ta σ H fun x H1 => tr σ H1 fun xs H2 => Q (x :: xs) H2
section
variable {X : Cx} {e : Expr} {es : List Expr} {te : TE} {t : TA} {pos : Pos}
theorem pa_nil : PA X [] tNil := fun _ _ _ _ H Q I h => Calls.spliced_nil ⟨[], H, I, .nil, h⟩
theorem pa_cons (ha : PE X e te) (hr : PA X es t) (hs : starEach (e :: es) X.env = (false, eval e X.env) :: starEach es X.env := by rfl) : PA X (e :: es) (tCons te t) := by
  intro pos pins s σ H Q I h
  rw [hs]
  show wpAny _ _ (spliced ((false, eval e X.env) :: backTo pos (starEach es X.env))) _ _ s
  refine Calls.spliced_cons (thn (ha pins s σ H _ I h) fun u s1 ⟨x, H1, I1, r1, q1⟩ => ?_)
  exact thn (hr pos pins s1 σ H1 _ I1 q1) fun us s2 ⟨xs, H2, I2, r2, q2⟩ => ⟨x :: xs, H2, I2, .cons r1 r2, q2⟩

/-- a tuple, a list of written items -/
def tTup (t : TA) : TE := fun σ H Q => t σ H fun xs H1 => xs.length ≤ sizeLine ∧ ∀ p, H1 p = none → Q (.ref p) (upd H1 p (.tup xs))
def tLst (t : TA) : TE := fun σ H Q => t σ H fun xs H1 => xs.length ≤ sizeLine ∧ ∀ p, H1 p = none → Q (.ref p) (upd H1 p (.lst xs))
theorem pe_tup {x1} (h : PA X es t) : PE X (.Tuple es x1 pos) (tTup t) := by
  intro pins s σ H Q I hq
  refine wpAny_Tuple_spliced (thn (h pos pins s σ H _ I hq) fun us s1 ⟨xs, H1, I1, r, z, q⟩ => ⟨by rw [← r.length]; exact z, ?_⟩)
  have hf : H1 s1.heap.objs.size = none := I1.hok.fresh (Nat.le_refl _)
  refine ⟨.ref s1.heap.objs.size, upd H1 s1.heap.objs.size (.tup xs), I1.laid (t' := s1.toks) (fun b u e => Heap.get?_push_of_some _ e) (Nat.le_refl _) ?_, rfl, q _ hf⟩
  exact ⟨z, us, r, ⟨_, Heap.get?_push_size _ rfl, rfl, _, rfl⟩⟩
theorem pe_lst (h : PA X es t) : PE X (.List es pos) (tLst t) := by
  intro pins s σ H Q I hq
  refine wpAny_List_spliced (thn (h pos pins s σ H _ I hq) fun us s1 ⟨xs, H1, I1, r, z, q⟩ => ⟨by rw [← r.length]; exact z, ?_⟩)
  have hf : H1 s1.heap.objs.size = none := I1.hok.fresh (Nat.le_refl _)
  refine ⟨.ref s1.heap.objs.size, upd H1 s1.heap.objs.size (.lst xs), I1.laid (t' := s1.toks) (fun b u e => Heap.get?_push_of_some _ e) (Nat.le_refl _) ?_, rfl, q _ hf⟩
  exact ⟨z, us, 0, r, Heap.get?_push_size _ rfl⟩
end

/-! ### what a def promises -/
/-- a def's promise: the bound arguments in the parameters' order, the heap, the wanted end, the wanted exception -/
abbrev Sp := List V → Hp → VK → XK → Prop
/-- how an exception lies behind a call (file 08 gives it): the callers' frames, abstract heap and state ahead of the call, the wish, the exception, the state -/
abbrev CXT := List Env → Hp → Shared → XK → Value → Shared → Prop

/-- the state at a call -/
structure Env0 (P : Program) (w : World) (K : PySem.W.Frag) (mg : Str → Option Value) (base : Heap) (A : Around) (outer : List Env) (s : Shared) (H : Hp) : Prop where
  frames : A.frames = some outer
  mod : Mod K mg base
  bs : ∀ b o, base.get? b = some o → s.heap.get? b = some o ∧ H b = none
  bsz : base.objs.size ≤ s.heap.objs.size
  funs : s.heap.FunFrames base outer
  frf : ∀ b ∈ frs outer, H b = none
  hok : HOk P w H s.heap
  bare : AllBare s.gens
/-- a call's end -/
def CE (outer : List Env) (P : Program) (w : World) (H : Hp) (s : Shared) (Q : VK) (u : Value) (s' : Shared) : Prop :=
  ∃ v H', s'.os = s.os ∧ AllBare s'.gens ∧ Un (frs outer) [] H H' s.heap s'.heap ∧ HOk P w H' s'.heap ∧ RelV v u ∧ Q v H'
def CR (CX : CXT) (outer : List Env) (P : Program) (w : World) (H : Hp) (s : Shared) (Q : VK) (E : XK) (r : Result) (s' : Shared) : Prop :=
  match r with
  | .ok (.ret u) => CE outer P w H s Q u s'
  | .ok _ => False
  | .error e => CX outer H s E e s'
structure FnOk (P : Program) (w : World) (K : PySem.W.Frag) (mg : Str → Option Value) (base : Heap) (CX : CXT) (k : Nat) (f : Addr) (fd : FuncData) (ps : List Str) (sp : Sp) : Prop where
  len : ∀ vs H Q E, sp vs H Q E → vs.length = ps.length
  run : ∀ (A : Around) (outer : List Env) (s : Shared) (H : Hp) (args : Args) (us : List Value) (vs : List V) (Q : VK) (E : XK), Room k A → Env0 P w K mg base A outer s H → BindsTo s fd args (ps.zip us) → Vals vs us → sp vs H Q E →
    codeAny (model P w) A (.call (.ref f) args) (CR CX outer P w H s Q E) s
/-- a weaker promise -/
theorem FnOk.imp {P : Program} {w : World} {K : PySem.W.Frag} {mg : Str → Option Value} {base : Heap} {CX : CXT} {k : Nat} {f : Addr} {fd : FuncData} {ps : List Str} {sp sp' : Sp} (F : FnOk P w K mg base CX k f fd ps sp)
    (h : ∀ vs H Q E, sp' vs H Q E → sp vs H Q E) : FnOk P w K mg base CX k f fd ps sp' :=
  ⟨fun vs H Q E q => F.len vs H Q E (h _ _ _ _ q), fun A outer s H args us vs Q E hr he hb hv hs => F.run A outer s H args us vs Q E hr he hb hv (h _ _ _ _ hs)⟩

section
variable {X : Cx} {pins : List (Addr × Obj)} {σ : St} {H : Hp} {s s' : Shared}
/-- from a body: what a callee wants -/
theorem Inv.env0 (I : Inv X pins σ H s) : Env0 X.prog X.w X.K X.mg X.base X.A X.stack s H :=
  ⟨I.ok.frames, I.ok.mod, I.bs, Nat.le_trans I.ok.bsz I.sz, I.stack, I.stkFree, I.hok, I.bare⟩
/-- behind a call -/
theorem Inv.after {Q : VK} {u : Value} (I : Inv X pins σ H s) (h : CE X.stack X.prog X.w H s Q u s') : EP X pins σ Q u s' := by
  obtain ⟨v, H', os, bare, un, hok, r, q⟩ := h
  obtain ⟨hh, g, d, t, os'⟩ := s'
  obtain rfl : os' = s.os := os
  exact ⟨v, H', I.call (h' := hh) (g' := g) (d' := d) (t' := t) (ch := []) un hok bare (fun b z => absurd z (by simp)), r, q⟩
end

/-! ### calls -/
/-- f(..): the written arguments, then the defaults dvs; E: what is wanted of an exception -/
def tCall (sp : Sp) (dvs : List V) (E : XK) (t : TA) : TE := fun σ H Q => t σ H fun vs H1 => sp (vs ++ dvs) H1 Q E
/-- how the parameters are bound: us the positional arguments, kw the keywords' values by name, ds the defaults that fill up -/
def Binds (K : PySem.W.Frag) (fd : FuncData) (ps : List Str) (ds : List Value) : Prop :=
  ∀ (s : Shared) (us : List Value), K.In s.heap → (us ++ ds).length = ps.length → BindsTo s fd ⟨us, []⟩ (ps.zip (us ++ ds))
/-- every parameter is given -/
theorem Binds.all {K : PySem.W.Frag} {fd : FuncData} {ps : List Str} (h : ∀ us : List Value, us.length = ps.length → bindArgs fd ⟨us, []⟩ = pure (ps.zip us)) : Binds K fd ps [] := fun s us _ hl => by
  rw [List.append_nil] at hl ⊢
  exact .of_eq (h us hl)

/-- an exception of a callee reaches what this body wants of exceptions -/
def Passes (CX : CXT) (X : Cx) (E : XK) : Prop := ∀ (pins : List (Addr × Obj)) (σ : St) (H : Hp) (s : Shared) (e : Value) (s' : Shared), Inv X pins σ H s → CX X.stack H s E e s' → X.xe e s'

section
variable {X : Cx} {CX : CXT} {k : Nat} {f C : Addr} {fd : FuncData} {ps : List Str} {sp : Sp} {dvs : List V} {ds : List Value} {E : XK} {x m : Str} {p pos apos : Pos} {e o : Expr} {es : List Expr} {ta : TE} {t : TA}

/-- the callee runs -/
theorem run_fn {pins : List (Addr × Obj)} {σ : St} {H : Hp} {s : Shared} {Q : VK} {us : List Value} {vs : List V} (F : FnOk X.prog X.w X.K X.mg X.base CX k f fd ps sp) (hr : Room k X.A) (hb : Binds X.K fd ps ds) (hd : Vals dvs ds) (hx : Passes CX X E)
    (I : Inv X pins σ H s) (r : Vals vs us) (h : sp (vs ++ dvs) H Q E) : wpAny (model X.prog X.w) X.A (call (.ref f) us) (EP X pins σ Q) X.xe s := by
  have r2 : Vals (vs ++ dvs) (us ++ ds) := r.append hd
  have hl : (us ++ ds).length = ps.length := by rw [← r2.length]; exact F.len _ _ _ _ h
  refine wpAny_call (codeAny_mono (F.run X.A X.stack s H ⟨us, []⟩ (us ++ ds) (vs ++ dvs) Q E hr I.env0 (hb s us I.kIn hl) r2 h) fun r s' hq => ?_)
  cases r with
  | error e => exact hx pins σ H s e s' I hq
  | ok fl =>
    cases fl with
    | ret u => exact I.after hq
    | next => exact False.elim hq
    | brk => exact False.elim hq
    | cont => exact False.elim hq

theorem pe_call (F : FnOk X.prog X.w X.K X.mg X.base CX k f fd ps sp) (hr : Room k X.A) (hg : Gl X x) (hm : X.mg x = some (.ref f)) (hk : PySem.W.keepIn X.K (.ref f) = true) (hb : Binds X.K fd ps ds) (hd : Vals dvs ds) (hx : Passes CX X E)
    (ha : PA X (e :: es) t) (hdb : (x == ("__debug__" : Str)) = false := by decide) (he : starEach (e :: es) X.env = (false, eval e X.env) :: starEach es X.env := by rfl) (hpl : (backTo pos (starEach es X.env)).any (·.1) = false := by rfl) :
    PE X (.Call (.Name x p) (e :: es) [] pos) (tCall sp dvs E t) := by
  intro pins s σ H Q I h
  refine wpAny_Call_Name_kw (ld_glob I hg hm ?_ hdb)
  refine PySem.W.callWith_K (h₀ := X.base) I.ok.mod.kin hk (thn (ha pos pins s σ H _ I h) fun us s1 ⟨vs, H1, I1, r, q⟩ => ⟨I1.kIn, ?_⟩) he hpl
  exact run_fn F hr hb hd hx I1 r q
end

/-! ### keywords -/
section
variable {X : Cx} {CX : CXT} {k : Nat} {f C : Addr} {fd : FuncData} {ps ks : List Str} {sp : Sp} {E : XK} {x m : Str} {p pos apos kpos : Pos} {e o : Expr} {es : List Expr} {kws : List Keyword} {te ta : TE} {t tk : TA} {nm : Option Str}
variable {g : List Value → List Value → List Value} {gV : List V → List V → List V}
end

/-! ### a def's body keeps its promise -/
/-- names: the parameters first -/
structure FnScope (N P : List Str) (sc : Scope) : Prop where
  kind : sc.kind = .function
  co : sc.isCoroutine = false
  gen : sc.isGenerator = false
  nd : N.Nodup
  pre : N.take P.length = P
  par : ∀ x ∈ P, sc.names.lookup x = some .local ∨ sc.names.lookup x = some .cell
  nofree : ∀ y ∈ sc.names, y.2 ≠ .free

theorem bindL_out {kindOf : Str → Option NameKind} {x : Str} : ∀ {binds : List (Str × Value)} {m : Str → Option Value}, (∀ v, (x, v) ∉ binds) → bindL kindOf binds m x = m x
  | [], _, _ => rfl
  | (n, v) :: r, m, h => by
    unfold bindL
    rw [bindL_out fun w hw => h w (List.mem_cons_of_mem _ hw)]
    split
    · have : x ≠ n := by rintro rfl; exact h v List.mem_cons_self
      simp [this]
    · rfl
theorem bindC_out {kindOf : Str → Option NameKind} {x : Str} : ∀ {binds : List (Str × Value)} {m : Str → Option Value}, (∀ v, (x, v) ∉ binds) → bindC kindOf binds m x = m x
  | [], _, _ => rfl
  | (n, v) :: r, m, h => by
    unfold bindC
    rw [bindC_out fun w hw => h w (List.mem_cons_of_mem _ hw)]
    split
    · rfl
    · have : x ≠ n := by rintro rfl; exact h v List.mem_cons_self
      simp [this]
theorem bindL_get {kindOf : Str → Option NameKind} {x : Str} {v : Value} : ∀ {P : List Str} {vs : List Value} {i : Nat} {m : Str → Option Value}, P.Nodup → P[i]? = some x → vs[i]? = some v → kindOf x = some .local →
    bindL kindOf (P.zip vs) m x = some v
  | [], _, _, _, _, h, _, _ => by simp at h
  | _ :: _, [], _, _, _, _, h, _ => by simp at h
  | p :: P, w :: vs, 0, m, nd, h1, h2, hk => by
    simp at h1 h2; subst h1; subst h2
    show bindL kindOf ((p, w) :: P.zip vs) m p = _
    unfold bindL
    rw [bindL_out fun v hv => (List.nodup_cons.mp nd).1 (List.of_mem_zip hv).1, if_pos hk]
    simp
  | p :: P, w :: vs, i + 1, m, nd, h1, h2, hk => by
    show bindL kindOf ((p, w) :: P.zip vs) m x = _
    unfold bindL
    exact bindL_get (i := i) (List.nodup_cons.mp nd).2 (by simpa using h1) (by simpa using h2) hk
theorem bindC_get {kindOf : Str → Option NameKind} {x : Str} {v : Value} : ∀ {P : List Str} {vs : List Value} {i : Nat} {m : Str → Option Value}, P.Nodup → P[i]? = some x → vs[i]? = some v → kindOf x ≠ some .local →
    bindC kindOf (P.zip vs) m x = some v
  | [], _, _, _, _, h, _, _ => by simp at h
  | _ :: _, [], _, _, _, _, h, _ => by simp at h
  | p :: P, w :: vs, 0, m, nd, h1, h2, hk => by
    simp at h1 h2; subst h1; subst h2
    show bindC kindOf ((p, w) :: P.zip vs) m p = _
    unfold bindC
    rw [bindC_out fun v hv => (List.nodup_cons.mp nd).1 (List.of_mem_zip hv).1, if_neg hk]
    simp
  | p :: P, w :: vs, i + 1, m, nd, h1, h2, hk => by
    show bindC kindOf ((p, w) :: P.zip vs) m x = _
    unfold bindC
    exact bindC_get (i := i) (List.nodup_cons.mp nd).2 (by simpa using h1) (by simpa using h2) hk

/-- the names' values at the entry -/
def start (N : List Str) (vs : List V) : St := vs.map some ++ List.replicate (N.length - vs.length) none

/-- the context of a def's body, at its entry; an exception leaves the frame, then lies as CX says -/
def cxOf (CX : CXT) (P : Program) (w : World) (K : PySem.W.Frag) (mg : Str → Option Value) (base : Heap) (N : List Str) (qual : Str) (scope : Scope) (f : Addr) (cd : Value) (A : Around) (outer : List Env) (s : Shared) (H : Hp) (E : XK) : Cx where
  prog := P
  w := w
  K := K
  mg := mg
  base := base
  A := A.deeper (envOfC qual scope s.heap.objs.size f cd)
  N := N
  s₀ := s
  H₀ := H
  env := envOfC qual scope s.heap.objs.size f cd
  outer := outer
  stack := envOfC qual scope s.heap.objs.size f cd :: outer
  ex := []
  calm := true
  fn := fun _ => true
  pn := []
  xe := fun e s' => wpAny (model P w) (A.deeper (envOfC qual scope s.heap.objs.size f cd)) (leaving (envOfC qual scope s.heap.objs.size f cd) e) (fun _ s'' => CX outer H s E e s'') (fun e' s'' => CX outer H s E e' s'') s'

theorem cell_has {sc : Scope} {n : Nat} {x : Str} (h : sc.names.lookup x = some .cell) : ∃ c, (cellsFrom n sc.names []).lookup x = some c := by
  have q := PySem.W.cellsFrom_some sc.names n [] (.inl h)
  exact Option.isSome_iff_exists.mp q

theorem inv_start {CX : CXT} {P : Program} {w : World} {K : PySem.W.Frag} {mg : Str → Option Value} {base : Heap} {N ps : List Str} {qual : Str} {scope : Scope} {f : Addr} {cd : Value} {A : Around} {outer : List Env} {s s1 : Shared} {H : Hp} {E : XK} {us : List Value} {vs : List V}
    (S : FnScope N ps scope) (hd : A.handled = none) (e0 : Env0 P w K mg base A outer s H) (hl : vs.length = ps.length) (r : Vals vs us)
    (x : InCallC s s.heap.objs.size (bindL (envOfC qual scope s.heap.objs.size f cd).kindOf (ps.zip us) fun _ => none) (cellsFrom (s.heap.objs.size + 1) scope.names []) (bindC (envOfC qual scope s.heap.objs.size f cd).kindOf (ps.zip us) fun _ => none) s1) :
    Inv (cxOf CX P w K mg base N qual scope f cd A outer s H E) [] (start N vs) H s1 := by
  have hpl : ps.length ≤ N.length := by have := congrArg List.length S.pre; rw [List.length_take] at this; omega
  obtain ⟨h1, tk, rfl, hk⟩ := x.done
  have noA : ∀ b : Addr, b ∉ (cxOf CX P w K mg base N qual scope f cd A outer s H E).ex := fun b z => absurd (show b ∈ ([] : List Addr) from z) (by simp)
  refine ⟨⟨e0.mod, S.kind, rfl, rfl, Nat.le_refl _, fun y z c h1 h2 => ?_, fun y hy => ?_, fun y c _ h => ?_, fun _ => hd, Around.frames_deeper e0.frames, .inr ⟨rfl, rfl⟩, fun b z => absurd z (noA b), e0.bs, e0.bsz, fun b _ _ => noA b, fun b z => absurd z (noA b), e0.funs, e0.frf⟩,
    rfl, e0.bare, Un.kept hk, ⟨_, x.toInCall.ns, fun i y v h1 h2 h3 => ?_⟩, fun y c h => ⟨_, x.cell y c h⟩, e0.hok.fresh (Nat.le_refl _), fun y c h => ?_, fun p hp => absurd (show p ∈ ([] : List (Addr × Obj)) from hp) (by simp), e0.hok.kept hk, ?_⟩
  · exact name_of_addr x.apart (PySem.mem_of_lookup h1) (PySem.mem_of_lookup h2)
  · have hy : scope.names.lookup y = some .cell ∨ scope.names.lookup y = some .free := hy
    rcases hy with hy | hy
    · exact cell_has hy
    · exact absurd rfl (S.nofree _ (PySem.mem_of_lookup hy))
  · exact Nat.le_of_lt (x.above y c (PySem.mem_of_lookup h))
  · have hi : i < vs.length := by
      unfold start at h2
      by_cases hi : i < vs.length
      · exact hi
      · rw [List.getElem?_append_right (by simpa using hi)] at h2
        rw [List.getElem?_replicate] at h2
        split at h2 <;> cases h2
    have ha : vs[i]? = some v := by
      unfold start at h2
      rw [List.getElem?_append_left (by simpa using hi), List.getElem?_map] at h2
      cases e : vs[i]? with
      | none => rw [e] at h2; cases h2
      | some a => rw [e] at h2; cases h2; rfl
    obtain ⟨u, hu, rv⟩ := r.get ha
    have hp : ps[i]? = some y := by
      rw [← S.pre, List.getElem?_take_of_lt (by omega)]; exact h1
    have ndP : ps.Nodup := by rw [← S.pre]; exact S.nd.sublist (List.take_sublist _ _)
    refine ⟨u, rv, ?_⟩
    rcases S.par y (List.mem_of_getElem? hp) with k | k
    · exact .inl ⟨k, bindL_get ndP hp hu k⟩
    · obtain ⟨c, e⟩ := cell_has (n := s.heap.objs.size + 1) k
      refine .inr ⟨.inl k, c, e, ?_⟩
      have q := x.cell y c e
      rw [bindC_get ndP hp hu (by show scope.names.lookup y ≠ _; rw [k]; decide)] at q
      exact q
  · exact e0.hok.fresh (Nat.le_of_lt (x.above y c (PySem.mem_of_lookup h)))
  · unfold start
    show _ = N.length
    rw [List.length_append, List.length_map, List.length_replicate]
    omega

/-- THE RULE: a def (or a method) of the text, by its body. The body's reading t is chosen for each entry; it is run at the parameters' values -/
theorem fn_of {CX : CXT} {P : Program} {w : World} {K : PySem.W.Frag} {mg : Str → Option Value} {base : Heap} {k : Nat} {f : Addr} {name qual : Str} {params : Arguments} {body : List Stmt} {scope : Scope} {dV kV doc pm cdv ct oc : Value} {an od : Option Addr}
    {osl : Array (Option Value)} {N ps : List Str} {sp : Sp} (lk : K.lookup f = some ⟨oc, od, .func (PySem.W.fnOf name qual params body scope dV kV doc pm an cdv ct), osl⟩) (hcd : PySem.W.codeIn K cdv qual = true) (S : FnScope N ps scope)
    (len : ∀ vs H Q E, sp vs H Q E → vs.length = ps.length)
    (hbody : ∀ (A : Around) (outer : List Env) (s : Shared) (H : Hp) (vs : List V) (Q : VK) (E : XK), Room k (A.deeper (envOfC qual scope s.heap.objs.size f cdv)) → sp vs H Q E →
      ∃ t, PSs (cxOf CX P w K mg base N qual scope f cdv A outer s H E) body t ∧ t { nx := fun _ H' => Q .non H', rt := Q } (start N vs) H) :
    FnOk P w K mg base CX (k + 1) f (PySem.W.fnOf name qual params body scope dV kV doc pm an cdv ct) ps sp := by
  refine ⟨len, fun A outer s H args us vs Q E hr e0 hb r hsp => ?_⟩
  have hl := len _ _ _ _ hsp
  have KX : K.In s.heap := e0.mod.kin.keeps fun b o e => (e0.bs b o e).1
  have lim : s.heap.NoLimit := e0.mod.nolimit.keeps fun b o e => (e0.bs b o e).1
  have hkind : ∀ y ∈ ps.zip us, scope.names.lookup y.1 = some .local ∨ (scope.names.lookup y.1 = some .cell ∧ ((cellsFrom (s.heap.objs.size + 1) scope.names []).lookup y.1).isSome = true) := fun ⟨n, v⟩ hy => by
    rcases S.par n (List.of_mem_zip hy).1 with q | q
    · exact .inl q
    · exact .inr ⟨q, PySem.W.cellsFrom_some _ _ _ (.inl q)⟩
  refine codeAny_call_function hr.depth (KX _ _ lk) rfl S.co S.gen rfl (PySem.W.codeRec_of KX hcd) (hb _ _ _ _ ?_)
  refine wpAny_newFunctionEnv_cells S.kind hkind fun env he s1 x => ?_
  subst he
  refine ⟨lim.keeps x.toInCall.keep, codeAny_func ?_⟩
  obtain ⟨t, ht, hq⟩ := hbody A outer s H vs Q E (hr.deeper _) hsp
  have I : Inv (cxOf CX P w K mg base N qual scope f cdv A outer s H E) [] (start N vs) H s1 := inv_start S hr.hd e0 hl r x
  refine wpAny_mono (ht [] s1 (start N vs) H _ I hq) (fun fl s' hs => ?_) fun e s' hs => hs
  have fin : ∀ {σ' : St} {H' : Hp} {v : V} {u : Value}, Inv (cxOf CX P w K mg base N qual scope f cdv A outer s H E) [] σ' H' s' → RelV v u → Q v H' → CE outer P w H s Q u s' :=
    fun {σ' H' v u} J rv q => ⟨v, H', J.os, J.bare, J.base, J.hok, rv, q⟩
  cases fl with
  | ret u =>
    obtain ⟨v, σ', H', J, rv, q⟩ := hs
    exact fin J rv q
  | next =>
    obtain ⟨σ', H', J, q⟩ := hs
    exact fin (v := V.non) (u := Value.none) J rfl q
  | brk =>
    obtain ⟨_, _, _, q⟩ := hs
    exact False.elim q
  | cont =>
    obtain ⟨_, _, _, q⟩ := hs
    exact False.elim q
end L2

namespace L2
open PySem PySem.Spec PyProof.Rows
section
variable {X : Cx} {x : Str} {p pos : Pos} {e : Expr} {es : List Expr} {t : TA} {id T : String} {r : List V → Hp → VK → Prop}

def tCB (r : List V → Hp → VK → Prop) (t : TA) : TE := fun σ H Q => t σ H fun vs H1 => r vs H1 Q
/-- f(e, ..), f a built-in function -/
theorem pe_callB (hc : CallR X (.builtin id) r) (hg : Gl X x) (hm : X.mg x = none) (hv : bootBuiltins x = some (.builtin id)) (ha : PA X (e :: es) t) (hn : x ≠ "__name__" := by decide) (hdb : (x == ("__debug__" : Str)) = false := by decide)
    (he : starEach (e :: es) X.env = (false, eval e X.env) :: starEach es X.env := by rfl) (hpl : (backTo pos (starEach es X.env)).any (·.1) = false := by rfl) : PE X (.Call (.Name x p) (e :: es) [] pos) (tCB r t) := by
  intro pins s σ H Q I h
  refine wpAny_Call_Name_kw (ld_blt I hg hm hv ?_ hn hdb)
  exact PyProof.Rows.callWith_builtin1 (thn (ha pos pins s σ H _ I h) fun us s1 ⟨vs, H1, I1, r1, q1⟩ => hc pins s1 σ H1 vs us Q I1 r1 q1) he hpl
/-- T(e, ..), T a built-in type -/
theorem pe_callTy (hc : CallR X (.type T) r) (hg : Gl X x) (hm : X.mg x = none) (hv : bootBuiltins x = some (.type T)) (ha : PA X (e :: es) t) (hn : x ≠ "__name__" := by decide) (hdb : (x == ("__debug__" : Str)) = false := by decide)
    (he : starEach (e :: es) X.env = (false, eval e X.env) :: starEach es X.env := by rfl) (hpl : (backTo pos (starEach es X.env)).any (·.1) = false := by rfl) : PE X (.Call (.Name x p) (e :: es) [] pos) (tCB r t) := by
  intro pins s σ H Q I h
  refine wpAny_Call_Name_kw (ld_blt I hg hm hv ?_ hn hdb)
  exact PyProof.Rows.callWith_type1 (thn (ha pos pins s σ H _ I h) fun us s1 ⟨vs, H1, I1, r1, q1⟩ => hc pins s1 σ H1 vs us Q I1 r1 q1) he hpl
end
end L2

namespace HT
open PySem PyProof.Rows

section
open PySem.SeqAt
open PySem.AutoSeq1 (wpAny_loadPart')
open PySem.MeetsSeq PySem.MeetsSeq2 PySem.MeetsSeq3

end

section
variable {prog : Program} {w : World} {A : Around} {E : Value → Shared → Prop} {s : Shared}

/-! ### t[a:b], not the whole -/
/-- a slice's bound as a place among n (d where it is left out) -/
def sIx (n d : Nat) : Option Int → Nat
  | none => d
  | some v => if v < 0 then (v + (n : Int)).toNat else min v.toNat n
theorem sIx_nat (n d k : Nat) : sIx n d (some (k : Int)) = min k n := by
  show (if (k : Int) < 0 then ((k : Int) + (n : Int)).toNat else min (k : Int).toNat n) = min k n
  rw [if_neg (by omega), Int.toNat_natCast]
end
end HT

namespace L2
open PySem PySem.Spec PyProof.Rows

/-! ### the parts of a slice -/
abbrev TO := St → Hp → (Option Int → Hp → Prop) → Prop
/-- a slice's part (left out, or an int) -/
def PO (X : Cx) (e : Option Expr) (t : TO) : Prop :=
  ∀ (pins : List (Addr × Obj)) (s : Shared) (σ : St) (H : Hp) (Q : Option Int → Hp → Prop), Inv X pins σ H s → t σ H Q →
    wpAny (model X.prog X.w) X.A (evalPart e X.env) (fun u s' => ∃ o H', Inv X pins σ H' s' ∧ IsPart u o ∧ Q o H') X.xe s
def tNoPart : TO := fun _ H Q => Q none H
def tPart (t : TE) : TO := fun σ H Q => t σ H fun x H1 => ∃ i, x = .int i ∧ Q (some i) H1

section
variable {X : Cx} {e : Expr} {te : TE} {lo hi : Option Expr} {tl th : TO} {pos p2 : Pos}

theorem po_none : PO X none tNoPart := by
  intro pins s σ H Q I h
  rw [evalPart_none]
  exact wpAny_pure ⟨none, H, I, .none, h⟩
theorem po_some (h : PE X e te) : PO X (some e) (tPart te) := by
  intro pins s σ H Q I hw
  rw [evalPart_some]
  refine thn (h pins s σ H _ I hw) fun u s1 ⟨x, H1, I1, r1, q1⟩ => ?_
  obtain ⟨i, rfl, q⟩ := q1
  obtain ⟨t, rfl⟩ := r1
  exact ⟨some i, H1, I1, .int i t, q⟩

/-- what a slice of a value is, by values: the slice object stands at sl -/
def SlR (X : Cx) (r : V → Option Int → Option Int → Hp → VK → Prop) : Prop :=
  ∀ (pins : List (Addr × Obj)) (s : Shared) (σ : St) (H : Hp) (x : V) (v vl vu : Value) (lo hi : Option Int) (sl : Addr) (Q : VK), Inv X pins σ H s → RelV x v → s.heap.IsSliceOf sl vl vu .none → IsPart vl lo → IsPart vu hi → r x lo hi H Q →
    ∃ T id, typeLookup (.type T) "__getitem__" = pure (some (.builtin id)) ∧ s.TypeIs v T ∧ wpAny (model X.prog X.w) X.A (getItem v (.ref sl)) (EP X pins σ Q) X.xe s
def tSl (r : V → Option Int → Option Int → Hp → VK → Prop) (te : TE) (tl th : TO) : TE := fun σ H Q => te σ H fun x H1 => tl σ H1 fun l H2 => th σ H2 fun u H3 => r x l u H3 Q
/-- a[lo:hi], any a -/
theorem pe_slice {r : V → Option Int → Option Int → Hp → VK → Prop} (hr : SlR X r) (he : PE X e te) (hl : PO X lo tl) (hu : PO X hi th) : PE X (.Subscript e (.Slice lo hi none p2) pos) (tSl r te tl th) := by
  intro pins s σ H Q I h
  refine Subscript_ (thn (he pins s σ H _ I h) fun v s1 ⟨x, H1, I1, r1, q1⟩ => ?_)
  refine wpAny_Slice (thn (hl pins s1 σ H1 _ I1 q1) fun vl s2 ⟨l, H2, I2, pl, q2⟩ => thn (hu pins s2 σ H2 _ I2 q2) fun vu s3 ⟨u, H3, I3, pu, q3⟩ => ?_)
  rw [evalPart_none]
  refine wpAny_pure ?_
  have I4 : Inv X pins σ H3 { s3 with heap := s3.heap.push { cls := .type "slice", data := .fields #[vl, vu, .none] } } := I3.kept (t' := s3.toks) fun b ob q => Heap.get?_push_of_some _ q
  obtain ⟨T, id, hT, ht, hg⟩ := hr pins { s3 with heap := s3.heap.push { cls := .type "slice", data := .fields #[vl, vu, .none] } } σ H3 x v vl vu l u s3.heap.objs.size Q I4 r1 (Heap.IsSliceOf.new ..) pl pu q3
  show wpAny (model X.prog X.w) X.A (subscriptTail e (.Slice lo hi none p2) v (.ref s3.heap.objs.size)) (EP X pins σ Q) X.xe { s3 with heap := s3.heap.push { cls := .type "slice", data := .fields #[vl, vu, .none] } }
  exact tail_any (ops := [.ref s3.heap.objs.size, v]) ht hT hg (by with_unfolding_all rfl)

/-- the items of xs[lo:hi] -/
def cutV (xs : List V) (lo hi : Option Int) : List V := (xs.drop (HT.sIx xs.length 0 lo)).take (HT.sIx xs.length xs.length hi - HT.sIx xs.length 0 lo)
theorem cutV_length (xs : List V) (lo hi : Option Int) : (cutV xs lo hi).length ≤ xs.length := by
  unfold cutV
  rw [List.length_take, List.length_drop]
  omega
/-! ### t < u, t + u -/
end
end L2

namespace L2
open PySem PySem.Spec PyProof.Rows

/-! ### places -/
/-- the place that an index of any sign means -/
def ixN (n : Nat) (i : Int) : Option Nat := if 0 ≤ i then (if i < n then some i.toNat else none) else if -(n : Int) ≤ i then some (i + n).toNat else none
def atI {α : Type} (xs : List α) (i : Int) : Option α := (ixN xs.length i).bind fun j => xs[j]?
theorem ixN_seq {n : Nat} {i : Int} {j : Nat} (h : ixN n i = some j) : seqIndex? i n = some j ∧ j < n ∧ -(n : Int) ≤ i ∧ i < n := by
  unfold ixN at h
  by_cases h0 : 0 ≤ i
  · rw [if_pos h0] at h
    by_cases h1 : i < n
    · rw [if_pos h1] at h
      have e : i.toNat = j := Option.some.inj h
      exact ⟨by rw [seqIndex_of h0 h1, e], by omega, by omega, h1⟩
    · rw [if_neg h1] at h; cases h
  · rw [if_neg h0] at h
    by_cases h1 : -(n : Int) ≤ i
    · rw [if_pos h1] at h
      have e : (i + n).toNat = j := Option.some.inj h
      exact ⟨by rw [seqIndex_neg (by omega) h1, e], by omega, h1, by omega⟩
    · rw [if_neg h1] at h; cases h
theorem atI_get {α : Type} {xs : List α} {i : Int} {v : α} (h : atI xs i = some v) : ∃ j, seqIndex? i xs.length = some j ∧ xs[j]? = some v ∧ j < xs.length ∧ -(xs.length : Int) ≤ i ∧ i < xs.length := by
  unfold atI at h
  cases e : ixN xs.length i with
  | none => rw [e] at h; cases h
  | some j =>
    rw [e] at h
    obtain ⟨h1, h2, h3, h4⟩ := ixN_seq e
    exact ⟨j, h1, h, h2, h3, h4⟩
theorem atI_nat {α : Type} {xs : List α} {j : Nat} {v : α} (h : xs[j]? = some v) : atI xs (j : Int) = some v := by
  have hj : j < xs.length := (List.getElem?_eq_some_iff.mp h).1
  have e : ixN xs.length (j : Int) = some j := by
    unfold ixN
    rw [if_pos (by omega), if_pos (by omega)]; simp
  unfold atI; rw [e]; exact h
theorem atI_last {α : Type} (xs : List α) (v : α) : atI (xs ++ [v]) (-1) = some v := by
  have hl : (xs ++ [v]).length = xs.length + 1 := by simp
  have e : ixN (xs ++ [v]).length (-1) = some xs.length := by
    unfold ixN
    rw [hl, if_neg (by decide), if_pos (by omega)]
    congr 1
    omega
  unfold atI
  rw [e]
  show (xs ++ [v])[xs.length]? = some v
  simp

/-! ### what may be subscripted -/
/-- what stands as an index of a plain subscript -/
def PlainIx (b : Expr) : Prop := ∀ o i, subscripted b false o i = operate [o, i] (getItem o i)
/-- a subscript by values -/
def IxR (X : Cx) (r : R2) : Prop :=
  ∀ (value slice : Expr) (pins : List (Addr × Obj)) (s : Shared) (σ : St) (H : Hp) (x y : V) (v u : Value) (Q : VK), Inv X pins σ H s → RelV x v → RelV y u → r x y H Q →
    subscripted slice false v u = operate [v, u] (getItem v u) → wpAny (model X.prog X.w) X.A (subscriptTail value slice v u) (EP X pins σ Q) X.xe s
/-- a call of a builtin's method by values: the receiver, the arguments -/
def MtR (X : Cx) (id : String) (r : V → List V → Hp → VK → Prop) : Prop :=
  ∀ (pins : List (Addr × Obj)) (s : Shared) (σ : St) (H : Hp) (x : V) (xs : List V) (v : Value) (us : List Value) (Q : VK), Inv X pins σ H s → RelV x v → Vals xs us → r x xs H Q →
    wpAny (model X.prog X.w) X.A (call (.builtin id) (v :: us)) (EP X pins σ Q) X.xe s
section
variable {X : Cx} {a b : Expr} {ta tb : TE} {pos : Pos}
/-- a[b] -/
theorem pe_ix {r : R2} (hr : IxR X r) (ha : PE X a ta) (hb : PE X b tb) (hs : PlainIx b) : PE X (.Subscript a b pos) (tOp r ta tb) := by
  intro pins s σ H Q I h
  exact Subscript_ (binT ha hb I h fun v u s2 x y H2 I2 rx ry q => hr a b pins s2 σ H2 x y v u Q I2 rx ry q (hs _ _))

def rIxL (K : PySem.W.Frag) : R2 := fun x y H Q => ∃ p xs i v, x = .ref p ∧ y = .int i ∧ SqL K H p xs ∧ atI xs i = some v ∧ Q v H
def rIxT (K : PySem.W.Frag) : R2 := fun x y H Q => ∃ p xs i v, x = .ref p ∧ y = .int i ∧ SqT K H p xs ∧ atI xs i = some v ∧ Q v H
def rIxS : R2 := fun x y H Q => ∃ z i c, x = .str z ∧ y = .int i ∧ z.length ≤ sizeLine ∧ atI z.cps.toList i = some c ∧ Q (.str ⟨#[c]⟩) H
theorem ix_list : IxR X (rIxL X.K) := by
  intro value slice pins s σ H x y v u Q I rx ry h hs
  obtain ⟨p, xs, i, z, rfl, rfl, hq, he, q⟩ := h
  cases rx
  obtain ⟨t, rfl⟩ := ry
  obtain ⟨its, r, pl, hz⟩ := I.list hq
  obtain ⟨j, h1, h2, h3, h4, h5⟩ := atI_get he
  obtain ⟨w, ew, rw'⟩ := r.get h2
  have hl := r.length
  have hn := line63
  have fin : EP X pins σ Q w s := ⟨z, H, I, rw', q⟩
  by_cases h0 : 0 ≤ i
  · have hj : i.toNat = j := by
      rw [seqIndex_of h0 h5] at h1
      exact Option.some.inj h1
    exact item_listR pl.isList h0 (by omega) (by rw [hj]; simpa using ew) fin hs
  · have hj : (i + (its.toArray.size : Int)).toNat = j := by
      rw [seqIndex_neg (by omega) h4] at h1
      rw [List.size_toArray, ← hl]
      exact Option.some.inj h1
    exact subscriptTail_builtinR (x := w) pl.isList.typeIs slot_list_getitem.lookup
      (wpAny_getItem_list_neg (Q := fun r s' => r = w ∧ EP X pins σ Q r s') pl.isList (by omega) (by rw [List.size_toArray] <;> omega) (by omega) (by rw [hj]; simpa using ew) ⟨rfl, fin⟩) hs
theorem ix_tup : IxR X (rIxT X.K) := by
  intro value slice pins s σ H x y v u Q I rx ry h hs
  obtain ⟨p, xs, i, z, rfl, rfl, hq, he, q⟩ := h
  cases rx
  obtain ⟨t, rfl⟩ := ry
  obtain ⟨its, r, pl, hz⟩ := I.tuple hq
  obtain ⟨j, h1, h2, h3, h4, h5⟩ := atI_get he
  obtain ⟨w, ew, rw'⟩ := r.get h2
  have hl := r.length
  have hn := line63
  have fin : EP X pins σ Q w s := ⟨z, H, I, rw', q⟩
  exact subscriptTail_builtinR (x := w) pl.typeIs slot_tuple_getitem.lookup
    (getItem_tuple (j := j) (Q := fun r s' => r = w ∧ EP X pins σ Q r s') pl (by omega) (by omega) (by rw [List.size_toArray, ← hl]; exact h1) (by simpa using ew) ⟨rfl, fin⟩) hs
theorem ix_str : IxR X rIxS := by
  intro value slice pins s σ H x y v u Q I rx ry h hs
  obtain ⟨z, i, c, rfl, rfl, hz, he, q⟩ := h
  obtain ⟨t, rfl⟩ := rx
  obtain ⟨t', rfl⟩ := ry
  obtain ⟨j, h1, h2, h3, h4, h5⟩ := atI_get he
  have hl : z.cps.toList.length = z.length := by simp [Str.length]
  rw [hl] at h1 h4 h5
  have hn := line63
  exact tail_any (typeIs_str s z t) slot_str_getitem.lookup (getItem_str (c := c) (by
    have e1 : decide (i < -(2 ^ 63 : Int)) = false := decide_eq_false (by omega)
    have e2 : decide (i ≥ 2 ^ 63) = false := decide_eq_false (by omega)
    rw [e1, e2, Bool.or_false]) (by rw [h1]; simpa using h2) ⟨.str ⟨#[c]⟩, H, I.tok _, ⟨_, rfl⟩, q⟩) hs
/-! ### xs[i] = v, any sign -/
theorem Inv.lst {pins : List (Addr × Obj)} {σ : St} {H : Hp} {s : Shared} {p : Addr} {xs : List V} (I : Inv X pins σ H s) (h : H p = some (.lst xs)) :
    ∃ (its : List Value) (n : Nat), Vals xs its ∧ s.heap.get? p = some { cls := .type "list", data := .seq its.toArray n } ∧ xs.length ≤ sizeLine := by
  obtain ⟨z, its, n, r, e⟩ := I.hok p _ h
  exact ⟨its, n, r, e, z⟩
/-! ### slices -/
theorem slice_bounds (lo hi : Option Int) (n : Nat) : (sliceBounds lo hi none n).1 = ((HT.sIx n 0 lo : Nat) : Int) ∧ (sliceBounds lo hi none n).2.1 = ((HT.sIx n n hi : Nat) : Int) ∧ (sliceBounds lo hi none n).2.2 = 1 := by
  refine ⟨?_, ?_, rfl⟩
  · cases lo with
    | none => simp [sliceBounds, HT.sIx]
    | some i =>
      simp only [sliceBounds, HT.sIx, Option.getD_none, show (1 : Int) > 0 by decide, if_true]
      by_cases h : i < 0
      · simp only [h, if_true] <;> omega
      · simp only [h, if_false] <;> omega
  · cases hi with
    | none => simp [sliceBounds, HT.sIx]
    | some i =>
      simp only [sliceBounds, HT.sIx, Option.getD_none, show (1 : Int) > 0 by decide, if_true]
      by_cases h : i < 0
      · simp only [h, if_true] <;> omega
      · simp only [h, if_false] <;> omega
theorem slicePick_cut (its : List Value) (lo hi : Option Int) : slicePick its.toArray lo hi none = ((its.drop (HT.sIx its.length 0 lo)).take (HT.sIx its.length its.length hi - HT.sIx its.length 0 lo)).toArray := by
  obtain ⟨h1, h2, h3⟩ := slice_bounds lo hi its.toArray.size
  unfold slicePick
  rw [h1, h2, h3]
  simp only [sliceRange_one, pick_run, List.size_toArray] <;> rfl
/-- xs[lo:hi] of a list: a new list -/
def rSlL (K : PySem.W.Frag) : V → Option Int → Option Int → Hp → VK → Prop := fun x lo hi H Q => ∃ a xs, x = .ref a ∧ SqL K H a xs ∧ ∀ p, H p = none → Q (.ref p) (upd H p (.lst (cutV xs lo hi)))
theorem sl_list : SlR X (rSlL X.K) := by
  intro pins s σ H x v vl vu lo hi sl Q I rx hs pl pu h
  obtain ⟨a, xs, rfl, hx, q⟩ := h
  cases rx
  obtain ⟨its, r, ht, hz⟩ := I.list hx
  have hlen := r.length
  refine ⟨"list", _, slot_list_getitem.lookup, ht.isList.typeIs, ?_⟩
  refine wpAny_getItem_list_slice ht.isList hs pl pu .none (by simp) ?_ (by rw [List.size_toArray] <;> omega)
  rw [slicePick_cut, ← hlen]
  refine ⟨.ref s.heap.objs.size, _, I.laid (t' := s.toks) (o := .lst (cutV xs lo hi)) (fun b ob q => Heap.get?_push_of_some _ q) (Nat.le_refl _) ?_, rfl, q _ (I.hok.fresh (Nat.le_refl _))⟩
  exact ⟨Nat.le_trans (cutV_length xs lo hi) hz, _, 0, (r.drop (HT.sIx xs.length 0 lo)).take (HT.sIx xs.length xs.length hi - HT.sIx xs.length 0 lo), Heap.get?_push_size _ rfl⟩

/-! ### in, not in: flat items -/
def flatV : V → Bool
  | .non => true
  | .bl _ => true
  | .int _ => true
  | .str _ => true
  | _ => false
/-- == of flat values -/
def eqV : V → V → Bool
  | .non, .non => true
  | .bl a, .bl b => a == b
  | .bl a, .int b => (if a then 1 else 0) == b
  | .int a, .bl b => a == (if b then 1 else 0)
  | .int a, .int b => a == b
  | .str a, .str b => a == b
  | _, _ => false
theorem eqAt_V {A : Around} {s : Shared} {y x : V} {u v : Value} (ry : RelV y u) (rx : RelV x v) (fy : flatV y = true) (fx : flatV x = true) : SeqAt.EqAt A s u v (eqV y x) := by
  cases y with
  | non =>
    cases ry
    cases x with
    | non => cases rx; exact SeqAt.EqAt.same _
    | bl b => cases rx; exact SeqAt.EqAt.none_bool b
    | int b => obtain ⟨t, rfl⟩ := rx; exact SeqAt.EqAt.none_int b t
    | str b => obtain ⟨t, rfl⟩ := rx; exact SeqAt.EqAt.none_str b t
    | _ => exact absurd (show false = true from fx) Bool.false_ne_true
  | bl a =>
    cases ry
    cases x with
    | non => cases rx; exact SeqAt.EqAt.bool_none a
    | bl b => cases rx; exact SeqAt.EqAt.bool_bool a b
    | int b => obtain ⟨t, rfl⟩ := rx; exact SeqAt.EqAt.bool_int a b t
    | str b => obtain ⟨t, rfl⟩ := rx; exact SeqAt.EqAt.bool_str a b t
    | _ => exact absurd (show false = true from fx) Bool.false_ne_true
  | int a =>
    obtain ⟨t', rfl⟩ := ry
    cases x with
    | non => cases rx; exact SeqAt.EqAt.int_none a t'
    | bl b => cases rx; exact SeqAt.EqAt.int_bool a t' b
    | int b => obtain ⟨t, rfl⟩ := rx; exact SeqAt.EqAt.int_int a t' b t
    | str b => obtain ⟨t, rfl⟩ := rx; exact SeqAt.EqAt.int_str a t' b t
    | _ => exact absurd (show false = true from fx) Bool.false_ne_true
  | str a =>
    obtain ⟨t', rfl⟩ := ry
    cases x with
    | non => cases rx; exact SeqAt.EqAt.str_none a t'
    | bl b => cases rx; exact SeqAt.EqAt.str_bool a t' b
    | int b => obtain ⟨t, rfl⟩ := rx; exact SeqAt.EqAt.str_int a t' b t
    | str b => obtain ⟨t, rfl⟩ := rx; exact SeqAt.EqAt.str_str a t' b t
    | _ => exact absurd (show false = true from fx) Bool.false_ne_true
  | _ => exact absurd (show false = true from fy) Bool.false_ne_true
/-- the items' answers, read off the values (a value's own answer does not lean on its token) -/
def eqU (x : V) (u : Value) : Bool := match u with
  | .none => eqV .non x
  | .bool b => eqV (.bl b) x
  | .int i _ => eqV (.int i) x
  | .str z _ => eqV (.str z) x
  | _ => false
theorem eqU_of {x y : V} {u : Value} (r : RelV y u) (f : flatV y = true) : eqU x u = eqV y x := by
  cases y with
  | non => cases r; rfl
  | bl b => cases r; rfl
  | int i => obtain ⟨t, rfl⟩ := r; rfl
  | str z => obtain ⟨t, rfl⟩ := r; rfl
  | _ => exact absurd (show false = true from f) Bool.false_ne_true
theorem any_eqU {x : V} : ∀ {xs : List V} {us : List Value}, Vals xs us → xs.all flatV = true → us.any (eqU x) = xs.any fun y => eqV y x
  | _, _, .nil, _ => rfl
  | y :: xs, u :: us, .cons r t, f => by
    rw [List.all_cons, Bool.and_eq_true] at f
    rw [List.any_cons, List.any_cons, eqU_of r f.1, any_eqU t f.2]
theorem mem_eqAt {A : Around} {s : Shared} {x : V} {v : Value} (rx : RelV x v) (fx : flatV x = true) : ∀ {xs : List V} {us : List Value}, Vals xs us → xs.all flatV = true → ∀ u ∈ us, SeqAt.EqAt A s u v (eqU x u)
  | _, _, .nil, _ => fun u hu => by cases hu
  | y :: xs, u :: us, .cons r t, f => fun u' hu => by
    rw [List.all_cons, Bool.and_eq_true] at f
    rcases List.mem_cons.mp hu with rfl | hu
    · rw [eqU_of r f.1]; exact eqAt_V r rx f.1 fx
    · exact mem_eqAt rx fx t f.2 u' hu
def inV (x : V) (xs : List V) : Bool := xs.any fun y => eqV y x
/-- x in a list or tuple of flat items -/
def rIn (K : PySem.W.Frag) (neg : Bool) : R2 := fun x y H Q => ∃ p xs, y = .ref p ∧ (SqL K H p xs ∨ SqT K H p xs) ∧ flatV x = true ∧ xs.all flatV = true ∧ Q (.bl (if neg then !inV x xs else inV x xs)) H
theorem op_in_seq : OpR X (compareOp .In) (rIn X.K false) := by
  intro pins s σ H x y v u Q I rx ry h
  obtain ⟨p, xs, rfl, hq, fx, fs, q⟩ := h
  cases ry
  rcases hq with hq | hq
  · obtain ⟨its, r, pl, hz⟩ := I.list hq
    refine SeqAt.in_listAt (eqU x) pl.isList (fun w hw => mem_eqAt rx fx r fs w (by simpa using hw)) ⟨.bl _, H, I, rfl, ?_⟩
    rw [show its.toArray.any (eqU x) = its.any (eqU x) by simp, any_eqU r fs]
    exact q
  · obtain ⟨its, r, pl, hz⟩ := I.tuple hq
    refine SeqAt.in_tupleAt (eqU x) pl (fun w hw => mem_eqAt rx fx r fs w (by simpa using hw)) ⟨.bl _, H, I, rfl, ?_⟩
    rw [show its.toArray.any (eqU x) = its.any (eqU x) by simp, any_eqU r fs]
    exact q
/-! ### len, list(x), tuple(x) of any list or tuple that is read -/
theorem call_len_seq : CallR X (.builtin "len") (fun xs H Q => ∃ p ys, xs = [.ref p] ∧ (SqL X.K H p ys ∨ SqT X.K H p ys) ∧ Q (.int ys.length) H) := by
  intro pins s σ H xs us Q I r h
  obtain ⟨p, ys, rfl, hq, q⟩ := h
  obtain ⟨u, rfl, rx⟩ := vals1 r
  cases rx
  have hn := line63
  rcases hq with hq | hq
  · obtain ⟨its, r', pl, hz⟩ := I.list hq
    have hlen := r'.length
    exact Calls.call_len_list pl.isList (by simp only [List.size_toArray] <;> omega) ⟨.int ys.length, H, I.tok _, ⟨s.toks + 1, by rw [List.size_toArray, hlen]⟩, q⟩
  · obtain ⟨its, r', pl, hz⟩ := I.tuple hq
    have hlen := r'.length
    exact len_tuple pl (by simp only [List.size_toArray] <;> omega) ⟨.int ys.length, H, I.tok _, ⟨s.toks + 1, by rw [List.size_toArray, hlen]⟩, q⟩
theorem call_len_str : CallR X (.builtin "len") (fun xs H Q => ∃ z, xs = [.str z] ∧ z.length ≤ sizeLine ∧ Q (.int z.length) H) := by
  intro pins s σ H xs us Q I r h
  obtain ⟨z, rfl, hz, q⟩ := h
  obtain ⟨u, rfl, t, rfl⟩ := vals1 r
  have hn := line63
  exact len_str (by omega) ⟨.int z.length, H, I.tok _, ⟨_, rfl⟩, q⟩
theorem call_list_of : CallR X (.type "list") (fun xs H Q => ∃ p ys, xs = [.ref p] ∧ (SqL X.K H p ys ∨ SqT X.K H p ys) ∧ ∀ l, H l = none → Q (.ref l) (upd H l (.lst ys))) := by
  intro pins s σ H xs us Q I r h
  obtain ⟨p, ys, rfl, hq, q⟩ := h
  obtain ⟨u, rfl, rx⟩ := vals1 r
  cases rx
  have fin : ∀ (its : List Value), Vals ys its → ys.length ≤ sizeLine → ∀ (h' : Heap) (c' : Nat), (∀ b o', s.heap.get? b = some o' → h'.get? b = some o') →
      h'.get? s.heap.objs.size = some { cls := .type "list", dict := none, data := .seq its.toArray c', slots := #[] } → EP X pins σ Q (.ref s.heap.objs.size) { s with heap := h' } := fun its r' hz h' c' kp e =>
    ⟨.ref s.heap.objs.size, _, I.laid (t' := s.toks) kp (Nat.le_refl _) (show ObjOk X.prog X.w _ h' _ (.lst ys) from ⟨hz, its, c', r', e⟩), rfl, q _ (I.hok.fresh (Nat.le_refl _))⟩
  rcases hq with hq | hq
  · obtain ⟨its, r', pl, hz⟩ := I.list hq
    have hlen := r'.length
    obtain ⟨o, ho, hc, n, hd⟩ := pl.isList
    exact call_list_seq p (.inl rfl) ho hc hd (fun h' c' kp e => fin its r' hz h' c' kp e) (by simp only [List.size_toArray] <;> omega)
  · obtain ⟨its, r', pl, hz⟩ := I.tuple hq
    have hlen := r'.length
    obtain ⟨o, ho, hc, n, hd⟩ := pl
    exact call_list_seq p (.inr rfl) ho hc hd (fun h' c' kp e => fin its r' hz h' c' kp e) (by simp only [List.size_toArray] <;> omega)
/-! ### the call of a builtin's method: o.m(..) -/
/-- the value is of that builtin type -/
def tyV (K : PySem.W.Frag) (T : String) (x : V) (H : Hp) : Prop := match x with
  | .str _ => T = "str"
  | .int _ => T = "int"
  | .ref p => (T = "list" ∧ ∃ xs, SqL K H p xs) ∨ (T = "tuple" ∧ ∃ o, K.lookup p = some o ∧ o.cls = .type "tuple" ∧ o.dict = none) ∨
      (T = "dict" ∧ ((∃ kvs, H p = some (.dK kvs)) ∨ ∃ kvs, H p = some (.dT kvs))) ∨ (T = "set" ∧ ∃ S n, H p = some (.set S n))
  | _ => False
theorem tyV_is {pins : List (Addr × Obj)} {σ : St} {H : Hp} {s : Shared} {T : String} {x : V} {v : Value} (I : Inv X pins σ H s) (r : RelV x v) (ty : tyV X.K T x H) :
    s.TypeIs v T ∧ ∀ a, v = .ref a → ∃ ob, s.heap.get? a = some ob ∧ ob.dict = none := by
  cases x with
  | str z =>
    obtain ⟨t, rfl⟩ := r
    cases (show T = "str" from ty)
    exact ⟨typeIs_str s z t, fun _ e => nomatch e⟩
  | int i =>
    obtain ⟨t, rfl⟩ := r
    cases (show T = "int" from ty)
    exact ⟨typeIs_int s i t, fun _ e => nomatch e⟩
  | ref p =>
    cases r
    rcases ty with ⟨rfl, xs, hq⟩ | ⟨rfl, o, hk, hc, hd⟩ | ⟨rfl, hk⟩ | ⟨rfl, S, n, hk⟩
    · obtain ⟨its, _, pl, _⟩ := I.list hq
      refine ⟨pl.isList.typeIs, fun a e => ?_⟩
      cases e
      obtain ⟨o, n, e, c, hd, _⟩ := pl
      exact ⟨o, e, hd⟩
    · refine ⟨⟨o, I.kIn p o hk, hc⟩, fun a e => ?_⟩
      cases e
      exact ⟨o, I.kIn _ o hk, hd⟩
    · have z : ∃ o, s.heap.get? p = some o ∧ o.ExactDict := by
        rcases hk with ⟨kvs, hk⟩ | ⟨kvs, hk⟩
        · obtain ⟨_, _, _, _, o, _, _, e, ex, _⟩ := I.hok p _ hk
          exact ⟨o, e, ex⟩
        · obtain ⟨_, _, _, _, o, _, _, e, ex, _⟩ := I.hok p _ hk
          exact ⟨o, e, ex⟩
      obtain ⟨o, e, ex⟩ := z
      refine ⟨⟨o, e, ex.1⟩, fun a e2 => ?_⟩
      cases e2
      exact ⟨o, e, ex.2.1⟩
    · obtain ⟨o, _, _, _, e, ex, _⟩ := I.hok p _ hk
      refine ⟨⟨o, e, ex.1⟩, fun a e2 => ?_⟩
      cases e2
      exact ⟨o, e, ex.2.1⟩
  | _ => exact False.elim ty
def tBM (K : PySem.W.Frag) (T : String) (r : V → List V → Hp → VK → Prop) (to : TE) (t : TA) : TE := fun σ H Q => to σ H fun x H1 => tyV K T x H1 ∧ t σ H1 fun xs H2 => r x xs H2 Q
variable {o e : Expr} {es : List Expr} {to : TE} {t : TA} {name : Str} {apos cpos : Pos} {T id : String} {r : V → List V → Hp → VK → Prop}
theorem pe_bm (pa : PlainAttrs T) (slot : Slot T name id) (hty : typeOf (.builtin id) = pure (.type "method_descriptor")) (hm : MtR X id r) (ho : PE X o to) (ha : PA X (e :: es) t)
    (hbase : attributeBase o name X.env (eval o X.env) = eval o X.env := by rfl)
    (hfew : ((backTo cpos (starEach (e :: es) X.env)).all (fun x => !x.1) && (backToKw cpos (keywordEach [] X.env)).all (fun x => x.1.isSome)
      && decide ((e :: es).length + ([] : List Keyword).length + (if ([] : List Keyword).isEmpty then 0 else 1) < 30)) = true := by rfl)
    (hline : (apos.endLine == cpos.line) = true := by rfl) (hs : starEach (e :: es) X.env = (false, eval e X.env) :: starEach es X.env := by rfl) (hplain : (backTo cpos (starEach es X.env)).any (·.1) = false := by rfl) :
    PE X (.Call (.Attribute o name apos) (e :: es) [] cpos) (tBM X.K T r to t) := by
  intro pins s σ H Q I h
  refine wpAny_Call_method_late hbase hfew hline rfl (thn (ho pins s σ H _ I h) fun v s1 ⟨x, H1, I1, r1, ty, q1⟩ => ?_)
  obtain ⟨h1, h2⟩ := tyV_is I1 r1 ty
  refine ⟨T, id, pa, slot, hty, h1, h2, ?_⟩
  have hA := ha cpos pins s1 σ H1 _ I1 q1
  rw [hs] at hA ⊢
  refine Calls.callWith_builtin (by show (false || (backTo cpos (starEach es X.env)).any (·.1)) = false; rw [hplain] <;> rfl) (Calls.evalArgs_plain ?_)
  exact thn hA fun us s2 ⟨vs, H2, I2, r2, q2⟩ => hm pins s2 σ H2 x vs v us Q I2 r1 r2 q2
/- xs.append(e), list.index on a module's tuple .. are MtR facts of 06m -/
end
end L2

namespace L2
open PySem PySem.Spec PyProof.Rows

def MtM (X : Cx) (id : String) (r : V → List V → Hp → VK → Prop) : Prop :=
  ∀ (pins : List (Addr × Obj)) (s : Shared) (σ : St) (H : Hp) (x : V) (xs : List V) (v : Value) (us : List Value) (Q : VK), Inv X pins σ H s → RelV x v → Vals xs us → r x xs H Q →
    wpAny (model X.prog X.w) X.A (call (.builtin id) (v :: us)) (EP X pins σ Q) X.xe s

/-! ### lists of values -/
theorem Vals.one : ∀ {x : V} {us : List Value}, Vals [x] us → ∃ u, us = [u] ∧ RelV x u
  | _, _, .cons r .nil => ⟨_, rfl, r⟩
theorem Vals.two : ∀ {x y : V} {us : List Value}, Vals [x, y] us → ∃ u v, us = [u, v] ∧ RelV x u ∧ RelV y v
  | _, _, _, .cons r (.cons q .nil) => ⟨_, _, rfl, r, q⟩
theorem Vals.zero : ∀ {us : List Value}, Vals [] us → us = []
  | _, .nil => rfl
theorem Vals.reverse {xs : List V} {us : List Value} (h : Vals xs us) : Vals xs.reverse us.reverse := by
  induction h with
  | nil => exact .nil
  | cons r t ih => rw [List.reverse_cons, List.reverse_cons]; exact Vals.append ih (.cons r .nil)
section
variable {X : Cx} {pins : List (Addr × Obj)} {σ : St} {H : Hp} {s : Shared} {l b : Addr} {xs ys zs : List V}

/-! ### the two steps: a tracked list is rewritten, a new list is laid -/
theorem Inv.lset {its its' : List Value} {n : Nat} {f : Array Value → Array Value} {t' : Nat} (I : Inv X pins σ H s) (hH : H l = some (.lst xs))
    (e : s.heap.get? l = some { cls := .type "list", data := .seq its.toArray n }) (hf : f its.toArray = its'.toArray) (hv : Vals ys its') (hz : ys.length ≤ sizeLine) :
    Inv X pins σ (upd H l (.lst ys)) { s with heap := s.heap.update l (Obj.mapSeq f), toks := t' } := by
  have q := PySem.IsL.update e f
  rw [hf] at q
  refine I.write (x := l) (e := l) (by rw [hH]; exact trivial) (.inl rfl) (fun b' u hb hu => (Heap.get?_update_other s.heap (Obj.mapSeq f) (Ne.symm hb)).trans hu) ⟨_, q⟩ ?_
  exact ⟨hz, its', _, hv, q⟩
theorem Inv.lnew {its : List Value} {t' : Nat} (I : Inv X pins σ H s) (hv : Vals ys its) (hz : ys.length ≤ sizeLine) :
    Inv X pins σ (upd H s.heap.objs.size (.lst ys)) { s with heap := s.heap.push { cls := .type "list", data := .seq its.toArray }, toks := t' } :=
  I.laid (fun _ _ q => Heap.get?_push_of_some _ q) (Nat.le_refl _) ⟨hz, its, 0, hv, Heap.get?_push_size _ rfl⟩
theorem Inv.fresh (I : Inv X pins σ H s) : H s.heap.objs.size = none := I.hok.fresh (Nat.le_refl _)
theorem Inv.lstM (I : Inv X pins σ H s) (hH : H l = some (.lst xs)) : xs.length ≤ sizeLine ∧ ∃ (its : List Value) (n : Nat), Vals xs its ∧ xs.length = its.length ∧ s.heap.get? l = some { cls := .type "list", data := .seq its.toArray n } := by
  obtain ⟨z, its, n, r, e⟩ := I.hok l _ hH
  exact ⟨z, its, n, r, r.length, e⟩

theorem notLongL {n : Nat} (h : n ≤ sizeLine) : Builtin.List.listTooLong n = false := by
  unfold Builtin.List.listTooLong
  exact decide_eq_false (by omega)
end

section
variable {X : Cx}

/-! ### methods -/
def rAppend : V → List V → Hp → VK → Prop := fun x vs H Q => ∃ l xs y, x = .ref l ∧ vs = [y] ∧ H l = some (.lst xs) ∧ xs.length < sizeLine ∧ Q .non (upd H l (.lst (xs ++ [y])))
theorem mt_append : MtM X "list.append" rAppend := by
  intro pins s σ H x vs v us Q I rx rv h
  obtain ⟨l, xs, y, rfl, rfl, hH, hz, q⟩ := h
  cases rx
  obtain ⟨u, rfl, ru⟩ := rv.one
  obtain ⟨z, its, n, r, hl, e⟩ := I.lstM hH
  refine call_meets F.slot_list_append ⟨_, e, rfl⟩ F.entry_list_append (F.args_list_append_2 _ _) (PySem.list_append l its.toArray n u (by rw [List.size_toArray]; omega)) ⟨e, ?_⟩
  refine ⟨.non, _, I.lset (its' := its ++ [u]) hH e (by simp) (r.append (.cons ru .nil)) ?_, rfl, q⟩
  rw [List.length_append, List.length_singleton]
  omega

def rExtend : V → List V → Hp → VK → Prop := fun x vs H Q => ∃ l b xs zs, x = .ref l ∧ vs = [.ref b] ∧ H l = some (.lst xs) ∧ H b = some (.lst zs) ∧ xs.length + zs.length ≤ sizeLine ∧ Q .non (upd H l (.lst (xs ++ zs)))
theorem mt_extend : MtM X "list.extend" rExtend := by
  intro pins s σ H x vs v us Q I rx rv h
  obtain ⟨l, b, xs, zs, rfl, rfl, hH, hB, hz, q⟩ := h
  cases rx
  obtain ⟨u, rfl, ru⟩ := rv.one
  cases ru
  obtain ⟨z, its, n, r, hl, e⟩ := I.lstM hH
  obtain ⟨z2, its2, n2, r2, hl2, e2⟩ := I.lstM hB
  have hsz : its.toArray.size + its2.toArray.size ≤ sizeLine := by rw [List.size_toArray, List.size_toArray]; omega
  have hlong : ¬ (!its.toArray.isEmpty && Builtin.List.listTooLong (its.toArray.size + its2.toArray.size)) = true := by
    rw [notLongL hsz, Bool.and_false]
    exact Bool.false_ne_true
  refine call_meets F.slot_list_extend ⟨_, e, rfl⟩ F.entry_list_extend (F.args_list_extend_2 _ _)
    (AutoSeq1.list_extend_list_list_0 l its.toArray n b its2.toArray n2 hlong (by rw [List.size_toArray]; omega) (by omega)) ⟨e, e2, ?_⟩
  refine ⟨.non, _, I.lset (its' := its ++ its2) hH e (by simp) (r.append r2) ?_, rfl, q⟩
  rw [List.length_append]
  omega

/-! ### list + list, list += list, list * int -/
def rCat : R2 := fun x y H Q => ∃ l b xs zs, x = .ref l ∧ y = .ref b ∧ H l = some (.lst xs) ∧ H b = some (.lst zs) ∧ xs.length + zs.length ≤ sizeLine ∧ ∀ p, H p = none → Q (.ref p) (upd H p (.lst (xs ++ zs)))
theorem op_cat : OpR X (binaryOp .Add) rCat := by
  intro pins s σ H x y v u Q I rx ry h
  obtain ⟨l, b, xs, zs, rfl, rfl, hH, hB, hz, q⟩ := h
  cases rx
  cases ry
  obtain ⟨z, its, n, r, hl, e⟩ := I.lstM hH
  obtain ⟨z2, its2, n2, r2, hl2, e2⟩ := I.lstM hB
  refine PySem.P.add_list e e2 ?_ (by rw [List.size_toArray, List.size_toArray]; omega)
  have ea : its.toArray ++ its2.toArray = (its ++ its2).toArray := by simp
  rw [ea]
  exact ⟨.ref _, _, I.lnew (t' := s.toks) (r.append r2) (by rw [List.length_append]; omega), rfl, q _ I.fresh⟩
/-! ### del xs[i] -/
end

/-! ### xs[a:b] = ys -/
section
variable {prog : Program} {w : World} {A : Around} {E : Value → Shared → Prop} {s : Shared}
end

section
variable {X : Cx}
end
end L2

namespace Att
open PySem PySem.W PySem.Calls PyProof.Rows

/-! ### the script -/
theorem ints_of_wellAll {P : Params} {h : Heap} : ∀ (ns : List Int) (vs : List Value), WellAll P h vs (ns.map WData.int) → IntsAre vs ns := by
  intro ns
  induction ns with
  | nil =>
    intro vs w
    rw [List.map_nil] at w
    cases w
    exact .nil
  | cons n ns ih =>
    intro vs w
    rw [List.map_cons] at w
    cases w with
    | cons a b =>
      cases a
      exact .cons _ _ (ih _ b)

theorem script_of {l : OpenLaw} {n : Nat} (hn : l.most = some n) {P : Params} {h : Heap} {args : List WData} {vals : List Value}
    (hpre : l.row.toRowW.claim.pre args = true) (hwl : WellAll P h vals args) :
    ∃ a vs ns, vals = [Value.ref a] ∧ args = [WData.list (ns.map WData.int)] ∧ h.get? a = some { cls := .type "list", data := .seq vs.toArray } ∧ IntsAre vs ns ∧ ns.length ≤ n := by
  have hsh : WShape.hasAll [] args [.list .int] = true := (pre_splitW hpre).1
  have hc : l.pre.holds [] { args := args } = true := (pre_splitW hpre).2
  obtain ⟨d, r, rfl, h1, h2⟩ := hasAllW_cons hsh
  obtain rfl := hasAllW_nil h2
  obtain ⟨xs, rfl, h3⟩ := hasW_list h1
  obtain ⟨ns, rfl⟩ := items_int h3
  have hlen : ns.length ≤ n := by
    unfold OpenLaw.pre at hc
    have h4 : (WTm.not (.lt (.lit (.int (n : Int))) (.len (.arg 0)))).holds [] { args := [.list (ns.map .int)] } = true := by
      have h4 := (holds_andW hc).1
      rw [hn] at h4
      exact h4
    have h5 := condW_of h4 (w_not (w_lt w_lit (w_len_list (w_arg rfl))))
    rw [List.length_map] at h5
    refine Nat.le_of_not_lt fun q => ?_
    have q' : (n : Int) < ((ns.length : Nat) : Int) := by omega
    first
      | (rw [decide_eq_true q'] at h5; exact absurd h5 (by decide))
      | (simp at h5; omega)
  cases hwl with
  | cons w1 w2 =>
    cases w2
    cases w1 with
    | list ho hall => exact ⟨_, _, ns, rfl, rfl, ho, ints_of_wellAll ns _ hall, hlen⟩

theorem post_true (l : OpenLaw) (args : List WData) : l.row.toRowW.claim.post args (.bool true) args = true :=
  postW_of (r := l.row.toRowW) (X := (true == true))
    (show WShape.has [] (.bool true) .bool = true by first | rfl | decide | simp [WShape.has, WShape.arms, WShape.armsAll])
    (show (WTm.eq .res (.lit (.bool true))).value [] { args := args, res := some (.bool true), after := args } = some (.bool (true == true)) from w_eq_bool (w_res rfl) w_lit) rfl

/-! ### the attachment: holds_open's last premise (the goal 'hc' behind k_head) from a wpAny of the law's body -/
/-- the same from a codeAny of the CALL (for a layer whose function contracts speak of calls) -/
theorem attach_call {l : OpenLaw} {n : Nat} {q : Program} {loose : List Str} {XP : (Str → Option Value) → Heap → Prop} {YP : World → Heap → Prop} {d : DefRec}
    (hn : l.most = some n) (hdf : d.params.defaults = [])
    (call : ∀ (w : World) (s₀ s₁ : Shared) (mg mb : Str → Option Value) (fa : Addr) (o : Obj) (pm cd doc : Value) (a : Addr) (vs : List Value) (ns : List Int),
      Ground q loose [] XP w s₀ mg mb s₁.heap → YP w s₁.heap →
      s₁.heap.get? fa = some o → o.data = .func (docDef d.name d.params d.body d.scope pm cd doc) → s₁.heap.CodeRec cd d.name → mg d.name = some (.ref fa) →
      s₁.heap.get? a = some { cls := .type "list", data := .seq vs.toArray } → IntsAre vs ns → ns.length ≤ n → s₁.gens = #[] →
      codeAny (model l.prog w) callerA (.call (.ref fa) ⟨[.ref a], []⟩) (fun r s' => r = .ok (.ret (.bool true)) ∧ OldK s₁.heap s'.heap ∧ s'.os = s₁.os ∧ AllBare s'.gens) s₁) :
    WalkO q loose XP YP l.row.toRowW d [] (fun f vs => PySem.call f vs) := by
  intro w s₀ s₁ mg mb G Y fa o pm cd doc dV kV ho hd hcd hD hmg hg args vals as hpre hlay hrd hwl hlo
  obtain rfl : dV = .none := Dflts.none hD hdf
  obtain rfl : kV = .none := Dflts.noKw hD
  obtain ⟨a, vs, ns, rfl, rfl, hobj, hints, hlen⟩ := script_of hn hpre hwl
  refine enter_call (codeAny_mono (call w s₀ s₁ mg mb fa o pm cd doc a vs ns G Y ho (fd_plain hd) hcd hmg hobj hints hlen hg) fun r s' hq => ?_)
  obtain ⟨rfl, h2, h3, h4⟩ := hq
  exact ⟨.inl ⟨.bool true, .bool true, [], rfl, fun _ => rfl, .bool true, post_true l _, fun _ => ⟨List.Pairwise.nil, fun _ hm => (nomatch hm)⟩⟩, h2, h3, h4⟩

/-! ### rules over ANY heap (no ledger) from facts about the written part K: the library's own take a ledger (News) for what they write -/
section
variable {prog : Program} {w : World} {A : Around} {E : Value → Shared → Prop} {s : Shared} {K : Frag}

/-! the whole heap as the ledger: makes every rule that writes through a ledger a rule over any heap -/
end
end Att

namespace L2
open PySem PySem.Spec PyProof.Rows

theorem vals_ints : ∀ {vs : List Value} {ns : List Int}, IntsAre vs ns → Vals (ns.map V.int) vs
  | _, _, .nil => .nil
  | _, _, .cons n t h => .cons ⟨t, rfl⟩ (vals_ints h)

/-- nothing is tracked but the script, known to the object (or it is an object of the module) -/
def Only (H : Hp) : Prop := ∀ b, H b = none ∨ ∃ o xs, H b = some (.frz o (.lst xs))

/-- THE HEAD: the law's promise, at the heap behind the top. F, the promise of the law's def, may use that base is part of the heap (so K.In base, base.Ns mainGlobals mg stand in Mod) -/
theorem law_call {P : Program} {w : World} {K : PySem.W.Frag} {mg mb : Str → Option Value} {CX : CXT} {k : Nat} {fa a : Addr} {fd : FuncData} {x : Str} {sp : Sp} {s₁ : Shared} {vs : List Value} {ns : List Int}
    (KX : K.In s₁.heap) (hns : s₁.heap.Ns mainGlobals mg) (hb : s₁.heap.Ns builtinsNs mb) (hbb : ∀ x : Str, x ≠ "__name__" → mb x = bootBuiltins x) (hlim : s₁.heap.NoLimit) (hg : s₁.gens = #[])
    (ha : s₁.heap.get? a = some { cls := .type "list", data := .seq vs.toArray }) (hi : IntsAre vs ns) (hl : ns.length ≤ sizeLine) (hr : Room k callerA)
    (F : ∀ base : Heap, K.In base → base.Ns mainGlobals mg → FnOk P w K mg base CX k fa fd [x] sp) (hbind : ∀ (s : Shared) (u : Value), BindsTo s fd ⟨[u], []⟩ [(x, u)])
    (hsp : ∀ H : Hp, Only H → SqL K H a (ns.map V.int) → sp [.ref a] H (fun v _ => v = .bl true) fun _ _ _ => False)
    (hCX : ∀ H e s', CX [] H s₁ (fun _ _ _ => False) e s' → False) :
    codeAny (model P w) callerA (.call (.ref fa) ⟨[.ref a], []⟩) (fun r s' => r = .ok (.ret (.bool true)) ∧ OldK s₁.heap s'.heap ∧ s'.os = s₁.os ∧ AllBare s'.gens) s₁ := by
  have rv := vals_ints hi
  have lenV := hi.length
  -- from an abstract heap in which nothing but the script may be tracked
  have core : ∀ H : Hp, Only H → SqL K H a (ns.map V.int) → HOk P w H s₁.heap → (∀ b, H b ≠ none → b = a) → (H a ≠ none → K.lookup a = none) →
      codeAny (model P w) callerA (.call (.ref fa) ⟨[.ref a], []⟩) (fun r s' => r = .ok (.ret (.bool true)) ∧ OldK s₁.heap s'.heap ∧ s'.os = s₁.os ∧ AllBare s'.gens) s₁ := by
    intro H hO hS hok hA hK
    have base_of : ∀ {b : Addr} {o : Obj}, s₁.heap.get? b = some o → H b = none → (hidT s₁.heap H).get? b = some o := fun e n => hidT_get e n
    have noA : ∀ {b : Addr} {o : Obj} {es : Array DictEntry} {ep : Nat}, s₁.heap.get? b = some o → o.data = .dict es ep → H b = none := fun {b o es ep} e d => by
      cases q : H b with
      | none => rfl
      | some u =>
        have e' : b = a := hA b (by rw [q]; simp)
        subst e'
        rw [ha] at e; cases e
        have d' : Data.seq vs.toArray _ = Data.dict es ep := d
        cases d'
    have nsK : ∀ {b : Addr} {m : Str → Option Value}, s₁.heap.Ns b m → (hidT s₁.heap H).Ns b m := fun {b m} ⟨o, es, ep, e, d, r⟩ => ⟨o, es, ep, base_of e (noA e d), d, r⟩
    have hKb : K.In (hidT s₁.heap H) := fun b o e => base_of (KX b o e) (by
      cases q : H b with
      | none => rfl
      | some u =>
        have e' : b = a := hA b (by rw [q]; simp)
        subst e'
        rw [hK (by rw [q]; simp)] at e; cases e)
    have hM : Mod K mg (hidT s₁.heap H) := ⟨hKb, nsK hns, ⟨mb, nsK hb, hbb⟩, let ⟨mc, h1, h2⟩ := hlim; ⟨mc, nsK h1, h2⟩⟩
    have e0 : Env0 P w K mg (hidT s₁.heap H) callerA [] s₁ H := ⟨rfl, hM, fun b o e => of_hidT e, Nat.le_of_eq (hidT_size _ _), trivial, fun b hb => absurd (show b ∈ ([] : List Addr) from hb) (by simp), hok, .of_eq hg⟩
    refine codeAny_mono ((F _ hKb (nsK hns)).run callerA [] s₁ H ⟨[.ref a], []⟩ [.ref a] [.ref a] _ _ hr e0 (hbind s₁ (.ref a)) (.cons rfl .nil) (hsp H hO hS)) fun r s' h => ?_
    cases r with
    | error e => exact (hCX H e s' h).elim
    | ok fl =>
      cases fl with
      | next => exact False.elim h
      | brk => exact False.elim h
      | cont => exact False.elim h
      | ret u =>
        obtain ⟨v, H', os, bare, un, hok', r', q⟩ := h
        have q' : v = .bl true := q
        subst q'
        obtain rfl : u = Value.bool true := r'
        refine ⟨rfl, OldK.of_keep fun b o e => ?_, os, bare⟩
        cases q : H b with
        | none => exact un.keep b o e q (by intro z; exact absurd (show b ∈ ([] : List Addr) from z) (by simp)) (by simp)
        | some u =>
          rcases hO b with z | ⟨ob, xs, z⟩
          · rw [q] at z; cases z
          · have z2 := un.frzs b ob _ z
            obtain ⟨e1, _⟩ := hok b _ z
            obtain ⟨e2, _⟩ := hok' b _ z2
            rw [e] at e1; cases e1
            exact e2
  cases hk : K.lookup a with
  | some o =>
    -- the script is one of the module's own objects
    have e := KX a o hk
    rw [ha] at e
    cases e
    refine core (fun _ => none) (fun _ => .inl rfl) (.inr ⟨_, vs.toArray, _, hk, rfl, rfl, rfl, by rw [List.size_toArray, lenV]; exact hl, by simpa using rv⟩) (fun b u z => by have z' : (none : Option HO) = some u := z; cases z') (fun b z => absurd rfl z) fun z => absurd rfl z
  | none =>
    refine core (fun b => if b = a then some (.frz { cls := .type "list", data := .seq vs.toArray } (.lst (ns.map V.int))) else none) (fun b => ?_) (.inl (.inr ⟨{ cls := .type "list", data := .seq vs.toArray }, if_pos rfl⟩)) (fun b u z => ?_) (fun b z => ?_) fun _ => hk
    · by_cases hb : b = a
      · exact .inr ⟨_, _, if_pos hb⟩
      · exact .inl (if_neg hb)
    · by_cases hb : b = a
      · have z' := (if_pos hb).symm.trans z
        cases z'
        subst hb
        exact ⟨ha, by rw [List.length_map]; exact hl, vs, _, rv, ha⟩
      · have z' := (if_neg hb).symm.trans z
        cases z'
    · by_cases hb : b = a
      · exact hb
      · exact absurd (if_neg hb) z
end L2

namespace L2
open PySem PySem.Spec PyProof.Rows

/-- the goal that k_head leaves (case hc), from the law's promise. F gives the function object fd (K's own) once, then the promise over every base -/
theorem walk_of {l : PySem.W.OpenLaw} {n k : Nat} {q : Program} {loose : List Str} {XP : (Str → Option Value) → Heap → Prop} {YP : World → Heap → Prop} {d : DefRec} {K : Params → PySem.W.Frag} {CX : World → CXT} {sp : World → Sp} {x : Str}
    (hn : l.most = some n) (hn2 : n ≤ sizeLine) (hdf : d.params.defaults = []) (hr : Room k callerA)
    (hY : ∀ (w : World) (h : Heap), YP w h → (K w.params).In h)
    (F : ∀ (w : World) (mg : Str → Option Value) (fa : Addr) (h : Heap), (K w.params).In h → h.Ns mainGlobals mg → mg d.name = some (.ref fa) →
      ∃ fd : FuncData, (∀ (s : Shared) (u : Value), BindsTo s fd ⟨[u], []⟩ [(x, u)]) ∧
        ∀ base : Heap, (K w.params).In base → base.Ns mainGlobals mg → FnOk l.prog w (K w.params) mg base (CX w) k fa fd [x] (sp w))
    (hsp : ∀ (w : World) (H : Hp) (a : Addr) (ns : List Int), ns.length ≤ n → Only H → SqL (K w.params) H a (ns.map V.int) → sp w [.ref a] H (fun v _ => v = .bl true) fun _ _ _ => False)
    (hCX : ∀ (w : World) (H : Hp) (s : Shared) (e : Value) (s' : Shared), CX w [] H s (fun _ _ _ => False) e s' → False) :
    PySem.W.WalkO q loose XP YP l.row.toRowW d [] (fun f vs => PySem.call f vs) := by
  refine Att.attach_call hn hdf fun w s₀ s₁ mg mb fa o pm cd doc a vs ns G Y ho hd hcd hmg hobj hints hlen hg => ?_
  have KX := hY w _ Y
  obtain ⟨fd, hb, hF⟩ := F w mg fa _ KX G.T.g hmg
  exact law_call KX G.T.g G.T.b G.T.builtins G.T.nolimit hg hobj hints (Nat.le_trans hlen hn2) hr hF hb (fun H hO hS => hsp w H a ns hlen hO hS) fun H e s' => hCX w H s₁ e s'
end L2

/- THE LAST THEOREM (shape; LID, My.* are yours):
   My.Adr: a structure of the addresses that your layer names (classes, functions); My.Txt K t: a structure (Prop) of the equations over K;
   My.txt_mk : {K} {implicit addresses ..} (e1 : nsIn K mainGlobals "law" = some (some (.ref f))) (e2 : K.lookup f = some ⟨oc, od, .func (fnOf "law" "law" params body scope dV kV doc pm an cdv ct), sl⟩) (e3 : codeIn K cdv "law" = true) .. : ∃ t, My.Txt K t

set_option maxRecDepth 100000 in
set_option maxHeartbeats 0 in
theorem PySem.Challenge.cw_LID_holds : PySem.Challenge.rw_LID.Holds := by
  w_on; o_law; k_head; (case hw => w_witness2)
  k_fill
  refine L2.walk_of (l := PySem.Challenge.rw_LID) (n := 63) (k := 40) (x := "script") (CX := fun w => ..) (sp := fun _ => My.sp_law) rfl (by decide) rfl ⟨rfl, by decide, by decide⟩ (fun w h Y => PySem.W.kIn_of Y) ?F ?S ?C
  case F =>
    intro w mg fa h KX G hmg
    have T : ∃ t, My.Txt (L2.KOf KX) t := by
      dsimp only [L2.KOf]                          -- K must stand as «<heap const> w.params» for k_is
      refine' My.txt_mk ?e1 ?e2 ?e3 ..
      (case e1 => PySem.W.k_is)                    -- in the order: a name -> its address -> its object -> its parts
      (case e2 => PySem.W.k_is)
      ..
    obtain ⟨t, T⟩ := T
    have e0 := hmg.symm.trans (PySem.W.mg_of KX G T.law)
    cases e0                                       -- fa is the law's own address
    exact ⟨_, fun s u => .of_eq rfl, fun base kb nb => My.law_fn T kb nb⟩     -- if «.of_eq rfl» comes too early: refine' ⟨_, ?b, fun base kb nb => My.law_fn T kb nb⟩; exact fun s u => .of_eq rfl
  case S => exact fun w H a ns hl hO hS => ..
  case C => exact ..
(the tactic k_is has no namespace: write k_is) -/

/-! SHORT WORDS over the layer: a def of the text, its body, what a loop and a test want. -/
namespace L2
open PySem PySem.Spec PyProof.Rows

/-! ### the text by places -/
def defArgs (s : Stmt) : Arguments := match s with
  | .FunctionDef _ a _ _ _ _ _ _ _ _ => a
  | _ => { posonlyargs := [], args := [], vararg := none, kwonlyargs := [], kw_defaults := [], kwarg := none, defaults := [] }
def defBody (s : Stmt) : List Stmt := match s with
  | .FunctionDef _ _ b _ _ _ _ _ _ _ => b
  | _ => []
def defScope (s : Stmt) : Scope := match s with
  | .FunctionDef _ _ _ _ _ _ sc _ _ _ => sc
  | _ => { kind := .function, names := [], isGenerator := false, isCoroutine := false }

/-! ### no exception leaves a def -/
abbrev CX0 : CXT := fun _ _ _ _ _ _ => False
abbrev E0 : XK := fun _ _ _ => False
theorem pass0 {X : Cx} : Passes CX0 X E0 := fun _ _ _ _ _ _ _ h => h.elim

/-! ### a def (or method) of the text as it stands behind the top -/
structure Fun (K : PySem.W.Frag) (x qual : Str) (st : Stmt) (f : Addr) (fd : FuncData) : Prop where
  ex : ∃ (oc : Value) (od : Option Addr) (kV doc pm : Value) (an : Option Addr) (cdv ct : Value) (osl : Array (Option Value)),
    fd = PySem.W.fnOf x qual (defArgs st) (defBody st) (defScope st) .none kV doc pm an cdv ct ∧ K.lookup f = some ⟨oc, od, .func fd, osl⟩ ∧ PySem.W.codeIn K cdv qual = true
  kp : PySem.W.keepIn K (.ref f) = true
section
variable {P : Program} {w : World} {K : PySem.W.Frag} {mg : Str → Option Value} {base : Heap}
/-- THE RULE for a def: its body as a term of rules, and the reading of that term -/
theorem Fun.ok {x qual : Str} {st : Stmt} {f : Addr} {fd : FuncData} {N ps : List Str} {k : Nat} {sp : Sp} (F : Fun K x qual st f fd) (S : FnScope N ps (defScope st)) (len : ∀ vs H Q E, sp vs H Q E → vs.length = ps.length)
    (hbody : ∀ (cdv : Value) (A : Around) (outer : List Env) (s : Shared) (H : Hp) (vs : List V) (Q : VK) (E : XK), Room k (A.deeper (envOfC qual (defScope st) s.heap.objs.size f cdv)) → sp vs H Q E →
      ∃ t, PSs (cxOf CX0 P w K mg base N qual (defScope st) f cdv A outer s H E).nox (defBody st) t ∧ t { nx := fun _ H' => Q .non H', rt := Q } (start N vs) H) : FnOk P w K mg base CX0 (k + 1) f fd ps sp := by
  obtain ⟨oc, od, kV, doc, pm, an, cdv, ct, osl, rfl, lk, hcd⟩ := F.ex
  refine fn_of lk hcd S len fun A outer s H vs Q E hr hsp => ?_
  obtain ⟨t, h, q⟩ := hbody cdv A outer s H vs Q E hr hsp
  exact ⟨t, h.nox, q⟩
/-- how its arguments bind (no defaults): h is «fun _ _ _ _ _ _ us hl => match us, hl with | [_, _], _ => rfl», one _ a parameter -/
theorem Fun.binds {x qual : Str} {st : Stmt} {f : Addr} {fd : FuncData} {ps : List Str} (F : Fun K x qual st f fd)
    (h : ∀ (kV doc pm : Value) (an : Option Addr) (cdv ct : Value) (us : List Value), us.length = ps.length → bindArgs (PySem.W.fnOf x qual (defArgs st) (defBody st) (defScope st) .none kV doc pm an cdv ct) ⟨us, []⟩ = pure (ps.zip us)) : Binds K fd ps [] := by
  obtain ⟨oc, od, kV, doc, pm, an, cdv, ct, osl, rfl, lk, hcd⟩ := F.ex
  exact .all (h kV doc pm an cdv ct)
theorem fun_mk {x qual : Str} {st : Stmt} {f : Addr} {oc : Value} {od an : Option Addr} {osl : Array (Option Value)} {kV doc pm cdv ct : Value} (l : K.lookup f = some ⟨oc, od, .func (PySem.W.fnOf x qual (defArgs st) (defBody st) (defScope st) .none kV doc pm an cdv ct), osl⟩)
    (c : PySem.W.codeIn K cdv qual = true) (k : PySem.W.keepIn K (.ref f) = true) : Fun K x qual st f (PySem.W.fnOf x qual (defArgs st) (defBody st) (defScope st) .none kV doc pm an cdv ct) := ⟨⟨oc, od, kV, doc, pm, an, cdv, ct, osl, rfl, l, c⟩, k⟩
end
theorem small1000 {n : Nat} (h : n ≤ 1000) : n < sizeLine := Nat.lt_of_le_of_lt h (by decide)

/-! ### expressions in short: the name that stands in the i-th slot -/
section
variable {X : Cx}
end

/-! ### tests -/
theorem iteF {A B : Prop} (h : B) : if false = true then A else B := by
  rw [if_neg Bool.false_ne_true]
  exact h
theorem iteT {A B : Prop} (h : A) : if true = true then A else B := by
  rw [if_pos rfl]
  exact h
theorem ite2 {c A B : Prop} [Decidable c] (h1 : c → A) (h2 : ¬ c → B) : if c then A else B := by
  by_cases h : c
  · rw [if_pos h]
    exact h1 h
  · rw [if_neg h]
    exact h2 h
/-! ### heaps -/
/-- all that was tracked is as it was -/
def Same (H H' : Hp) : Prop := ∀ b o, H b = some o → H' b = some o
theorem Same.refl (H : Hp) : Same H H := fun _ _ h => h
theorem Same.trans {H H1 H2 : Hp} (a : Same H H1) (b : Same H1 H2) : Same H H2 := fun c o h => b c o (a c o h)
theorem Same.free {H H' : Hp} (e : Same H H') {l : Addr} (h : H' l = Option.none) : H l = Option.none := by
  cases q : H l with
  | none => rfl
  | some o =>
    rw [e l o q] at h
    cases h
theorem Same.seq {K : PySem.W.Frag} {H H' : Hp} {a : Addr} {xs : List V} (e : Same H H') (h : SqL K H a xs) : SqL K H' a xs := by
  rcases h with (h | ⟨o, h⟩) | h
  · exact .inl (.inl (e _ _ h))
  · exact .inl (.inr ⟨o, e _ _ h⟩)
  · exact .inr h

end L2

set_option maxHeartbeats 4000000
namespace Wr
open PySem PySem.W PyProof.Rows

section
variable {cmp : Nat → Nat → (Bool → Shared → Prop) → Shared → Prop} {key : Nat → Int} {n : Nat} {s : Shared}
end
end Wr

set_option maxHeartbeats 4000000
namespace L2
open PySem PySem.Spec PyProof.Rows

/-! ### another place of the stack -/
abbrev atA (X : Cx) (A : Around) : Cx := { X with A := A }
section
variable {X : Cx} {pins : List (Addr × Obj)} {σ : St} {H : Hp} {s : Shared} {A : Around}
end

/-! ### keys that are tuples of ints -/
def lexI : List Int → List Int → Bool
  | [], [] => false
  | [], _ :: _ => true
  | _ :: _, [] => false
  | a :: x, b :: y => if a = b then lexI x y else decide (a < b)
section
variable {prog : Program} {w : World} {A : Around} {E : Value → Shared → Prop} {s : Shared}
end
end L2

set_option maxHeartbeats 4000000
namespace L2
open PySem PySem.Spec PyProof.Rows

section
variable {prog : Program} {w : World} {A : Around} {E : Value → Shared → Prop} {s : Shared}
end

section
variable {X : Cx} {pins : List (Addr × Obj)} {σ : St} {H : Hp} {s : Shared} {E : Value → Shared → Prop}
theorem FpOk.of {b : Addr} {H' : Hp} (h : FpOk X pins H b) (n : H' b = none) : FpOk X pins H' b := ⟨n, h.2⟩
theorem Same.upd {H' : Hp} {a : Addr} {o : HO} (h : Same H H') (n : H a = none) : Same H (upd H' a o) := fun b u e => by rw [upd_ne (ne_of_none e n)]; exact h b u e
end
end L2

set_option maxHeartbeats 4000000
namespace L2
open PySem PySem.Spec PyProof.Rows

section
variable {X : Cx} {pins : List (Addr × Obj)} {σ : St} {H : Hp} {s : Shared} {E : Value → Shared → Prop} {A : Around}
end
end L2

set_option maxHeartbeats 4000000
namespace L2
open PySem PySem.Spec PyProof.Rows

section
variable {X : Cx} {pins : List (Addr × Obj)} {σ : St} {H : Hp} {s : Shared} {E : Value → Shared → Prop} {A : Around}
end
end L2

set_option maxHeartbeats 4000000
namespace L2
open PySem PySem.Spec PyProof.Rows

/-! ### whole data: what a value is, down to its leaves -/
mutual
inductive Den (K : PySem.W.Frag) (H : Hp) : V → PyData → Prop
  | non : Den K H .non .none
  | bl (b : Bool) : Den K H (.bl b) (.bool b)
  | int (i : Int) : Den K H (.int i) (.int i)
  | str (x : Str) : Den K H (.str x) (.str x)
  | lst {a : Addr} {xs : List V} {ds : List PyData} : SqL K H a xs → DenAll K H xs ds → Den K H (.ref a) (.list ds)
  | tup {a : Addr} {xs : List V} {ds : List PyData} : SqT K H a xs → DenAll K H xs ds → Den K H (.ref a) (.tuple ds)
inductive DenAll (K : PySem.W.Frag) (H : Hp) : List V → List PyData → Prop
  | nil : DenAll K H [] []
  | cons {x : V} {d : PyData} {xs : List V} {ds : List PyData} : Den K H x d → DenAll K H xs ds → DenAll K H (x :: xs) (d :: ds)
end
section
variable {X : Cx} {pins : List (Addr × Obj)} {σ : St} {H H' : Hp} {s : Shared}
mutual
theorem den_reads (I : Inv X pins σ H s) : ∀ {v : V} {d : PyData} {u : Value}, Den X.K H v d → RelV v u → ∃ as, Reads s.heap u d as
  | _, _, _, .non, r => by cases r; exact ⟨_, .none⟩
  | _, _, _, .bl b, r => by cases r; exact ⟨_, .bool b⟩
  | _, _, _, .int i, r => by obtain ⟨t, rfl⟩ := r; exact ⟨_, .int i t⟩
  | _, _, _, .str x, r => by obtain ⟨t, rfl⟩ := r; exact ⟨_, .str x t⟩
  | _, _, _, .lst hq ha, r => by
    cases r
    obtain ⟨its, rv, ⟨o, n, e, c, dd, da⟩, _⟩ := I.list hq
    obtain ⟨as, q⟩ := dens_read I ha rv
    exact ⟨_, .list e c da (by simpa using q)⟩
  | _, _, _, .tup hq ha, r => by
    cases r
    obtain ⟨its, rv, ⟨o, e, c, n, da⟩, _⟩ := I.tuple hq
    obtain ⟨as, q⟩ := dens_read I ha rv
    exact ⟨_, .tuple e c da (by simpa using q)⟩
theorem dens_read (I : Inv X pins σ H s) : ∀ {vs : List V} {ds : List PyData} {us : List Value}, DenAll X.K H vs ds → Vals vs us → ∃ as, ReadsAll s.heap us ds as
  | _, _, _, .nil, .nil => ⟨_, .nil⟩
  | _, _, _, .cons d t, .cons r q => by
    obtain ⟨as, h1⟩ := den_reads I d r
    obtain ⟨bs, h2⟩ := dens_read I t q
    exact ⟨_, .cons h1 h2⟩
end
def rEqD (K : PySem.W.Frag) : R2 := fun x y H Q => ∃ d e, Den K H x d ∧ Den K H y e ∧ SeqAt.shaped d = true ∧ SeqAt.shaped e = true ∧ Q (.bl (PyData.eqv d e)) H
theorem op_eqD (hu : X.A.units + 64 < cLine) : OpR X (compareOp .Eq) (rEqD X.K) := by
  intro pins s σ H x y v u Q I rx ry ⟨d, e, h1, h2, s1, s2, q⟩
  obtain ⟨as, r1⟩ := den_reads I h1 rx
  obtain ⟨bs, r2⟩ := den_reads I h2 ry
  exact eq_dataH r1 r2 s1 s2 hu ⟨.bl _, H, I, rfl, q⟩
/-! ### any(..), sum(..) of a list -/
/-! ### xs[::-1] -/
end
end L2

set_option maxHeartbeats 4000000
namespace L2
open PySem PySem.Spec PyProof.Rows

/-! ### a list comprehension of one clause -/
abbrev NoX : Value → Shared → Prop := fun _ _ => False
section
variable {prog : Program} {w : World} {A : Around} {R : Result → Shared → Prop} {s : Shared}
abbrev testsOf (ifs : List Expr) (env : Env) : Sem Bool := forIn ifs true fun c r => if r = true then do let ok ← isTrue c env (eval c env); pure (ForInStep.yield ok) else pure (ForInStep.yield r)
/-- the turns, where no exception leaves -/
theorem comp_turns {elt target iter : Expr} {ifs : List Expr} {scope : Scope} {pos : Pos} {it acc : Value} {env : Env} (I : Nat → Shared → Prop)
    (turn : ∀ n s, I n s → wpAny (model prog w) A (pyNext it) (fun r s1 => match r with
      | none => R (.ok .next) s1
      | some v => wpAny (model prog w) A (letOwnedTupleGo target it v) (fun _ s2 => wpAny (model prog w) A (assign target env v) (fun _ s3 => wpAny (model prog w) A (testsOf ifs env) (fun ok s4 =>
          if ok = true then wpAny (model prog w) A (eval elt env) (fun x s5 => wpAny (model prog w) A (call (.builtin "list.append") [acc, x]) (fun _ s6 => ∃ m, m < n ∧ I m s6) NoX s5) NoX s4
          else ∃ m, m < n ∧ I m s4) NoX s3) NoX s2) NoX s1) NoX s)
    (n : Nat) (h : I n s) : codeAny (model prog w) A (.compLoop (.ListComp elt [⟨target, iter, ifs, 0⟩] scope pos) 0 it acc env) R s := by
  refine codeAny_loop rfl I (fun n s hI => ?_) n h
  show wpAny _ A (Sem.onRaise (compTurn (.ListComp elt [⟨target, iter, ifs, 0⟩] scope pos) 0 it acc env) (fun x => do noteFrame x env; theTreesLotGoes x)) _ _ s
  refine wpAny_noted (wpAny_mono (E := NoX) ?_ (fun _ _ z => z) fun _ _ z => z.elim)
  rw [compTurn_list]
  refine wpAny_bind (wpAny_standAt (wpAny_bind (thn (turn n s hI) fun r s1 h1 => ?_)))
  cases r with
  | none => exact wpAny_pure h1
  | some v =>
    refine wpAny_bind (thn h1 fun _ s2 h2 => wpAny_bind (thn h2 fun _ s3 h3 => wpAny_bind (thn h3 fun ok s4 h4 => ?_)))
    cases ok with
    | false => exact wpAny_pure ⟨rfl, h4⟩
    | true => exact wpAny_bind (wpAny_bind (thn h4 fun x s5 h5 => wpAny_bind (thn h5 fun _ s6 h6 => wpAny_pure (wpAny_pure ⟨rfl, h6⟩))))
end

/-- the block's context -/
abbrev compCx (X : Cx) (pins : List (Addr × Obj)) (scope : Scope) (cl : List (Str × Addr)) (C : Addr) (Nc : List Str) (s3 : Shared) (H3 : Hp) (fp : List Addr) : Cx :=
  { X with N := Nc, s₀ := s3, H₀ := H3, env := compEnvC scope cl C X.env, outer := X.stack, ex := fp, fn := fun _ => false, pn := X.pn ++ pins, xe := NoX }
/-- the names that the block sees from around it: by the place there -/
def capt (js : List (Option Nat)) (σ : St) : St := js.map fun j => match j with | some j => (σ[j]?).join | none => none
structure CompScope (X : Cx) (scope : Scope) (cl : List (Str × Addr)) (Nc : List Str) (js : List (Option Nat)) : Prop where
  clos : closureFor scope X.env = pure cl
  cell : ∀ y ∈ scope.names, y.2 ≠ .cell
  kind : scope.kind = .function
  nms : ∀ y ∈ scope.names, y.2 = .local → scope.names.lookup y.1 = some .local
  sub : ∀ x c, cl.lookup x = some c → X.env.cells.lookup x = some c
  has : ∀ x, ((relabel scope X.env).names.lookup x = some .cell ∨ (relabel scope X.env).names.lookup x = some .free) → ∃ c, cl.lookup x = some c
  len : js.length = Nc.length
  cap : ∀ (i : Nat) (x : Str) (j : Nat), Nc[i]? = some x → js[i]? = some (some j) → X.N[j]? = some x ∧ (X.env.kindOf x = some .cell ∨ X.env.kindOf x = some .free) ∧ ((relabel scope X.env).names.lookup x = some .cell ∨ (relabel scope X.env).names.lookup x = some .free)
section
variable {X : Cx} {pins : List (Addr × Obj)} {σ : St} {H : Hp} {s : Shared} {scope : Scope} {cl : List (Str × Addr)} {Nc : List Str} {js : List (Option Nat)} {C : Addr} {fp : List Addr} {h1 : Heap} {tk : Nat} {m : Str → Option Value}
theorem inv_comp (S : CompScope X scope cl Nc js) (I : Inv X pins σ H s) (hf : ∀ b ∈ fp, FpOk X pins H b) (hfo : ∀ b ∈ fp, ∃ o, s.heap.get? b = some o) (hC : s.heap.objs.size ≤ C) (hn : h1.Ns C m) (k : ∀ b o, s.heap.get? b = some o → h1.get? b = some o) :
    Inv (compCx X pins scope cl C Nc s H fp) [] (capt js σ) H { s with heap := h1, toks := tk } := by
  have lt : ∀ {b : Addr} {o : Obj}, s.heap.get? b = some o → b ≠ C := fun e => Nat.ne_of_lt (Nat.lt_of_lt_of_le (Heap.lt_size e) hC)
  have hCn : H C = none := I.hok.fresh hC
  have hce : ∀ x c, cl.lookup x = some c → c ≠ C := fun x c e => by
    obtain ⟨v, o, ho, _⟩ := I.cell x c (S.sub x c e)
    exact lt ho
  refine ⟨⟨I.ok.mod, S.kind, I.ok.glob, I.ok.blt, hC, fun x y c e1 e2 => I.ok.inj x y c (S.sub x c e1) (S.sub y c e2), fun x hx => S.has x hx, (fun x c z => absurd z Bool.false_ne_true), (fun z => I.ok.hd z), I.ok.frames, .inl rfl, fun b hb => ?_, I.bs,
    Nat.le_trans I.ok.bsz I.sz, fun b o e hb => ?_, fun b hb hs => ?_, I.stack, I.stkFree⟩, rfl, I.bare, Un.kept k, ⟨m, hn, fun i x v e1 e2 e3 => ?_⟩, fun x c e => ?_, hCn, fun x c e => I.freeC x c (S.sub x c e), fun p hp => ?_, I.hok.kept k, ?_⟩
  · obtain ⟨o, ho⟩ := hfo b hb
    exact ⟨lt ho, fun x c e => (hf b hb).2.2.2.2.1 x c (S.sub x c e)⟩
  · rcases (hf b hb).2.2.2.1 with z | z
    · exact I.ok.noex b o e z
    · exact absurd (Nat.lt_of_lt_of_le (Heap.lt_size e) (Nat.le_trans I.ok.bsz z)) (Nat.lt_irrefl _)
  · rcases List.mem_cons.mp (I.stkSub b hs) with z | z
    · exact (hf b hb).2.1 z
    · exact (hf b hb).2.2.1 z
  · unfold capt at e2
    rw [List.getElem?_map] at e2
    cases ej : js[i]? with
    | none => rw [ej] at e2; cases e2
    | some oj =>
      rw [ej] at e2
      cases oj with
      | none => cases e2
      | some j =>
        have e2' : (σ[j]?).join = some v := Option.some.inj e2
        obtain ⟨c1, c2, c3⟩ := S.cap i x j e1 ej
        have e4 : σ[j]? = some (some v) := by
          cases q : σ[j]? with
          | none => rw [q] at e2'; cases e2'
          | some o => rw [q] at e2'; cases o with
            | none => cases e2'
            | some z => cases e2'; rfl
        obtain ⟨mo, hmo, hl⟩ := I.loc
        have vis : Vis X.env.scope x := by rcases c2 with z | z; exact .inr (.inl z); exact .inr (.inr z)
        obtain ⟨u, r, l⟩ := hl j x v c1 e4 vis
        refine ⟨u, r, .inr ⟨c3, ?_⟩⟩
        rcases l with ⟨z, _⟩ | ⟨_, c, hc, hcell⟩
        · rcases c2 with y | y <;> rw [z] at y <;> cases y
        · obtain ⟨c', hc'⟩ := S.has x c3
          have := S.sub x c' hc'
          rw [hc] at this; cases this
          obtain ⟨o, ho, hd⟩ := hcell
          exact ⟨c, hc', o, k c o ho, hd⟩
  · obtain ⟨v, o, ho, hd⟩ := I.cell x c (S.sub x c e)
    exact ⟨v, o, k c o ho, hd⟩
  · have hp' : p ∈ X.pn ++ pins := by simpa using hp
    obtain ⟨e, n, ne, nf, d⟩ := I.pin p hp'
    refine ⟨k _ _ e, n, lt e, fun z => ?_, d⟩
    rcases List.mem_cons.mp (I.stkSub p.1 z) with y | y
    · exact ne y
    · exact nf y
  · show (capt js σ).length = Nc.length
    unfold capt
    rw [List.length_map]
    exact S.len

/-- what the turns want: W by the turn and a measure -/
def CompW (J : It) (g : TG) (tt : TT) (te : TE) (D : Addr) (Q : VK) (σ : St) (H : Hp) : Prop :=
  ∃ W : Nat → Nat → St → Hp → Prop, (∃ m, W 0 m σ H) ∧ ∀ i m σ2 H2, W i m σ2 H2 →
    (J.stop i H2 ∧ Q (.ref D) H2) ∨ (J.go i H2 ∧ ∃ N : St → Hp → Prop, (∀ σ' H', N σ' H' → ∃ m', m' < m ∧ W (i + 1) m' σ' H') ∧
      ∀ x H', J.yld i H2 x H' → g x σ2 H' fun σ3 H3 => tt σ3 H3 fun b H4 => if b = true then te σ3 H4 fun v H5 => ∃ ys, H5 D = some (.lst ys) ∧ ys.length < sizeLine ∧ N σ3 (upd H5 D (.lst (ys ++ [v]))) else N σ3 H4)
/-- the tests of a clause -/
def PIf (X : Cx) (ifs : List Expr) (t : TT) : Prop :=
  ∀ (pins : List (Addr × Obj)) (s : Shared) (σ : St) (H : Hp) (Q : Bool → Hp → Prop), Inv X pins σ H s → t σ H Q → wpAny (model X.prog X.w) X.A (testsOf ifs X.env) (TP X pins σ Q) X.xe s
def tYes : TT := fun _ H Q => Q true H
theorem pif_nil : PIf X [] tYes := fun _ _ _ H _ I h => wpAny_tests_nil ⟨H, I, h⟩
theorem pif_one {c : Expr} {t : TT} (h : PT X c t) : PIf X [c] t := fun pins s σ H Q I hw => wpAny_tests_one (h pins s σ H Q I hw)

theorem comp_run {elt target iter : Expr} {ifs : List Expr} {pos : Pos} {g : TG} {tt : TT} {te : TE} {Q : VK} {J : It} {it D : Addr} {tn : Nat → Heap → Prop} {R : Result → Shared → Prop} {s4 : Shared} {σc : St} {Hc : Hp}
    (hc : X.calm = true) (T : Turn X.prog X.w X.K target J fp it tn) (hf : ∀ b ∈ fp, FpOk X pins H b)
    (hg : PG (compCx X pins scope cl C Nc s H fp) target g) (ht : PIf (compCx X pins scope cl C Nc s H fp) ifs tt) (he : PE (compCx X pins scope cl C Nc s H fp) elt te)
    (I : Inv (compCx X pins scope cl C Nc s H fp) [] σc Hc s4) (st : tn 0 s4.heap) (fr : ∀ b ∈ fp, Hc b = none) (hw : CompW J g tt te D Q σc Hc)
    (h : ∀ s' σ' H', Inv (compCx X pins scope cl C Nc s H fp) [] σ' H' s' → (∀ b ∈ fp, H' b = none) → Q (.ref D) H' → R (.ok .next) s') :
    codeAny (model X.prog X.w) X.A (.compLoop (.ListComp elt [⟨target, iter, ifs, 0⟩] scope pos) 0 (.ref it) (.ref D) (compEnvC scope cl C X.env)) R s4 := by
  obtain ⟨W, ⟨m0, w0⟩, turn⟩ := hw
  have ok := I.ok
  -- what stays true of the iterator's objects
  have stat : ∀ {H' : Hp}, (∀ b ∈ fp, H' b = none) → ∀ b ∈ fp, FpOk (compCx X pins scope cl C Nc s H fp) [] H' b := fun hn b hb =>
    ⟨hn b hb, (ok.exf b hb).1, ok.exfs b hb, .inl hb, (ok.exf b hb).2, fun p hp => (hf b hb).2.2.2.2.2 p (by simpa using hp)⟩
  refine comp_turns (fun n s' => ∃ i σ' H', Inv (compCx X pins scope cl C Nc s H fp) [] σ' H' s' ∧ tn i s'.heap ∧ (∀ b ∈ fp, H' b = none) ∧ W i n σ' H') ?_ m0 ⟨0, σc, Hc, I, st, fr, w0⟩
  rintro n s5 ⟨i, σ5, H5, I5, st5, fr5, w5⟩
  rcases turn i n σ5 H5 w5 with ⟨stop, qn⟩ | ⟨go, N, hN, step⟩
  · refine thn (T.done (compCx X pins scope cl C Nc s H fp) rfl rfl rfl hc i [] s5 σ5 H5 NoX I5 (stat fr5) st5 stop) fun r s6 ⟨hr, I6⟩ => ?_
    subst hr
    exact h s6 σ5 H5 I6 fr5 qn
  · refine thn (T.item (compCx X pins scope cl C Nc s H fp) rfl rfl rfl hc i [] s5 σ5 H5 NoX I5 (stat fr5) st5 go) fun r s6 ⟨u, hr, h6⟩ => ?_
    subst hr
    refine thn h6 fun _ s7 ⟨x, H7, I7, r7, y7, st7, fr7⟩ => ?_
    have I7' := I7.pinned (stat fr7) (T.obj _ _ st7)
    refine thn (hg _ s7 σ5 H7 x u _ I7' r7 (step x H7 y7)) fun _ s8 ⟨σ8, H8, I8, q8⟩ => ?_
    refine thn (ht _ s8 σ8 H8 _ I8 q8) fun b s9 ⟨H9, I9, q9⟩ => ?_
    have again : ∀ {σ' : St} {H' : Hp} {s' : Shared}, Inv (compCx X pins scope cl C Nc s H fp) ([] ++ pinsAt fp s7.heap) σ' H' s' → N σ' H' → ∃ m, m < n ∧ ∃ i σ' H', Inv (compCx X pins scope cl C Nc s H fp) [] σ' H' s' ∧ tn i s'.heap ∧ (∀ b ∈ fp, H' b = none) ∧ W i m σ' H' := fun {σ' H' s'} J' n' => by
      obtain ⟨m', hm, w'⟩ := hN σ' H' n'
      have P : ∀ b ∈ fp, ∀ o, s7.heap.get? b = some o → s'.heap.get? b = some o ∧ H' b = none := fun b hb o e =>
        have q := J'.pin (b, o) (List.mem_append_right _ (List.mem_append_right _ (mem_pinsAt hb e)))
        ⟨q.1, q.2.1⟩
      refine ⟨m', hm, i + 1, σ', H', J'.unpinned, T.keep _ _ _ st7 fun b hb o e => (P b hb o e).1, fun b hb => ?_, w'⟩
      obtain ⟨o, e, _⟩ := T.obj _ _ st7 b hb
      exact (P b hb o e).2
    cases b with
    | false =>
      rw [if_neg (by decide)]
      exact again I9 q9
    | true =>
      rw [if_pos rfl]
      refine thn (he _ s9 σ8 H9 _ I9 q9) fun v s10 ⟨y, H10, I10, r10, ys, hD, hz, n10⟩ => ?_
      refine thn (mt_append _ s10 σ8 H10 (.ref D) [y] (.ref D) [v] (fun _ H11 => N σ8 H11) I10 rfl (.cons r10 .nil) ⟨D, ys, y, rfl, rfl, hD, hz, n10⟩) fun _ s11 ⟨_, H11, I11, _, n11⟩ => ?_
      exact again I11 n11
end
end L2

set_option maxHeartbeats 4000000
namespace L2
open PySem PySem.Spec PyProof.Rows

def tComp (js : List (Option Nat)) (wi : TI) (g : TG) (tt : TT) (te : TE) : TE := fun σ H Q => wi σ H fun J H1 => ∀ D, H1 D = none → CompW J g tt te D Q (capt js σ) (upd H1 D (.lst []))
/-- the block's own judgements, wherever it is laid -/
def Inner (X : Cx) (scope : Scope) (cl : List (Str × Addr)) (Nc : List Str) (target elt : Expr) (ifs : List Expr) (g : TG) (tt : TT) (te : TE) : Prop :=
  ∀ (pins : List (Addr × Obj)) (C : Addr) (s3 : Shared) (H3 : Hp) (fp : List Addr), PG (compCx X pins scope cl C Nc s3 H3 fp) target g ∧ PIf (compCx X pins scope cl C Nc s3 H3 fp) ifs tt ∧ PE (compCx X pins scope cl C Nc s3 H3 fp) elt te
section
variable {X : Cx} {pins : List (Addr × Obj)} {σ : St} {H : Hp} {s : Shared} {scope : Scope} {cl : List (Str × Addr)} {Nc : List Str} {js : List (Option Nat)} {target elt iter : Expr} {ifs : List Expr} {pos : Pos} {wi : TI} {g : TG} {tt : TT} {te : TE}
theorem comp_block {Q : VK} {J : It} {it : Addr} {fp : List Addr} {tn : Nat → Heap → Prop} {RR : Value → Addr → Result → Shared → Prop} {E : Value → Shared → Prop} (hc : X.calm = true) (S : CompScope X scope cl Nc js) (B : Inner X scope cl Nc target elt ifs g tt te)
    (I : Inv X pins σ H s) (T : Turn X.prog X.w X.K target J fp it tn) (st : tn 0 s.heap) (hf : ∀ b ∈ fp, FpOk X pins H b) (hw : ∀ D, H D = none → CompW J g tt te D Q (capt js σ) (upd H D (.lst [])))
    (h : ∀ D C s' H' m, Inv X pins σ H' s' → s'.heap.Ns C m → FpOk X pins H' C → Q (.ref D) H' → RR (.ref D) C (.ok .next) s') :
    wpAny (model X.prog X.w) X.A (newList []) (fun acc s3 => wpAny (model X.prog X.w) X.A (newFunctionEnv scope X.env.globals cl [] X.env.qual none .none (some X.env)) (fun cenv s4 =>
      codeAny (model X.prog X.w) X.A (.compStart (.ListComp elt [⟨target, iter, ifs, 0⟩] scope pos) 0 (.ref it) acc { cenv with scope := relabel scope X.env }) (RR acc cenv.locals) s4) E s3) E s := by
  have hD : H s.heap.objs.size = none := I.fresh
  have I3 : Inv X pins σ (upd H s.heap.objs.size (.lst [])) { s with heap := s.heap.push { cls := .type "list", data := .seq ([] : List Value).toArray } } := I.lnew (t' := s.toks) (its := []) (ys := []) .nil (Nat.zero_le _)
  refine wpAny_newList (wpAny_newFunctionEnv S.cell (fun y hy => by cases hy) (fun h1 hn hsb => ?_) S.kind) (Nat.zero_le _)
  generalize hs3 : ({ s with heap := s.heap.push { cls := .type "list", data := .seq ([] : List Value).toArray } } : Shared) = s3 at I3
  have hn' : h1.Ns s3.heap.objs.size (fun x => ([] : List (Str × Value)).reverse.lookup x) := by rw [← hs3]; exact hn
  have hsb' : Heap.SameBut s3.heap.objs.size (s3.heap.push { cls := .type "dict", data := .dict #[] }) h1 := by rw [← hs3]; exact hsb
  have kp : ∀ b o, s3.heap.get? b = some o → h1.get? b = some o := fun b o e => (hsb'.2 b (Nat.ne_of_lt (Heap.lt_size e))).trans (Heap.get?_push_of_some _ e)
  have fpo : ∀ b ∈ fp, ∃ o, s.heap.get? b = some o := fun b hb => let ⟨o, e, _⟩ := T.obj 0 _ st b hb; ⟨o, e⟩
  have k2 : ∀ b o, s.heap.get? b = some o → s3.heap.get? b = some o := fun b o e => by rw [← hs3]; exact Heap.get?_push_of_some _ e
  have hf3 : ∀ b ∈ fp, FpOk X pins (upd H s.heap.objs.size (.lst [])) b := fun b hb => by
    refine FpOk.of (hf b hb) ?_
    obtain ⟨o, e⟩ := fpo b hb
    rw [upd_ne (Nat.ne_of_lt (Heap.lt_size e))]
    exact (hf b hb).1
  have Ic : Inv (compCx X pins scope cl s3.heap.objs.size Nc s3 (upd H s.heap.objs.size (.lst [])) fp) [] (capt js σ) (upd H s.heap.objs.size (.lst [])) { s3 with heap := h1, toks := s3.toks + 0 } :=
    inv_comp S I3 hf3 (fun b hb => let ⟨o, e⟩ := fpo b hb; ⟨o, k2 b o e⟩) (Nat.le_refl _) hn' kp
  have st4 : tn 0 h1 := T.keep 0 _ _ st fun b hb o e => kp b o (k2 b o e)
  obtain ⟨b1, b2, b3⟩ := B pins s3.heap.objs.size s3 (upd H s.heap.objs.size (.lst [])) fp
  have loop : codeAny (model X.prog X.w) X.A (.compLoop (.ListComp elt [⟨target, iter, ifs, 0⟩] scope pos) 0 (.ref it) (.ref s.heap.objs.size) (compEnvC scope cl s3.heap.objs.size X.env)) (RR (.ref s.heap.objs.size) s3.heap.objs.size) { s3 with heap := h1, toks := s3.toks + 0 } := by
    refine comp_run hc T hf3 b1 b2 b3 Ic st4 (fun b hb => (hf3 b hb).1) (hw _ hD) fun s' σ' H' I' fr' q' => ?_
    obtain ⟨m, hm, _⟩ := I'.loc
    have Io : Inv X pins σ H' s' := I3.call' (ch := fp) I'.os I'.base I'.hok I'.bare fun b hb => ⟨(hf3 b hb).2.2.2.1, (hf3 b hb).2.1, (hf3 b hb).2.2.2.2.1, (hf3 b hb).2.2.2.2.2⟩
    exact h _ _ s' H' m Io hm (I3.fpOk (Nat.le_refl _) I'.free) q'
  exact codeAny_compStart_list loop (T.self X.A 0 _ _ _ (show tn 0 h1 from st4) loop)
theorem Inv.lettingGo {C : Addr} {h' : Heap} (I : Inv X pins σ H s) (f : FpOk X pins H C) (hs : Heap.SameBut C s.heap h') : Inv X pins σ H { s with heap := h' } :=
  I.turned (t' := s.toks) (fun b o hb e => (hs.2 b hb).trans e) f.1 f.2.1 f.2.2.2.1 f.2.2.2.2.1 f.2.2.2.2.2
/-- [e for t in it if c] -/
theorem pe_comp (hc : X.calm = true) (S : CompScope X scope cl Nc js) (hi : PI X target iter wi) (B : Inner X scope cl Nc target elt ifs g tt te) (hs : ∀ x, foldedSetIterable iter X.env x = pure x := by intro _; rfl) :
    PE X (.ListComp elt [⟨target, iter, ifs, 0⟩] scope pos) (tComp js wi g tt te) := by
  intro pins s σ H Q I h
  rw [eval_ListComp]
  refine wpAny_comprehension_free (use := none) rfl hs S.clos S.kind S.nms (thn (hi pins s σ H _ I h) fun xv s1 h1 => thn h1 fun itv s2 h2 => ?_)
  obtain ⟨it, fp, tn, J, H2, e, I2, T, st2, f2, hw⟩ := h2
  subst e
  refine comp_block hc S B I2 T st2 f2 hw fun D C s' H' m I' hm fC q => ?_
  exact ⟨m, hm, fun h' hs' => ⟨.ref D, H', I'.lettingGo fC hs', rfl, q⟩⟩
end

/-- the block's scope, by looks at its written names -/
theorem comp_mk {X : Cx} {scope : Scope} {cl : List (Str × Addr)} {Nc : List Str} {js : List (Option Nat)} (clos : closureFor scope X.env = pure cl) (kind : scope.kind = .function)
    (b1 : (scope.names.all fun y => decide (y.2 ≠ .cell)) = true) (b2 : (scope.names.all fun y => decide (y.2 = .local → scope.names.lookup y.1 = some .local)) = true)
    (sub : ∀ x c, (x, c) ∈ cl → X.env.cells.lookup x = some c) (b3 : ((relabel scope X.env).names.all fun y => !(y.2 == .cell || y.2 == .free) || (cl.lookup y.1).isSome) = true) (len : js.length = Nc.length)
    (b4 : ((Nc.zip js).all fun y => match y.2 with
      | none => true
      | some j => decide (X.N[j]? = some y.1) && decide (X.env.kindOf y.1 = some .cell ∨ X.env.kindOf y.1 = some .free) && decide ((relabel scope X.env).names.lookup y.1 = some .cell ∨ (relabel scope X.env).names.lookup y.1 = some .free)) = true) : CompScope X scope cl Nc js where
  clos := clos
  cell := fun y hy => of_decide_eq_true (List.all_eq_true.mp b1 y hy)
  kind := kind
  nms := fun y hy => of_decide_eq_true (List.all_eq_true.mp b2 y hy)
  sub := fun x c h => sub x c (PySem.mem_of_lookup h)
  has := fun x hx => by
    have go : ∀ k : NameKind, (k == .cell || k == .free) = true → (relabel scope X.env).names.lookup x = some k → ∃ c, cl.lookup x = some c := fun k hk e => by
      have := List.all_eq_true.mp b3 (x, k) (PySem.mem_of_lookup e)
      dsimp only at this
      rw [hk] at this
      exact Option.isSome_iff_exists.mp (by simpa using this)
    rcases hx with z | z
    · exact go .cell rfl z
    · exact go .free rfl z
  len := len
  cap := fun i x j h1 h2 => by
    have hm : (x, some j) ∈ Nc.zip js := by
      have : (Nc.zip js)[i]? = some (x, some j) := by rw [List.getElem?_zip_eq_some]; exact ⟨h1, h2⟩
      exact List.mem_of_getElem? this
    have := List.all_eq_true.mp b4 _ hm
    dsimp only at this
    rw [Bool.and_eq_true, Bool.and_eq_true] at this
    exact ⟨of_decide_eq_true this.1.1, of_decide_eq_true this.1.2, of_decide_eq_true this.2⟩

/-! ### the forms one uses -/
section
variable {g : TG} {tt : TT} {te : TE} {Q : VK} {σ : St} {H : Hp} {D : Addr}
theorem comp_list {K : PySem.W.Frag} {a : Addr} {xs : List V} (Pv : Nat → List V → St → Hp → Prop) (h0 : Pv 0 [] σ H) (hl : ∀ i ys σ H, i ≤ xs.length → Pv i ys σ H → SqL K H a xs)
    (hs : ∀ i x ys σ H, xs[i]? = some x → Pv i ys σ H → g x σ H fun σ2 H2 => tt σ2 H2 fun b H3 => if b = true then te σ2 H3 fun v H4 => ∃ zs, H4 D = some (.lst zs) ∧ zs.length < sizeLine ∧ ∃ ys', Pv (i + 1) ys' σ2 (upd H4 D (.lst (zs ++ [v]))) else ∃ ys', Pv (i + 1) ys' σ2 H3)
    (hd : ∀ ys σ H, Pv xs.length ys σ H → Q (.ref D) H) : CompW (Itl K a) g tt te D Q σ H := by
  refine ⟨fun i m σ H => m = xs.length - i ∧ i ≤ xs.length ∧ ∃ ys, Pv i ys σ H, ⟨xs.length, by simp, Nat.zero_le _, [], h0⟩, ?_⟩
  rintro i m σ H ⟨rfl, hi, ys, p⟩
  have q := hl i ys σ H hi p
  by_cases hlt : i < xs.length
  · refine .inr ⟨⟨xs, xs[i], q, by simp [hlt]⟩, fun σ' H' => ∃ ys', Pv (i + 1) ys' σ' H', fun σ' H' p' => ⟨xs.length - (i + 1), by omega, rfl, hlt, p'⟩, fun x H' y => ?_⟩
    obtain ⟨e, y⟩ := y
    subst e
    exact hs i x ys σ _ (y xs q) p
  · have e : i = xs.length := by omega
    subst e
    exact .inl ⟨⟨xs, q, Nat.le_refl _⟩, hd ys σ H p⟩
theorem comp_range {lo : Int} {n : Nat} (Pv : Nat → St → Hp → Prop) (h0 : Pv 0 σ H)
    (hs : ∀ i σ H, i < n → Pv i σ H → g (.int (lo + i)) σ H fun σ2 H2 => tt σ2 H2 fun b H3 => if b = true then te σ2 H3 fun v H4 => ∃ zs, H4 D = some (.lst zs) ∧ zs.length < sizeLine ∧ Pv (i + 1) σ2 (upd H4 D (.lst (zs ++ [v]))) else Pv (i + 1) σ2 H3)
    (hd : ∀ σ H, Pv n σ H → Q (.ref D) H) : CompW (Itr lo n) g tt te D Q σ H := by
  refine ⟨fun i m σ H => m = n - i ∧ i ≤ n ∧ Pv i σ H, ⟨n, by simp, Nat.zero_le _, h0⟩, ?_⟩
  rintro i m σ H ⟨rfl, hi, p⟩
  by_cases hlt : i < n
  · refine .inr ⟨hlt, fun σ' H' => Pv (i + 1) σ' H', fun σ' H' p' => ⟨n - (i + 1), by omega, rfl, hlt, p'⟩, fun x H' y => ?_⟩
    obtain ⟨e, y⟩ := y
    subst e y
    exact hs i σ _ hlt p
  · have e : i = n := by omega
    subst e
    exact .inl ⟨Nat.le_refl _, hd σ H p⟩
end
end L2

set_option maxHeartbeats 4000000
namespace Wr
/-! stretches and spans as plain data -/
abbrev Stt := Option Int × Option Int
def inS (m : Int) (s : Stt) : Bool := (match s.1 with | none => true | some a => decide (a ≤ m)) && (match s.2 with | none => true | some b => decide (m < b))
def inSpan (m : Int) (l : List Stt) : Bool := l.any (inS m)
def okS (s : Stt) : Prop := ∀ a b, s.1 = some a → s.2 = some b → a < b
/-- one ends ahead of the other's start -/
def Apart (p q : Stt) : Prop := ∃ b c, p.2 = some b ∧ q.1 = some c ∧ b < c
def Can (l : List Stt) : Prop := (∀ s ∈ l, okS s) ∧ l.Pairwise Apart

/-! ### tidied: sorted by the starts, then put together -/
/-! ### a grid and its pieces -/
/-- the piece in which a moment lies: how many of the grid are no later -/
def piece (g : List Int) (m : Int) : Nat := (g.filter fun x => decide (x ≤ m)).length
end Wr

set_option maxHeartbeats 4000000
namespace L2
open PySem PySem.Spec PyProof.Rows

/-! ### a def that keeps its promise, by its name -/
structure FnP (P : Program) (w : World) (K : PySem.W.Frag) (mg : Str → Option Value) (base : Heap) (k : Nat) (x : Str) (ps : List Str) (sp : Sp) : Prop where
  ex : ∃ (f : Addr) (fd : FuncData), FnOk P w K mg base CX0 k f fd ps sp ∧ mg x = some (.ref f) ∧ PySem.W.keepIn K (.ref f) = true ∧ Binds K fd ps []
section
variable {X : Cx} {k j : Nat} {x : Str} {ps : List Str} {sp : Sp} {p pos : Pos} {e : Expr} {es : List Expr} {t : TA}
theorem pe_fn (F : FnP X.prog X.w X.K X.mg X.base k x ps sp) (hr : Room j X.A) (ha : PA X (e :: es) t) (hj : k ≤ j := by decide) (hg : Gl X x := by rfl) (hdb : (x == ("__debug__" : Str)) = false := by decide)
    (he : starEach (e :: es) X.env = (false, eval e X.env) :: starEach es X.env := by rfl) (hpl : (backTo pos (starEach es X.env)).any (·.1) = false := by rfl) : PE X (.Call (.Name x p) (e :: es) [] pos) (tCall sp [] E0 t) := by
  obtain ⟨f, fd, F, hm, hk, hb⟩ := F.ex
  exact pe_call F (hr.mono hj) hg hm hk hb .nil pass0 ha hdb he hpl
/-- isinstance(x, T), T a built-in type -/
def rIsI (K : PySem.W.Frag) : List V → Hp → VK → Prop := fun xs H Q => ∃ y T t b, xs = [y, .ty T] ∧ TyOf K H y t ∧ PySem.W.kitOne K t (.type T) = some b ∧ Q (.bl b) H
theorem call_isI : CallR X (.builtin "isinstance") (rIsI X.K) := by
  intro pins s σ H xs us Q I r ⟨y, T, t, b, e, ty, ek, q⟩
  subst e
  obtain ⟨u, w', rfl, r1, r2⟩ := vals2 r
  cases r2
  exact isinst_ok I r1 ty ek fun tk => ⟨.bl b, H, I.tok tk, rfl, q⟩
theorem kit_same (K : PySem.W.Frag) (T : String) : PySem.W.kitOne K (.type T) (.type T) = some true := by
  unfold PySem.W.kitOne
  rw [if_pos (by simp)]
end
/-! ### texts of numbers: what a span looks like -/
open Wr in
/-- a start, an end -/
def vO : Option Int → V
  | none => .non
  | some i => .int i
/-- the tuples of the stretches -/
def StAt (H : Hp) (v : V) (s : Wr.Stt) : Prop := ∃ t, v = .ref t ∧ H t = some (.tup [vO s.1, vO s.2])
abbrev StsAt (H : Hp) : List V → List Wr.Stt → Prop := Paired (StAt H)
def SpanAt (H : Hp) (a : Addr) (ss : List Wr.Stt) : Prop := ∃ xs, H a = some (.lst xs) ∧ StsAt H xs ss
section
variable {K : PySem.W.Frag} {H H' : Hp}
theorem paired_at {α β : Type} {R : α → β → Prop} : ∀ {xs : List α} {ss : List β} {i : Nat} {x : α}, Paired R xs ss → xs[i]? = some x → ∃ s, ss[i]? = some s ∧ R x s
  | _, _, _, _, .nil, e => by simp at e
  | _, _, 0, _, .cons r _, e => by simp at e; subst e; exact ⟨_, rfl, r⟩
  | _, _, i + 1, x, .cons _ t, e => by
    obtain ⟨s, h1, h2⟩ := paired_at (i := i) (x := x) t (by simpa using e)
    exact ⟨s, by simpa using h1, h2⟩
end
end L2

set_option maxHeartbeats 4000000
namespace L2
open PySem PySem.Spec PyProof.Rows
/-! ### the judgements as closed things: Lean does not look into them while a term of rules is read -/
inductive Pln : Expr → Prop
  | name (x p) : Pln (.Name x p)
  | const (c j p) : Pln (.Constant c j p)
  | bin (a o b p) : Pln (.BinOp a o b p)
  | un (o a p) : Pln (.UnaryOp o a p)
  | bool (o l p) : Pln (.BoolOp o l p)
  | cmp (a o l p) : Pln (.Compare a o l p)
  | call (f a k p) : Pln (.Call f a k p)
  | sub (a b p) : Pln (.Subscript a b p)
  | attr (a b p) : Pln (.Attribute a b p)
  | tup (l k p) : Pln (.Tuple l k p)
  | lst (l p) : Pln (.List l p)
  | ife (c a b p) : Pln (.IfExp c a b p)
theorem Pln.star {e : Expr} (h : Pln e) (es : List Expr) (env : Env) : starEach (e :: es) env = (false, eval e env) :: starEach es env := by cases h <;> rfl
theorem Pln.swap {e : Expr} (h : Pln e) (t : Option Expr) (l : Nat) (env : Env) : swapsWith e t l env = pure false := by cases h <;> rfl
theorem Pln.fold {e : Expr} (h : Pln e) (env : Env) (x : Value) : foldedSetIterable e env x = pure x := by cases h <;> rfl
/-- no star: a comprehension among them -/
inductive Nst : Expr → Prop
  | pln {e : Expr} (h : Pln e) : Nst e
  | comp (e g s p) : Nst (.ListComp e g s p)
  | lam (a b s p) : Nst (.Lambda a b s p)
theorem Nst.star {e : Expr} (h : Nst e) (es : List Expr) (env : Env) : starEach (e :: es) env = (false, eval e env) :: starEach es env := by
  cases h with
  | pln h => exact h.star es env
  | comp => rfl
  | lam => rfl
inductive Tru : Expr → Prop
  | name (x p) : Tru (.Name x p)
  | call (f a k p) : Tru (.Call f a k p)
  | sub (a b p) : Tru (.Subscript a b p)
  | attr (a b p) : Tru (.Attribute a b p)
theorem Tru.tru {e : Expr} (h : Tru e) (env : Env) (whole : Sem Value) : isTrue e env whole = (do let v ← whole; standAt e.pos; holding [v] (truthy v)) := by cases h <;> rfl
inductive Nsts : List Expr → Prop
  | nil : Nsts []
  | cons {e : Expr} {es : List Expr} (h : Nst e) (t : Nsts es) : Nsts (e :: es)
theorem Nsts.star {es : List Expr} (h : Nsts es) (env : Env) : starEach es env = es.map fun e => (false, eval e env) := by
  induction h with
  | nil => rfl
  | cons h t ih => rw [h.star, ih]; rfl
theorem Nsts.no {es : List Expr} (h : Nsts es) (env : Env) (pos : Pos) : (backTo pos (starEach es env)).any (·.1) = false := by
  rw [h.star]
  unfold backTo
  rw [List.map_map, List.any_map]
  simp
structure JE (X : Cx) (e : Expr) (t : TE) : Prop where
  h : PE X e t
structure JT (X : Cx) (e : Expr) (t : TT) : Prop where
  h : PT X e t
structure JW (X : Cx) (e : Expr) (t : TT) : Prop where
  h : PW X e t
structure JA (X : Cx) (es : List Expr) (t : TA) : Prop where
  h : PA X es t
  pl : Nsts es
structure JS (X : Cx) (s : Stmt) (t : TS) : Prop where
  h : PS X s t
structure JB (X : Cx) (s : List Stmt) (t : TS) : Prop where
  h : PSs X s t
structure JG (X : Cx) (e : Expr) (t : TG) : Prop where
  h : PG X e t
structure JI (X : Cx) (tg e : Expr) (t : TI) : Prop where
  h : PI X tg e t
structure JOp (X : Cx) (f : Value → Value → Sem Value) (r : R2) : Prop where
  h : OpR X f r
structure JUn (X : Cx) (f : Value → Sem Value) (r : V → Hp → VK → Prop) : Prop where
  h : UnR X f r
structure JC (X : Cx) (f : Value) (r : List V → Hp → VK → Prop) : Prop where
  h : CallR X f r
structure JIx (X : Cx) (r : R2) : Prop where
  h : IxR X r
section
variable {X : Cx} {k j : Nat} {x : Str} {ps : List Str} {sp : Sp} {p pos : Pos} {a b c e : Expr} {es rest : List Expr} {ta tb te : TE} {tA tB' : TT} {t : TA}
/-! operations -/
theorem o_add : JOp X (binaryOp .Add) (rI0 fun i j => .int (i + j)) := ⟨op_add⟩
theorem o_sub : JOp X (binaryOp .Sub) (rI0 fun i j => .int (i - j)) := ⟨op_sub⟩
theorem o_mul : JOp X (binaryOp .Mult) (rI CMul fun i j => .int (i * j)) := ⟨op_mul⟩
theorem o_mod : JOp X (binaryOp .Mod) (rI (fun _ j => 0 < j) fun i j => .int (i % j)) := ⟨op_mod⟩
theorem o_fdiv : JOp X (binaryOp .FloorDiv) (rI CDiv fun i j => .int (i / j)) := ⟨op_fdiv⟩
theorem o_pow : JOp X (binaryOp .Pow) (rI CPow fun i j => .int (i ^ j.toNat)) := ⟨op_pow⟩
theorem o_eq : JOp X (compareOp .Eq) rEq := ⟨op_eq⟩
theorem o_ne : JOp X (compareOp .NotEq) rNe := ⟨op_ne⟩
theorem o_lt : JOp X (compareOp .Lt) (rI0 fun i j => .bl (decide (i < j))) := ⟨op_lt⟩
theorem o_gt : JOp X (compareOp .Gt) (rI0 fun i j => .bl (decide (j < i))) := ⟨op_gt⟩
theorem o_ge : JOp X (compareOp .GtE) (rI0 fun i j => .bl (decide (j ≤ i))) := ⟨op_ge⟩
theorem o_eqD (hr : Room k X.A) : JOp X (compareOp .Eq) (rEqD X.K) := ⟨op_eqD hr.units⟩
theorem o_neg : JUn X (unaryOp .USub) (rU fun i => .int (-i)) := ⟨un_neg⟩
theorem x_list : JIx X (rIxL X.K) := ⟨ix_list⟩
theorem x_tup : JIx X (rIxT X.K) := ⟨ix_tup⟩
theorem c_len : JC X (.builtin "len") (fun xs H Q => ∃ p ys, xs = [.ref p] ∧ (SqL X.K H p ys ∨ SqT X.K H p ys) ∧ Q (.int ys.length) H) := ⟨call_len_seq⟩
theorem c_isI : JC X (.builtin "isinstance") (rIsI X.K) := ⟨call_isI⟩
theorem c_list : JC X (.type "list") (fun xs H Q => ∃ p ys, xs = [.ref p] ∧ (SqL X.K H p ys ∨ SqT X.K H p ys) ∧ ∀ l, H l = none → Q (.ref l) (upd H l (.lst ys))) := ⟨call_list_of⟩
/-! expressions -/
theorem e_v (i : Nat) (hN : X.N[i]? = some x := by rfl) (hv : Vis X.env.scope x := by first | exact Or.inl rfl | exact Or.inr (Or.inl rfl) | exact Or.inr (Or.inr rfl)) (hd : (x == ("__debug__" : Str)) = false := by decide +kernel)
    (hcd : (x == ("__classdict__" : Str)) = false := by decide +kernel) : JE X (.Name x pos) (tVar i) := ⟨pe_var hN hv hd hcd⟩
theorem e_i {i j pos} : JE X (.Constant (.int i) j pos) (tC (.int i)) := ⟨pe_int⟩
theorem e_b {b j pos} : JE X (.Constant (.bool b) j pos) (tC (.bl b)) := ⟨pe_bl⟩
theorem e_n {j pos} : JE X (.Constant .none j pos) (tC .non) := ⟨pe_non⟩
theorem e_s {x j pos} : JE X (.Constant (.str x) j pos) (tC (.str x)) := ⟨pe_str⟩
theorem e_op {op : Operator} {r : R2} (ho : JOp X (binaryOp op) r) (ha : JE X a ta) (hb : JE X b tb) : JE X (.BinOp a op b pos) (tOp r ta tb) := ⟨pe_op ho.h ha.h hb.h⟩
theorem e_un {op : UnaryOp} {r : V → Hp → VK → Prop} (ho : JUn X (unaryOp op) r) (ha : JE X a ta) : JE X (.UnaryOp op a pos) (tUn r ta) := ⟨pe_un ho.h ha.h⟩
theorem e_cmp {op : CmpOp} {r : R2} (ho : JOp X (compareOp op) r) (ha : JE X a ta) (hb : JE X b tb) (h1 : op ≠ .In := by decide) (h2 : op ≠ .NotIn := by decide) : JE X (.Compare a [op] [b] pos) (tOp r ta tb) := ⟨pe_cmpR ho.h ha.h hb.h (nomark b h1 h2)⟩
theorem e_one {op} (h : JE X a ta) : JE X (.BoolOp op [a] pos) ta := ⟨pe_one h.h⟩
theorem e_and (ha : JE X a ta) (hb : JE X (.BoolOp .And (b :: rest) pos) tb) : JE X (.BoolOp .And (a :: b :: rest) pos) (tAndV ta tb) := ⟨pe_and ha.h hb.h⟩
theorem e_not (ha : JE X a ta) : JE X (.UnaryOp .Not a pos) (tNotV ta) := ⟨pe_not ha.h⟩
theorem e_ix {r : R2} (hr : JIx X r) (ha : JE X a ta) (hb : JE X b tb) (hp : Pln b := by constructor) : JE X (.Subscript a b pos) (tOp r ta tb) := ⟨pe_ix hr.h ha.h hb.h (by cases hp <;> exact fun _ _ => rfl)⟩
theorem e_upto {p2 : Pos} (ha : JE X a ta) (hb : JE X b tb) : JE X (.Subscript a (.Slice none (some b) none p2) pos) (tSl (rSlL X.K) ta tNoPart (tPart tb)) := ⟨pe_slice sl_list ha.h po_none (po_some hb.h)⟩
theorem a0 : JA X [] tNil := ⟨pa_nil, .nil⟩
theorem ac (ha : JE X e te) (hr : JA X es t) (hp : Pln e := by constructor) : JA X (e :: es) (tCons te t) := ⟨pa_cons ha.h hr.h (hp.star _ _), .cons (.pln hp) hr.pl⟩
theorem a1 (ha : JE X e te) (hp : Pln e := by constructor) : JA X [e] (tCons te tNil) := ac ha a0 hp
theorem a1c {elt : Expr} {gs : List Comprehension} {sc : Scope} (ha : JE X (.ListComp elt gs sc p) te) : JA X [.ListComp elt gs sc p] (tCons te tNil) := ⟨pa_cons ha.h pa_nil (Nst.star (.comp ..) _ _), .cons (.comp ..) .nil⟩
theorem JA.hd (h : JA X (e :: es) t) : Nst e := by cases h.pl with | cons a _ => exact a
theorem JA.rs (h : JA X (e :: es) t) : Nsts es := by cases h.pl with | cons _ a => exact a
theorem e_fn (F : FnP X.prog X.w X.K X.mg X.base k x ps sp) (hr : Room j X.A) (ha : JA X (e :: es) t) (hj : k ≤ j := by decide) (hg : Gl X x := by rfl) (hdb : (x == ("__debug__" : Str)) = false := by decide +kernel) : JE X (.Call (.Name x p) (e :: es) [] pos) (tCall sp [] E0 t) :=
  ⟨pe_fn F hr ha.h hj hg hdb (ha.hd.star _ _) (ha.rs.no _ _)⟩
theorem e_cb {id : String} {r : List V → Hp → VK → Prop} (hc : JC X (.builtin id) r) (hm : X.mg x = none) (hv : bootBuiltins x = some (.builtin id)) (ha : JA X (e :: es) t) (hg : Gl X x := by rfl) (hn : x ≠ "__name__" := by decide +kernel) (hdb : (x == ("__debug__" : Str)) = false := by decide +kernel) :
    JE X (.Call (.Name x p) (e :: es) [] pos) (tCB r t) := ⟨pe_callB hc.h hg hm hv ha.h hn hdb (ha.hd.star _ _) (ha.rs.no _ _)⟩
theorem e_ct {T : String} {r : List V → Hp → VK → Prop} (hc : JC X (.type T) r) (hm : X.mg x = none) (hv : bootBuiltins x = some (.type T)) (ha : JA X (e :: es) t) (hg : Gl X x := by rfl) (hn : x ≠ "__name__" := by decide +kernel) (hdb : (x == ("__debug__" : Str)) = false := by decide +kernel) :
    JE X (.Call (.Name x p) (e :: es) [] pos) (tCB r t) := ⟨pe_callTy hc.h hg hm hv ha.h hn hdb (ha.hd.star _ _) (ha.rs.no _ _)⟩
theorem e_ty {T : String} (hm : X.mg x = none) (hv : bootBuiltins x = some (.type T)) (hg : Gl X x := by rfl) (hn : x ≠ "__name__" := by decide +kernel) (hd : (x == ("__debug__" : Str)) = false := by decide +kernel) : JE X (.Name x pos) (tC (.ty T)) := ⟨pe_bltn hg hm hv rfl hn hd⟩
theorem e_tup {x1} (h : JA X es t) : JE X (.Tuple es x1 pos) (tTup t) := ⟨pe_tup h.h⟩
theorem e_lst (h : JA X es t) : JE X (.List es pos) (tLst t) := ⟨pe_lst h.h⟩
/-- the block of a comprehension, wherever it is laid -/
def JIn (X : Cx) (scope : Scope) (cl : List (Str × Addr)) (Nc : List Str) (target elt : Expr) (ifs : List Expr) (g : TG) (tt : TT) (te : TE) : Prop :=
  ∀ (pins : List (Addr × Obj)) (C : Addr) (s3 : Shared) (H3 : Hp) (fp : List Addr), JG (compCx X pins scope cl C Nc s3 H3 fp) target g ∧ ((ifs = [] ∧ tt = tYes) ∨ ∃ c, ifs = [c] ∧ JT (compCx X pins scope cl C Nc s3 H3 fp) c tt) ∧ JE (compCx X pins scope cl C Nc s3 H3 fp) elt te
variable {scope : Scope} {cl : List (Str × Addr)} {Nc : List Str} {js : List (Option Nat)} {target elt iter : Expr} {ifs : List Expr} {wi : TI} {g : TG} {tt : TT}
theorem JIn.inner (B : JIn X scope cl Nc target elt ifs g tt te) : Inner X scope cl Nc target elt ifs g tt te := fun pins C s3 H3 fp => by
  obtain ⟨h1, h2, h3⟩ := B pins C s3 H3 fp
  refine ⟨h1.h, ?_, h3.h⟩
  rcases h2 with ⟨rfl, rfl⟩ | ⟨c, rfl, h2⟩
  · exact pif_nil
  · exact pif_one h2.h
theorem e_comp (S : CompScope X scope cl Nc js) (hi : JI X target iter wi) (B : JIn X scope cl Nc target elt ifs g tt te) (hc : X.calm = true := by rfl) (hs : Pln iter := by constructor) : JE X (.ListComp elt [⟨target, iter, ifs, 0⟩] scope pos) (tComp js wi g tt te) :=
  ⟨pe_comp hc S hi.h B.inner (hs.fold _)⟩
/-! tests -/
theorem t_cmp {op : CmpOp} {r : R2} (ho : JOp X (compareOp op) r) (ha : JE X a ta) (hb : JE X b tb) (h1 : op ≠ .In := by decide) (h2 : op ≠ .NotIn := by decide) : JT X (.Compare a [op] [b] pos) (tTest (tOp r ta tb)) := ⟨pt_cmpR ho.h ha.h hb.h (nomark b h1 h2)⟩
theorem t_notN {j pos'} (ha : JE X a ta) : JT X (.Compare a [.IsNot] [.Constant .none j pos'] pos) (tB (tNotN ta)) := ⟨pt_cmp (pc_notN ha.h) (nobehind _ (by decide) (by decide))⟩
theorem t_val (h : JE X e te) (hp : Tru e := by constructor) : JT X e (tB te) := ⟨pt_val h.h (hp.tru _)⟩
theorem t_not (ha : JT X a tA) : JT X (.UnaryOp .Not a pos) (tNot tA) := ⟨pt_not ha.h⟩
theorem w_or1 (ha : JT X a tA) : JW X (.BoolOp .Or [a] pos) tA := ⟨pw_or1 ha.h⟩
theorem w_or (ha : JT X a tA) (hb : JW X (.BoolOp .Or (b :: rest) pos) tB') : JW X (.BoolOp .Or (a :: b :: rest) pos) (tOr tA tB') := ⟨pw_or ha.h hb.h⟩
theorem JW.jt (h : JW X e tA) : JT X e tA := ⟨PW.pt h.h⟩
/-! targets, walks -/
theorem g_n (i : Nat) (hN : X.N.Nodup) (hi : X.N[i]? = some x := by rfl) (hx : Loc X.env.scope x := by first | exact Or.inl rfl | exact Or.inr rfl) (hf : X.fn x = true ∨ X.env.scope.names.lookup x = some .local := by first | exact .inl rfl | exact .inr rfl) : JG X (.Name x pos) (gName i) := ⟨pg_name hN hi hx hf⟩
theorem i_list (h : JE X e te) : JI X target e (iList X.K te) := ⟨pi_list h.h⟩
theorem i_rng1 (hm : X.mg "range" = none) (ha : JA X [e] t) (hg : Gl X "range" := by rfl) : JI X target (.Call (.Name "range" p) [e] [] pos) (iRng1 t) := ⟨pi_range1 hg hm ha.h (ha.hd.star _ _)⟩
/-! statements -/
variable {s1 : Stmt} {ss body orelse : List Stmt} {u u' : TS}
theorem b_nil : JB X [] tNext := ⟨pss_nil⟩
theorem b_one (h : JS X s1 u) : JB X [s1] u := ⟨pss_one h.h⟩
theorem b_cons (h : JS X s1 u) (h2 : JB X ss u') : JB X (s1 :: ss) (tSeq u u') := ⟨pss_cons h.h h2.h⟩
theorem s_set (i : Nat) {pos' : Pos} (hN : X.N.Nodup) (he : JE X e te) (hp : Pln e := by constructor) (hi : X.N[i]? = some x := by rfl) (hx : Loc X.env.scope x := by first | exact Or.inl rfl | exact Or.inr rfl)
    (hf : X.fn x = true ∨ X.env.scope.names.lookup x = some .local := by first | exact .inl rfl | exact .inr rfl) : JS X (.Assign [.Name x pos'] e pos) (tAsg te (gName i)) := ⟨ps_set hN hi hx he.h (hp.swap _ _ _) hf⟩
theorem s_if (hc : JT X c tA) (ha : JB X body u) (hb : JB X orelse u') : JS X (.If c body orelse pos) (tIfS tA u u') := ⟨ps_if hc.h ha.h hb.h⟩
theorem s_ret (he : JE X e te) : JS X (.Return (some e) pos) (tRet te) := ⟨ps_ret he.h⟩
theorem s_expr (he : JE X e te) (hp : Pln e := by constructor) : JS X (.Expr e pos) (tDrop te) := ⟨ps_expr he.h (hp.swap _ _ _)⟩
theorem s_for {tg : Expr} (hi : JI X tg iter wi) (hg : JG X tg g) (hb : JB X body u) (hp : PassesOwn (model X.prog X.w) X.A X.env X.xe := by exact PassesOwn.never) (hc : X.calm = true := by rfl) (hs : Pln iter := by constructor) : JS X (.For tg iter body [] pos) (tFor wi g u) := ⟨ps_for hp hc hi.h hg.h hb.h (hs.fold _)⟩
end
section
variable {P : Program} {w : World} {K : PySem.W.Frag} {mg : Str → Option Value} {base : Heap}
/-- the rule for a def, by a closed judgement -/
theorem Fun.okJ {x qual : Str} {st : Stmt} {f : Addr} {fd : FuncData} {N ps : List Str} {k : Nat} {sp : Sp} (F : Fun K x qual st f fd) (S : FnScope N ps (defScope st)) (len : ∀ vs H Q E, sp vs H Q E → vs.length = ps.length)
    (hbody : ∀ (cdv : Value) (A : Around) (outer : List Env) (s : Shared) (H : Hp) (vs : List V) (Q : VK) (E : XK), Room k (A.deeper (envOfC qual (defScope st) s.heap.objs.size f cdv)) → sp vs H Q E →
      ∃ t, JB (cxOf CX0 P w K mg base N qual (defScope st) f cdv A outer s H E).nox (defBody st) t ∧ t { nx := fun _ H' => Q .non H', rt := Q } (start N vs) H) : FnOk P w K mg base CX0 (k + 1) f fd ps sp :=
  F.ok S len fun cdv A outer s H vs Q E hr h => let ⟨t, h1, h2⟩ := hbody cdv A outer s H vs Q E hr h; ⟨t, h1.h, h2⟩
end
end L2

set_option maxHeartbeats 4000000
namespace L2
open PySem PySem.Spec PyProof.Rows
/-! ### refusals: an error of an own class that leaves a def -/
theorem ObjOk.at {P : Program} {w : World} {H : Hp} {h : Heap} {a : Addr} {o : HO} (x : ObjOk P w H h a o) : ∃ u, h.get? a = some u := by
  cases o with
  | lst xs => obtain ⟨_, _, _, _, e⟩ := x; exact ⟨_, e⟩
  | tup xs => obtain ⟨_, _, _, o, e, _⟩ := x; exact ⟨_, e⟩
  | dK kvs => obtain ⟨_, _, _, _, o, _, _, e, _⟩ := x; exact ⟨_, e⟩
  | dT kvs => obtain ⟨_, _, _, _, o, _, _, e, _⟩ := x; exact ⟨_, e⟩
  | set S n => obtain ⟨o, _, _, _, e, _⟩ := x; exact ⟨_, e⟩
  | ins C dx fs => obtain ⟨_, _, _, e, _⟩ := x; exact ⟨_, e⟩
  | own y => obtain ⟨_, e⟩ := x; exact ⟨_, e⟩
  | xd fs => obtain ⟨_, ⟨_, _, _, e, _⟩, _⟩ := x; exact ⟨_, e⟩
  | rng lo hi => obtain ⟨_, _, _, e⟩ := x; exact ⟨_, e⟩
  | frz ob u => obtain ⟨e, _⟩ := x; exact ⟨_, e⟩
  | tbl ps => exact ⟨_, (show h.get? a = some _ from x)⟩
  | met f y => exact ⟨_, (show h.get? a = some _ from x)⟩
  | ext φ => obtain ⟨_, ⟨_, e⟩, _⟩ := x; exact ⟨_, e⟩
/-- the heap B holds all that is tracked and all that stood at the start, but the frames -/
def Cov (l : List Env) (H : Hp) (h0 h B : Heap) : Prop := ∀ b o, h.get? b = some o → (H b ≠ none ∨ ∃ u, h0.get? b = some u) → b ∉ frs l → B.get? b = some o
def Fly (l : List Env) (a : Addr) (cls : Value) (H : Hp) (h0 h : Heap) : Prop := ∃ (a0 : Value) (B : Heap), Heap.FlyingW B l a cls a0 h ∧ Cov l H h0 h B
def CXe (P : Program) (w : World) : CXT := fun outer H s E e s' =>
  ∃ a cls H', e = Value.ref a ∧ s'.os = s.os ∧ AllBare s'.gens ∧ Un (frs outer) [] H H' s.heap s'.heap ∧ HOk P w H' s'.heap ∧ Fly outer a cls H' s.heap s'.heap ∧ E cls none H'
section
variable {P : Program} {w : World} {l : List Env} {H H' : Hp} {h0 h h5 B : Heap}
theorem Cov.step (u : Un (frs l) [] H H' h0 h) (ok : HOk P w H' h) (cov : Cov l H' h0 h B) (st : B.StaysIn h5) : Cov l H' h0 h5 B := fun b o e q n => by
  have hx : ∃ v, h.get? b = some v := by
    rcases q with q | ⟨v, q⟩
    · cases z : H' b with
      | none => exact absurd z q
      | some y => exact (ok b y z).at
    · exact u.there b v q (by simp)
  obtain ⟨v, hv⟩ := hx
  have hB := cov b v hv q n
  rw [st b v hB] at e
  cases e
  exact hB
theorem Cov.un (u : Un (frs l) [] H H' h0 h) (cov : Cov l H' h0 h B) (st : B.StaysIn h5) (up : h.UpToSlots h5) (nf : ∀ b ∈ frs l, ∃ o, h.get? b = some o ∧ ∀ vs, o.data ≠ .fields vs) : Un (frs l) [] H H' h0 h5 where
  keep := fun b o e n hb hx => st b o (cov b o (u.keep b o e n hb hx) (.inr ⟨o, e⟩) hb)
  slot := fun b o e n hb hx => by
    obtain ⟨sl, q⟩ := u.slot b o e n hb hx
    obtain ⟨o', q', nf'⟩ := nf b hb
    rw [q] at q'; cases q'
    obtain ⟨sl', q2⟩ := up b _ q nf'
    exact ⟨sl', q2⟩
  free := u.free
  there := fun b o e hx => by
    obtain ⟨o', q⟩ := u.there b o e hx
    by_cases hb : b ∈ frs l
    · obtain ⟨o2, q', nf'⟩ := nf b hb
      obtain ⟨sl', q2⟩ := up b _ q' nf'
      exact ⟨_, q2⟩
    · exact ⟨o', st b o' (cov b o' q (.inr ⟨o, e⟩) hb)⟩
  tups := u.tups
  frzs := u.frzs
  tbls := u.tbls
theorem Cov.hok (ok : HOk P w H' h) (cov : Cov l H' h0 h B) (st : B.StaysIn h5) (fr : ∀ b ∈ frs l, H' b = none) : HOk P w H' h5 := fun b o e => by
  refine (ok b o e).stay (fun c v hc q => ?_) (fun _ q => q) fun _ _ q => q
  have hn : H' c ≠ none := by
    rcases hc with rfl | hc
    · rw [e]; simp
    · rw [hc]; simp
  exact st c v (cov c v q (.inl hn) fun z => hn (fr c z))
end
section
variable {X : Cx} {pins : List (Addr × Obj)} {σ : St} {H : Hp} {s : Shared} {B h5 : Heap}
/-- what leaves the frame -/
theorem Inv.leave (I : Inv X pins σ H s) (hst : X.stack = X.env :: X.outer) (hf : X.env.frame = some X.env.locals) (hex : X.ex = []) (cov : Cov X.stack H X.s₀.heap s.heap B) (st : B.StaysIn h5) (up : s.heap.UpToSlots h5) :
    Un X.fs [] X.H₀ H X.s₀.heap h5 ∧ HOk X.prog X.w H h5 ∧ Cov X.outer H X.s₀.heap h5 B := by
  have ub : Un X.fs [] X.H₀ H X.s₀.heap s.heap := by have := I.base; rw [hex] at this; exact this
  have cov' : Cov X.outer H X.s₀.heap s.heap B := fun b o e q n => cov b o e q fun z => by
    rw [hst] at z
    unfold frs at z
    rw [List.filterMap_cons, hf] at z
    rcases List.mem_cons.mp z with z | z
    · subst z
      rcases q with q | ⟨v, q⟩
      · exact q I.free
      · exact absurd (Heap.lt_size q) (Nat.not_lt.mpr I.ok.above)
    · exact n z
  have hfr : ∀ b ∈ frs X.outer, H b = none := fun b hb => I.stkFree b (by rw [hst]; unfold frs; rw [List.filterMap_cons, hf]; exact List.mem_cons_of_mem _ hb)
  refine ⟨Cov.un ub cov' st up fun b hb => ?_, Cov.hok I.hok cov' st hfr, Cov.step ub I.hok cov' st⟩
  obtain ⟨_, o, ho, hn⟩ := I.stack.mem (b := b) (by rw [hst, List.filterMap_cons, hf]; exact List.mem_cons_of_mem _ hb)
  exact ⟨o, ho, hn⟩
end
section
variable {P : Program} {w : World} {K : PySem.W.Frag} {mg : Str → Option Value} {base : Heap} {N : List Str} {qual : Str} {scope : Scope} {f : Addr} {cd : Value} {A : Around} {outer : List Env} {s : Shared} {H : Hp} {E : XK}
/-- an error that was made here leaves -/
theorem xe_made {pins : List (Addr × Obj)} {σ : St} {H1 : Hp} {s1 : Shared} {h' : Heap} {a : Addr} {cls : Value} {vs : List Value} (I : Inv (cxOf (CXe P w) P w K mg base N qual scope f cd A outer s H E) pins σ H1 s1)
    (hx : Heap.MadeExcOf s1.heap h' a cls vs) (hE : E cls none H1) : (cxOf (CXe P w) P w K mg base N qual scope f cd A outer s H E).xe (.ref a) { s1 with heap := h' } := by
  have hl := I.stack
  refine wpAny_leaves_madeW (base := PySem.W.hideAll s1.heap (frs (cxOf (CXe P w) P w K mg base N qual scope f cd A outer s H E).stack)) (h := s1.heap) I.ok.frames rfl (fun b o e => PySem.W.of_hideAll _ e)
    (PySem.W.funFrames_hide hl fun env he a hf => List.mem_filterMap.mpr ⟨env, he, hf⟩) hx fun h2 t x1 x2 x3 x4 => ?_
  have cov : Cov (cxOf (CXe P w) P w K mg base N qual scope f cd A outer s H E).stack H1 s.heap s1.heap (PySem.W.hideAll s1.heap (frs (cxOf (CXe P w) P w K mg base N qual scope f cd A outer s H E).stack)) :=
    fun b o e _ n => PySem.W.hideAll_get _ e n
  obtain ⟨u, ok, cv⟩ := I.leave rfl rfl rfl cov x1.1 ((Heap.UpToSlots.of_keeps hx.keeps).trans x4)
  exact ⟨a, cls, H1, rfl, I.os, I.bare, u, ok, ⟨_, _, x1, cv⟩, hE⟩
/-- an error of a callee leaves -/
theorem passes_cx : Passes (CXe P w) (cxOf (CXe P w) P w K mg base N qual scope f cd A outer s H E) E := by
  intro pins σ H2 s2 e s3 I hc
  obtain ⟨a, cls, H3, rfl, hos, hb, u, ok, ⟨a0, B, fl, cov⟩, hE⟩ := hc
  have I3 : Inv (cxOf (CXe P w) P w K mg base N qual scope f cd A outer s H E) pins σ H3 s3 := I.call' (ch := []) hos u ok hb fun b z => nomatch z
  refine wpAny_leaves_onW I3.ok.frames rfl fl fun h4 x1 up => ?_
  have cov' : Cov (cxOf (CXe P w) P w K mg base N qual scope f cd A outer s H E).stack H3 s.heap s3.heap B := fun b o e q n => cov b o e (q.imp id fun ⟨v, z⟩ => I.base.there b v z (fun z => nomatch z)) n
  obtain ⟨u', ok', cv⟩ := I3.leave rfl rfl rfl cov' x1.1 up
  exact ⟨a, cls, H3, rfl, I3.os, I3.bare, u', ok', ⟨_, _, x1, cv⟩, hE⟩
end
/-! ### an expression that may refuse: E is what is wanted of the error -/
def PX (X : Cx) (e : Expr) (tx : XK → TE) : Prop :=
  ∀ (pins : List (Addr × Obj)) (s : Shared) (σ : St) (H : Hp) (Q : VK) (E : XK) (W : Value → Shared → Prop), Inv X pins σ H s → (∀ H1 s1 e1 s2, Inv X pins σ H1 s1 → CXe X.prog X.w X.stack H1 s1 E e1 s2 → W e1 s2) →
    tx E σ H Q → wpAny (model X.prog X.w) X.A (eval e X.env) (EP X pins σ Q) W s
theorem PX.pe {X : Cx} {e : Expr} {tx : XK → TE} {E : XK} (h : PX X e tx) (hp : Passes (CXe X.prog X.w) X E) : PE X e (tx E) :=
  fun pins s σ H Q I hw => h pins s σ H Q E X.xe I (fun H1 s1 e1 s2 I1 c => hp pins σ H1 s1 e1 s2 I1 c) hw
structure FnX (P : Program) (w : World) (K : PySem.W.Frag) (mg : Str → Option Value) (base : Heap) (k : Nat) (x : Str) (ps : List Str) (sp : Sp) : Prop where
  ex : ∃ (f : Addr) (fd : FuncData), FnOk P w K mg base (CXe P w) k f fd ps sp ∧ mg x = some (.ref f) ∧ PySem.W.keepIn K (.ref f) = true ∧ Binds K fd ps []
section
variable {X : Cx} {k j : Nat} {x : Str} {ps : List Str} {sp : Sp} {p pos : Pos} {e : Expr} {es : List Expr} {t : TA}
theorem PA.at {W : Value → Shared → Prop} (h : PA X.nox es t) {pos : Pos} {pins : List (Addr × Obj)} {s : Shared} {σ : St} {H : Hp} {Q : List V → Hp → Prop} (I : Inv X pins σ H s) (hw : t σ H Q) :
    wpAny (model X.prog X.w) X.A (spliced (backTo pos (starEach es X.env))) (AP X pins σ Q) W s :=
  wpAny_mono (h pos pins s σ H Q (I.wish _) hw) (fun _ _ ⟨vs, H', I', r, q⟩ => ⟨vs, H', I'.unwish, r, q⟩) fun _ _ z => False.elim z
theorem px_fn (F : FnX X.prog X.w X.K X.mg X.base k x ps sp) (hr : Room j X.A) (ha : PA X.nox (e :: es) t) (hj : k ≤ j) (hg : Gl X x) (hdb : (x == ("__debug__" : Str)) = false)
    (he : starEach (e :: es) X.env = (false, eval e X.env) :: starEach es X.env) (hpl : (backTo pos (starEach es X.env)).any (·.1) = false) : PX X (.Call (.Name x p) (e :: es) [] pos) (fun E => tCall sp [] E t) := by
  obtain ⟨f, fd, F, hm, hk, hb⟩ := F.ex
  intro pins s σ H Q E W I hW h
  refine wpAny_Call_Name_kw (ld_glob I hg hm ?_ hdb)
  refine PySem.W.callWith_K (h₀ := X.base) I.ok.mod.kin hk (thn (PA.at ha I h) fun us s1 ⟨vs, H1, I1, r, q⟩ => ⟨I1.kIn, ?_⟩) he hpl
  have r2 : Vals (vs ++ []) (us ++ []) := r.append .nil
  have hl : (us ++ []).length = ps.length := by rw [← r2.length]; exact F.len _ _ _ _ q
  refine wpAny_call (codeAny_mono (F.run X.A X.stack s1 H1 ⟨us, []⟩ (us ++ []) (vs ++ []) Q E (hr.mono hj) I1.env0 (hb s1 us I1.kIn hl) r2 q) fun r s' hq => ?_)
  cases r with
  | error e => exact hW H1 s1 e s' I1 hq
  | ok fl =>
    cases fl with
    | ret u => exact I1.after hq
    | next => exact False.elim hq
    | brk => exact False.elim hq
    | cont => exact False.elim hq
end
end L2

set_option maxHeartbeats 4000000
namespace L2
open PySem PySem.Spec PyProof.Rows
/-! ### an own class under ValueError -/
abbrev veM : List Value := [.type "ValueError", .type "Exception", .type "BaseException", .type "object"]
structure ErrC (K : PySem.W.Frag) (mg : Str → Option Value) (x : Str) (C : Addr) : Prop where
  bound : mg x = some (.ref C)
  exc : PySem.W.excIn K C veM "ValueError.__new__" = true
theorem ErrC.obj {K : PySem.W.Frag} {mg : Str → Option Value} {x : Str} {C : Addr} (e : ErrC K mg x C) {h : Heap} (X : K.In h) :
    ∃ tl N nm qn bs hd sn sb ab cl dd k0 k1 k2 k3 k5 mN, h.get? C = some (excClassObj nm qn C N bs tl hd sn sb ab cl dd k0 k1 k2 k3 k5 "ValueError.__new__") ∧ h.Ns N mN ∧ mN "__init__" = none ∧ OwnTail h veM tl := by
  have hq := e.exc
  unfold PySem.W.excIn at hq
  split at hq
  case h_2 => cases hq
  case h_1 dd cd sl lk =>
    split at hq
    case h_2 => cases hq
    case h_1 C1 tl k0 k1 k2 k3 nw k5 em es =>
      simp only [Bool.and_eq_true, beq_iff_eq, Bool.not_eq_true'] at hq
      obtain ⟨⟨⟨⟨⟨rfl, rfl⟩, ed⟩, et⟩, en⟩, ei⟩ := hq
      cases cd with
      | mk nm bs mro ns qn hdc sn sb ab cl dl =>
        dsimp only at em ed en ei; subst em; subst ed
        cases sl with
        | mk sl' =>
          simp only at es; subst es
          exact ⟨tl, ns, nm, qn, bs, hdc, sn, sb, ab, cl, dd, k0, k1, k2, k3, k5, _, X _ _ lk, .of_isNs (PySem.W.isNs_of_in X en), PySem.W.nsMap_none_of_in X en ei, PySem.W.tail_of_in X et⟩
/-! ### raise -/
def Raises (X : Cx) (E : XK) : Prop := ∀ (pins : List (Addr × Obj)) (σ : St) (H1 : Hp) (s1 : Shared) (h' : Heap) (a : Addr) (cls : Value) (vs : List Value), Inv X pins σ H1 s1 → Heap.MadeExcOf s1.heap h' a cls vs → E cls none H1 → X.xe (.ref a) { s1 with heap := h' }
def tRaise (C : Addr) (E : XK) (te : TE) : TS := fun _ σ H => te σ H fun v H1 => [v].length = 1 ∧ E (.ref C) none H1
section
variable {X : Cx} {E : XK} {x : Str} {C : Addr} {np cp pos : Pos} {e : Expr} {te : TE}
theorem ps_raise (hR : Raises X E) (O : ErrC X.K X.mg x C) (ha : PA X [e] (tCons te tNil)) (hst : starEach [e] X.env = [(false, eval e X.env)]) (hc : X.calm = true) (hg : Gl X x) (hdb : (x == ("__debug__" : Str)) = false) :
    PS X (.Raise (some (.Call (.Name x np) [e] [] cp)) none pos) (tRaise C E te) := by
  intro pins s σ H D I h
  obtain ⟨tl, N, nm, qn, bs, hd, sn, sb, ab, cl, dd, k0, k1, k2, k3, k5, mN, hC, hN, hi, T⟩ := O.obj I.ok.mod.kin
  refine wpAny_Raise_call_subT (C := C) (nm := nm) (q := qn) (N := N) (bs := bs) (bm := tl) (hdct := hd) (sn := sn) (sub := sb) (ab := ab) (col := cl) (dd := dd) (k0 := k0) (k1 := k1) (k2 := k2) (k3 := k3) (k5 := k5)
    F.excBase_ValueError (mN := mN) (T.hasType F.excBase_ValueError.hasBase) (I.ok.hd hc) (by rw [hst]; rfl) hi (ld_glob I hg O.bound ⟨rfl, ?_⟩ hdb)
  have ha' := ha cp pins s σ H (fun vs H1 => vs.length = 1 ∧ E (.ref C) none H1) I h
  rw [hst] at ha' ⊢
  refine Calls.evalArgs_plain (wpAny_mono ha' (fun us s2 ⟨vs, H1, I1, r, hl, hE⟩ => ?_) fun _ _ y => y)
  refine ⟨rfl, ?_, I1.bk _ _ hC, hN.keeps I1.bk, T.keeps I1.bk, fun h' a hx => hR pins σ H1 s2 h' a _ _ I1 hx hE⟩
  show us.length ≤ sizeLine
  rw [← r.length, hl]; decide
end
/-! ### texts with values in them -/
abbrev TJ := St → Hp → (Str → Hp → Prop) → Prop
def PJ (X : Cx) (es : List Expr) (t : TJ) : Prop := ∀ (pins : List (Addr × Obj)) (s : Shared) (σ : St) (H : Hp) (acc : Str) (Q : Str → Hp → Prop), Inv X pins σ H s → acc.length + 5000 * es.length ≤ sizeLine → t σ H (fun out H' => Q (acc ++ out) H') →
  Joins (model X.prog X.w) X.A X.xe (evalEach es X.env) acc (fun out s1 => out.length ≤ sizeLine ∧ ∃ H', Inv X pins σ H' s1 ∧ Q out H') s
def jNil : TJ := fun _ H Q => Q Str.empty H
def jCons (te : TE) (t : TJ) : TJ := fun σ H Q => te σ H fun v H1 => ∃ y : Str, v = .str y ∧ y.length ≤ 5000 ∧ t σ H1 fun out H2 => Q (y ++ out) H2
def tFst (t : TJ) : TE := fun σ H Q => t σ H fun out H1 => Q (.str out) H1
section
variable {X : Cx} {pos : Pos} {e e2 : Expr} {es : List Expr} {te : TE} {t : TJ}
theorem pj_nil : PJ X [] jNil := by
  intro pins s σ H acc Q I hl h
  exact ⟨by simpa using hl, H, I, by have z : Q (acc ++ Str.empty) H := h; rwa [Str.append_empty] at z⟩
theorem pj_cons (he : PE X e te) (ht : PJ X es t) : PJ X (e :: es) (jCons te t) := by
  intro pins s σ H acc Q I hl h
  refine thn (he pins s σ H _ I h) fun u s1 ⟨v, H1, I1, r, y, ev, hy, q⟩ => ?_
  subst ev
  obtain ⟨tk, rfl⟩ := (show ∃ tk, u = Value.str y tk from r)
  have hl' : (acc ++ y).length + 5000 * es.length ≤ sizeLine := by
    rw [strLen_append]
    rw [List.length_cons] at hl
    omega
  refine ⟨y, tk, rfl, by omega, ht pins s1 σ H1 (acc ++ y) Q I1 hl' ?_⟩
  have ea : ∀ out : Str, acc ++ (y ++ out) = acc ++ y ++ out := fun out => (Str.append_assoc acc y out).symm
  simp only [ea] at q
  exact q
theorem joins_mono {M : Model} {A : Around} {E : Value → Shared → Prop} {Q Q' : Str → Shared → Prop} : ∀ {ps : List (Sem Value)} {acc : Str} {s : Shared}, Joins M A E ps acc Q s → (∀ o s1, Q o s1 → Q' o s1) → Joins M A E ps acc Q' s
  | [], _, _, h, f => f _ _ h
  | _ :: _, _, _, h, f => thn h fun _ _ ⟨y, t, a, b, c⟩ => ⟨y, t, a, b, joins_mono c f⟩
theorem pe_fst (h : PJ X (e :: e2 :: es) t) (hl : 5000 * (e :: e2 :: es).length ≤ sizeLine := by decide) : PE X (.JoinedStr (e :: e2 :: es) pos) (tFst t) := by
  intro pins s σ H Q I hw
  refine wpAny_JoinedStr ?_
  have ee : ∀ out : Str, Str.empty ++ out = out := Str.empty_append
  unfold tFst at hw
  have z := h pins s σ H Str.empty (fun out H' => Q (.str out) H') I (by show 0 + _ ≤ _; omega) (by simp only [ee]; exact hw)
  refine joins_mono z fun out s1 ⟨h1, H', I', q⟩ => ⟨h1, .str out, H', I'.tok _, ⟨_, rfl⟩, q⟩
/-- {e} of a whole number; of a text -/
def tFmI (te : TE) : TE := fun σ H Q => te σ H fun v H1 => ∃ i : Int, v = .int i ∧ i.natAbs.log2 < 1920 ∧ Q (.str (toString i)) H1
theorem pe_fmI (he : PE X e te) : PE X (.FormattedValue e (-1) none pos) (tFmI te) := by
  intro pins s σ H Q I hw
  refine wpAny_FormattedValue_plain (thn (he pins s σ H _ I hw) fun u s1 ⟨v, H1, I1, r, i, ev, hi, q⟩ => ?_)
  subst ev
  obtain ⟨tk, rfl⟩ := (show ∃ tk, u = Value.int i tk from r)
  exact wpAny_formatField_int hi ⟨.str _, H1, I1.tok _, ⟨_, rfl⟩, q⟩
theorem int_len {i : Int} (h : i.natAbs.log2 < 1920) : (Str.ofString (toString i)).length ≤ 5000 := by
  have e := int_text_length_le (k := 1920) (by decide) h
  rw [PySem.ofString_length]; omega
end
end L2

set_option maxHeartbeats 4000000
namespace L2
open PySem PySem.Spec PyProof.Rows
/-! ### try .. except C as e: x = e -/
/-- an error that was caught: its class is known -/
def excO (a : Addr) (cls : Value) : HO := .ext fun h => ∃ o, h.get? a = some o ∧ o.cls = cls
theorem excO_ok {P : Program} {w : World} {H : Hp} {h : Heap} {a : Addr} {cls : Value} {o : Obj} (e : h.get? a = some o) (c : o.cls = cls) : ObjOk P w H h a (excO a cls) :=
  ⟨⟨o, e, c⟩, ⟨o, e⟩, fun _ _ ⟨u, p, q⟩ k => ⟨u, k u p, q⟩⟩
theorem excO_at {P : Program} {w : World} {H : Hp} {h : Heap} {a : Addr} {cls : Value} (x : ObjOk P w H h a (excO a cls)) : ∃ o, h.get? a = some o ∧ o.cls = cls := x.1
/-- within an except suite -/
def Cx.sub (X : Cx) (a : Addr) (E : Value → Shared → Prop) : Cx := { X with A := X.A.mark (some (.ref a)), calm := false, xe := E }
theorem Cx.Ok.sub {X : Cx} (ok : X.Ok) (a : Addr) (E : Value → Shared → Prop) : (X.sub a E).Ok :=
  ⟨ok.mod, ok.kind, ok.glob, ok.blt, ok.above, ok.inj, ok.has, ok.cab, (fun z => nomatch z), ok.frames, ok.stk, ok.exf, ok.bs, ok.bsz, ok.noex, ok.exfs, ok.funs, ok.frf⟩
section
variable {X : Cx} {pins : List (Addr × Obj)} {σ : St} {H : Hp} {s : Shared} {a : Addr} {E : Value → Shared → Prop}
theorem Inv.sub (I : Inv X pins σ H s) (a : Addr) (E : Value → Shared → Prop) : Inv (X.sub a E) pins σ H s := ⟨I.ok.sub a E, I.os, I.bare, I.base, I.loc, I.cell, I.free, I.freeC, I.pin, I.hok, I.len⟩
theorem Inv.unsub (I : Inv (X.sub a E) pins σ H s) (ok : X.Ok) : Inv X pins σ H s := ⟨ok, I.os, I.bare, I.base, I.loc, I.cell, I.free, I.freeC, I.pin, I.hok, I.len⟩
/-- the name behind `as` goes -/
theorem Inv.forget {j : Nat} {n : Str} {h' : Heap} {v : Option Value} {m : Str → Option Value} {tk : Nat} (I : Inv X pins σ H s) (hN : X.N.Nodup) (hn : s.heap.Ns X.env.locals m)
    (hm : ∀ (i : Nat) (x : Str) (v : V), X.N[i]? = some x → σ[i]? = some (some v) → Vis X.env.scope x → ∃ u, RelV v u ∧ Look X.env s.heap m x u) (hj : X.N[j]? = some n)
    (hn' : h'.Ns X.env.locals (fun x => if x = n then v else m x)) (hs : Heap.SameBut X.env.locals s.heap h') : Inv X pins (σ.set j none) H { s with heap := h', toks := tk } := by
  have hk : ∀ b o, b ≠ X.env.locals → s.heap.get? b = some o → h'.get? b = some o := fun b o nb e => (hs.2 b nb).trans e
  obtain ⟨oL, _, _, hoL, _⟩ := id hn
  obtain ⟨oL', _, _, hoL', _⟩ := id hn'
  have cne := I.cne
  refine ⟨I.ok, I.os, I.bare, ⟨fun b o e n hb hx => ?_, fun b o e n hb hx => ?_, I.base.free, fun b o e hx => ?_, I.base.tups, I.base.frzs, I.base.tbls⟩, ⟨_, hn', fun i x w e1 e2 e3 => ?_⟩, fun y c e => ?_, I.free, I.freeC, fun p hp => ?_, fun b o e => ?_, by simpa using I.len⟩
  · exact hk b o (Nat.ne_of_lt (Nat.lt_of_lt_of_le (Heap.lt_size e) I.ok.above)) (I.base.keep b o e n hb hx)
  · obtain ⟨sl, e1⟩ := I.base.slot b o e n hb hx
    exact ⟨sl, hk b _ (Nat.ne_of_lt (Nat.lt_of_lt_of_le (Heap.lt_size e) I.ok.above)) e1⟩
  · obtain ⟨o', e1⟩ := I.base.there b o e hx
    exact ⟨o', hk b _ (Nat.ne_of_lt (Nat.lt_of_lt_of_le (Heap.lt_size e) I.ok.above)) e1⟩
  · have hij : i ≠ j := fun z => by
      subst z
      rw [List.getElem?_set] at e2
      simp at e2
    rw [List.getElem?_set_ne (Ne.symm hij)] at e2
    obtain ⟨u, r, q⟩ := hm i x w e1 e2 e3
    refine ⟨u, r, ?_⟩
    rcases q with ⟨k, e⟩ | ⟨k, c, e, z⟩
    · by_cases hx : x = n
      · subst hx; exact absurd (nodup_ix hN e1 hj) hij
      · exact .inl ⟨k, by simp [hx, e]⟩
    · exact .inr ⟨k, c, e, z.sameBut hs (cne x c e)⟩
  · obtain ⟨w', z⟩ := I.cell y c e
    exact ⟨w', z.sameBut hs (cne y c e)⟩
  · obtain ⟨e, n, ne, nf, d⟩ := I.pin p hp
    exact ⟨hk _ _ ne e, n, ne, nf, d⟩
  · refine (I.hok b o e).stay (fun c w' hc q => hk c w' ?_ q) (fun _ q => q) fun _ _ q => q
    rintro rfl
    rcases hc with rfl | hc
    · rw [I.free] at e; cases e
    · rw [I.free] at hc; cases hc
end
/-- an object that stood untracked is tracked from here on -/
theorem Inv.trackE {X : Cx} {pins : List (Addr × Obj)} {σ : St} {H : Hp} {s : Shared} {a : Addr} {o : HO} (I : Inv X pins σ H s) (ha : H a = none) (h0 : X.s₀.heap.get? a = none) (hl : a ≠ X.env.locals) (hc : ∀ x c, X.env.cells.lookup x = some c → c ≠ a)
    (hp : ∀ p ∈ X.pn ++ pins, p.1 ≠ a) (new : ObjOk X.prog X.w (upd H a o) s.heap a o) : Inv X pins σ (upd H a o) s := by
  refine ⟨I.ok, I.os, I.bare, ⟨I.base.keep, I.base.slot, fun b u e n hx => ?_, I.base.there, fun b xs e => ?_, fun b u xs e => ?_, fun b ps e => ?_⟩, I.loc, I.cell, ?_, fun x c e => ?_, fun p hq => ?_, fun b u e => ?_, I.len⟩
  · rw [upd_ne (fun z => by subst z; rw [h0] at e; cases e)]; exact I.base.free b u e n hx
  · have q := I.base.tups b xs e
    rw [upd_ne (ne_of_none q ha)]; exact q
  · have q := I.base.frzs b u xs e
    rw [upd_ne (ne_of_none q ha)]; exact q
  · obtain ⟨m, q⟩ := I.base.tbls b ps e
    exact ⟨m, by rw [upd_ne (ne_of_none q ha)]; exact q⟩
  · rw [upd_ne (Ne.symm hl)]; exact I.free
  · rw [upd_ne (hc x c e)]; exact I.freeC x c e
  · obtain ⟨e, n, r⟩ := I.pin p hq
    exact ⟨e, by rw [upd_ne (hp p hq)]; exact n, r⟩
  · by_cases hb : b = a
    · subst hb; rw [upd_same] at e; cases e; exact new
    · rw [upd_ne hb] at e
      exact (I.hok b u e).stay (fun c v _ q => q) (fun c q => by rw [upd_ne (ne_of_none q ha)]; exact q) fun c xs q => by rw [upd_ne (ne_of_none q ha)]; exact q
def tCatch (K : PySem.W.Frag) (C : Addr) (iy ie : Nat) (nx : St → Hp → Prop) (σ : St) : XK := fun cls _ H =>
  PySem.W.exmOne K cls (.ref C) = some true ∧ ∀ a, H a = none → nx ((σ.set ie (some (.ref a))).set iy (some (.ref a)) |>.set ie none) (upd H a (excO a cls))
section
variable {X : Cx} {cn en y : Str} {C : Addr} {cp yp ep ap hp : Pos} {iy ie : Nat} {pins : List (Addr × Obj)} {σ : St} {D : Ends} {H1 : Hp} {s1 s2 : Shared} {e1 : Value}
/-- the error lands in the except part -/
theorem caught (hex : X.ex = []) (hst : X.stack = X.env :: X.outer) (hf : X.env.frame = some X.env.locals) (hN : X.N.Nodup) (hg : Gl X cn) (hm : X.mg cn = some (.ref C)) (hdb : (cn == ("__debug__" : Str)) = false) (hie : X.N[ie]? = some en) (hiy : X.N[iy]? = some y)
    (hen : X.env.scope.names.lookup en = some .local) (hy : X.env.scope.names.lookup y = some .local) (hde : (en == ("__debug__" : Str)) = false) (hce : (en == ("__classdict__" : Str)) = false)
    (I : Inv X pins σ H1 s1) (hc : CXe X.prog X.w X.stack H1 s1 (tCatch X.K C iy ie D.nx σ) e1 s2) :
    wpAny (model X.prog X.w) X.A (noteFrame e1 X.env) (fun _ s3 => wpAny (model X.prog X.w) X.A (setFlight e1 none) (fun _ s4 =>
      wpAny (model X.prog X.w) X.A (handleBy e1 X.env [.ExceptHandler (some (.Name cn cp)) (some en) [.Assign [.Name y yp] (.Name en ep) ap] hp]) (SP X pins D) X.xe s4) X.xe s3) X.xe s2 := by
  obtain ⟨a, cls, H3, rfl, hos, hb, u, ok, ⟨a0, B, fl, cov⟩, hx, hE⟩ := hc
  have I3 : Inv X pins σ H3 s2 := I.call' (ch := []) hos u ok hb fun b z => nomatch z
  have nf : ∀ b ∈ frs X.stack, ∃ o, s2.heap.get? b = some o ∧ ∀ vs, o.data ≠ .fields vs := fun b hb => (fl.2.2.1.mem hb).2
  have lands : ∀ {h5 : Heap} {tk : Nat}, B.StaysIn h5 → s2.heap.UpToSlots h5 → Inv X pins σ H3 { s2 with heap := h5, toks := tk } := fun {h5 tk} st up =>
    I.call' (s' := { s2 with heap := h5, toks := tk }) (ch := []) hos (Cov.un u cov st up nf) (Cov.hok ok cov st fun b z => I3.stkFree b z) hb fun b z => nomatch z
  have fl' := fl
  rw [hst] at fl'
  refine wpAny_looks_onW (by rw [← hst]; exact I.ok.frames) hf fl' fun h4 hh4 up4 => ?_
  refine wpAny_landsW hh4 fun h5 fl5 up5 => ?_
  have I5 : Inv X pins σ H3 { s2 with heap := h5 } := lands (tk := s2.toks) fl5.1 (up4.trans up5)
  obtain ⟨oe, ho5, hcl5⟩ := fl5.there
  have na : s1.heap.get? a = none := by
    cases z : s1.heap.get? a with
    | none => rfl
    | some o =>
      obtain ⟨o', z'⟩ := u.there a o z (fun z => nomatch z)
      obtain ⟨oe', ho', _⟩ := fl.there
      by_cases hfr : a ∈ frs X.stack
      · obtain ⟨oe2, vs, _, _, _, q1, _, q2, _⟩ := fl.2.2.2
        obtain ⟨o2, q3, q4⟩ := nf a hfr
        rw [q1] at q3; cases q3
        exact absurd q2 (q4 vs)
      · have := cov a o' z' (.inr ⟨o, z⟩) hfr
        rw [fl.2.1] at this; cases this
  have nH : H3 a = none := by
    cases z : H3 a with
    | none => rfl
    | some o =>
      obtain ⟨o', z'⟩ := (ok a o z).at
      by_cases hfr : a ∈ frs X.stack
      · rw [I3.stkFree a hfr] at z; cases z
      · have := cov a o' z' (.inl (by rw [z]; simp)) hfr
        rw [fl.2.1] at this; cases this
  have n0 : X.s₀.heap.get? a = none := by
    cases z : X.s₀.heap.get? a with
    | none => rfl
    | some o =>
      obtain ⟨o', z'⟩ := I.base.there a o z (by rw [hex]; exact fun z => nomatch z)
      rw [na] at z'; cases z'
  have nL : a ≠ X.env.locals := fun z => by
    obtain ⟨m, ⟨o, _, _, ho, _⟩, _⟩ := I.loc
    rw [← z, na] at ho; cases ho
  have nC : ∀ x c, X.env.cells.lookup x = some c → c ≠ a := fun x c e z => by
    obtain ⟨v, o, ho, _⟩ := I.cell x c e
    rw [z, na] at ho; cases ho
  have nP : ∀ p ∈ X.pn ++ pins, p.1 ≠ a := fun p hp z => by
    have := (I.pin p hp).1
    rw [z, na] at this; cases this
  refine wpAny_handleBy_cons (codeAny_handlers_test ?_) (by intro q; cases q)
  refine ld_glob (X := X.sub a fun _ _ => False) (I5.sub a _) hg hm ?_ hdb
  have LT : PySem.W.Looks (model X.prog X.w) h5 (typeOf (.ref a)) oe.cls := (PySem.W.Looks.ld ho5).andThen .now
  rw [hcl5] at LT
  refine (PySem.W.exm_one I5.kIn LT hx).here ?_
  refine codeAny_handlers_suite_as ?_
  refine lands_againW fl5 fun h6 fl6 up6 => ?_
  have I6 : Inv X pins σ H3 { s2 with heap := h6 } := lands (tk := s2.toks) fl6.1 (up4.trans (up5.trans up6))
  obtain ⟨oe6, ho6, hcl6⟩ := fl6.there
  have I7 : Inv X pins σ (upd H3 a (excO a cls)) { s2 with heap := h6 } := I6.trackE nH n0 nL nC nP (excO_ok ho6 hcl6)
  refine store_ok (X := X.sub a fun _ _ => False) (v := .ref a) (I7.sub a _) hN hie (.inl hen) rfl (fun s8 I8 => ?_) (.inr hen)
  have run := pss_one (ps_set (X := X.sub a fun _ _ => False) (i := iy) (x := y) (pos' := yp) (pos := ap) hN hiy (.inl hy) (pe_var (x := en) (pos := ep) hie (.inl hen) hde hce) rfl (.inr hy)) pins s8 _ _
    { nx := fun σ' H' => σ' = ((σ.set ie (some (.ref a))).set iy (some (.ref a))) ∧ H' = upd H3 a (excO a cls), rt := fun _ _ => False } I8
    ⟨.ref a, by rw [List.getElem?_set_self (by rw [I.len]; exact (List.getElem?_eq_some_iff.mp hie).1)], rfl, rfl⟩
  refine wpAny_mono run (fun f s9 q => ?_) fun _ _ z => z.elim
  cases f with
  | next =>
    obtain ⟨σ', H', I9, rfl, rfl⟩ := q
    have I9' := I9.unsub I.ok
    obtain ⟨m, hn, hm'⟩ := I9'.loc
    refine wpAny_nameGoes_keeps hen hn (by rw [I.ok.kind]; rfl) fun h' v hn' hs => ?_
    exact ⟨_, _, I9'.forget hN hn hm' hie hn' hs, hE a nH⟩
  | ret v => obtain ⟨_, _, _, _, _, z⟩ := q; exact z.elim
  | brk => obtain ⟨_, _, _, z⟩ := q; exact z.elim
  | cont => obtain ⟨_, _, _, z⟩ := q; exact z.elim
end
end L2

set_option maxHeartbeats 4000000
namespace L2
open PySem PySem.Spec PyProof.Rows PySem.W PySem.Calls
/-! ### isinstance of an error that was caught -/
structure ErrK (K : PySem.W.Frag) (C : Addr) : Prop where
  cl : (clsIn K C).isSome = true
  ga : findIn K (.ref C) "__getattribute__" = some (some (.builtin "BaseException.__getattribute__"))
  hk : findIn K (.ref C) "__getattr__" = some none
  fd : findIn K (.ref C) "__class__" = some (some (.builtin "object.__class__"))
  gt : specialIn K (.builtin "object.__class__") "__get__" = some (some (.builtin "getset_descriptor.__get__"))
  tk : takesIn K (.builtin "object.__class__") = some true
  mo : mroIn K C (.type "object") = some true
  mb : mroIn K C (.type "BaseException") = some true
section
open Builtin Builtin.ObjectAttr Builtin.Getset_descriptor
variable {K : PySem.W.Frag} {C a : Addr} {o : Obj} {prog : Program} {w : World} {A : Around} {s : Shared}
theorem exc_find {M : Model} {h : Heap} (X : K.In h) (e : ErrK K C) : Looks M h (ObjectAttr.find (.ref a) (.ref C) "__class__") (.bind (.builtin "getset_descriptor.__get__") (.builtin "object.__class__")) := by
  have L1 := looks_findIn (M := M) X e.fd
  have L2 : Looks M h (getOf (some (.builtin "object.__class__"))) _ := looks_specialIn X e.gt
  have L3 := looks_takesIn (M := M) X e.tk
  exact L1.andThen (L2.andThen ((show Looks M h (dataDescriptor? (some (.builtin "object.__class__")) (some (.builtin "getset_descriptor.__get__"))) (some (.builtin "getset_descriptor.__get__", .builtin "object.__class__")) from L3.andThen .now).andThen (Looks.tag .now)))
theorem exc_ty {M : Model} {h : Heap} (hx : h.get? a = some o) (hc : o.cls = .ref C) : Looks M h (typeOf (.ref a)) (.ref C) := hc ▸ (Looks.ld hx).andThen .now
theorem exc_get {R : Result → Shared → Prop} {tp : Value} (X : K.In s.heap) (hx : s.heap.get? a = some o) (hc : o.cls = .ref C) (e : ErrK K C) (h : R (.ok (.ret (.ref C))) s) :
    codeAny (model prog w) A (.call (.builtin "getset_descriptor.__get__") ⟨[.builtin "object.__class__", .ref a, tp], []⟩) R s := by
  obtain ⟨hh, g, dr, t, os⟩ := s
  have L0 := exc_ty (M := model prog w) hx hc; have L1 := looks_mroIn (M := model prog w) X e.mo
  refine codeAny_call_builtin KF.slot_gs.plain KF.entry_gs (KF.slot_gs.check _ _ _ _ _ _ _ _ KF.type_class (KF.args_gs _ _ _) ?_); unfold Builtin.«getset_descriptor.__get__» descrGet; rw [dga_obj]
  refine wpAny_bind (wpAny_pure ?_); unfold descrGetter descrCheckInstance descrNameAndClass isInstance; simp only [KF.owner_class]
  repeat lk
  refine ⟨Code.quiet_builtin _ (by decide +kernel), codeAny_builtin KF.entry_class ?_⟩; unfold Builtin.«object.__class__» shownTypeOf
  repeat lk
  exact h
theorem exc_entry {tk : Tok} {Q : Fin → Shared → Prop} {E : Value → Shared → Prop} (X : K.In s.heap) (hx : s.heap.get? a = some o) (hc : o.cls = .ref C) (e : ErrK K C) (h : Q (.done (.ret (.ref C))) s) :
    wpAny (model prog w) A (Builtin.«object.__getattribute__» ⟨[.ref a, .str "__class__" tk], []⟩) Q E s := by
  obtain ⟨hh, g, dr, t, os⟩ := s
  have L0 := exc_ty (M := model prog w) hx hc
  have L1 := exc_find (M := model prog w) (a := a) X e
  unfold Builtin.«object.__getattribute__»
  refine wpAny_bind (wpAny_pure (wpAny_bind (wpAny_pure (wpAny_bind (L0.at (wpAny_bind (L1.at ?_)))))))
  show wpAny _ _ (holding [.builtin "object.__class__"] (call (.builtin "getset_descriptor.__get__") [.builtin "object.__class__", .ref a, .ref C]) >>= ret) _ _ _
  refine wpAny_bind (wpAny_holding (wpAny_call (exc_get X hx hc e ?_)))
  exact wpAny_pure h
theorem exc_check {nv : Value} {Q : Unit → Shared → Prop} {E : Value → Shared → Prop} (X : K.In s.heap) (hx : s.heap.get? a = some o) (hc : o.cls = .ref C) (e : ErrK K C) (h : Q () s) :
    wpAny (model prog w) A (checkBuiltinCall "BaseException.__getattribute__" ⟨[.ref a, nv], []⟩) Q E s := by
  have hkd : builtinKind "BaseException.__getattribute__" = some .slot := by decide +kernel
  have hsp : splitId "BaseException.__getattribute__" = some ("BaseException", "__getattribute__") := by decide +kernel
  have L0 : Looks (model prog w) s.heap (isInstance (.ref a) (.type "BaseException")) true := (exc_ty hx hc).andThen (looks_mroIn X e.mb)
  have ha := F.args_bexc_ga (.ref a) nv
  obtain ⟨hh, g, dr, t, os⟩ := s
  simp only [checkBuiltinCall, hkd, hsp]
  refine wpAny_bind (L0.at ?_)
  repeat (first | assumption | wp_step)
theorem exc_class {Q : Option Value → Shared → Prop} {E : Value → Shared → Prop} (X : K.In s.heap) (hx : s.heap.get? a = some o) (hc : o.cls = .ref C) (e : ErrK K C) (h : Q (some (.ref C)) { s with toks := s.toks + 1 }) :
    wpAny (model prog w) A (getAttr? (.ref a) "__class__") Q E s := by
  obtain ⟨hh, g, dr, t, os⟩ := s
  have L0 := exc_ty (M := model prog w) hx hc
  have L1 := looks_findIn (M := model prog w) X e.ga
  have L2 := looks_findIn (M := model prog w) X e.hk
  have hne : (onTheHeap (Value.ref C) && Value.builtin "BaseException.__getattribute__" == Value.builtin "object.__getattribute__") = false := by
    have : (Value.builtin "BaseException.__getattribute__" == Value.builtin "object.__getattribute__") = false := by decide +kernel
    rw [this]; rfl
  unfold getAttr? getAttrBy? getAttrBy
  refine wpAny_bind (wpAny_mkText (wpAny_bind (wpAny_attempt (wpAny_holding (wpAny_bind (L0.at (wpAny_bind (L1.at ?_))))))))
  dsimp only
  rw [if_neg (by rw [hne]; decide)]
  unfold getAttrByItsOwn
  refine wpAny_bind ?_
  show wpAny _ _ (typeLookup (.ref C) "__getattr__") _ _ _
  refine L2.at ?_
  refine wpAny_bind (wpAny_attempt (wpAny_holding ?_))
  show wpAny _ _ (boundAndCalled (.builtin "BaseException.__getattribute__") (.ref a) _) _ _ _
  unfold boundAndCalled
  rw [F.excAttr_ValueError.ga.bind (.ref a)]
  refine wpAny_bind (wpAny_pure (wpAny_call (codeAny_call_builtin F.excAttr_ValueError.ga.plain F.entry_bexc_ga (exc_check X hx hc e (exc_entry X hx hc e ?_)))))
  exact handed_on rfl (wpAny_pure h)
theorem kitx_exc (e : ErrK K C) : KitX K (.ref a) (.ref C) (fun h => ∃ o, h.get? a = some o ∧ o.cls = .ref C) where
  ty := fun _ _ _ ⟨_, hx, hc⟩ => exc_ty hx hc
  it := fun _ _ X _ => by
    have hcD := e.cl
    unfold clsIn at hcD
    split at hcD
    case h_2 => cases hcD
    case h_1 ho => exact fun A' Q' E' s' k q => by unfold isType loadHead; exact wpAny_bind (wpAny_loadPart (k _ _ (X _ _ ho)) (wpAny_pure q))
  ne := fun h tp dd its n sl X htp => by
    refine Bool.eq_false_iff.mpr fun q => ?_
    have z : C = tp := Value.ref.inj (beq_iff_eq.mp q)
    have hcD := e.cl
    unfold clsIn at hcD
    split at hcD
    case h_2 => cases hcD
    case h_1 ho => subst z; have y := (X _ _ ho).symm.trans htp; cases y
  ca := fun X ⟨_, hx, hc⟩ k => exc_class X hx hc e k
end
end L2

set_option maxHeartbeats 4000000
namespace L2
open PySem PySem.Spec PyProof.Rows
/-! ### the closed judgements -/
structure JX (X : Cx) (e : Expr) (tx : XK → TE) : Prop where
  h : PX X e tx
structure JJ (X : Cx) (es : List Expr) (t : TJ) : Prop where
  h : PJ X es t
section
variable {X : Cx} {k j : Nat} {x y cn en : Str} {ps : List Str} {sp : Sp} {p pos np cp yp ep ap hp tp : Pos} {e e2 : Expr} {es : List Expr} {t : TA} {te : TE} {tx : XK → TE} {E : XK} {C : Addr} {tj : TJ}
theorem x_fn (F : FnX X.prog X.w X.K X.mg X.base k x ps sp) (hr : Room j X.A) (ha : JA X.nox (e :: es) t) (hj : k ≤ j := by decide) (hg : Gl X x := by rfl) (hdb : (x == ("__debug__" : Str)) = false := by decide +kernel) :
    JX X (.Call (.Name x p) (e :: es) [] pos) (fun E => tCall sp [] E t) := ⟨px_fn F hr ha.h hj hg hdb (ha.hd.star _ _) (ha.rs.no _ _)⟩
theorem JX.je (h : JX X e tx) (hp : Passes (CXe X.prog X.w) X E) : JE X e (tx E) := ⟨h.h.pe hp⟩
theorem s_raise (hR : Raises X E) (O : ErrC X.K X.mg x C) (ha : JE X e te) (hn : ∀ env, starEach [e] env = [(false, eval e env)] := by intro; rfl) (hc : X.calm = true := by rfl) (hg : Gl X x := by rfl) (hdb : (x == ("__debug__" : Str)) = false := by decide +kernel) :
    JS X (.Raise (some (.Call (.Name x np) [e] [] cp)) none pos) (tRaise C E te) := ⟨ps_raise hR O (pa_cons ha.h pa_nil (hn _)) (hn _) hc hg hdb⟩
theorem j_nil : JJ X [] jNil := ⟨pj_nil⟩
theorem j_cons (he : JE X e te) (h : JJ X es tj) : JJ X (e :: es) (jCons te tj) := ⟨pj_cons he.h h.h⟩
theorem e_fst (h : JJ X (e :: e2 :: es) tj) (hl : 5000 * (e :: e2 :: es).length ≤ sizeLine := by decide) : JE X (.JoinedStr (e :: e2 :: es) pos) (tFst tj) := ⟨pe_fst h.h hl⟩
theorem e_fmI (he : JE X e te) : JE X (.FormattedValue e (-1) none pos) (tFmI te) := ⟨pe_fmI he.h⟩
/-- a name of the module that stands for a class (or a def) -/
theorem e_ref {a : Addr} (hm : X.mg x = some (.ref a)) (hg : Gl X x := by rfl) (hd : (x == ("__debug__" : Str)) = false := by decide +kernel) : JE X (.Name x pos) (tC (.ref a)) := ⟨pe_glob hg hm rfl hd⟩
def tTryS (K : PySem.W.Frag) (C : Addr) (iy ie ix : Nat) (tx : XK → TE) : TS := fun D σ H => tx (tCatch K C iy ie D.nx σ) σ H fun v H1 => D.nx (σ.set ix (some v)) H1
theorem s_tryS (iy ie ix : Nat) {xp : Pos} (h : JX X e tx) (O : X.mg cn = some (.ref C)) (hN : X.N.Nodup) (hex : X.ex = [] := by rfl) (hst : X.stack = X.env :: X.outer := by rfl) (hf : X.env.frame = some X.env.locals := by rfl) (hg : Gl X cn := by rfl) (hdb : (cn == ("__debug__" : Str)) = false := by decide +kernel)
    (hie : X.N[ie]? = some en := by rfl) (hiy : X.N[iy]? = some y := by rfl) (hen : X.env.scope.names.lookup en = some .local := by rfl) (hy : X.env.scope.names.lookup y = some .local := by rfl)
    (hde : (en == ("__debug__" : Str)) = false := by decide +kernel) (hce : (en == ("__classdict__" : Str)) = false := by decide +kernel) (hs : Pln e := by constructor)
    (hix : X.N[ix]? = some x := by rfl) (hxl : Loc X.env.scope x := by first | exact Or.inl rfl | exact Or.inr rfl) (hfx : X.fn x = true ∨ X.env.scope.names.lookup x = some .local := by first | exact .inl rfl | exact .inr rfl) :
    JS X (.Try [.Assign [.Name x xp] e pos] [.ExceptHandler (some (.Name cn cp)) (some en) [.Assign [.Name y yp] (.Name en ep) ap] hp] [] [] tp) (tTryS X.K C iy ie ix tx) := by
  refine ⟨fun pins s σ H D I hw => wpAny_Try_except ?_⟩
  refine wpAny_execs_cons (wpAny_Assign_Name (wpAny_mono (h.h pins s σ H _ _ _ I (fun H1 s1 e1 s2 I1 hc => caught hex hst hf hN hg O hdb hie hiy hen hy hde hce I1 hc) hw) (fun v s1 q => ?_) fun _ _ z => z) (hs.swap _ _ _))
  obtain ⟨x, H1, I1, r1, q1⟩ := q
  exact store_ok I1 hN hix hxl r1 (fun s2 I2 => wpAny_execs_nil (wpAny_execs_nil ⟨_, H1, I2, q1⟩)) hfx
/-! ### isinstance with own classes -/
/-- the type of a value or of an error that was caught -/
def TyE (K : PySem.W.Frag) (H : Hp) (v : V) (t : Value) : Prop := TyOf K H v t ∨ ∃ a C, v = .ref a ∧ t = .ref C ∧ H a = some (excO a (.ref C)) ∧ ErrK K C
def clV : V → Value
  | .ref C => .ref C
  | .ty T => .type T
  | _ => .none
def rIsE (K : PySem.W.Frag) : List V → Hp → VK → Prop := fun xs H Q => ∃ y c t b, xs = [y, c] ∧ ((∃ C, c = .ref C) ∨ ∃ T, c = .ty T) ∧ TyE K H y t ∧ PySem.W.kitOne K t (clV c) = some b ∧ Q (.bl b) H
theorem isinst_E {pins : List (Addr × Obj)} {σ : St} {H : Hp} {s : Shared} {A : Around} {E : Value → Shared → Prop} {Q : Value → Shared → Prop} {c : Value} {b : Bool} {x : V} {u t : Value} (I : Inv X pins σ H s) (rx : RelV x u) (ty : TyE X.K H x t)
    (e : PySem.W.kitOne X.K t c = some b) (h : ∀ tk, Q (.bool b) { s with toks := tk }) : wpAny (model X.prog X.w) A (call (.builtin "isinstance") [u, c]) Q E s := by
  rcases ty with ty | ⟨a, C, rfl, rfl, ha, ek⟩
  · exact isinst_ok I rx ty e h
  · cases (show u = Value.ref a from rx)
    exact PySem.W.kia_one (PySem.W.KitX.mk (kitx_exc (a := a) ek).ty (kitx_exc ek).it (kitx_exc (a := a) ek).ne (kitx_exc ek).ca) I.kIn (excO_at (I.hok a _ ha)) e (fun z => nomatch z) h
theorem c_isE : JC X (.builtin "isinstance") (rIsE X.K) := by
  refine ⟨fun pins s σ H xs us Q I r ⟨y, c, t, b, e, hc, ty, ek, q⟩ => ?_⟩
  subst e
  obtain ⟨u, w', rfl, r1, r2⟩ := vals2 r
  rcases hc with ⟨C, rfl⟩ | ⟨T, rfl⟩
  · cases (show w' = Value.ref C from r2)
    exact isinst_E I r1 ty ek fun tk => ⟨.bl b, H, I.tok tk, rfl, q⟩
  · cases (show w' = Value.type T from r2)
    exact isinst_E I r1 ty ek fun tk => ⟨.bl b, H, I.tok tk, rfl, q⟩
end
section
variable {P : Program} {w : World} {K : PySem.W.Frag} {mg : Str → Option Value} {base : Heap}
/-- the rule for a def that may refuse -/
theorem Fun.okX {x qual : Str} {st : Stmt} {f : Addr} {fd : FuncData} {N ps : List Str} {k : Nat} {sp : Sp} (F : Fun K x qual st f fd) (S : FnScope N ps (defScope st)) (len : ∀ vs H Q E, sp vs H Q E → vs.length = ps.length)
    (hbody : ∀ (cdv : Value) (A : Around) (outer : List Env) (s : Shared) (H : Hp) (vs : List V) (Q : VK) (E : XK), Room k (A.deeper (envOfC qual (defScope st) s.heap.objs.size f cdv)) → sp vs H Q E →
      ∃ t, JB (cxOf (CXe P w) P w K mg base N qual (defScope st) f cdv A outer s H E) (defBody st) t ∧ t { nx := fun _ H' => Q .non H', rt := Q } (start N vs) H) : FnOk P w K mg base (CXe P w) (k + 1) f fd ps sp := by
  obtain ⟨oc, od, kV, doc, pm, an, cdv, ct, osl, rfl, lk, hcd⟩ := F.ex
  refine fn_of lk hcd S len fun A outer s H vs Q E hr hsp => ?_
  obtain ⟨t, h1, h2⟩ := hbody cdv A outer s H vs Q E hr hsp
  exact ⟨t, h1.h, h2⟩
theorem raises_cx {N : List Str} {qual : Str} {scope : Scope} {f : Addr} {cd : Value} {A : Around} {outer : List Env} {s : Shared} {H : Hp} {E : XK} : Raises (cxOf (CXe P w) P w K mg base N qual scope f cd A outer s H E) E :=
  fun pins σ H1 s1 h' a cls vs I hx hE => xe_made I hx hE
theorem own_cx {N : List Str} {qual : Str} {scope : Scope} {f : Addr} {cd : Value} {A : Around} {outer : List Env} {s : Shared} {H : Hp} {E : XK} :
    PassesOwn (model P w) (cxOf (CXe P w) P w K mg base N qual scope f cd A outer s H E).A (cxOf (CXe P w) P w K mg base N qual scope f cd A outer s H E).env (cxOf (CXe P w) P w K mg base N qual scope f cd A outer s H E).xe := PassesOwn.leaving
end
end L2

set_option maxHeartbeats 4000000
namespace L2
open PySem PySem.Spec PyProof.Rows
/-! ### a comprehension whose body may refuse -/
abbrev compCxW (X : Cx) (pins : List (Addr × Obj)) (scope : Scope) (cl : List (Str × Addr)) (C : Addr) (Nc : List Str) (s3 : Shared) (H3 : Hp) (fp : List Addr) (W : Value → Shared → Prop) : Cx := (compCx X pins scope cl C Nc s3 H3 fp).wish W
section
variable {prog : Program} {w : World} {A : Around} {R : Result → Shared → Prop} {s : Shared}
theorem comp_turnsW {elt target iter : Expr} {ifs : List Expr} {scope : Scope} {pos : Pos} {it acc : Value} {env : Env} {W : Value → Shared → Prop} (hW : ∀ x s, W x s → notedBy (model prog w) A env (fun x s' => R (.error x) s') x s) (I : Nat → Shared → Prop)
    (turn : ∀ n s, I n s → wpAny (model prog w) A (pyNext it) (fun r s1 => match r with
      | none => R (.ok .next) s1
      | some v => wpAny (model prog w) A (letOwnedTupleGo target it v) (fun _ s2 => wpAny (model prog w) A (assign target env v) (fun _ s3 => wpAny (model prog w) A (testsOf ifs env) (fun ok s4 =>
          if ok = true then wpAny (model prog w) A (eval elt env) (fun x s5 => wpAny (model prog w) A (call (.builtin "list.append") [acc, x]) (fun _ s6 => ∃ m, m < n ∧ I m s6) W s5) W s4
          else ∃ m, m < n ∧ I m s4) W s3) W s2) W s1) W s)
    (n : Nat) (h : I n s) : codeAny (model prog w) A (.compLoop (.ListComp elt [⟨target, iter, ifs, 0⟩] scope pos) 0 it acc env) R s := by
  refine codeAny_loop rfl I (fun n s hI => ?_) n h
  show wpAny _ A (Sem.onRaise (compTurn (.ListComp elt [⟨target, iter, ifs, 0⟩] scope pos) 0 it acc env) (fun x => do noteFrame x env; theTreesLotGoes x)) _ _ s
  refine wpAny_noted (wpAny_mono (E := W) ?_ (fun _ _ z => z) hW)
  rw [compTurn_list]
  refine wpAny_bind (wpAny_standAt (wpAny_bind (thn (turn n s hI) fun r s1 h1 => ?_)))
  cases r with
  | none => exact wpAny_pure h1
  | some v =>
    refine wpAny_bind (thn h1 fun _ s2 h2 => wpAny_bind (thn h2 fun _ s3 h3 => wpAny_bind (thn h3 fun ok s4 h4 => ?_)))
    cases ok with
    | false => exact wpAny_pure ⟨rfl, h4⟩
    | true => exact wpAny_bind (wpAny_bind (thn h4 fun x s5 h5 => wpAny_bind (thn h5 fun _ s6 h6 => wpAny_pure (wpAny_pure ⟨rfl, h6⟩))))
end
section
variable {X : Cx} {pins : List (Addr × Obj)} {σ : St} {H : Hp} {s : Shared} {scope : Scope} {cl : List (Str × Addr)} {Nc : List Str} {js : List (Option Nat)} {C : Addr} {fp : List Addr} {h1 : Heap} {tk : Nat} {m : Str → Option Value}
theorem comp_runW {We : Value → Shared → Prop} {elt target iter : Expr} {ifs : List Expr} {pos : Pos} {g : TG} {tt : TT} {te : TE} {Q : VK} {J : It} {it D : Addr} {tn : Nat → Heap → Prop} {R : Result → Shared → Prop} {s4 : Shared} {σc : St} {Hc : Hp}
    (hc : X.calm = true) (T : Turn X.prog X.w X.K target J fp it tn) (hf : ∀ b ∈ fp, FpOk X pins H b)
    (hg : PG (compCxW X pins scope cl C Nc s H fp We) target g) (ht : PIf (compCxW X pins scope cl C Nc s H fp We) ifs tt) (he : PE (compCxW X pins scope cl C Nc s H fp We) elt te)
    (I : Inv (compCxW X pins scope cl C Nc s H fp We) [] σc Hc s4) (st : tn 0 s4.heap) (fr : ∀ b ∈ fp, Hc b = none) (hw : CompW J g tt te D Q σc Hc)
    (hW : ∀ x s, We x s → notedBy (model X.prog X.w) X.A (compEnvC scope cl C X.env) (fun x s' => R (.error x) s') x s) (h : ∀ s' σ' H', Inv (compCxW X pins scope cl C Nc s H fp We) [] σ' H' s' → (∀ b ∈ fp, H' b = none) → Q (.ref D) H' → R (.ok .next) s') :
    codeAny (model X.prog X.w) X.A (.compLoop (.ListComp elt [⟨target, iter, ifs, 0⟩] scope pos) 0 (.ref it) (.ref D) (compEnvC scope cl C X.env)) R s4 := by
  obtain ⟨W, ⟨m0, w0⟩, turn⟩ := hw
  have ok := I.ok
  -- what stays true of the iterator's objects
  have stat : ∀ {H' : Hp}, (∀ b ∈ fp, H' b = none) → ∀ b ∈ fp, FpOk (compCxW X pins scope cl C Nc s H fp We) [] H' b := fun hn b hb =>
    ⟨hn b hb, (ok.exf b hb).1, ok.exfs b hb, .inl hb, (ok.exf b hb).2, fun p hp => (hf b hb).2.2.2.2.2 p (by simpa using hp)⟩
  refine comp_turnsW hW (fun n s' => ∃ i σ' H', Inv (compCxW X pins scope cl C Nc s H fp We) [] σ' H' s' ∧ tn i s'.heap ∧ (∀ b ∈ fp, H' b = none) ∧ W i n σ' H') ?_ m0 ⟨0, σc, Hc, I, st, fr, w0⟩
  rintro n s5 ⟨i, σ5, H5, I5, st5, fr5, w5⟩
  rcases turn i n σ5 H5 w5 with ⟨stop, qn⟩ | ⟨go, N, hN, step⟩
  · refine thn (T.done (compCxW X pins scope cl C Nc s H fp We) rfl rfl rfl hc i [] s5 σ5 H5 We I5 (stat fr5) st5 stop) fun r s6 ⟨hr, I6⟩ => ?_
    subst hr
    exact h s6 σ5 H5 I6 fr5 qn
  · refine thn (T.item (compCxW X pins scope cl C Nc s H fp We) rfl rfl rfl hc i [] s5 σ5 H5 We I5 (stat fr5) st5 go) fun r s6 ⟨u, hr, h6⟩ => ?_
    subst hr
    refine thn h6 fun _ s7 ⟨x, H7, I7, r7, y7, st7, fr7⟩ => ?_
    have I7' := I7.pinned (stat fr7) (T.obj _ _ st7)
    refine thn (hg _ s7 σ5 H7 x u _ I7' r7 (step x H7 y7)) fun _ s8 ⟨σ8, H8, I8, q8⟩ => ?_
    refine thn (ht _ s8 σ8 H8 _ I8 q8) fun b s9 ⟨H9, I9, q9⟩ => ?_
    have again : ∀ {σ' : St} {H' : Hp} {s' : Shared}, Inv (compCxW X pins scope cl C Nc s H fp We) ([] ++ pinsAt fp s7.heap) σ' H' s' → N σ' H' → ∃ m, m < n ∧ ∃ i σ' H', Inv (compCxW X pins scope cl C Nc s H fp We) [] σ' H' s' ∧ tn i s'.heap ∧ (∀ b ∈ fp, H' b = none) ∧ W i m σ' H' := fun {σ' H' s'} J' n' => by
      obtain ⟨m', hm, w'⟩ := hN σ' H' n'
      have P : ∀ b ∈ fp, ∀ o, s7.heap.get? b = some o → s'.heap.get? b = some o ∧ H' b = none := fun b hb o e =>
        have q := J'.pin (b, o) (List.mem_append_right _ (List.mem_append_right _ (mem_pinsAt hb e)))
        ⟨q.1, q.2.1⟩
      refine ⟨m', hm, i + 1, σ', H', J'.unpinned, T.keep _ _ _ st7 fun b hb o e => (P b hb o e).1, fun b hb => ?_, w'⟩
      obtain ⟨o, e, _⟩ := T.obj _ _ st7 b hb
      exact (P b hb o e).2
    cases b with
    | false =>
      rw [if_neg (by decide)]
      exact again I9 q9
    | true =>
      rw [if_pos rfl]
      refine thn (he _ s9 σ8 H9 _ I9 q9) fun v s10 ⟨y, H10, I10, r10, ys, hD, hz, n10⟩ => ?_
      refine thn (mt_append _ s10 σ8 H10 (.ref D) [y] (.ref D) [v] (fun _ H11 => N σ8 H11) I10 rfl (.cons r10 .nil) ⟨D, ys, y, rfl, rfl, hD, hz, n10⟩) fun _ s11 ⟨_, H11, I11, _, n11⟩ => ?_
      exact again I11 n11
end
/-- what an error that leaves the block must hold -/
def compE (X : Cx) (scope : Scope) (cl : List (Str × Addr)) (C : Addr) : Value → Shared → Prop :=
  notedBy (model X.prog X.w) X.A (compEnvC scope cl C X.env) fun x s' => compPost (model X.prog X.w) X.A X.xe none (fun _ _ => False) .none C (.error x) s'
def InnerW (X : Cx) (E : XK) (scope : Scope) (cl : List (Str × Addr)) (Nc : List Str) (target elt : Expr) (ifs : List Expr) (g : TG) (tt : TT) (te : TE) : Prop :=
  ∀ (pins : List (Addr × Obj)) (C : Addr) (s3 : Shared) (H3 : Hp) (fp : List Addr) (W : Value → Shared → Prop), Passes (CXe X.prog X.w) (compCxW X pins scope cl C Nc s3 H3 fp W) E →
    PG (compCxW X pins scope cl C Nc s3 H3 fp W) target g ∧ PIf (compCxW X pins scope cl C Nc s3 H3 fp W) ifs tt ∧ PE (compCxW X pins scope cl C Nc s3 H3 fp W) elt te
/-- the errors of the block leave the def around it -/
def LeavesW (X : Cx) (E : XK) : Prop := ∀ (scope : Scope) (cl : List (Str × Addr)) (Nc : List Str) (pins : List (Addr × Obj)) (σ : St) (s3 : Shared) (H3 : Hp) (fp : List Addr), Inv X pins σ H3 s3 → (∀ b ∈ fp, FpOk X pins H3 b) →
  Passes (CXe X.prog X.w) (compCxW X pins scope cl s3.heap.objs.size Nc s3 H3 fp (compE X scope cl s3.heap.objs.size)) E
section
variable {X : Cx} {E : XK} {pins : List (Addr × Obj)} {σ : St} {H : Hp} {s : Shared} {scope : Scope} {cl : List (Str × Addr)} {Nc : List Str} {js : List (Option Nat)} {target elt iter : Expr} {ifs : List Expr} {pos : Pos} {wi : TI} {g : TG} {tt : TT} {te : TE}
theorem comp_blockW {Q : VK} {J : It} {it : Addr} {fp : List Addr} {tn : Nat → Heap → Prop} {RR : Value → Addr → Result → Shared → Prop} {E1 : Value → Shared → Prop} (LW : LeavesW X E) (hc : X.calm = true) (S : CompScope X scope cl Nc js) (B : InnerW X E scope cl Nc target elt ifs g tt te)
    (I : Inv X pins σ H s) (T : Turn X.prog X.w X.K target J fp it tn) (st : tn 0 s.heap) (hf : ∀ b ∈ fp, FpOk X pins H b) (hw : ∀ D, H D = none → CompW J g tt te D Q (capt js σ) (upd H D (.lst [])))
    (hR : ∀ D C x s', compPost (model X.prog X.w) X.A X.xe none (fun _ _ => False) .none C (.error x) s' → RR (.ref D) C (.error x) s')
    (h : ∀ D C s' H' m, Inv X pins σ H' s' → s'.heap.Ns C m → FpOk X pins H' C → Q (.ref D) H' → RR (.ref D) C (.ok .next) s') :
    wpAny (model X.prog X.w) X.A (newList []) (fun acc s3 => wpAny (model X.prog X.w) X.A (newFunctionEnv scope X.env.globals cl [] X.env.qual none .none (some X.env)) (fun cenv s4 =>
      codeAny (model X.prog X.w) X.A (.compStart (.ListComp elt [⟨target, iter, ifs, 0⟩] scope pos) 0 (.ref it) acc { cenv with scope := relabel scope X.env }) (RR acc cenv.locals) s4) E1 s3) E1 s := by
  have hD : H s.heap.objs.size = none := I.fresh
  have I3 : Inv X pins σ (upd H s.heap.objs.size (.lst [])) { s with heap := s.heap.push { cls := .type "list", data := .seq ([] : List Value).toArray } } := I.lnew (t' := s.toks) (its := []) (ys := []) .nil (Nat.zero_le _)
  refine wpAny_newList (wpAny_newFunctionEnv S.cell (fun y hy => by cases hy) (fun h1 hn hsb => ?_) S.kind) (Nat.zero_le _)
  generalize hs3 : ({ s with heap := s.heap.push { cls := .type "list", data := .seq ([] : List Value).toArray } } : Shared) = s3 at I3
  have hn' : h1.Ns s3.heap.objs.size (fun x => ([] : List (Str × Value)).reverse.lookup x) := by rw [← hs3]; exact hn
  have hsb' : Heap.SameBut s3.heap.objs.size (s3.heap.push { cls := .type "dict", data := .dict #[] }) h1 := by rw [← hs3]; exact hsb
  have kp : ∀ b o, s3.heap.get? b = some o → h1.get? b = some o := fun b o e => (hsb'.2 b (Nat.ne_of_lt (Heap.lt_size e))).trans (Heap.get?_push_of_some _ e)
  have fpo : ∀ b ∈ fp, ∃ o, s.heap.get? b = some o := fun b hb => let ⟨o, e, _⟩ := T.obj 0 _ st b hb; ⟨o, e⟩
  have k2 : ∀ b o, s.heap.get? b = some o → s3.heap.get? b = some o := fun b o e => by rw [← hs3]; exact Heap.get?_push_of_some _ e
  have hf3 : ∀ b ∈ fp, FpOk X pins (upd H s.heap.objs.size (.lst [])) b := fun b hb => by
    refine FpOk.of (hf b hb) ?_
    obtain ⟨o, e⟩ := fpo b hb
    rw [upd_ne (Nat.ne_of_lt (Heap.lt_size e))]
    exact (hf b hb).1
  have Ic : Inv (compCxW X pins scope cl s3.heap.objs.size Nc s3 (upd H s.heap.objs.size (.lst [])) fp (compE X scope cl s3.heap.objs.size)) [] (capt js σ) (upd H s.heap.objs.size (.lst [])) { s3 with heap := h1, toks := s3.toks + 0 } :=
    (inv_comp S I3 hf3 (fun b hb => let ⟨o, e⟩ := fpo b hb; ⟨o, k2 b o e⟩) (Nat.le_refl _) hn' kp).wish _
  have st4 : tn 0 h1 := T.keep 0 _ _ st fun b hb o e => kp b o (k2 b o e)
  obtain ⟨b1, b2, b3⟩ := B pins s3.heap.objs.size s3 (upd H s.heap.objs.size (.lst [])) fp _ (LW scope cl Nc pins σ s3 _ fp I3 hf3)
  have loop : codeAny (model X.prog X.w) X.A (.compLoop (.ListComp elt [⟨target, iter, ifs, 0⟩] scope pos) 0 (.ref it) (.ref s.heap.objs.size) (compEnvC scope cl s3.heap.objs.size X.env)) (RR (.ref s.heap.objs.size) s3.heap.objs.size) { s3 with heap := h1, toks := s3.toks + 0 } := by
    refine comp_runW hc T hf3 b1 b2 b3 Ic st4 (fun b hb => (hf3 b hb).1) (hw _ hD) (fun x s' hx => wpAny_mono hx (fun _ s2 q => hR _ _ _ _ q) fun y s2 q => hR _ _ _ _ q) fun s' σ' H' I' fr' q' => ?_
    obtain ⟨m, hm, _⟩ := I'.loc
    have Io : Inv X pins σ H' s' := I3.call' (ch := fp) I'.os I'.base I'.hok I'.bare fun b hb => ⟨(hf3 b hb).2.2.2.1, (hf3 b hb).2.1, (hf3 b hb).2.2.2.2.1, (hf3 b hb).2.2.2.2.2⟩
    exact h _ _ s' H' m Io hm (I3.fpOk (Nat.le_refl _) I'.free) q'
  exact codeAny_compStart_list loop (T.self X.A 0 _ _ _ (show tn 0 h1 from st4) loop)
/-- [e for t in it if c], where e may refuse -/
theorem pe_compW (LW : LeavesW X E) (hc : X.calm = true) (S : CompScope X scope cl Nc js) (hi : PI X target iter wi) (B : InnerW X E scope cl Nc target elt ifs g tt te) (hs : ∀ x, foldedSetIterable iter X.env x = pure x := by intro _; rfl) :
    PE X (.ListComp elt [⟨target, iter, ifs, 0⟩] scope pos) (tComp js wi g tt te) := by
  intro pins s σ H Q I h
  rw [eval_ListComp]
  refine wpAny_comprehension_free (use := none) rfl hs S.clos S.kind S.nms (thn (hi pins s σ H _ I h) fun xv s1 h1 => thn h1 fun itv s2 h2 => ?_)
  obtain ⟨it, fp, tn, J, H2, e, I2, T, st2, f2, hw⟩ := h2
  subst e
  refine comp_blockW LW hc S B I2 T st2 f2 hw (fun D C x s' q => q) fun D C s' H' m I' hm fC q => ?_
  exact ⟨m, hm, fun h' hs' => ⟨.ref D, H', I'.lettingGo fC hs', rfl, q⟩⟩
end
/-! ### how it leaves -/
theorem Cov.unF {l : List Env} {H H' : Hp} {h0 h h5 B : Heap} (u : Un (frs l) [] H H' h0 h) (cov : Cov l H' h0 h B) (st : B.StaysIn h5) (nf : ∀ b ∈ frs l, ∀ o, h.get? b = some o → ∃ sl, h5.get? b = some { o with slots := sl }) : Un (frs l) [] H H' h0 h5 where
  keep := fun b o e n hb hx => st b o (cov b o (u.keep b o e n hb hx) (.inr ⟨o, e⟩) hb)
  slot := fun b o e n hb hx => by
    obtain ⟨sl, q⟩ := u.slot b o e n hb hx
    obtain ⟨sl', q2⟩ := nf b hb _ q
    exact ⟨sl', q2⟩
  free := u.free
  there := fun b o e hx => by
    obtain ⟨o', q⟩ := u.there b o e hx
    by_cases hb : b ∈ frs l
    · obtain ⟨sl', q2⟩ := nf b hb _ q
      exact ⟨_, q2⟩
    · exact ⟨o', st b o' (cov b o' q (.inr ⟨o, e⟩) hb)⟩
  tups := u.tups
  frzs := u.frzs
  tbls := u.tbls
section
variable {M : Model} {A : Around} {E : Value → Shared → Prop} {s : Shared}
/-- an error leaves a frame, whatever its last entry says of the flight -/
theorem leaving_any {base : Heap} {env : Env} {outer : List Env} {L e : Addr} {cls a0 fl : Value} {Q : Unit → Shared → Prop}
    (hfr : A.frames = some (env :: outer)) (hf : env.frame = some L) (hkb : base.StaysIn s.heap) (hen : base.get? e = none) (hl : s.heap.FunFrames base (env :: outer)) (ht : s.heap.TracedAtW base e cls a0 fl)
    (hQ : ∀ h', Heap.FlyingW base outer e cls a0 h' → s.heap.UpToSlots h' → Q () { s with heap := h' }) : wpAny M A (leaving env (.ref e)) Q E s := by
  by_cases z : fl = rawInt L
  · subst z
    unfold leaving
    refine wpAny_bind (wpAny_noteFrame_againW hf ht (wpAny_landsW ⟨hkb, hen, hl, ht⟩ fun h' ⟨k1, k2, k3, k4⟩ up => hQ h' ⟨k1, k2, k3.2.2, k4⟩ up))
  · obtain ⟨oe, vs, T, oT, ts, he, ⟨hcls, h0⟩, hd, h1, hnT, hTe, hT, hdT, h3⟩ := ht
    subst hcls
    unfold leaving noteFrame
    simp only [hf]
    refine wpAny_bind (wpAny_bind (wpAny_field he hd h1 ?_))
    rw [if_pos (show (Value.ref T != Value.none) = true from by simp)]
    refine wpAny_bind (wpAny_field hT hdT h3 ?_)
    rw [if_neg (show ¬ ((fl == rawInt L) = true) from by simpa using z)]
    refine wpAny_bind (wpAny_setField hT hdT (Array.getElem?_eq_some_iff.mp h3).1 ?_)
    have oth : ∀ b, b ≠ T → (s.heap.update T (Obj.mapFields (·.setIfInBounds 3 Value.none))).get? b = s.heap.get? b := fun b hb => Heap.get?_update_other _ _ (Ne.symm hb)
    have nr : ∀ b o, s.heap.get? b = some o → (∀ vs, o.data ≠ .fields vs) → b ≠ T := fun b o hb hnf q => by
      rw [q, hT] at hb
      cases hb
      exact hnf ts hdT
    exact wpAny_newEntryW hfr (hl.of_keeps fun b o hb hnf => ⟨o, (oth b (nr b o hb hnf)).trans hb, rfl⟩) hf ((oth e (Ne.symm hTe)).trans he)
      (fun b o hbo => (oth b fun q => by rw [q, hnT] at hbo; cases hbo).trans (hkb b o hbo)) hen hd (Array.getElem?_eq_some_iff.mp h1).1 h0
      fun h' ⟨x1, x2, x3, x4⟩ => hQ h' ⟨x1, hen, x2.2.2, x3⟩ fun b o hb hnf => x4 b o ((oth b (nr b o hb hnf)).trans hb) hnf
theorem passes_on {base : Heap} {l : List Env} {e : Addr} {cls a0 fl : Value} {w : String} {env : Env} {Q : Value → Shared → Prop}
    (hkb : base.StaysIn s.heap) (hl : s.heap.FunFrames base l) (ht : s.heap.TracedAtW base e cls a0 fl)
    (h : ∀ h' fl', base.StaysIn h' → h'.FunFrames base l → h'.TracedAtW base e cls a0 fl' → (∀ b o, s.heap.get? b = some o → (∀ vs, o.data ≠ .fields vs) → h'.get? b = some o) → E (.ref e) { s with heap := h' }) :
    wpAny M A (PySem.passOn w (.ref e) env : Sem Value) Q E s := by
  obtain ⟨oe, vs, T, oT, ts, he, hcls, hd, h1, hnT, hTe, hT, hdT, h3⟩ := ht
  have hsz3 : 3 < ts.size := (Array.getElem?_eq_some_iff.mp h3).1
  unfold PySem.passOn
  refine wpAny_bind (wpAny_field he hd h1 ?_)
  rw [if_neg (show ¬ ((Value.ref T == Value.none) = true) from by simp)]
  unfold setFlight
  refine wpAny_bind (wpAny_bind (wpAny_field he hd h1 ?_))
  rw [if_pos (show (Value.ref T != Value.none) = true from by simp)]
  refine wpAny_setField hT hdT hsz3 (wpAny_throw ?_)
  generalize (env.frame.elim Value.none fun f => rawInt f) = fl'
  have oth : ∀ b, b ≠ T → (s.heap.update T (Obj.mapFields (·.setIfInBounds 3 fl'))).get? b = s.heap.get? b := fun b hb => Heap.get?_update_other _ _ (Ne.symm hb)
  have nr : ∀ b o, s.heap.get? b = some o → (∀ vs, o.data ≠ .fields vs) → b ≠ T := fun b o hb hnf q => by
    rw [q, hT] at hb
    cases hb
    exact hnf ts hdT
  refine h _ fl' (fun b o hbo => (oth b fun q => by rw [q, hnT] at hbo; cases hbo).trans (hkb b o hbo)) (hl.of_keeps fun b o hb hnf => ⟨o, (oth b (nr b o hb hnf)).trans hb, rfl⟩) ?_ fun b o hb hnf => (oth b (nr b o hb hnf)).trans hb
  exact ⟨oe, vs, T, _, _, (oth e (Ne.symm hTe)).trans he, hcls, hd, h1, hnT, hTe, Heap.get?_update_self _ hT (Obj.isFreed_of_fields (Obj.data_mapFields hdT _)), Obj.data_mapFields hdT _, by simp [hsz3]⟩
end
theorem frames_hid {h h' B B' : Heap} {l : List Env} (hl : h.FunFrames B l) (hB : ∀ b, B.get? b = none → B'.get? b = none) (k : ∀ b ∈ l.filterMap (·.frame), h'.get? b = h.get? b) : h'.FunFrames B' l := by
  induction l with
  | nil => trivial
  | cons env rest ih =>
    obtain ⟨hk, ⟨L, o, hf, hn, ho, hd⟩, hr⟩ := hl
    refine ⟨hk, ⟨L, o, hf, hB _ hn, (k L (by rw [List.filterMap_cons, hf]; exact List.mem_cons_self)).trans ho, hd⟩, ih hr fun b hb => k b (by rw [List.filterMap_cons, hf]; exact List.mem_cons_of_mem _ hb)⟩
section
variable {P : Program} {w : World} {K : PySem.W.Frag} {mg : Str → Option Value} {base : Heap} {N : List Str} {qual : Str} {scope : Scope} {f : Addr} {cd : Value} {A : Around} {outer : List Env} {s : Shared} {H : Hp} {E : XK}
theorem leavesW_cx : LeavesW (cxOf (CXe P w) P w K mg base N qual scope f cd A outer s H E) E := by
  intro sc cl Nc pins σ s3 H3 fp I3 hf3 pins' σ' H4 s4 e s5 I4 hc
  obtain ⟨a, cls, H5, rfl, hos, hb, u, ok, ⟨a0, B, fl, cov⟩, hE⟩ := hc
  have Ic := I4.call' (ch := []) hos u ok hb fun b z => nomatch z
  have Io : Inv (cxOf (CXe P w) P w K mg base N qual scope f cd A outer s H E) pins σ H5 s5 := I3.call' (ch := fp) Ic.os Ic.base Ic.hok Ic.bare fun b hb => ⟨(hf3 b hb).2.2.2.1, (hf3 b hb).2.1, (hf3 b hb).2.2.2.2.1, (hf3 b hb).2.2.2.2.2⟩
  obtain ⟨m, hm, _⟩ := Ic.loc
  have hm' : s5.heap.Ns s3.heap.objs.size m := hm
  generalize hC : s3.heap.objs.size = C at hm' ⊢
  have cfr : C ∉ frs (envOfC qual scope s.heap.objs.size f cd :: outer) := fun z => by
    have h1 := I3.stkSub C z
    rcases List.mem_cons.mp h1 with h2 | h2
    · exact absurd I3.lt (by rw [← h2, hC]; exact Nat.lt_irrefl _)
    · exact I3.nofs (by rw [hC]; exact Nat.le_refl _) h2
  have c0 : s.heap.get? C = none := by
    cases q : s.heap.get? C with
    | none => rfl
    | some o => exact absurd (Heap.lt_size q) (Nat.not_lt.mpr (by rw [← hC]; exact I3.sz))
  have cH : H5 C = none := by rw [← hC]; exact Ic.free
  show wpAny _ _ (noteFrame (.ref a) (envOfC qual scope s.heap.objs.size f cd)) _ _ s5
  refine wpAny_looks_onW (base := B) Io.ok.frames rfl fl fun h6 held up => ?_
  refine ⟨m, up.ns hm', fun h7 hs7 cenv _ => ?_⟩
  obtain ⟨k1, k2, k3, k4⟩ := held
  obtain ⟨oC, es, ep, hoC, hdC, _⟩ := up.ns hm'
  have kB : ∀ b, B.get? b = none → (B.hide C).get? b = none := fun b hb => by
    cases q : (B.hide C).get? b with
    | none => rfl
    | some o => have := Heap.of_hide q; rw [hb] at this; cases this
  have st7 : (B.hide C).StaysIn h7 := fun b o q => by
    have hbC : b ≠ C := fun z => by rw [z, Heap.hide_self] at q; cases q
    exact (hs7.2 b hbC).trans (k1 b o (Heap.of_hide q))
  have fr7 : h7.FunFrames (B.hide C) (envOfC qual scope s.heap.objs.size f cd :: outer) := frames_hid k3 kB fun b hb => hs7.2 b fun z => cfr (by rw [← z]; exact hb)
  have tr7 : h7.TracedAtW (B.hide C) a cls a0 (rawInt s.heap.objs.size) := by
    obtain ⟨oe, vs, T, oT, ts, he, hcls, hd, h1, hnT, hTe, hT, hdT, h3⟩ := k4
    have naC : a ≠ C := fun z => by rw [z, hoC] at he; cases he; rw [hdC] at hd; cases hd
    have nTC : T ≠ C := fun z => by rw [z, hoC] at hT; cases hT; rw [hdC] at hdT; cases hdT
    exact ⟨oe, vs, T, oT, ts, (hs7.2 a naC).trans he, hcls, hd, h1, kB _ hnT, hTe, (hs7.2 T nTC).trans hT, hdT, h3⟩
  refine passes_on (base := B.hide C) st7 fr7 tr7 fun h8 fl' st8 fr8 tr8 kp8 => ?_
  refine leaving_any (base := B.hide C) (outer := outer) (L := s.heap.objs.size) Io.ok.frames rfl st8 (kB _ k2) fr8 tr8 fun h9 fl9 up9 => ?_
  have cov' : Cov outer H5 s.heap s5.heap (B.hide C) := fun b o e1 q n => by
    have hbC : b ≠ C := fun z => by
      subst z
      rcases q with q | ⟨v, q⟩
      · exact q cH
      · rw [c0] at q; cases q
    rw [Heap.hide_ne _ hbC]
    have q1 : H5 b ≠ none ∨ ∃ v, s4.heap.get? b = some v := q.imp id fun ⟨v, z⟩ => by
      obtain ⟨v1, z1⟩ := I3.base.there b v z (fun z => nomatch z)
      exact I4.base.there b v1 z1 fun z2 => by
        rcases (hf3 b z2).2.2.2.1 with y | y
        · cases y
        · exact absurd (Heap.lt_size z) (Nat.not_lt.mpr y)
    refine cov b o e1 q1 fun z => ?_
    rcases List.mem_cons.mp (show b ∈ s.heap.objs.size :: frs outer from z) with z | z
    · subst z
      rcases q with q | ⟨v, q⟩
      · exact q Io.free
      · exact absurd (Heap.lt_size q) (Nat.lt_irrefl _)
    · exact n z
  have ub : Un (frs outer) [] H H5 s.heap s5.heap := Io.base
  have stk : ∀ b ∈ frs outer, b ∈ frs (envOfC qual scope s.heap.objs.size f cd :: outer) := fun b hb => List.mem_cons_of_mem _ hb
  have nf : ∀ b ∈ frs outer, ∀ o, s5.heap.get? b = some o → ∃ sl, h9.get? b = some { o with slots := sl } := fun b hb o ho => by
    obtain ⟨_, o1, ho1, hn1⟩ := fl.2.2.1.mem (stk b hb)
    rw [ho] at ho1; cases ho1
    obtain ⟨sl, e6⟩ := up b o ho hn1
    have e7 := (hs7.2 b fun z => cfr (by rw [← z]; exact stk b hb)).trans e6
    have e8 := kp8 b _ e7 hn1
    obtain ⟨sl', e9⟩ := up9 b _ e8 hn1
    exact ⟨sl', e9⟩
  have hfr : ∀ b ∈ frs outer, H5 b = none := fun b hb => Io.stkFree b (stk b hb)
  exact ⟨a, cls, H5, rfl, Io.os, Io.bare, Cov.unF ub cov' fl9.1 nf, Cov.hok Io.hok cov' fl9.1 hfr, ⟨_, _, fl9, Cov.step ub Io.hok cov' fl9.1⟩, hE⟩
end
/-! ### the closed judgements -/
def JInW (X : Cx) (E : XK) (scope : Scope) (cl : List (Str × Addr)) (Nc : List Str) (target elt : Expr) (ifs : List Expr) (g : TG) (tt : TT) (te : TE) : Prop :=
  ∀ (pins : List (Addr × Obj)) (C : Addr) (s3 : Shared) (H3 : Hp) (fp : List Addr) (W : Value → Shared → Prop), Passes (CXe X.prog X.w) (compCxW X pins scope cl C Nc s3 H3 fp W) E →
    JG (compCxW X pins scope cl C Nc s3 H3 fp W) target g ∧ ((ifs = [] ∧ tt = tYes) ∨ ∃ c, ifs = [c] ∧ JT (compCxW X pins scope cl C Nc s3 H3 fp W) c tt) ∧ JE (compCxW X pins scope cl C Nc s3 H3 fp W) elt te
section
variable {X : Cx} {E : XK} {scope : Scope} {cl : List (Str × Addr)} {Nc : List Str} {js : List (Option Nat)} {target elt iter : Expr} {ifs : List Expr} {pos : Pos} {wi : TI} {g : TG} {tt : TT} {te : TE}
theorem e_compW (LW : LeavesW X E) (S : CompScope X scope cl Nc js) (hi : JI X target iter wi) (B : JInW X E scope cl Nc target elt ifs g tt te) (hc : X.calm = true := by rfl) (hs : Pln iter := by constructor) : JE X (.ListComp elt [⟨target, iter, ifs, 0⟩] scope pos) (tComp js wi g tt te) := by
  refine ⟨pe_compW LW hc S hi.h (fun pins C s3 H3 fp W hp => ?_) (hs.fold _)⟩
  obtain ⟨h1, h2, h3⟩ := B pins C s3 H3 fp W hp
  refine ⟨h1.h, ?_, h3.h⟩
  rcases h2 with ⟨rfl, rfl⟩ | ⟨c, rfl, h2⟩
  · exact pif_nil
  · exact pif_one h2.h
end
end L2

set_option maxHeartbeats 4000000
namespace L2
open PySem PySem.Spec PyProof.Rows
section
variable {prog : Program} {w : World} {A : Around} {E : Value → Shared → Prop} {s : Shared}
end
end L2

set_option maxHeartbeats 4000000
namespace Wr
open PySem PySem.Spec PyProof.Rows
/-! ### a dict by its entries, whatever its keys are -/
section
variable {prog : Program} {w : World} {A : Around} {E : Value → Shared → Prop} {s : Shared} {d : Addr} {es : Array DictEntry} {ep : Nat}
end
end Wr

set_option maxHeartbeats 4000000
namespace Wr
open PySem SetTable
/-! ### a clean table finds a place for each -/
def it (m : Nat) : Nat → Nat → Nat
  | 0, i => i
  | s + 1, i => it m s ((i * 5 + 1) % m)
end Wr

set_option maxHeartbeats 4000000
namespace Wr
open PySem SetTable
/-! ### the places of a table rise -/
def Rise (l : List Nat) : Prop := l.Pairwise (· < ·)
/-- how many are less -/
def cnt (l : List Nat) (j : Nat) : Nat := (l.filter fun x => decide (x < j)).length
end Wr

set_option maxHeartbeats 4000000
namespace Wr
open PySem SetTable
/-! ### a search in a table with room ends at a free slot -/
def sizes : List Nat := [8, 16, 32, 64, 128, 256, 512]
end Wr

set_option maxHeartbeats 4000000
namespace Wr
open PySem SetTable
/-! ### sets of whole numbers, made and walked on the spot -/
def ElemI (e : Int × Value) (n : Int) : Prop := e.1 = hashInt n ∧ ∃ t, e.2 = .int n t
abbrev byTx (w : World) : Bool := w.params.followText "set-order"
section
variable {prog : Program} {w : World} {A : Around} {E : Value → Shared → Prop} {s : Shared}
end
end Wr

set_option maxHeartbeats 4000000
namespace Wr
open PySem SetTable
section
variable {prog : Program} {w : World} {A : Around} {E : Value → Shared → Prop} {s : Shared}
end
end Wr

set_option maxHeartbeats 4000000
namespace Wr
open PySem SetTable
section
variable {prog : Program} {w : World} {A : Around} {E : Value → Shared → Prop} {s : Shared}
end
end Wr

set_option maxHeartbeats 4000000
namespace Wr
open PySem SetTable
/-! ### the walk over a set -/
/-- the iterator's record -/
def IsSIt (h : Heap) (it a : Addr) (slot i n ep : Nat) : Prop := ∃ o, h.get? it = some o ∧ o.cls = .type "set_iterator" ∧ o.data = .fields #[rawInt slot, rawInt i, .ref a, rawInt n, rawInt ep]
section
variable {prog : Program} {w : World} {A : Around} {E : Value → Shared → Prop} {s : Shared}
end
end Wr

set_option maxHeartbeats 4000000
namespace Wr
open PySem SetTable PyProof.Rows
section
variable {prog : Program} {w : World} {A : Around} {E : Value → Shared → Prop} {s : Shared}
end
end Wr

set_option maxHeartbeats 4000000
namespace Wr
open PySem SetTable PyProof.Rows
section
variable {prog : Program} {w : World} {A : Around} {E : Value → Shared → Prop} {s : Shared}
end
end Wr

set_option maxHeartbeats 4000000
namespace Wr
open PySem SetTable PyProof.Rows
section
variable {prog : Program} {w : World} {A : Around} {E : Value → Shared → Prop} {s : Shared}
end
end Wr

set_option maxHeartbeats 4000000
namespace L2
open PySem PySem.Spec PyProof.Rows
/-! ### small helpers of reading -/
theorem pz {n : Int} (h : 0 < n := by decide) : 0 < n := h
theorem iteSS {x : Str} {A B : Prop} (h : A) : if decide (V.str x = V.str x) = true then A else B := by rw [if_pos (by simp)]; exact h
theorem iteSF {x y : Str} {A B : Prop} (ne : x ≠ y) (h : B) : if decide (V.str x = V.str y) = true then A else B := by rw [if_neg (by simp [ne])]; exact h
/-- the names of Python's own are nobody else's -/
structure Blts (mg : Str → Option Value) : Prop where
  sorted : mg "sorted" = none
  max : mg "max" = none
  min : mg "min" = none
  any : mg "any" = none
  all : mg "all" = none
  sum : mg "sum" = none
  len : mg "len" = none
  range : mg "range" = none
  isinstance : mg "isinstance" = none
  list : mg "list" = none
  tuple : mg "tuple" = none
  int : mg "int" = none
  bool : mg "bool" = none
  str : mg "str" = none
  dict : mg "dict" = none
  set : mg "set" = none
  zip : mg "zip" = none
  enumerate : mg "enumerate" = none
  reversed : mg "reversed" = none
theorem dI (a b : Int) : decide (V.int a = V.int b) = decide (a = b) := by
  by_cases h : a = b <;> simp [h]
/-- a promise that nothing keeps to: any def keeps it -/
theorem FnOk.none {P : Program} {w : World} {K : PySem.W.Frag} {mg : Str → Option Value} {base : Heap} {CX : CXT} {k : Nat} {f : Addr} {fd : FuncData} {ps : List Str} {sp : Sp} (h : ∀ vs H Q E, ¬ sp vs H Q E) : FnOk P w K mg base CX k f fd ps sp :=
  ⟨fun vs H Q E q => absurd q (h vs H Q E), fun _ _ _ H _ _ vs Q E _ _ _ _ q => absurd q (h vs H Q E)⟩
theorem cutN (xs : List V) (m : Nat) : cutV xs none (some (m : Int)) = xs.take m := by
  unfold cutV
  have e1 : HT.sIx xs.length 0 none = 0 := rfl
  have e2 : HT.sIx xs.length xs.length (some (m : Int)) = min m xs.length := HT.sIx_nat ..
  rw [e1, e2, List.drop_zero, Nat.sub_zero]
  by_cases h : m ≤ xs.length
  · rw [Nat.min_eq_left h]
  · rw [Nat.min_eq_right (by omega), List.take_of_length_le (Nat.le_refl _), List.take_of_length_le (by omega)]
theorem cut_ints (ns : List Int) (m : Nat) : cutV (ns.map V.int) none (some (m : Int)) = (ns.take m).map V.int := by rw [cutN, List.map_take]
/-! ### conditions -/
inductive Cond where
  | same (i j : Nat) | isv (i : Nat) (v : Int) | less (i j : Nat) | undr (i : Nat) (v : Int)
  | both (a b : Cond) | either (a b : Cond) | neg (a : Cond)
namespace Cond
end Cond
theorem o_cat {X : Cx} : JOp X (binaryOp .Add) rCat := ⟨op_cat⟩
end L2

set_option maxHeartbeats 4000000
namespace L2
open PySem PySem.Spec PyProof.Rows

/-! ### lists of pairs as tables -/
section
variable {κ : Type} [DecidableEq κ]
def valV (kvs : List (κ × V)) (k : κ) : Option V := (kvs.find? fun kv => decide (kv.1 = k)).map (·.2)
/-- in its place, or at the end -/
def putK (kvs : List (κ × V)) (k : κ) (v : V) : List (κ × V) :=
  if (kvs.any fun kv => decide (kv.1 = k)) = true then kvs.map (fun kv => if kv.1 = k then (kv.1, v) else kv) else kvs ++ [(k, v)]
theorem valV_pos {p : κ × V} {r : List (κ × V)} {k : κ} (e : p.1 = k) : valV (p :: r) k = some p.2 := by simp [valV, List.find?_cons, e]
theorem valV_neg {p : κ × V} {r : List (κ × V)} {k : κ} (e : ¬ p.1 = k) : valV (p :: r) k = valV r k := by simp [valV, List.find?_cons, e]
theorem valV_any (k : κ) : ∀ kvs : List (κ × V), (kvs.any fun kv => decide (kv.1 = k)) = (valV kvs k).isSome
  | [] => rfl
  | p :: r => by
    rw [List.any_cons]
    by_cases e : p.1 = k
    · simp only [valV_pos e, decide_eq_true e, Bool.true_or, Option.isSome_some]
    · rw [valV_neg e, decide_eq_false e, Bool.false_or]; exact valV_any k r
theorem length_putK (kvs : List (κ × V)) (k : κ) (v : V) : (putK kvs k v).length ≤ kvs.length + 1 := by
  unfold putK
  split
  · rw [List.length_map]; omega
  · rw [List.length_append, List.length_cons, List.length_nil]; omega
theorem RelO.isSome_eq {o : Option V} {u : Option Value} (r : RelO o u) : o.isSome = u.isSome := by
  cases o with
  | none => cases u with
    | none => rfl
    | some _ => exact (show False from r).elim
  | some _ => cases u with
    | none => exact (show False from r).elim
    | some _ => rfl
theorem RelO.getD {o : Option V} {u : Option Value} {d : V} {d' : Value} (r : RelO o u) (rd : RelV d d') : RelV (o.getD d) (u.getD d') := by
  cases o with
  | none => cases u with
    | none => exact rd
    | some _ => exact (show False from r).elim
  | some _ => cases u with
    | none => exact (show False from r).elim
    | some _ => exact r

/-- raw tables of the same keys -/
theorem KV.val {kvs : List (κ × V)} {vs : List (κ × Value)} (r : KV kvs vs) (k : κ) : RelO (valV kvs k) (valueAt vs k) := by
  unfold KV at r
  induction r with
  | nil => exact True.intro
  | @cons p q ps qs h t ih =>
    obtain ⟨h1, h2⟩ := h
    by_cases e : p.1 = k
    · have e' : q.1 = k := h1.symm.trans e
      have b : valueAt (q :: qs) k = some q.2 := by simp [valueAt, List.find?_cons, e']
      rw [valV_pos e, b]; exact h2
    · have e' : ¬ q.1 = k := fun z => e (h1.trans z)
      have b : valueAt (q :: qs) k = valueAt qs k := by simp [valueAt, List.find?_cons, e']
      rw [valV_neg e, b]; exact ih
theorem KV.any {kvs : List (κ × V)} {vs : List (κ × Value)} (r : KV kvs vs) (k : κ) : (kvs.any fun kv => decide (kv.1 = k)) = vs.any fun kv => decide (kv.1 = k) := by
  unfold KV at r
  induction r with
  | nil => rfl
  | cons h t ih => rw [List.any_cons, List.any_cons, ih, h.1]
theorem KV.repl {kvs : List (κ × V)} {vs : List (κ × Value)} (r : KV kvs vs) (k : κ) {y : V} {u : Value} (ry : RelV y u) :
    KV (kvs.map fun kv => if kv.1 = k then (kv.1, y) else kv) (vs.map fun kv => if kv.1 = k then (kv.1, u) else kv) := by
  unfold KV at r ⊢
  induction r with
  | nil => exact .nil
  | @cons p q ps qs h t ih =>
    rw [List.map_cons, List.map_cons]
    refine .cons ?_ ih
    obtain ⟨h1, h2⟩ := h
    by_cases e : p.1 = k
    · rw [if_pos e, if_pos (h1.symm.trans e)]; exact ⟨h1, ry⟩
    · rw [if_neg e, if_neg (fun z => e (h1.trans z))]; exact ⟨h1, h2⟩
theorem KV.put {kvs : List (κ × V)} {vs : List (κ × Value)} (r : KV kvs vs) (k : κ) {y : V} {u : Value} (ry : RelV y u) : KV (putK kvs k y) (stored vs k u) := by
  unfold putK stored
  rw [r.any k]
  by_cases e : (vs.any fun kv => decide (kv.1 = k)) = true
  · rw [if_pos e, if_pos e]; exact r.repl k ry
  · rw [if_neg e, if_neg e]; exact Paired.snoc r ⟨rfl, ry⟩
theorem KV.keys {kvs : List (κ × V)} {vs : List (κ × Value)} (r : KV kvs vs) : kvs.map (·.1) = vs.map (·.1) := by
  unfold KV at r
  induction r with
  | nil => rfl
  | cons h t ih => rw [List.map_cons, List.map_cons, ih, h.1]
theorem KV.length {kvs : List (κ × V)} {vs : List (κ × Value)} (r : KV kvs vs) : kvs.length = vs.length := Paired.length r
end


/-! ### a tracked dict, its keys ints and texts or tuples of these -/
theorem kV_is {P : Program} {w : World} {k : Key} {u : Value} (r : RelV (kV k) u) : (mixKind P w).is k u = true := by
  cases k with
  | inl i => obtain ⟨t, e⟩ := (show ∃ t, u = Value.int i t from r); subst e; exact mixKind_int P w i t
  | inr x => obtain ⟨t, e⟩ := (show ∃ t, u = Value.str x t from r); subst e; exact mixKind_str P w x t
theorem items_are {P : Program} {w : World} : ∀ {ks : List Key} {us : List Value}, Vals (ks.map kV) us → ItemsAre (mixKind P w) ks us
  | [], _, r => by rw [List.map_nil] at r; cases r; exact .nil
  | k :: ks, _, r => by
    rw [List.map_cons] at r
    cases r with
    | cons h t => exact .cons (kV_is h) (items_are t)

/-- raw entries of a dict with tuple keys -/
abbrev KT (H : Hp) : List (List Key × V) → List (List Key × Addr × Value) → Prop := Paired fun p q => p.1 = q.1 ∧ H q.2.1 = some (.tup (p.1.map kV)) ∧ RelV p.2 q.2.2
theorem KT.val {H : Hp} {kvs : List (List Key × V)} {xs : List (List Key × Addr × Value)} (r : KT H kvs xs) (k : List Key) : RelO (valV kvs k) ((atKey xs k).map (·.2)) := by
  induction r with
  | nil => exact True.intro
  | @cons p q ps qs h t ih =>
    obtain ⟨h1, _, h2⟩ := h
    by_cases e : p.1 = k
    · have e' : q.1 = k := h1.symm.trans e
      have b : atKey (q :: qs) k = some q.2 := by simp [atKey, List.find?_cons, e']
      rw [valV_pos e, b]; exact h2
    · have e' : ¬ q.1 = k := fun z => e (h1.trans z)
      have b : atKey (q :: qs) k = atKey qs k := by simp [atKey, List.find?_cons, e']
      rw [valV_neg e, b]; exact ih
theorem KT.repl {H : Hp} {kvs : List (List Key × V)} {xs : List (List Key × Addr × Value)} (r : KT H kvs xs) (k : List Key) {y : V} {u : Value} (ry : RelV y u) :
    KT H (kvs.map fun kv => if kv.1 = k then (kv.1, y) else kv) (xs.map (putAt k u)) := by
  induction r with
  | nil => exact .nil
  | @cons p q ps qs h t ih =>
    rw [List.map_cons, List.map_cons]
    refine .cons ?_ ih
    obtain ⟨h1, h2, h3⟩ := h
    unfold putAt
    by_cases e : p.1 = k
    · rw [if_pos e, if_pos (h1.symm.trans e)]; exact ⟨h1, h2, ry⟩
    · rw [if_neg e, if_neg (fun z => e (h1.trans z))]; exact ⟨h1, h2, h3⟩
theorem KT.put {H : Hp} {kvs : List (List Key × V)} {xs : List (List Key × Addr × Value)} (r : KT H kvs xs) (k : List Key) {b : Addr} {y : V} {u : Value} (hb : H b = some (.tup (k.map kV))) (ry : RelV y u) :
    KT H (putK kvs k y) (storedH xs k b u) := by
  have e : (kvs.any fun kv => decide (kv.1 = k)) = (atKey xs k).isSome := by
    rw [valV_any, (r.val k).isSome_eq, Option.isSome_map]
  unfold putK storedH
  rw [e]
  by_cases q : (atKey xs k).isSome = true
  · rw [if_pos q, if_pos q]; exact r.repl k ry
  · rw [if_neg q, if_neg q]; exact Paired.snoc r ⟨rfl, hb, ry⟩
theorem KT.keeps {H H' : Hp} {kvs : List (List Key × V)} {xs : List (List Key × Addr × Value)} (r : KT H kvs xs) (ht : ∀ b ys, H b = some (.tup ys) → H' b = some (.tup ys)) : KT H' kvs xs :=
  Paired.mapP r fun _ _ z => ⟨z.1, ht _ _ z.2.1, z.2.2⟩

section
variable {P : Program} {w : World} {H : Hp} {h : Heap} {a : Addr}
theorem rd_of {u : HO} (ok : HOk P w H h) (e : Rd H a u) : ObjOk P w H h a u := e.ok ok
theorem dk_rd {kvs : List (Key × V)} (ok : HOk P w H h) (e : Rd H a (.dK kvs)) : kvs.length ≤ sizeLine ∧ (a == sysModules) = false ∧ ∃ vs, KV kvs vs ∧ h.DictOf (mixKind P w) a vs :=
  show ObjOk P w H h a (.dK kvs) from rd_of ok e
theorem dk_of {kvs : List (Key × V)} (ok : HOk P w H h) (e : H a = some (.dK kvs)) : kvs.length ≤ sizeLine ∧ (a == sysModules) = false ∧ ∃ vs, KV kvs vs ∧ h.DictOf (mixKind P w) a vs := dk_rd ok (.inl e)
/-- a tracked tuple of ints and texts is a key -/
theorem key_of {ks : List Key} (ok : HOk P w H h) (e : H a = some (.tup (ks.map kV))) : (tupleKind (mixKind P w)).is h ks a := by
  obtain ⟨_, its, r, o, h1, h2, n, h3⟩ := (show ObjOk P w H h a (.tup (ks.map kV)) from ok a _ e)
  exact ⟨o, its.toArray, n, h1, h2, h3, by simpa using items_are r⟩
theorem dt_rd {kvs : List (List Key × V)} (ok : HOk P w H h) (e : Rd H a (.dT kvs)) : kvs.length ≤ sizeLine ∧ (a == sysModules) = false ∧
    ∃ xs, KT H kvs xs ∧ h.DictOfH (tupleKind (mixKind P w)) a xs := by
  obtain ⟨z, y, xs, r, o, es, ep, h1, h2, h3, h4, h5⟩ := (show ObjOk P w H h a (.dT kvs) from rd_of ok e)
  refine ⟨z, y, xs, r, o, es, ep, h1, h2, h3, h4, fun x hx => ?_, h5⟩
  have all : ∀ {l : List (List Key × V)} {m : List (List Key × Addr × Value)}, KT H l m → ∀ x ∈ m, (tupleKind (mixKind P w)).is h x.1 x.2.1 := by
    intro l m q
    induction q with
    | nil => intro x hx; exact nomatch hx
    | @cons p q ps qs hq t ih =>
      intro x hx
      rcases List.mem_cons.mp hx with e | hx
      · subst e
        exact key_of ok (by rw [← hq.1]; exact hq.2.1)
      · exact ih x hx
  exact all r x hx
theorem dt_of {kvs : List (List Key × V)} (ok : HOk P w H h) (e : H a = some (.dT kvs)) : kvs.length ≤ sizeLine ∧ (a == sysModules) = false ∧
    ∃ xs, KT H kvs xs ∧ h.DictOfH (tupleKind (mixKind P w)) a xs := dt_rd ok (.inl e)
end

/-- what the dict at a holds at the key y -/
def DGet (H : Hp) (a : Addr) (y : V) (r : Option V) : Prop :=
  (∃ kvs k, Rd H a (.dK kvs) ∧ y = kV k ∧ r = valV kvs k) ∨ ∃ kvs k b, Rd H a (.dT kvs) ∧ y = .ref b ∧ H b = some (.tup (k.map kV)) ∧ r = valV kvs k
theorem DGet.k {H : Hp} {a : Addr} {kvs : List (Key × V)} {k : Key} (e : H a = some (.dK kvs)) : DGet H a (kV k) (valV kvs k) := .inl ⟨kvs, k, .inl e, rfl, rfl⟩
theorem DGet.t {H : Hp} {a b : Addr} {kvs : List (List Key × V)} {k : List Key} (e : H a = some (.dT kvs)) (eb : H b = some (.tup (k.map kV))) : DGet H a (.ref b) (valV kvs k) := .inr ⟨kvs, k, b, .inl e, rfl, eb, rfl⟩
section
variable {X : Cx} {pins : List (Addr × Obj)} {σ : St} {H : Hp} {s : Shared} {a : Addr} {y v : V} {u r : Value} {o : Option V} {A : Around} {E : Value → Shared → Prop}

theorem Inv.big (I : Inv X pins σ H s) : sysModules < s.heap.objs.size := by
  have h : mainGlobals < s.heap.objs.size := (I.mod.glob.keeps I.bk).lt
  exact Nat.lt_trans (by decide) h

/-- d[y], there -/
theorem d_getItem {Q : Value → Shared → Prop} (hu : A.units + 1 < cLine) (I : Inv X pins σ H s) (g : DGet H a y (some v)) (ry : RelV y u) (h : ∀ w' s', Inv X pins σ H s' → RelV v w' → Q w' s') :
    wpAny (model X.prog X.w) A (getItem (.ref a) u) Q E s := by
  rcases g with ⟨kvs, k, e, ey, l⟩ | ⟨kvs, k, b, e, ey, eb, l⟩
  · subst ey
    obtain ⟨z, hd, vs, rel, dd⟩ := dk_rd I.hok e
    obtain ⟨w', hw, rw'⟩ := RelO.some_of (v := v) (o := valueAt vs k) (by rw [l]; exact rel.val k)
    exact wpAny_getItem_of (kV_is ry) dd.mapOf hw (h w' _ (I.tok _) rw')
  · subst ey
    cases (show u = Value.ref b from ry)
    obtain ⟨z, hd, xs, rel, dd⟩ := dt_rd I.hok e
    obtain ⟨w', hw, rw'⟩ := RelO.some_of (v := v) (o := (atKey xs k).map (·.2)) (by rw [l]; exact rel.val k)
    obtain ⟨p, hp, hp2⟩ := Option.map_eq_some_iff.mp hw
    refine wpAny_getItem_heap (tupleKind_room_in1 hu) (key_of I.hok eb) dd hp ?_
    rw [hp2]
    exact h w' _ (I.tok _) rw'
theorem d_notIn {Q : Value → Shared → Prop} (hu : A.units + 1 < cLine) (I : Inv X pins σ H s) (g : DGet H a y o) (ry : RelV y u) (h : ∀ s', Inv X pins σ H s' → Q (.bool (!o.isSome)) s') :
    wpAny (model X.prog X.w) A (compareOp .NotIn u (.ref a)) Q E s := by
  rcases g with ⟨kvs, k, e, ey, l⟩ | ⟨kvs, k, b, e, ey, eb, l⟩
  · subst ey
    obtain ⟨z, hd, vs, rel, dd⟩ := dk_rd I.hok e
    refine wpAny_notIn_of (kV_is ry) hd dd.mapOf ?_
    rw [← (rel.val k).isSome_eq, ← l]
    exact h _ (I.tok _)
  · subst ey
    cases (show u = Value.ref b from ry)
    obtain ⟨z, hd, xs, rel, dd⟩ := dt_rd I.hok e
    refine wpAny_notIn_heap (tupleKind_room_in1 hu) (key_of I.hok eb) hd dd ?_
    have q := (rel.val k).isSome_eq
    rw [Option.isSome_map] at q
    rw [← q, ← l]
    exact h _ (I.tok _)
/-- a dict's object is replaced -/
theorem d_write {h' : Heap} {t' : Nat} {ob : HO} (I : Inv X pins σ H s) (mu : Mut (H a)) (hs : Heap.SameBut a s.heap h') (he : ∃ q, h'.get? a = some q) (new : ObjOk X.prog X.w (upd H a ob) h' a ob) :
    Inv X pins σ (upd H a ob) { s with heap := h', toks := t' } :=
  I.write (x := a) (e := a) mu (.inl rfl) (fun b q hb z => (hs.2 b hb).trans z) he new
theorem dk_new {P : Program} {w : World} {H' : Hp} {h' : Heap} {kvs : List (Key × V)} {vs : List (Key × Value)} (z : kvs.length ≤ sizeLine) (hd : (a == sysModules) = false) (rel : KV kvs vs) (dd : h'.DictOf (mixKind P w) a vs) :
    ObjOk P w H' h' a (.dK kvs) := ⟨z, hd, vs, rel, dd⟩
end

section
variable {X : Cx} {pins : List (Addr × Obj)} {σ : St} {H : Hp} {s : Shared} {a : Addr} {kvs : List (Key × V)} {k : Key} {u : Value} {A : Around} {E : Value → Shared → Prop}
end


/-! ### readings and rules -/
/-- the element of a subscription, not a slice -/
def NoSl (i : Expr) : Prop := ∀ ov iv, subscripted i false ov iv = operate [ov, iv] (getItem ov iv)
theorem subD_of {prog : Program} {w : World} {A : Around} {E : Value → Shared → Prop} {s : Shared} {env : Env} {value slice : Expr} {pos : Pos} {T id : String} {Q : Value → Shared → Prop}
    (hl : typeLookup (.type T) "__getitem__" = pure (some (.builtin id))) (hs : NoSl slice)
    (h : wpAny (model prog w) A (eval value env) (fun o s₁ => wpAny (model prog w) A (eval slice env) (fun i s₂ => s₂.TypeIs o T ∧ wpAny (model prog w) A (getItem o i) Q E s₂) E s₁) E s) :
    wpAny (model prog w) A (eval (.Subscript value slice pos) env) Q E s := by
  refine Subscript_ (wpAny_mono h (fun o s₁ h₁ => wpAny_mono h₁ (fun i s₂ h₂ => ?_) fun _ _ x => x) fun _ _ x => x)
  obtain ⟨hT, h₂⟩ := h₂
  unfold subscriptTail
  refine wpAny_bind ?_
  rw [getitemInPython_of_ne hT.not_modules]
  refine wpAny_bind (wpAny_specialOf hT hl ?_)
  have fin : wpAny (model prog w) A (subscripted slice false o i) (fun r s₃ => wpAny (model prog w) A (letTemporaryGo value o r >>= fun _ => pure r) Q E s₃) E s₂ := by
    rw [hs o i]
    exact wpAny_operating (wpAny_mono h₂ (fun r s₃ h₃ => wpAny_bind (wpAny_letTemporaryGo (wpAny_pure h₃))) fun _ _ x => x)
  first
    | exact wpAny_pure (wpAny_bind fin)
    | exact wpAny_bind (wpAny_pure (wpAny_bind fin))
    | exact wpAny_bind fin

theorem dict_typeIs {X : Cx} {pins : List (Addr × Obj)} {σ : St} {H : Hp} {s : Shared} {a : Addr} {y : V} {o : Option V} (I : Inv X pins σ H s) (g : DGet H a y o) : s.TypeIs (.ref a) "dict" := by
  rcases g with ⟨kvs, k, e, _, _⟩ | ⟨kvs, k, b, e, _, _, _⟩
  · obtain ⟨_, _, vs, _, dd⟩ := dk_rd I.hok e
    exact dd.typeIs
  · obtain ⟨_, _, xs, _, dd⟩ := dt_rd I.hok e
    exact dd.typeIs
/-- d[y] -/
def tDGet (td ty : TE) : TE := fun σ H Q => td σ H fun x H1 => ty σ H1 fun y H2 => ∃ a v, x = .ref a ∧ DGet H2 a y (some v) ∧ Q v H2
def tDNotIn (ty td : TE) : TE := fun σ H Q => ty σ H fun y H1 => td σ H1 fun x H2 => ∃ a o, x = .ref a ∧ DGet H2 a y o ∧ Q (.bl (!o.isSome)) H2
section
variable {X : Cx} {o i e value : Expr} {pos pos' tpos : Pos} {td ty tv : TE}
theorem pe_dget (hu : X.A.units + 1 < cLine) (ho : PE X o td) (hi : PE X i ty) (hs : NoSl i) : PE X (.Subscript o i pos) (tDGet td ty) := by
  intro pins s σ H Q I h
  refine subD_of PySem.F.slot_dict_getitem.lookup hs (thn (ho pins s σ H _ I h) fun u s1 ⟨x, H1, I1, rx, q1⟩ => thn (hi pins s1 σ H1 _ I1 q1) fun iv s2 ⟨y, H2, I2, ry, a, v, ex, g, q2⟩ => ?_)
  subst ex
  obtain rfl : u = Value.ref a := rx
  exact ⟨dict_typeIs I2 g, d_getItem hu I2 g ry fun w' s3 I3 rw' => ⟨v, H2, I3, rw', q2⟩⟩
theorem pc_dnotin (hu : X.A.units + 1 < cLine) (hi : PE X i ty) (ho : PE X o td) : PC X .NotIn i o (tDNotIn ty td) := by
  intro pins s σ H Q I h
  refine thn (hi pins s σ H _ I h) fun iv s1 ⟨y, H1, I1, ry, q1⟩ => thn (ho pins s1 σ H1 _ I1 q1) fun u s2 ⟨x, H2, I2, rx, a, ov, ex, g, q2⟩ => ?_
  subst ex
  obtain rfl : u = Value.ref a := rx
  exact d_notIn hu I2 g ry fun s3 I3 => ⟨.bl (!ov.isSome), H2, I3, rfl, q2⟩
end


/-! ### displays -/
theorem dk_empty {P : Program} {w : World} {H : Hp} (h : Heap) (hb : sysModules < h.objs.size) : ObjOk P w H (h.push { cls := .type "dict", data := .dict #[] }) h.objs.size (.dK []) :=
  ⟨Nat.zero_le _, beq_eq_false_iff_ne.mpr (Ne.symm (Nat.ne_of_lt hb)), [], .nil, Heap.DictOf.new h⟩
section
variable {X : Cx} {pos : Pos}
end

/-- the pairs of a display, from the left -/
def tPairs : List (TE × TE) → St → Hp → (List (V × V) → Hp → Prop) → Prop
  | [], _, H, Q => Q [] H
  | (tk, tv) :: r, σ, H, Q => tk σ H fun x H1 => tv σ H1 fun y H2 => tPairs r σ H2 fun ps H3 => Q ((x, y) :: ps) H3
abbrev VV : List (V × V) → List (Value × Value) → Prop := Paired fun p q => RelV p.1 q.1 ∧ RelV p.2 q.2
def PPs (X : Cx) (pos : Pos) (keys : List (Option Expr)) (values : List Expr) (trs : List (TE × TE)) : Prop :=
  ∀ (pins : List (Addr × Obj)) (s : Shared) (σ : St) (H : Hp) (Q : List (V × V) → Hp → Prop), Inv X pins σ H s → tPairs trs σ H Q →
    wpAny (model X.prog X.w) X.A (evalPairs (pairTrees keys values X.env pos)) (fun vs s' => ∃ ps H', Inv X pins σ H' s' ∧ VV ps vs ∧ Q ps H') X.xe s
theorem pps_nil {X : Cx} {pos : Pos} : PPs X pos [] [] [] := fun pins s σ H Q I h => pairTrees_nil_walk ⟨[], H, I, .nil, h⟩
theorem pps_cons {X : Cx} {pos : Pos} {k v : Expr} {ks : List (Option Expr)} {vs : List Expr} {tk tv : TE} {trs : List (TE × TE)} (hk : PE X k tk) (hv : PE X v tv) (hr : PPs X pos ks vs trs) :
    PPs X pos (some k :: ks) (v :: vs) ((tk, tv) :: trs) := fun pins s σ H Q I h =>
  pairTrees_cons_walk (thn (hk pins s σ H _ I h) fun u s1 ⟨x, H1, I1, rx, q1⟩ => thn (hv pins s1 σ H1 _ I1 q1) fun w2 s2 ⟨y, H2, I2, ry, q2⟩ =>
    thn (hr pins s2 σ H2 _ I2 q2) fun ws s3 ⟨ps, H3, I3, rel, q3⟩ => ⟨(x, y) :: ps, H3, I3, .cons ⟨rx, ry⟩ rel, q3⟩)

def mergeK (kvs more : List (Key × V)) : List (Key × V) := more.foldl (fun acc kv => putK acc kv.1 kv.2) kvs
theorem KV.merge : ∀ {more : List (Key × V)} {rs : List (Key × Value)} {kvs : List (Key × V)} {vs : List (Key × Value)}, KV more rs → KV kvs vs → KV (mergeK kvs more) (merged vs rs) := by
  intro more rs kvs vs r
  unfold KV at r
  induction r generalizing kvs vs with
  | nil => intro q; exact q
  | @cons p q ps qs h t ih =>
    intro r0
    have e : KV (putK kvs p.1 p.2) (stored vs q.1 q.2) := by
      have := r0.put p.1 h.2
      rw [← h.1]; exact this
    exact ih e
theorem length_mergeK : ∀ (more kvs : List (Key × V)), (mergeK kvs more).length ≤ kvs.length + more.length
  | [], kvs => by show kvs.length ≤ kvs.length + 0; omega
  | p :: r, kvs => by
    have h1 := length_mergeK r (putK kvs p.1 p.2)
    have h2 := length_putK kvs p.1 p.2
    show (mergeK (putK kvs p.1 p.2) r).length ≤ _
    rw [List.length_cons]; omega
theorem carries_of {P : Program} {w : World} : ∀ {kvs : List (Key × V)} {ws : List (Value × Value)}, VV (kvs.map fun kv => (kV kv.1, kv.2)) ws → ∃ rs, Carries (mixKind P w) ws rs ∧ KV kvs rs
  | [], _, r => by rw [List.map_nil] at r; cases r; exact ⟨[], True.intro, .nil⟩
  | p :: kvs, _, r => by
    rw [List.map_cons] at r
    cases r with
    | @cons a b as bs h t =>
      obtain ⟨rs, c, q⟩ := carries_of (P := P) (w := w) t
      obtain ⟨b1, b2⟩ := b
      exact ⟨(p.1, b2) :: rs, ⟨kV_is h.1, rfl, c⟩, .cons ⟨rfl, h.2⟩ q⟩
/-- {k: v, ..} with keys ints and texts; the new dict stands empty while the pairs are made -/
def tDisp (trs : List (TE × TE)) : TE := fun σ H Q => ∀ p, H p = none → tPairs trs σ (upd H p (.dK [])) fun ps H2 => H2 p = some (.dK []) ∧ ∃ kvs : List (Key × V), ps = kvs.map (fun kv => (kV kv.1, kv.2)) ∧ kvs.length ≤ 15 ∧ Q (.ref p) (upd H2 p (.dK (mergeK [] kvs)))
theorem pe_disp {X : Cx} {pos : Pos} {keys : List (Option Expr)} {values : List Expr} {trs : List (TE × TE)} (h : PPs X pos keys values trs) (hall : keys.all (·.isSome) = true) (hl : keys.length = values.length) (h0 : keys ≠ [])
    (h15 : keys.length ≤ 15) : PE X (.Dict keys values pos) (tDisp trs) := by
  intro pins s σ H Q I q
  have hn := I.hok.fresh (Nat.le_refl s.heap.objs.size)
  have I1 := I.laid (a := s.heap.objs.size) (o := .dK []) (h' := s.heap.push { cls := .type "dict", data := .dict #[] }) (t' := s.toks) (fun _ _ q => Heap.get?_push_of_some _ q) (Nat.le_refl _) (dk_empty s.heap I.big)
  refine wpAny_Dict_walk (knd := mixKind X.prog X.w) hall hl h0 h15 (thn (h pins _ σ _ _ I1 (q _ hn)) fun ws s2 ⟨ps, H2, I2, rel, e, kvs, ep, lk, q2⟩ => ?_)
  subst ep
  obtain ⟨rs, c, rk⟩ := carries_of (P := X.prog) (w := X.w) rel
  obtain ⟨z, hd, vs0, r0, dd⟩ := dk_of I2.hok e
  cases r0
  refine ⟨rs, c, dd, fun h' dd' hs => ⟨.ref s.heap.objs.size, _, ?_, rfl, q2⟩⟩
  have hz : (mergeK [] kvs).length ≤ sizeLine := by
    have h1 := length_mergeK kvs []
    rw [List.length_nil] at h1
    rw [sizeLine_eq]; omega
  have he : ∃ q, h'.get? s.heap.objs.size = some q := let ⟨q, _, _, hq, _⟩ := dd'; ⟨q, hq⟩
  exact d_write I2 (by rw [e]; exact True.intro) hs he (dk_new hz hd (rk.merge .nil) dd')


/-! ### methods -/
section
variable {X : Cx} {pins : List (Addr × Obj)} {σ : St} {H : Hp} {s : Shared} {a : Addr} {y d : V} {u r : Value} {o : Option V} {A : Around} {E : Value → Shared → Prop}
end

section
variable {X : Cx} {o e f : Expr} {apos cpos : Pos} {td ty tx : TE}
end

/-! ### dict(d): a copy -/
section
variable {X : Cx} {pins : List (Addr × Obj)} {σ : St} {H : Hp} {s : Shared} {a : Addr} {kvs : List (Key × V)} {A : Around} {E : Value → Shared → Prop}
end


section
variable {X : Cx} {pins : List (Addr × Obj)} {σ : St} {H : Hp} {s : Shared} {a : Addr} {y : V} {u : Value} {A : Around} {E : Value → Shared → Prop}
end
end L2
namespace L2
open PySem PySem.Spec PyProof.Rows
/-! ### a dict's pairs: keys that differ -/
section
variable {κ : Type} [DecidableEq κ]
end
end L2

set_option maxHeartbeats 4000000
namespace L2
open PySem PySem.Spec PyProof.Rows
section
variable {prog : Program} {w : World} {A : Around} {E : Value → Shared → Prop} {s : Shared}
end
end L2

set_option maxHeartbeats 4000000
namespace Wr
open PySem PySem.Spec PyProof.Rows
section
variable {prog : Program} {w : World} {K : Type} [DecidableEq K] {knd : HeapKind prog w K} {A : Around} {E : Value → Shared → Prop} {s : Shared}
theorem setDefault_heap {d a : Addr} {xs : List (K × Addr × Value)} {k : K} {v : Value} {Q : Value → Shared → Prop} (hu : knd.room A) (hkey : knd.is s.heap k a) (hm : s.heap.DictOfH knd d xs)
    (h1 : ∀ p, atKey xs k = some p → Q p.2 { s with toks := s.toks + knd.draws k })
    (h2 : atKey xs k = none → ∀ h', h'.DictOfH knd d (storedH xs k a v) → Heap.SameBut d s.heap h' → Q v { s with heap := h', toks := s.toks + knd.draws k })
    (hsz : xs.length ≤ sizeLine) : wpAny (model prog w) A (dictSetDefault d (.ref a) v) Q E s := by
  obtain ⟨o, es, ep, ho, hc, hd, he, his, hn⟩ := hm; unfold dictSetDefault
  try with_reducible refine wpAny_holding ?_; skip
  refine wpAny_bind (knd.pyHash hu hkey (wpAny_bind (wpAny_dictFind_heap (s := { s with toks := s.toks + knd.draws k }) hu hkey ho hd he his hn ?_ ?_)))
  · intro hno; have hnot : k ∉ xs.map (·.1) := not_mem_keys_of_get hno; have hat := atKey_none_of_get hno; have q2 := h2 hat; rw [storedH_new hat] at q2
    refine wpAny_bind (wpAny_rule (wpAny_bind (wpAny_updateDictKeys (hz := by have e := size_of_entries he; omega) (s := { s with toks := s.toks + knd.draws k }) ho hd (wpAny_pure (q2 _ ⟨_, _, ep + 1, Heap.get?_update_self _ ho (Obj.isFreed_of_dict (Obj.data_mapDictKeys hd _)), hc.mapDictKeys _, Obj.data_mapDictKeys hd _, ?_, ?_, ?_⟩ (Heap.SameBut.update ..))))))
    · simp [he, entryOfKey]
    · intro x hx
      rcases List.mem_append.mp hx with hx | hx
      · exact knd.keeps (his x hx) ho hd (Heap.SameBut.update ..)
      · rw [List.mem_singleton.mp hx]; exact knd.keeps hkey ho hd (Heap.SameBut.update ..)
    · rw [List.map_append, List.nodup_append]
      refine ⟨hn, (by simp), fun x hx y hy => ?_⟩
      have hy' : y = k := by simpa using hy
      subst hy'; exact fun e => hnot (e ▸ hx)
  · intro j p hj
    refine wpAny_bind (wpAny_dictEntries (s := { s with toks := s.toks + knd.draws k }) ho hd ?_); rw [entry_at he j, hj]
    exact wpAny_bind (wpAny_rule (wpAny_pure (h1 p (atKey_of_get hn hj))))
end
end Wr

set_option maxHeartbeats 4000000
namespace Wr
open PySem SetTable PyProof.Rows
section
variable {prog : Program} {w : World} {A : Around} {E : Value → Shared → Prop} {s : Shared}
end
end Wr

set_option maxHeartbeats 4000000
namespace Wr
open PySem SetTable PyProof.Rows
section
variable {prog : Program} {w : World} {A : Around} {E : Value → Shared → Prop} {s : Shared}
end
end Wr

set_option maxHeartbeats 4000000
namespace Wr
open PySem SetTable PyProof.Rows
section
variable {prog : Program} {w : World} {A : Around} {E : Value → Shared → Prop} {s : Shared}
end
end Wr

set_option maxHeartbeats 4000000
namespace Wr
open PySem PyProof.Rows
section
variable {prog : Program} {w : World} {A : Around} {E : Value → Shared → Prop} {s : Shared}
end
end Wr

set_option maxHeartbeats 4000000
namespace Wr
open PySem PyProof.Rows
section
variable {prog : Program} {w : World} {A : Around} {E : Value → Shared → Prop} {s : Shared}
end
end Wr

set_option maxHeartbeats 4000000
namespace L2
open PySem PySem.Spec PyProof.Rows
/-! ### sets of whole numbers (made on the spot), their sorted lists; dict(..) of pairs -/
section
variable {X : Cx} {pins : List (Addr × Obj)} {σ : St} {H : Hp} {s : Shared}
end
end L2

set_option maxHeartbeats 4000000
namespace L2
open PySem PySem.Spec PyProof.Rows
section
variable {X : Cx} {pins : List (Addr × Obj)} {σ : St} {H : Hp} {s : Shared}
/-- d.setdefault(key, z), the keys tuples -/
def rSetDef : V → List V → Hp → VK → Prop := fun x xs H Q => ∃ (d b : Addr) (z : V) (kvs : List (List Key × V)) (k : List Key), x = .ref d ∧ xs = [.ref b, z] ∧ H d = some (.dT kvs) ∧ H b = some (.tup (k.map kV)) ∧ kvs.length < sizeLine ∧
  (match valV kvs k with | some v => Q v H | none => Q z (upd H d (.dT (putK kvs k z))))
theorem mt_setdef (hu : X.A.units + 1 < cLine) : MtR X "dict.setdefault" rSetDef := by
  intro pins s σ H x xs v us Q I rx r ⟨d, b, z, kvs, k, e1, e2, e, eb, hl, q⟩
  subst e1 e2
  cases rx
  obtain ⟨u1, u2, rfl, r1, r2⟩ := vals2 r
  cases r1
  obtain ⟨hz, hd, ys, rel, dd⟩ := dt_of I.hok e
  have hT : s.TypeIs (.ref d) "dict" := dd.typeIs
  have hle : (putK kvs k z).length ≤ sizeLine := by have := length_putK kvs k z; omega
  refine wpAny_call_entry PySem.F.slot_dict_setdefault hT PySem.F.entry_dict_setdefault ?_ (PySem.F.args_dict_setdefault_3 _ _ _)
  unfold Builtin.«dict.setdefault»; refine wpAny_bind ?_; unfold Builtin.Dict.keyAndDefault
  refine wpAny_bind (wpAny_notOrdered_dict hT ?_); show wpAny _ _ (pure (d, Value.ref b, some u2)) _ _ s
  refine wpAny_pure ?_; show wpAny _ _ (if (d == sysModules) = true then _ else (dictSetDefault d (.ref b) u2 >>= _)) _ _ s
  rw [if_neg (by rw [hd]; exact Bool.false_ne_true)]
  refine wpAny_bind (Wr.setDefault_heap (tupleKind_room_in1 hu) (key_of I.hok eb) dd (fun p hp => ?_) (fun hp h' dd' hs => ?_) (by rw [← Paired.length rel]; exact hz))
  · refine wpAny_pure ⟨_, rfl, ?_⟩
    have rv := rel.val k
    rw [hp] at rv
    cases ev : valV kvs k with
    | none => rw [ev] at rv; exact False.elim (by cases rv)
    | some v' =>
      rw [ev] at q rv
      exact ⟨v', H, I.tok _, rv, q⟩
  · refine wpAny_pure ⟨_, rfl, ?_⟩
    have rv := rel.val k
    rw [hp] at rv
    cases ev : valV kvs k with
    | some v' => rw [ev] at rv; exact False.elim (by cases rv)
    | none =>
      rw [ev] at q
      obtain ⟨qo, es, ep, hq, h2, h3, h4, _, h5⟩ := dd'
      refine ⟨z, _, d_write (ob := .dT (putK kvs k z)) I (by rw [e]; exact True.intro) hs ⟨qo, hq⟩ ⟨hle, hd, _, (rel.put k eb r2).keeps fun c ys ec => ?_, qo, es, ep, hq, h2, h3, h4, h5⟩, r2, q⟩
      rw [upd_ne (ne_of ec e (fun z => nomatch z))]
      exact ec
/-! ### the view of a dict's keys -/
end
end L2

set_option maxHeartbeats 4000000
namespace L2
open PySem PySem.Spec PyProof.Rows
section
variable {X : Cx} {pins : List (Addr × Obj)} {σ : St} {H : Hp} {s : Shared}
end
end L2

set_option maxHeartbeats 4000000
namespace L2
open PySem PySem.Spec PyProof.Rows

/-! ### zip of two lists: walked pair by pair, each turn's pair a new tuple -/
section
variable {X : Cx} {pins : List (Addr × Obj)} {σ : St} {H : Hp} {s : Shared} {h' : Heap}
end
section
variable {X : Cx} {elts : List Expr} {x1} {ps : Pos}
end
section
variable {X : Cx} {e o i : Expr} {te to ti : TE} {t : TA} {pos : Pos} {k : Nat}
theorem s_ext {apos cpos spos : Pos} (ho : JE X o to) (ha : JA X [e] t) (hbase : attributeBase o "extend" X.env (eval o X.env) = eval o X.env := by rfl) (hline : (apos.endLine == cpos.line) = true := by rfl) :
    JS X (.Expr (.Call (.Attribute o "extend" apos) [e] [] cpos) spos) (tDrop (tBM X.K "list" rExtend to t)) :=
  ⟨ps_expr (pe_bm PySem.F.plainAttrs_list PySem.F.slot_list_extend PySem.F.type_list_extend mt_extend ho.h ha.h hbase (by rw [ha.hd.star]; rfl) hline (ha.hd.star _ _) rfl) (Pln.swap (.call ..) _ _ _)⟩
end
end L2

set_option maxHeartbeats 4000000
namespace L2
open PySem PySem.Spec PyProof.Rows
section
variable {X : Cx} {pins : List (Addr × Obj)} {σ : St} {H : Hp} {s : Shared}
end
section
variable {X : Cx} {e o : Expr} {te to : TE} {t : TA} {p pos apos cpos : Pos} {k : Nat} {target : Expr}
theorem e_setdef {e1 e2 : Expr} (hr : Room k X.A) (ho : JE X o to) (ha : JA X [e1, e2] t) (hbase : attributeBase o "setdefault" X.env (eval o X.env) = eval o X.env := by rfl) (hline : (apos.endLine == cpos.line) = true := by rfl) :
    JE X (.Call (.Attribute o "setdefault" apos) [e1, e2] [] cpos) (tBM X.K "dict" rSetDef to t) :=
  ⟨pe_bm PySem.F.plainAttrs_dict PySem.F.slot_dict_setdefault PySem.F.type_dict_setdefault (mt_setdef (by have := hr.units; omega)) ho.h ha.h hbase (by rw [ha.hd.star, (Nsts.star ha.rs _)]; rfl) hline (ha.hd.star _ _) (ha.rs.no _ _)⟩
theorem e_dget (hr : Room k X.A) (ho : JE X o to) (hi : JE X e te) (hs : NoSl e := by intro _ _; rfl) : JE X (.Subscript o e pos) (tDGet to te) := ⟨pe_dget (by have := hr.units; omega) ho.h hi.h hs⟩
end
end L2

namespace Wr
end Wr

set_option maxHeartbeats 4000000
namespace Wr
open PySem SetTable PyProof.Rows
section
variable {prog : Program} {w : World} {A : Around} {E : Value → Shared → Prop}
end
section
variable {prog : Program} {w : World} {A : Around} {E : Value → Shared → Prop} {s : Shared}
end
end Wr

set_option maxHeartbeats 4000000
namespace L2
open PySem PySem.Spec PyProof.Rows
section
variable {X : Cx}
end
/-! ### rows as data -/
end L2

set_option maxHeartbeats 4000000
namespace Wr
/-! ### a span by its bounds -/
/-- where one stands at m, having begun at s and turned at each bound -/
def par (s : Bool) (bs : List Int) (m : Int) : Bool := bs.foldl (fun x b => x != decide (b ≤ m)) s
/-- turning at those bounds of B that p has -/
def parP (s : Bool) (p : Int → Bool) (B : List Int) (m : Int) : Bool := B.foldl (fun x b => x != (p b && decide (b ≤ m))) s
def endP (s : Bool) (p : Int → Bool) (B : List Int) : Bool := B.foldl (fun x b => x != p b) s
section
variable {fw : Bool → Bool → Bool} {s1 s2 : Bool} {p1 p2 : Int → Bool} {done : List Int} {start : Option Int} {acc : List Stt} {b : Int}
end
end Wr

set_option maxHeartbeats 4000000
namespace Prf
open PySem L2 Wr
theorem take_snoc {α : Type} {l : List α} {i : Nat} {x : α} (h : l[i]? = some x) : l.take (i + 1) = l.take i ++ [x] := by rw [List.take_add_one, h]; rfl
theorem map_at {α β : Type} {f : α → β} {l : List α} {i : Nat} {x : β} (h : (l.map f)[i]? = some x) : ∃ a, l[i]? = some a ∧ x = f a := by
  rw [List.getElem?_map] at h
  cases e : l[i]? with
  | none => rw [e] at h; cases h
  | some a => rw [e] at h; exact ⟨a, rfl, (Option.some.inj h).symm⟩
end Prf

set_option maxHeartbeats 4000000
namespace L2
open PySem PySem.Spec PyProof.Rows
/-! ### enumerate(list): each turn's pair a new tuple -/
section
variable {X : Cx} {elts : List Expr} {x1} {ps : Pos}
end
end L2

set_option maxHeartbeats 4000000
namespace L2
open PySem PySem.Spec PyProof.Rows PySem.W
/-! ### the eight classes of refusals -/
structure Errs (K : PySem.W.Frag) (mg : Str → Option Value) (WE : Addr) (c : Nat → Addr) : Prop where
  when : mg "WhenError" = some (.ref WE)
  bS : mg "NoStretch" = some (.ref (c 0))
  bW : mg "NoWidth" = some (.ref (c 1))
  bT : mg "NoTable" = some (.ref (c 2))
  bC : mg "NoColumn" = some (.ref (c 3))
  bX : mg "NoText" = some (.ref (c 4))
  bN : mg "NoName" = some (.ref (c 5))
  bR : mg "NoRow" = some (.ref (c 6))
  ve : mg "ValueError" = none
  exc : ∀ i, i < 7 → excIn K (c i) veM "ValueError.__new__" = true
  ek : ∀ i, i < 7 → ErrK K (c i)
  mt : ∀ i, i < 7 → exmOne K (.ref (c i)) (.ref WE) = some true
  kit : ∀ i, i < 7 → ∀ j, j < 7 → kitOne K (.ref (c i)) (.ref (c j)) = some (decide (i = j))
  val : ∀ i, i < 7 → kitOne K (.ref (c i)) (.type "ValueError") = some true
theorem boot_ValueError : bootBuiltins "ValueError" = some (.type "ValueError") := by decide +kernel
section
variable {X : Cx} {pos p2 : Pos} {a b : Expr} {ta tb : TE}
end
end L2

set_option maxHeartbeats 4000000
namespace L2
open PySem Wr
/-! ### sheets -/
end L2
namespace L2
open PySem PySem.Spec PyProof.Rows
section
variable {X : Cx} {e : Expr} {es : List Expr} {te : TE} {t : TA}
end
end L2
namespace Prf
open PySem L2 Wr
/-! ### what is known: rows, the lists of what is lit -/
abbrev Kn := List (List Int × Addr × List Bool)
def knKvs (kn : Kn) : List (List Key × V) := kn.map fun q => (q.1.map Sum.inl, .ref q.2.1)
/-! ### sheets as data -/
end Prf

set_option maxHeartbeats 4000000
namespace Wr
end Wr
namespace L2
open PySem PySem.Spec PyProof.Rows Wr
/-! ### facts -/
abbrev Fact := List Int × Stt
theorem log_lt {n : Nat} (h : n < 2 ^ 1900) : n.log2 < 1920 := by
  by_cases h0 : n = 0
  · subst h0; decide
  · exact Nat.lt_of_lt_of_le ((Nat.log2_lt h0).mpr h) (by decide)
section
variable {X : Cx}
end
end L2

set_option maxHeartbeats 4000000
namespace Prf
open PySem L2 Wr
/-! ### what facts tell, row by row -/
abbrev Td := List (List Int × Addr × List Stt)
def tdKvs (td : Td) : List (List Key × V) := td.map fun q => (q.1.map Sum.inl, .ref q.2.1)
/-! ### the sheet of facts -/
end Prf

set_option maxHeartbeats 4000000
namespace L2
open PySem
theorem mod_nat {r : Int} {n : Nat} (h : 0 < n) : ∃ k : Nat, r % (n : Int) = (k : Int) ∧ k < n := by
  have h1 := Int.emod_nonneg r (show (n : Int) ≠ 0 by omega)
  have h2 := Int.emod_lt_of_pos r (show (0 : Int) < n by omega)
  exact ⟨(r % (n : Int)).toNat, by omega, by omega⟩
end L2
namespace Prf
open PySem L2 Wr
/-! ### facts as data -/
end Prf

set_option maxHeartbeats 4000000
namespace Prf
open PySem L2 Wr
/-! ### what is lit, and what facts tell -/
end Prf

set_option maxHeartbeats 4000000
namespace L2
open PySem PySem.Spec PyProof.Rows
section
variable {X : Cx} {a b : Expr} {ta tb : TE} {pos : Pos}
theorem t_in (ha : JE X a ta) (hb : JE X b tb) (hm : ∀ r, behindInMarks .In b = r → r = false := by intro _ h; exact h ▸ rfl) : JT X (.Compare a [.In] [b] pos) (tTest (tOp (rIn X.K false) ta tb)) := ⟨pt_cmpR op_in_seq ha.h hb.h (hm _ rfl)⟩
end
end L2
namespace Prf
open PySem L2 Wr
/-! ### sheets by what holds when -/
abbrev Ent := List Int × List Stt
/-! ### the facts of entries -/
end Prf

set_option maxHeartbeats 4000000
namespace Prf
open PySem L2 Wr
/-! ### sheets by what is lit -/
end Prf

set_option maxHeartbeats 4000000
namespace L2
end L2
namespace Prf
open PySem L2 Wr
/-! ### runs that are set, by their bits -/
/-! ### put, by what holds when -/
end Prf

set_option maxHeartbeats 4000000
namespace L2
open PySem PySem.Spec PyProof.Rows
/-! ### functions that are made on the way (lambdas), and calls of local names -/
/-- where a lambda stands: the code of the def around it, that code's table -/
structure Site where
  c : Addr
  P : Addr
section
variable {X : Cx} {S : Site} {params : Arguments} {body : Expr} {scope : Scope} {pos : Pos}
end
/-! ### a call of a local name -/
section
variable {X : Cx} {k j i : Nat} {x : Str} {ps : List Str} {sp : Sp} {p pos : Pos} {e : Expr} {es : List Expr} {t : TA} {f : Addr} {fd : FuncData}
end
/-! ### what is tracked stays, the lambdas' tables aside -/
def noTbl : HO → Bool
  | .tbl _ => false
  | _ => true
/-- the lambdas of a text: where each stands -/
structure LSite where
  S : Site
  q : Str
  pos : Pos
section
variable {Ls : List LSite} {H H1 H2 : Hp} {a : Addr} {o : HO}
end
end L2

set_option maxHeartbeats 4000000
namespace L2
open PySem PySem.Spec PyProof.Rows
/-! ### the head of a law whose defs make lambdas: the tables of their codes are tracked -/
end L2

set_option maxHeartbeats 4000000
namespace L2
open PySem PySem.Spec PyProof.Rows
section
variable {P : Program} {w : World} {K : PySem.W.Frag} {mg : Str → Option Value} {base : Heap}
end
section
variable {X : Cx} {S : Site} {params : Arguments} {body : Expr} {scope : Scope} {pos : Pos}
end
end L2

set_option maxHeartbeats 4000000
namespace L2
open PySem Wr
variable {Ls : List LSite} {H H' : Hp}
end L2
namespace Prf
open PySem L2 Wr
variable {Ls : List LSite} {H H' : Hp}
/-! ### entries whose spans are made anew -/
end Prf

set_option maxHeartbeats 4000000
namespace L2
open PySem PySem.Spec PyProof.Rows
/-! ### isinstance with a tuple of own classes -/
section
variable {X : Cx}
end
/-! ### a loop over the keys of a dict that the body leaves as it is -/
end L2
namespace Prf
open PySem L2 Wr
/-! ### conditions as data -/
/-! ### what is known, while its dict is walked -/
end Prf

set_option maxHeartbeats 4000000
namespace L2
open PySem PySem.Spec PyProof.Rows
section
variable {X : Cx}
/-! ### t + u, whichever is empty -/
variable {pos p2 : Pos} {a b : Expr} {ta tb : TE}
end
end L2
namespace Prf
open PySem L2 Wr
/-! ### how many stretches, by the lit pieces -/
end Prf

set_option maxHeartbeats 4000000
namespace Prf
open PySem L2 Wr
/-! ### how many places are lit -/
end Prf

set_option maxHeartbeats 4000000
namespace L2
open PySem PySem.Spec PyProof.Rows
section
variable {X : Cx}
/-! ### slices of texts -/
def rSlS : V → Option Int → Option Int → Hp → VK → Prop := fun x lo hi H Q => ∃ z, x = .str z ∧ z.length ≤ sizeLine ∧ Q (.str (Txt.slice z lo hi)) H
theorem sl_str : SlR X rSlS := by
  intro pins s σ H x v vl vu lo hi sl Q I rx hs pl pu ⟨z, e, hz, q⟩
  subst e
  obtain ⟨t, rfl⟩ := rx
  refine ⟨"str", _, PySem.F.slot_str_getitem.lookup, typeIs_str _ _ _, ?_⟩
  obtain ⟨o, ho, hc, hd⟩ := hs
  have fin : (Txt.slice z lo hi).length ≤ sizeLine ∧ ∀ t' k, EP X pins σ Q (.str (Txt.slice z lo hi) t') { s with toks := k } := ⟨Nat.le_trans (Txt.slice_le z _ _) hz, fun t' k => ⟨.str _, H, I.tok k, ⟨_, rfl⟩, q⟩⟩
  cases pl with
  | none =>
    cases pu with
    | none => exact wpAny_getItem_str_slice (l := none) (u := none) (st := none) ⟨o, ho, hc, hd⟩ rfl (post_val_or_str fin)
    | int j u => exact wpAny_getItem_str_slice (l := none) (u := some (j, u)) (st := none) ⟨o, ho, hc, hd⟩ rfl (post_val_or_str fin)
  | int i t1 =>
    cases pu with
    | none => exact wpAny_getItem_str_slice (l := some (i, t1)) (u := none) (st := none) ⟨o, ho, hc, hd⟩ rfl (post_val_or_str fin)
    | int j u => exact wpAny_getItem_str_slice (l := some (i, t1)) (u := some (j, u)) (st := none) ⟨o, ho, hc, hd⟩ rfl (post_val_or_str fin)
variable {pos p2 apos cpos : Pos} {a b o : Expr} {ta tb to : TE} {t : TA}
theorem x_str : JIx X rIxS := ⟨ix_str⟩
theorem e_uptoS (ha : JE X a ta) (hb : JE X b tb) : JE X (.Subscript a (.Slice none (some b) none p2) pos) (tSl rSlS ta tNoPart (tPart tb)) := ⟨pe_slice sl_str ha.h po_none (po_some hb.h)⟩
theorem e_fromS (ha : JE X a ta) (hb : JE X b tb) : JE X (.Subscript a (.Slice (some b) none none p2) pos) (tSl rSlS ta (tPart tb) tNoPart) := ⟨pe_slice sl_str ha.h (po_some hb.h) po_none⟩
theorem o_addS : JOp X (binaryOp .Add) (fun x y H Q => ∃ i j, x = .str i ∧ y = .str j ∧ i.length + j.length ≤ sizeLine ∧ Q (.str (i ++ j)) H) := ⟨op_add_str⟩
theorem c_lenS : JC X (.builtin "len") (fun xs H Q => ∃ z, xs = [.str z] ∧ z.length ≤ sizeLine ∧ Q (.int z.length) H) := ⟨call_len_str⟩
/-! ### t.join(list of texts) -/
def rJoin (K : PySem.W.Frag) : V → List V → Hp → VK → Prop := fun x xs H Q => ∃ (z : Str) (p : Addr) (ys : List Str), x = .str z ∧ xs = [.ref p] ∧ SqL K H p (ys.map V.str) ∧ (ys.map (·.length)).sum + ys.length * z.length ≤ 16777216 ∧ Q (.str (Txt.join z ys)) H
theorem strs_vals : ∀ {ys : List Str} {us : List Value}, Vals (ys.map V.str) us → StrsAre us ys
  | [], _, .nil => .nil
  | y :: ys, _, .cons r t => by obtain ⟨k, rfl⟩ := r; exact .cons y k (strs_vals t)
theorem mt_join : MtR X "str.join" (rJoin X.K) := by
  intro pins s σ H x xs v us Q I rx r ⟨z, p, ys, e1, e2, hp, hw, q⟩
  subst e1 e2
  obtain ⟨t, rfl⟩ := rx
  obtain ⟨u, rfl, ru⟩ := vals1 r
  cases ru
  obtain ⟨its, rv, pl, _⟩ := I.list hp
  exact join_list pl.isList (by simpa using strs_vals rv) hw fun t' k => ⟨.str _, H, I.tok k, ⟨_, rfl⟩, q⟩
theorem e_join {e1 : Expr} (ho : JE X o to) (ha : JA X [e1] t) (hbase : attributeBase o "join" X.env (eval o X.env) = eval o X.env := by rfl) (hline : (apos.endLine == cpos.line) = true := by rfl) :
    JE X (.Call (.Attribute o "join" apos) [e1] [] cpos) (tBM X.K "str" (rJoin X.K) to t) :=
  ⟨pe_bm PySem.F.plainAttrs_str PySem.F.slot_str_join PySem.F.type_str_join mt_join ho.h ha.h hbase (by rw [ha.hd.star, (Nsts.star ha.rs _)]; rfl) hline (ha.hd.star _ _) (ha.rs.no _ _)⟩
end
end L2

set_option maxHeartbeats 4000000
namespace Prf
open PySem L2 Wr PySem.Builtin PySem.Builtin.Str
theorem idx_upto {n j : Nat} (h : j ≤ n) : strSliceIndices none (some (j : Int)) 1 n = List.range j := by
  unfold strSliceIndices sliceRange
  simp only [show (1 : Int) > 0 by decide, if_true]
  rw [if_neg (show ¬ ((j : Int) < 0) by omega)]
  have e : max 0 (min (j : Int) (n : Int)) = (j : Int) := by omega
  rw [e]
  have c : (if (0 : Int) < (j : Int) then ((j : Int) - 0 + 1 - 1) / 1 else 0).toNat = j := by
    split
    · rw [Int.ediv_one]; omega
    · omega
  rw [c]
  conv => rhs; rw [← List.map_id (List.range j)]
  exact List.map_congr_left fun k _ => by show (0 + 1 * (k : Int)).toNat = k; omega
theorem idx_from {n i : Nat} (h : i ≤ n) : strSliceIndices (some (i : Int)) none 1 n = (List.range (n - i)).map (· + i) := by
  unfold strSliceIndices sliceRange
  simp only [show (1 : Int) > 0 by decide, if_true]
  rw [if_neg (show ¬ ((i : Int) < 0) by omega)]
  have e : max 0 (min (i : Int) (n : Int)) = (i : Int) := by omega
  rw [e]
  have c : (if (i : Int) < (n : Int) then ((n : Int) - (i : Int) + 1 - 1) / 1 else 0).toNat = n - i := by
    split
    · rw [Int.ediv_one]; omega
    · omega
  rw [c]
  exact List.map_congr_left fun k _ => by show ((i : Int) + 1 * (k : Int)).toNat = k + i; omega
theorem pick_take {α : Type} {l : List α} : ∀ {j : Nat}, j ≤ l.length → (List.range j).filterMap (fun k => l[k]?) = l.take j
  | 0, _ => rfl
  | j + 1, h => by
    have hl : j < l.length := by omega
    rw [List.range_succ, List.filterMap_append, pick_take (by omega), List.take_succ_eq_append_getElem hl]
    simp [hl]
theorem pick_drop {α : Type} {l : List α} {i : Nat} (h : i ≤ l.length) : ((List.range (l.length - i)).map (· + i)).filterMap (fun k => l[k]?) = l.drop i := by
  rw [List.filterMap_map]
  have e : ((fun k => l[k]?) ∘ fun x => x + i) = fun k => (l.drop i)[k]? := by
    funext k
    show l[k + i]? = (l.drop i)[k]?
    rw [List.getElem?_drop, Nat.add_comm]
  rw [e, pick_take (by rw [List.length_drop]; exact Nat.le_refl _), List.take_of_length_le (by rw [List.length_drop]; exact Nat.le_refl _)]
theorem str_len (z : PySem.Str) : z.length = z.cps.toList.length := by show z.cps.size = _; simp
theorem slice_upto {z : PySem.Str} {j : Nat} (h : j ≤ z.length) : (Txt.slice z none (some (j : Int))).cps.toList = z.cps.toList.take j := by
  unfold Txt.slice
  rw [idx_upto h]
  split
  · rename_i c
    have : j = z.length := by simpa using c
    rw [this, str_len, List.take_length]
  · show ((List.range j).filterMap (fun k => z.cps[k]?)).toArray.toList = _
    rw [← pick_take (by rw [← str_len]; exact h)]
    simp
theorem slice_from {z : PySem.Str} {i : Nat} (h : i ≤ z.length) : (Txt.slice z (some (i : Int)) none).cps.toList = z.cps.toList.drop i := by
  unfold Txt.slice
  rw [idx_from h]
  split
  · rename_i c
    have : z.length - i = z.length := by simpa using c
    rcases Nat.eq_zero_or_pos z.length with hz | hz
    · have : z.cps.toList = [] := List.length_eq_zero_iff.mp (by rw [← str_len]; exact hz)
      rw [this]; simp
    · have : i = 0 := by omega
      rw [this, List.drop_zero]
  · show (((List.range (z.length - i)).map (· + i)).filterMap (fun k => z.cps[k]?)).toArray.toList = _
    rw [← pick_drop (by rw [← str_len]; exact h), str_len]
    simp
theorem cat_list (a b : PySem.Str) : (a ++ b).cps.toList = a.cps.toList ++ b.cps.toList := by
  show (a.cps ++ b.cps).toList = _
  simp
/-- texts glued with nothing between -/
theorem join_none (ys : List PySem.Str) : (Txt.join "" ys).cps.toList = ys.flatMap fun y => y.cps.toList := by
  unfold Txt.join glued
  have e0 : (Str.ofString "").cps = #[] := by decide +kernel
  have go : ∀ (l : List PySem.Str) (acc : Array Nat), (l.foldl (fun acc p => acc ++ (Str.ofString "").cps ++ p.cps) acc).toList = acc.toList ++ l.flatMap fun y => y.cps.toList := by
    intro l
    induction l with
    | nil => intro acc; simp
    | cons y l ih => intro acc; rw [List.foldl_cons, ih, e0]; simp
  rw [go]
  cases ys with
  | nil => simp; decide +kernel
  | cons y ys => simp
/-- the words of a law's names: one sign is another in each -/
theorem word_ne {w : List Nat} {a b : Nat} {i : Nat} (h : i < w.length) (ne : a ≠ b) : w.take i ++ [a] ++ w.drop (i + 1) ≠ w.take i ++ [b] ++ w.drop (i + 1) := fun e => by
  have e1 := congrArg (·[i]?) e
  simp only [List.append_assoc, List.getElem?_append_right (show (w.take i).length ≤ i by rw [List.length_take]; omega)] at e1
  have l : i - (w.take i).length = 0 := by rw [List.length_take]; omega
  rw [l] at e1
  simp at e1
  exact ne e1
end Prf

set_option maxHeartbeats 4000000
namespace L2
open PySem PySem.Spec PyProof.Rows PySem.NumText
end L2

set_option maxHeartbeats 4000000
namespace L2
open PySem PySem.Spec PyProof.Rows PySem.NumText Prf
end L2

set_option maxHeartbeats 4000000
namespace L2
open PySem PySem.Spec PyProof.Rows PySem.NumText Prf StrLaws Builtin.Str
end L2

set_option maxHeartbeats 4000000
namespace L2
open PySem PySem.Spec PyProof.Rows PySem.NumText Prf Builtin.Str
section
variable {X : Cx} {o : Expr} {to : TE} {t : TA} {apos cpos : Pos}
end
end L2

set_option maxHeartbeats 4000000
namespace L2
open PySem PySem.Spec PyProof.Rows PySem.NumText Prf Builtin.Str
/-! ### a text, walked sign by sign -/
section
variable {X : Cx} {tg : Expr}
/-! ### a sign in a text -/
/-! ### all(..) of a list -/
end
end L2

set_option maxHeartbeats 4000000
namespace L2
open PySem PySem.Spec PyProof.Rows PySem.NumText Prf Builtin.Str
section
variable {X : Cx} {o : Expr} {to : TE} {t : TA} {apos cpos : Pos}
end
end L2

set_option maxHeartbeats 4000000
namespace L2
open PySem PySem.Spec PyProof.Rows PySem.NumText Prf Builtin.Str
end L2

set_option maxHeartbeats 4000000
namespace L2
open PySem PySem.Spec PyProof.Rows PySem.NumText Prf Builtin.Str
section
variable {X : Cx} {k : Nat} {pos : Pos} {e a b : Expr} {te ta tb : TE}
/-! ### texts with a text's writing in them -/
def tFmR (te : TE) : TE := fun σ H Q => te σ H fun v H1 => ∃ y : PySem.Str, v = .str y ∧ (reprText y).length ≤ sizeLine ∧ Q (.str (reprText y)) H1
theorem e_fmR (he : JE X e te) : JE X (.FormattedValue e 114 none pos) (tFmR te) := by
  refine ⟨fun pins s σ H Q I hw => ?_⟩
  refine wpAny_FormattedValue_repr (thn (he.h pins s σ H _ I hw) fun u s1 ⟨v, H1, I1, r, y, ev, hy, q⟩ => ?_)
  subst ev
  obtain ⟨tk, rfl⟩ := (show ∃ tk, u = Value.str y tk from r)
  refine wpAny_pyReprObj_str ?_ hy
  exact wpAny_formatField_str ⟨.str _, H1, I1.tok _, ⟨_, rfl⟩, q⟩ ⟨.str _, H1, I1.tok _, ⟨_, rfl⟩, q⟩ hy
/-- a text of two parts -/
def tFst2 (ta tb : TE) : TE := fun σ H Q => ta σ H fun v H1 => ∃ y : PySem.Str, v = .str y ∧ y.length ≤ 2 ^ 22 ∧ tb σ H1 fun v2 H2 => ∃ y2 : PySem.Str, v2 = .str y2 ∧ y2.length ≤ 2 ^ 22 ∧ Q (.str (y ++ y2)) H2
theorem e_fst2 (ha : JE X a ta) (hb : JE X b tb) : JE X (.JoinedStr [a, b] pos) (tFst2 ta tb) := by
  refine ⟨fun pins s σ H Q I hw => wpAny_JoinedStr ?_⟩
  have e0 : (2 : Nat) ^ 23 ≤ sizeLine := by decide
  have e1 : (2 : Nat) ^ 22 + 2 ^ 22 = 2 ^ 23 := by decide
  refine thn (ha.h pins s σ H _ I hw) fun u s1 ⟨v, H1, I1, r, y, ev, hy, q⟩ => ?_
  subst ev
  obtain ⟨tk, rfl⟩ := (show ∃ tk, u = Value.str y tk from r)
  refine ⟨y, tk, rfl, ?_, ?_⟩
  · rw [Str.empty_append]; omega
  · refine thn (hb.h pins s1 σ H1 _ I1 q) fun u s2 ⟨v, H2, I2, r2, y2, ev2, hy2, q2⟩ => ?_
    subst ev2
    obtain ⟨tk2, rfl⟩ := (show ∃ tk, u = Value.str y2 tk from r2)
    have hz : (Str.empty ++ y ++ y2).length ≤ sizeLine := by rw [Str.empty_append, strLen_append]; omega
    refine ⟨y2, tk2, rfl, hz, hz, .str (y ++ y2), H2, I2.tok _, ⟨_, by rw [Str.empty_append]⟩, q2⟩
/-! ### int(True) -/
theorem c_intB : JC X (.type "int") (fun xs H Q => ∃ b : Bool, xs = [.bl b] ∧ Q (.int (if b then 1 else 0)) H) := by
  refine ⟨fun pins s σ H xs us Q I r h => ?_⟩
  obtain ⟨b, rfl, q⟩ := h
  obtain ⟨u, rfl, rfl⟩ := vals1 r
  exact call_int_bool ⟨.int _, H, I.tok _, ⟨_, rfl⟩, q⟩
/-! ### None in a list or tuple of whole numbers, tuples and Nones -/
/-! ### a sign not in a text -/
variable {p2 : Pos}
end
end L2

set_option maxHeartbeats 8000000
namespace Prf
open PySem L2 Wr PySem.NumText
/-! ### which texts tell a number -/
/-! ### texts of this law: signs below 128, not too long -/
end Prf

set_option maxHeartbeats 4000000
namespace L2
open PySem PySem.Spec PyProof.Rows Wr
section
variable {X : Cx}
/-- dict(d) -/
theorem c_dictD : JC X (.type "dict") (fun xs H Q => ∃ d kvs, xs = [.ref d] ∧ H d = some (.dK kvs) ∧ ∀ p, H p = none → Q (.ref p) (upd H p (.dK kvs))) := by
  refine ⟨fun pins s σ H xs us Q I r h => ?_⟩
  obtain ⟨d, kvs, rfl, hd, q⟩ := h
  obtain ⟨u, rfl, ru⟩ := vals1 r
  cases ru
  obtain ⟨z, hs, vs0, r0, dd⟩ := dk_of I.hok hd
  have hlt : d < s.heap.objs.size := by obtain ⟨o, _, _, e, _⟩ := dd; exact Heap.lt_size e
  refine callType_codes (Q₁ := fun obj s₁ => obj = .ref s.heap.objs.size ∧ s₁ = { s with heap := s.heap.push { cls := .type "dict", data := .dict #[] } }) F.kt_called_dict (F.kt_typeCall_dict_1 _) F.entry_dict_init (kt_code_dict_new _ ⟨rfl, rfl⟩) ?_
  rintro obj s₁ ⟨rfl, rfl⟩
  obtain ⟨_, hb, vs1, r1, d1⟩ := dk_empty (P := X.prog) (w := X.w) (H := H) s.heap I.big
  cases r1
  have d2 : (s.heap.push { cls := .type "dict", data := .dict #[] }).DictOf (mixKind X.prog X.w) d vs0 := dd.push _
  have hT : Shared.TypeIs { s with heap := s.heap.push { cls := .type "dict", data := .dict #[] } } (.ref s.heap.objs.size) "dict" := d1.typeIs
  have hT2 : Shared.TypeIs { s with heap := s.heap.push { cls := .type "dict", data := .dict #[] } } (.ref d) "dict" := d2.typeIs
  refine ⟨hT, F.args_dict_init_2 _ _, ?_⟩
  unfold Builtin.«dict.__init__»
  refine wpAny_bind ?_; unfold Builtin.Dict.selfAndRest
  refine wpAny_bind (wpAny_notOrdered_dict hT (wpAny_pure ?_))
  show wpAny _ _ (Builtin.Dict.updateFrom "dict.__init__" s.heap.objs.size (.ref d) [] .none) _ _ _
  unfold Builtin.Dict.updateFrom; refine wpAny_bind (wpAny_typeOf hT2 ?_)
  rw [if_neg (by decide)]; refine wpAny_bind ?_
  unfold Builtin.Dict.merge; refine wpAny_bind ?_
  unfold Builtin.Dict.readDirectly; refine wpAny_bind (wpAny_isInstance hT2 isSubtype_dict_dict ?_)
  simp only [Bool.not_true, Bool.false_eq_true, if_false]; refine wpAny_bind (wpAny_specialOf hT2 F.slot_dict_iter.lookup (wpAny_pure ?_))
  simp only [beq_self_eq_true, if_true]; refine wpAny_bind (wpAny_pure ?_)
  have hl0 : vs0.length ≤ sizeLine := by rw [← r0.length]; exact z
  refine wpAny_mergeDict (hsz := by simpa using hl0) (Nat.ne_of_gt hlt) hs d1 d2 fun h' e1 e2 sb => ?_
  have hn : (vs0.map (·.1)).Nodup := by obtain ⟨_, _, _, _, _, _, _, _, n⟩ := dd; exact n
  rw [merged_nil_of_nodup vs0 hn] at e1
  show wpAny _ _ (Builtin.Dict.addKeywords s.heap.objs.size [] >>= _) _ _ _
  refine wpAny_bind (wpAny_pure (wpAny_pure ⟨rfl, .ref s.heap.objs.size, _, I.laid (t' := s.toks) (o := .dK kvs) (fun b o e => ?_) (Nat.le_refl _) (dk_new z hb r0 e1), rfl, q _ (I.hok.fresh (Nat.le_refl _))⟩))
  exact (sb.2 b (Nat.ne_of_lt (Heap.lt_size e))).trans (Heap.get?_push_of_some _ e)
end
end L2

set_option maxHeartbeats 4000000
namespace L2
open PySem PySem.Spec PyProof.Rows Wr
section
variable {prog : Program} {w : World} {A : Around} {E : Value → Shared → Prop} {s : Shared}
theorem findIdx_at {K : Type} [DecidableEq K] : ∀ {kvs : List (K × Value)} {i : Nat} {p : K × Value}, (kvs.map (·.1)).Nodup → kvs[i]? = some p → (kvs.findIdx? fun kv => decide (kv.1 = p.1)) = some i
  | [], _, _, _, h => by simp at h
  | x :: r, 0, p, hn, h => by
    cases h
    simp [List.findIdx?_cons]
  | x :: r, i + 1, p, hn, h => by
    rw [List.map_cons, List.nodup_cons] at hn
    have hm : r[i]? = some p := by simpa using h
    have ne : x.1 ≠ p.1 := fun e => hn.1 (by rw [e]; exact List.mem_map.mpr ⟨p, List.mem_of_getElem? hm, rfl⟩)
    rw [List.findIdx?_cons, decide_eq_false ne, findIdx_at hn.2 hm]
    rfl
theorem same_pairs {nm : String} {K : Type} [DecidableEq K] {knd : KeyKind prog w K} {a b : Addr} {va vb : List (K × Value)} {Q : Bool → Shared → Prop} (ha : (a == sysModules) = false) (hb : (b == sysModules) = false)
    (da : s.heap.DictOf knd a va) (db : s.heap.DictOf knd b vb) (hk : va.map (·.1) = vb.map (·.1))
    (hv : ∀ (i : Nat) (k : K) (x y : Value), va[i]? = some (k, x) → vb[i]? = some (k, y) → ∃ (n : Int) (t u : Tok), x = Value.int n t ∧ y = Value.int n u) (h : Q true s) : wpAny (model prog w) A (Builtin.Dict.samePairs nm a b) Q E s := by
  obtain ⟨oa, ea, pa, hoa, hca, hda, hka, hpa, hna⟩ := id da
  obtain ⟨ob, eb, pb, hob, hcb, hdb, hkb, hpb, hnb⟩ := id db
  have la : ea.size = va.length := by rw [← hpa.length]; simp
  have lb : eb.size = vb.length := by rw [← hpb.length]; simp
  have lab : va.length = vb.length := by have := congrArg List.length hk; simpa using this
  unfold Builtin.Dict.samePairs Builtin.Dict.showsAll
  rw [if_neg (by rw [ha]; exact Bool.false_ne_true)]
  refine wpAny_bind (wpAny_pure ?_)
  rw [if_neg (by rw [hb]; exact Bool.false_ne_true)]
  refine wpAny_bind (wpAny_pure (wpAny_bind (wpAny_dictEntries hoa hda (wpAny_bind (wpAny_dictEntries hob hdb ?_)))))
  rw [if_neg (by rw [la, lb, lab]; simp)]
  refine wpAny_bind (wpAny_dictEpoch hoa hda ?_)
  refine wpAny_bind ?_
  rw [Std.Legacy.Range.forIn_eq_forIn_range']; simp only [Std.Legacy.Range.size, Nat.sub_zero, Nat.add_sub_cancel, Nat.div_one]
  refine wpAny_forIn_list _ (fun rest c s' => s' = s ∧ c = (none, ()) ∧ ∃ i, rest = List.range' i (ea.size - i) ∧ i ≤ ea.size) _ ?_ ?_ _ _ ⟨rfl, rfl, 0, by simp, Nat.zero_le _⟩
  · rintro x rest c s' ⟨rfl, rfl, i, hr, hi⟩
    have hlt : i < ea.size := by
      rcases Nat.lt_or_ge i ea.size with z | z
      · exact z
      · rw [Nat.sub_eq_zero_of_le z] at hr
        simp at hr
    have e1 : ea.size - i = (ea.size - (i + 1)) + 1 := by omega
    rw [e1, List.range'_succ] at hr
    obtain ⟨rfl, rfl⟩ := List.cons.inj hr
    refine wpAny_bind (wpAny_dictEntries hoa hda ?_)
    have hxe : ea[x]? = some ea[x] := by simp [hlt]
    rw [hxe]
    obtain ⟨⟨k, v⟩, hva⟩ : ∃ p, va[x]? = some p := ⟨va[x]'(by omega), by simp [show x < va.length by omega]⟩
    obtain ⟨⟨k2, y⟩, hvb⟩ : ∃ p, vb[x]? = some p := ⟨vb[x]'(by omega), by simp [show x < vb.length by omega]⟩
    have ek : k = k2 := by
      have h1 : (va.map (·.1))[x]? = some k := by rw [List.getElem?_map, hva]; rfl
      have h2 : (vb.map (·.1))[x]? = some k2 := by rw [List.getElem?_map, hvb]; rfl
      rw [hk, h2] at h1
      exact (Option.some.inj h1).symm
    subst ek
    have ge : ea.toList[x]? = some ea[x] := by simpa using hxe
    obtain ⟨hi1, hi2⟩ := hpa.get? ge hva
    obtain ⟨k', hk', hh'⟩ := hka ea[x] (Array.getElem_mem hlt)
    have ekk : k' = k := knd.inj _ _ _ hk' hi1
    subst ekk
    obtain ⟨n, t, u, rfl, rfl⟩ := hv x k' v y hva hvb
    have hf : (eb.findIdx? fun e => knd.is k' e.key) = some x := by
      have h1 := hpb.findIdx k'
      rw [findIdx_at hnb hvb] at h1
      rw [← h1]
      obtain ⟨l⟩ := eb; simp
    have hlb : x < eb.size := by omega
    have geb : eb.toList[x]? = some eb[x] := by simp [hlb]
    obtain ⟨_, hj2⟩ := hpb.get? geb hvb
    refine wpAny_bind (wpAny_holding (wpAny_bind ?_))
    rw [hh']
    refine wpAny_dictFind_of hi1 hob hdb hkb ?_
    rw [hf]
    refine wpAny_bind (wpAny_dictEntries hob hdb ?_)
    have hxb : eb[x]? = some eb[x] := by simp [hlb]
    rw [hxb]
    refine wpAny_holding ?_
    rw [hi2, hj2]
    refine wpAny_eqBool_int ?_
    have en : (n == n) = true := by simp
    rw [en]
    refine wpAny_bind (wpAny_dictEpoch hoa hda ?_)
    rw [if_neg (by simp)]
    exact wpAny_pure ⟨rfl, rfl, x + 1, rfl, by omega⟩
  · rintro c s' ⟨rfl, rfl, _⟩
    exact wpAny_pure h
end
section
variable {X : Cx} {k : Nat}
theorem ints_at : ∀ {kvs : List (Key × V)} {va vb : List (Key × Value)}, KV kvs va → KV kvs vb → (∀ p ∈ kvs, ∃ n, p.2 = .int n) → va.map (·.1) = vb.map (·.1) ∧ ∀ (i : Nat) (q : Key) (x y : Value), va[i]? = some (q, x) → vb[i]? = some (q, y) → ∃ (n : Int) (t u : Tok), x = Value.int n t ∧ y = Value.int n u
  | [], _, _, .nil, .nil, _ => ⟨rfl, fun i q x y h => by simp at h⟩
  | p :: kvs, a :: va, b :: vb, .cons r1 t1, .cons r2 t2, h => by
    obtain ⟨h1, h2⟩ := ints_at t1 t2 fun p hp => h p (List.mem_cons_of_mem _ hp)
    refine ⟨by rw [List.map_cons, List.map_cons, h1, ← r1.1, ← r2.1], fun i q x y e1 e2 => ?_⟩
    cases i with
    | zero =>
      cases e1; cases e2
      obtain ⟨n, en⟩ := h p List.mem_cons_self
      have q1 := r1.2
      have q2 := r2.2
      rw [en] at q1 q2
      obtain ⟨t, q1⟩ := q1
      obtain ⟨u, q2⟩ := q2
      exact ⟨n, t, u, q1, q2⟩
    | succ i => exact h2 i q x y (by simpa using e1) (by simpa using e2)
/-- d != e of dicts that are alike -/
def rNeK : R2 := fun x y H Q => ∃ a b kvs, x = .ref a ∧ y = .ref b ∧ H a = some (.dK kvs) ∧ H b = some (.dK kvs) ∧ (∀ p ∈ kvs, ∃ n, p.2 = .int n) ∧ Q (.bl false) H
theorem o_neK (hr : Room k X.A) : JOp X (compareOp .NotEq) rNeK := by
  refine ⟨fun pins s σ H x y v u Q I rx ry h => ?_⟩
  obtain ⟨a, b, kvs, rfl, rfl, ha, hb, hn, q⟩ := h
  cases rx
  cases ry
  obtain ⟨z, hs, va, ra, da⟩ := dk_of I.hok ha
  obtain ⟨_, hs2, vb, rb, db⟩ := dk_of I.hok hb
  obtain ⟨e1, e2⟩ := ints_at ra rb hn
  refine wpAny_richCompare_same_room (op := .NotEq) da.typeIs db.typeIs F.slot_dict_ne (wpAny_call_entry F.slot_dict_ne da.typeIs F.entry_dict_ne ?_ (F.args_dict_ne_2 _ _)) (by have := hr.units; omega)
  unfold Builtin.«dict.__ne__»
  show wpAny _ _ (Builtin.Dict.dictSlotArgs "__ne__" ⟨[.ref a, .ref b], []⟩ >>= _) _ _ s
  refine wpAny_bind ?_
  unfold Builtin.Dict.dictSlotArgs
  refine wpAny_bind (wpAny_notOrdered_dict da.typeIs ?_)
  show wpAny _ _ (pure (Value.ref a, Value.ref b)) _ _ s
  refine wpAny_pure ?_
  refine wpAny_bind (wpAny_isInstance db.typeIs isSubtype_dict_dict ?_)
  simp only [Bool.not_true, Bool.false_eq_true, if_false]
  have e3 : ∀ c : Addr, Builtin.Dict.addrOf (Value.ref c) = pure c := fun _ => rfl
  rw [e3, e3]
  refine wpAny_bind (wpAny_pure ?_)
  refine wpAny_bind (wpAny_pure ?_)
  refine wpAny_bind ?_
  refine same_pairs (knd := mixKind X.prog X.w) hs hs2 da db e1 e2 ?_
  show wpAny _ _ (ret (Value.bool (true == false))) _ _ _
  exact wpAny_pure ⟨.bool false, rfl, (fun y => Value.noConfusion y), .bl false, H, I, rfl, q⟩
end
end L2

set_option maxHeartbeats 4000000
namespace Prf
open PySem L2 Wr
def top (i : Nat) : Stmt := PySem.Challenge.pw_whenrows_k32_widths.main.body.getD i (.Pass ⟨0, 0, 0, 0⟩)
noncomputable def stE_condition_columns : {s : Stmt // top 1 = s} := ⟨.FunctionDef _ _ _ _ _ _ _ _ _ _, rfl⟩
noncomputable abbrev st_condition_columns : Stmt := stE_condition_columns.1
noncomputable def stE_parts_of : {s : Stmt // top 12 = s} := ⟨.FunctionDef _ _ _ _ _ _ _ _ _ _, rfl⟩
noncomputable abbrev st_parts_of : Stmt := stE_parts_of.1
noncomputable def stE_width : {s : Stmt // top 13 = s} := ⟨.FunctionDef _ _ _ _ _ _ _ _ _ _, rfl⟩
noncomputable abbrev st_width : Stmt := stE_width.1
noncomputable def stE_table_width : {s : Stmt // top 14 = s} := ⟨.FunctionDef _ _ _ _ _ _ _ _ _ _, rfl⟩
noncomputable abbrev st_table_width : Stmt := stE_table_width.1
noncomputable def stE_width_over : {s : Stmt // top 15 = s} := ⟨.FunctionDef _ _ _ _ _ _ _ _ _ _, rfl⟩
noncomputable abbrev st_width_over : Stmt := stE_width_over.1
noncomputable def stE_refuse_unlike : {s : Stmt // top 16 = s} := ⟨.FunctionDef _ _ _ _ _ _ _ _ _ _, rfl⟩
noncomputable abbrev st_refuse_unlike : Stmt := stE_refuse_unlike.1
noncomputable def stE_refuse_no_column : {s : Stmt // top 17 = s} := ⟨.FunctionDef _ _ _ _ _ _ _ _ _ _, rfl⟩
noncomputable abbrev st_refuse_no_column : Stmt := stE_refuse_no_column.1
noncomputable def stE_told_columns : {s : Stmt // top 18 = s} := ⟨.FunctionDef _ _ _ _ _ _ _ _ _ _, rfl⟩
noncomputable abbrev st_told_columns : Stmt := stE_told_columns.1
noncomputable def stE__law_whole : {s : Stmt // top 20 = s} := ⟨.FunctionDef _ _ _ _ _ _ _ _ _ _, rfl⟩
noncomputable abbrev st__law_whole : Stmt := stE__law_whole.1
noncomputable def stE__law_mixed : {s : Stmt // top 21 = s} := ⟨.FunctionDef _ _ _ _ _ _ _ _ _ _, rfl⟩
noncomputable abbrev st__law_mixed : Stmt := stE__law_mixed.1
noncomputable def stE__law_words : {s : Stmt // top 22 = s} := ⟨.FunctionDef _ _ _ _ _ _ _ _ _ _, rfl⟩
noncomputable abbrev st__law_words : Stmt := stE__law_words.1
noncomputable def stE__law_drawn : {s : Stmt // top 23 = s} := ⟨.FunctionDef _ _ _ _ _ _ _ _ _ _, rfl⟩
noncomputable abbrev st__law_drawn : Stmt := stE__law_drawn.1
noncomputable def stE__law_asked : {s : Stmt // top 24 = s} := ⟨.FunctionDef _ _ _ _ _ _ _ _ _ _, rfl⟩
noncomputable abbrev st__law_asked : Stmt := stE__law_asked.1
noncomputable def stE__law_due_of_one : {s : Stmt // top 25 = s} := ⟨.FunctionDef _ _ _ _ _ _ _ _ _ _, rfl⟩
noncomputable abbrev st__law_due_of_one : Stmt := stE__law_due_of_one.1
noncomputable def stE__law_due : {s : Stmt // top 26 = s} := ⟨.FunctionDef _ _ _ _ _ _ _ _ _ _, rfl⟩
noncomputable abbrev st__law_due : Stmt := stE__law_due.1
noncomputable def stE__law_word : {s : Stmt // top 27 = s} := ⟨.FunctionDef _ _ _ _ _ _ _ _ _ _, rfl⟩
noncomputable abbrev st__law_word : Stmt := stE__law_word.1
noncomputable def stE__law_right : {s : Stmt // top 28 = s} := ⟨.FunctionDef _ _ _ _ _ _ _ _ _ _, rfl⟩
noncomputable abbrev st__law_right : Stmt := stE__law_right.1
noncomputable def stE_law : {s : Stmt // top 29 = s} := ⟨.FunctionDef _ _ _ _ _ _ _ _ _ _, rfl⟩
noncomputable abbrev st_law : Stmt := stE_law.1
end Prf

set_option maxHeartbeats 4000000
namespace Prf
open PySem L2 Wr
/-- signs below 128, and how many -/
def Sh (n : Nat) (z : Str) : Prop := (∀ c ∈ z.cps.toList, c < 128) ∧ z.length ≤ n
section
variable {P : Program} {w : World} {K : PySem.W.Frag} {mg : Str → Option Value} {base : Heap}
/-! ### mixed -/
def sp__law_mixed : Sp := fun vs H Q _ => ∃ (c k : Int), vs = [.int c, .int k] ∧ 0 ≤ k ∧ k ≤ 1000 ∧ ∀ r : Int, 0 ≤ r → r < 2147483647 → Q (.int r) H
theorem sc__law_mixed : FnScope ["_law_cell", "_law_k", "_law_left", "_law_j", "_law_one"] ["_law_cell", "_law_k"] (defScope st__law_mixed) := ⟨rfl, rfl, rfl, by decide +kernel, rfl, by decide +kernel, by decide +kernel⟩
theorem ok__law_mixed {f : Addr} {fd : FuncData} (F : Fun K "_law_mixed" "_law_mixed" st__law_mixed f fd) (B : Blts mg) : FnOk P w K mg base CX0 1 f fd ["_law_cell", "_law_k"] sp__law_mixed := by
  refine F.okJ sc__law_mixed (fun vs H Q E h => ?_) (fun cdv A outer s H vs Q E hr h => ?_)
  · obtain ⟨_, _, rfl, _⟩ := h
    rfl
  · obtain ⟨c, k, rfl, k0, k1, q⟩ := h
    refine ⟨_, (b_cons (s_if (t_cmp o_gt (e_v 0) (e_op o_pow e_i e_i)) (b_cons (s_set 2 sc__law_mixed.nd (e_op o_fdiv (e_v 0) e_i))
        (b_cons (s_for (i_rng1 B.range (a1 (e_v 1))) (g_n 3 sc__law_mixed.nd)
          (b_one (s_set 2 sc__law_mixed.nd (e_op o_fdiv (e_v 2) (e_op o_pow e_i e_i)))))
        (b_one (s_ret (e_op o_mod (e_v 2) (e_op o_pow e_i e_i)))))) b_nil)
      (b_cons (s_set 4 sc__law_mixed.nd (e_op o_mod (e_op o_mul (e_op o_add (e_op o_add (e_op o_mod (e_v 0) e_i) (e_op o_mul (e_op o_mul e_i (e_v 1)) (e_v 1))) (e_op o_mul e_i (e_v 1))) e_i) e_i))
      (b_one (s_ret (e_op o_mod (e_op o_mul (e_v 4) (e_op o_add (e_op o_add (e_op o_mod (e_v 4) e_i) (e_op o_mul e_i (e_v 1))) e_i)) e_i))))), ?_⟩
    refine ⟨_, rfl, _, _, rfl, rfl, ⟨by decide, by decide, by decide⟩, _, _, rfl, rfl, _, rfl, ?_⟩
    refine ite2 (fun _ => ?_) (fun _ => ?_)
    · refine ⟨_, rfl, _, _, rfl, rfl, ⟨by decide, by decide⟩, ?_⟩
      refine ⟨_, rfl, _, rfl, by omega, by omega, for_range (n := k.toNat) (fun i σ H' => ∃ (l : Int) (o : Option V), σ = [some (.int c), some (.int k), some (.int l), o, none] ∧ H' = H) ⟨_, none, rfl, rfl⟩ ?_ ?_⟩
      · rintro i σ H' hi ⟨l, o, rfl, rfl⟩
        exact ⟨_, rfl, _, _, rfl, rfl, ⟨by decide, by decide, by decide⟩, _, _, rfl, rfl, ⟨by decide, by decide⟩, _, _, rfl, rfl⟩
      · rintro σ H' ⟨l, o, rfl, rfl⟩
        exact ⟨_, rfl, _, _, rfl, rfl, ⟨by decide, by decide, by decide⟩, _, _, rfl, rfl, by show (0 : Int) < 10 ^ (7 : Int).toNat; decide, q _ (Int.emod_nonneg _ (by decide)) (Int.lt_of_lt_of_le (Int.emod_lt_of_pos _ (by decide)) (by decide))⟩
    · refine ⟨_, rfl, _, _, rfl, rfl, pz, _, rfl, _, _, rfl, rfl, .inl ⟨by decide, by decide⟩, _, rfl, _, _, rfl, rfl, .inr ⟨by omega, by omega⟩, _, _, rfl, rfl, _, rfl, _, _, rfl, rfl, .inl ⟨by decide, by decide⟩, _, _, rfl, rfl, _, _, rfl, rfl, .inr ⟨by decide, by decide⟩, _, _, rfl, rfl, pz, ?_⟩
      have b1 : 0 ≤ (c % 2147483647 + 40503 * k * k + 17 * k) * 48271 % 2147483647 := Int.emod_nonneg _ (by decide)
      have b2 : (c % 2147483647 + 40503 * k * k + 17 * k) * 48271 % 2147483647 < 2147483647 := Int.emod_lt_of_pos _ (by decide)
      generalize (c % 2147483647 + 40503 * k * k + 17 * k) * 48271 % 2147483647 = n1 at b1 b2 ⊢
      have c1 : 0 ≤ n1 % 65537 := Int.emod_nonneg _ (by decide)
      have c2 : n1 % 65537 < 65537 := Int.emod_lt_of_pos _ (by decide)
      exact ⟨_, rfl, _, rfl, _, _, rfl, rfl, pz, _, rfl, _, _, rfl, rfl, .inl ⟨by decide, by decide⟩, _, _, rfl, rfl, _, _, rfl, rfl, _, _, rfl, rfl, .inl ⟨by omega, by omega⟩, _, _, rfl, rfl, pz, q _ (Int.emod_nonneg _ (by decide)) (Int.lt_of_lt_of_le (Int.emod_lt_of_pos _ (by decide)) (by decide))⟩
/-! ### whole -/
def sp__law_whole : Sp := fun vs H Q _ => ∃ (n : Int), vs = [.int n] ∧ Q (.bl true) H
theorem sc__law_whole : FnScope ["_law_found"] ["_law_found"] (defScope st__law_whole) := ⟨rfl, rfl, rfl, by decide +kernel, rfl, by decide +kernel, by decide +kernel⟩
theorem ok__law_whole {f : Addr} {fd : FuncData} (F : Fun K "_law_whole" "_law_whole" st__law_whole f fd) (B : Blts mg) : FnOk P w K mg base CX0 1 f fd ["_law_found"] sp__law_whole := by
  refine F.okJ sc__law_whole (fun vs H Q E h => ?_) (fun cdv A outer s H vs Q E hr h => ?_)
  · obtain ⟨_, rfl, _⟩ := h
    rfl
  · obtain ⟨n, rfl, k⟩ := h
    refine ⟨_, (b_one (s_ret (e_and (e_cb c_isI B.isinstance PyProof.Rows.boot_isinstance (ac (e_v 0) (a1 (e_ty B.int PyProof.Rows.boot_int)))) (e_one (e_not (e_cb c_isI B.isinstance PyProof.Rows.boot_isinstance (ac (e_v 0) (a1 (e_ty B.bool PyProof.Rows.boot_bool))))))))), ?_⟩
    refine ⟨_, rfl, _, _, _, _, rfl, .int _, kit_same K "int", _, rfl, iteT ?_⟩
    exact ⟨_, rfl, _, _, _, _, rfl, .int _, (by kernel_rfl : PySem.W.kitOne K (.type "int") (.type "bool") = some false), _, rfl, k⟩
/-! ### words -/
theorem letters_at {i : Int} (h0 : 0 ≤ i) (h1 : i < 26) : atI (Str.ofString "abcdefghijklmnopqrstuvwxyz").cps.toList i = some (97 + i.toNat) := by
  have e : (Str.ofString "abcdefghijklmnopqrstuvwxyz").cps.toList = (List.range 26).map (97 + ·) := by decide +kernel
  obtain ⟨j, rfl⟩ : ∃ j : Nat, i = (j : Int) := ⟨i.toNat, by omega⟩
  rw [e, Int.toNat_natCast]
  have hj : j < 26 := by omega
  exact atI_nat (by simp [hj])
theorem letters_len : (Str.ofString "abcdefghijklmnopqrstuvwxyz").length = 26 := by decide +kernel
def sp__law_words : Sp := fun vs H Q _ => ∃ (c : Int) (n : Nat), vs = [.int c, .int (n : Int)] ∧ n ≤ 20 ∧ ∀ (p : Addr) (H' : Hp) (ys : List Str), Same H H' → H p = none → H' p = some (.lst (ys.map V.str)) → ys.length = n → ys.Nodup → (∀ y ∈ ys, Sh 8 y) → Q (.ref p) H'
theorem sc__law_words : FnScope ["_law_cell", "_law_many", "_law_letters", "_law_word_here", "_law_at", "_law_first"] ["_law_cell", "_law_many"] (defScope st__law_words) := ⟨rfl, rfl, rfl, by decide +kernel, rfl, by decide +kernel, by decide +kernel⟩
theorem ok__law_words {f : Addr} {fd : FuncData} (F : Fun K "_law_words" "_law_words" st__law_words f fd) (B : Blts mg) (FM : FnP P w K mg base 1 "_law_mixed" ["_law_cell", "_law_k"] sp__law_mixed) : FnOk P w K mg base CX0 2 f fd ["_law_cell", "_law_many"] sp__law_words := by
  refine F.okJ sc__law_words (fun vs H Q E h => ?_) (fun cdv A outer s H vs Q E hr h => ?_)
  · obtain ⟨_, _, rfl, _⟩ := h
    rfl
  · obtain ⟨c, n, rfl, n20, k⟩ := h
    have nd := sc__law_words.nd
    have nd3 : (["_law_k", "_law_letters", "_law_cell"] : List Str).Nodup := by decide +kernel
    have nd5 : (["_law_k", "_law_word_here", "_law_letters", "_law_at", "_law_first"] : List Str).Nodup := by decide +kernel
    refine ⟨_, (b_cons (s_set 2 nd e_s)
      (b_cons (s_set 3 nd (e_join e_s (a1c (e_comp (Nc := ["_law_k", "_law_letters", "_law_cell"]) (js := [none, some 2, some 0]) (g := (gName 0)) (tt := tYes) (te := (tOp rIxS (tVar 1) (tOp (rI (fun _ j => 0 < j) fun i j => .int (i % j)) (tCall sp__law_mixed [] E0 (tCons (tVar 2) (tCons (tVar 0) tNil))) (tC (.int 26)))))
      (comp_mk rfl rfl rfl rfl (fun x c h => by simp at h; rcases h with ⟨rfl, rfl⟩ | ⟨rfl, rfl⟩ <;> rfl) rfl rfl rfl) (i_rng1 B.range (a1 (e_op o_add e_i (e_op o_mod (e_v 0) e_i))))
      (fun pins C s3 H3 fp => ⟨(g_n 0 nd3), .inl ⟨rfl, rfl⟩, (e_ix x_str (e_v 1) (e_op o_mod (e_fn FM hr (ac (e_v 2) (a1 (e_v 0)))) e_i))⟩)))))
      (b_cons (s_set 4 nd (e_op o_mod (e_fn FM hr (ac (e_v 0) (a1 e_i))) (e_cb c_lenS B.len PySem.boot_len (a1 (e_v 3)))))
      (b_cons (s_set 5 nd (e_fn FM hr (ac (e_v 0) (a1 e_i))))
      (b_one (s_ret (e_comp (Nc := ["_law_k", "_law_word_here", "_law_letters", "_law_at", "_law_first"]) (js := [none, some 3, some 2, some 4, some 5]) (g := (gName 0)) (tt := tYes) (te := (tOp (fun x y H Q => ∃ i j, x = .str i ∧ y = .str j ∧ i.length + j.length ≤ sizeLine ∧ Q (.str (i ++ j)) H) (tOp (fun x y H Q => ∃ i j, x = .str i ∧ y = .str j ∧ i.length + j.length ≤ sizeLine ∧ Q (.str (i ++ j)) H) (tSl rSlS (tVar 1) tNoPart (tPart (tVar 3))) (tOp rIxS (tVar 2) (tOp (rI (fun _ j => 0 < j) fun i j => .int (i % j)) (tOp (rI0 fun i j => .int (i + j)) (tVar 4) (tVar 0)) (tC (.int 26))))) (tSl rSlS (tVar 1) (tPart (tOp (rI0 fun i j => .int (i + j)) (tVar 3) (tC (.int 1)))) tNoPart)))
      (comp_mk rfl rfl rfl rfl (fun x c h => by simp at h; rcases h with ⟨rfl, rfl⟩ | ⟨rfl, rfl⟩ | ⟨rfl, rfl⟩ | ⟨rfl, rfl⟩ <;> rfl) rfl rfl rfl) (i_rng1 B.range (a1 (e_v 1)))
      (fun pins C s3 H3 fp => ⟨(g_n 0 nd5), .inl ⟨rfl, rfl⟩, (e_op o_addS (e_op o_addS (e_uptoS (e_v 1) (e_v 3)) (e_ix x_str (e_v 2) (e_op o_mod (e_op o_add (e_v 4) (e_v 0)) e_i))) (e_fromS (e_v 1) (e_op o_add (e_v 3) e_i)))⟩)))))))), ?_⟩
    have m1 := Int.emod_nonneg c (show (8 : Int) ≠ 0 by decide)
    have m2 := Int.emod_lt_of_pos c (show (0 : Int) < 8 by decide)
    have lts : ∀ z : Int, (Str.ofString "abcdefghijklmnopqrstuvwxyz").length ≤ sizeLine := fun _ => by rw [letters_len]; decide
    obtain ⟨wl, ewl, hwl⟩ : ∃ wl : Nat, (1 + c % 8).toNat = wl ∧ 1 ≤ wl ∧ wl ≤ 8 := ⟨_, rfl, by omega, by omega⟩
    refine ⟨rfl, _, rfl, _, _, rfl, rfl, pz, _, _, rfl, rfl, _, rfl, by omega, by omega, fun D hD => ?_⟩
    rw [ewl]
    refine comp_range (n := wl) (fun i σ H' => ∃ (o : Option V) (ys : List Str), σ = [o, some (.str (Str.ofString "abcdefghijklmnopqrstuvwxyz")), some (.int c)] ∧ Same H H' ∧ H' D = some (.lst (ys.map V.str)) ∧ ys.length = i ∧ ∀ y ∈ ys, y.cps.toList.length = 1 ∧ ∀ c ∈ y.cps.toList, c < 128) ⟨none, [], rfl, (Same.refl H).upd hD, upd_same, rfl, fun y h => nomatch h⟩ ?_ ?_
    · rintro i σ H' hi ⟨o, ys, rfl, sm, hl, ly, one⟩
      refine ⟨_, rfl, _, rfl, _, rfl, c, _, rfl, by omega, by omega, fun r r0 r1 => ⟨_, _, rfl, rfl, pz, _, _, _, rfl, rfl, lts 0, letters_at (Int.emod_nonneg _ (by decide)) (Int.emod_lt_of_pos _ (by decide)), _, hl, small1000 (by rw [List.length_map]; omega), _, ys ++ [_], rfl, sm.upd hD, by rw [upd_same, List.map_append]; rfl, by rw [List.length_append, List.length_singleton]; omega, fun y hy => ?_⟩⟩
      rcases List.mem_append.mp hy with z | z
      · exact one y z
      · rw [List.mem_singleton.mp z]
        refine ⟨rfl, fun d hd => ?_⟩
        have e : d = 97 + (r % 26).toNat := by simpa using hd
        have q1 := Int.emod_nonneg r (show (26 : Int) ≠ 0 by decide)
        have q2 := Int.emod_lt_of_pos r (show (0 : Int) < 26 by decide)
        omega
    rintro σ H1 ⟨o, ys, rfl, s1, hl, ly, one⟩
    have tot : (ys.map (·.length)).sum = ys.length := by
      clear hl ly
      induction ys with
      | nil => rfl
      | cons y ys ih =>
        rw [List.map_cons, List.sum_cons, ih fun z hz => one z (List.mem_cons_of_mem _ hz), List.length_cons]
        have := (one y List.mem_cons_self).1
        rw [str_len, this]; omega
    have wlen : (Txt.join "" ys).length = wl := by
      rw [str_len, join_none, List.length_flatMap, show (ys.map fun y => y.cps.toList.length) = ys.map (·.length) from List.map_congr_left fun y _ => (str_len y).symm, tot, ly]
    refine ⟨"", D, ys, rfl, rfl, SqL.of hl, by rw [tot, ly]; show wl + wl * 0 ≤ _; omega, ?_⟩
    have wasc : ∀ d ∈ (Txt.join "" ys).cps.toList, d < 128 := fun d hd => by
      rw [join_none] at hd
      obtain ⟨y, hy, hd⟩ := List.mem_flatMap.mp hd
      exact (one y hy).2 d hd
    generalize Txt.join "" ys = wd at wlen wasc
    -- at, first
    refine ⟨_, rfl, c, 19, rfl, by decide, by decide, fun r1 _ _ => ⟨_, rfl, wd, rfl, by rw [wlen]; exact Nat.le_trans hwl.2 (by decide), _, _, rfl, rfl, by rw [wlen]; omega, ?_⟩⟩
    obtain ⟨ap, eap, hap⟩ := mod_nat (r := r1) (n := wl) (by omega)
    dsimp only [gName]
    rw [wlen, eap]
    refine ⟨_, rfl, c, 20, rfl, by decide, by decide, fun fr _ _ => ?_⟩
    refine ⟨_, rfl, _, rfl, by omega, by omega, fun D2 hD2 => ?_⟩
    rw [Int.toNat_natCast]
    let wordL : Nat → List Nat := fun i => wd.cps.toList.take ap ++ [97 + ((fr + (0 + (i : Int))) % 26).toNat] ++ wd.cps.toList.drop (ap + 1)
    refine comp_range (n := n) (fun i σ H' => ∃ (o : Option V) (zs : List Str), σ = [o, some (.str wd), some (.str (Str.ofString "abcdefghijklmnopqrstuvwxyz")), some (.int (ap : Int)), some (.int fr)] ∧ Same H1 H' ∧ H' D2 = some (.lst (zs.map V.str)) ∧ zs.map (fun z => z.cps.toList) = (List.range i).map wordL) ⟨none, [], rfl, (Same.refl H1).upd hD2, upd_same, rfl⟩ ?_ ?_
    · rintro i σ H' hi ⟨o, zs, rfl, sm, hl2, ez⟩
      have lz : zs.length = i := by have := congrArg List.length ez; rwa [List.length_map, List.length_map, List.length_range] at this
      have a1' : ap ≤ wd.length := by omega
      have a2' : ap + 1 ≤ wd.length := by omega
      have l1 : (Txt.slice wd none (some (ap : Int))).length ≤ 8 := Nat.le_trans (Txt.slice_le _ _ _) (by omega)
      have l2 : (Txt.slice wd (some ((ap + 1 : Nat) : Int)) none).length ≤ 8 := Nat.le_trans (Txt.slice_le _ _ _) (by omega)
      have szl : ∀ n, n ≤ 100 → n ≤ sizeLine := fun n h => Nat.le_trans h (by decide)
      refine ⟨_, rfl, _, rfl, ap, rfl, wd, rfl, szl _ (by omega), _, rfl, _, rfl, _, rfl, _, _, rfl, rfl, _, _, rfl, rfl, pz, _, _, _, rfl, rfl, lts 0, letters_at (Int.emod_nonneg _ (by decide)) (Int.emod_lt_of_pos _ (by decide)), _, _, rfl, rfl, ?_, ?_⟩
      · exact szl _ (by show _ + 1 ≤ _; omega)
      refine ⟨_, rfl, _, rfl, _, _, rfl, rfl, (ap + 1 : Nat), rfl, wd, rfl, szl _ (by omega), _, _, rfl, rfl, ?_, ?_⟩
      · rw [str_len, cat_list, List.length_append, ← str_len]
        exact szl _ (by show _ + 1 + _ ≤ _; omega)
      refine ⟨_, hl2, small1000 (by rw [List.length_map]; omega), _, zs ++ [_], rfl, sm.upd hD2, by rw [upd_same, List.map_append]; rfl, ?_⟩
      rw [List.map_append, ez, List.range_succ, List.map_append]
      congr 1
      show [_] = [_]
      congr 1
      show (Txt.slice wd none (some (ap : Int)) ++ _ ++ Txt.slice wd (some ((ap + 1 : Nat) : Int)) none : Str).cps.toList = _
      rw [cat_list, cat_list, slice_upto a1', slice_from a2']
    rintro σ H2 ⟨o, zs, rfl, sm, hl2, ez⟩
    have lz : zs.length = n := by have := congrArg List.length ez; rwa [List.length_map, List.length_map, List.length_range] at this
    refine k D2 H2 zs (s1.trans sm) (s1.free hD2) hl2 lz ?_ fun z hz => ?_
    · have nw : ((List.range n).map wordL).Nodup := by
        rw [List.Nodup, List.pairwise_map]
        refine List.Pairwise.imp_of_mem ?_ (List.nodup_range (n := n))
        intro i j hi hj ne
        have hi' := List.mem_range.mp hi
        have hj' := List.mem_range.mp hj
        refine word_ne (by rw [← str_len]; omega) fun e => ne ?_
        have q1 := Int.emod_nonneg (fr + (0 + (i : Int))) (show (26 : Int) ≠ 0 by decide)
        have q2 := Int.emod_nonneg (fr + (0 + (j : Int))) (show (26 : Int) ≠ 0 by decide)
        omega
      rw [← ez] at nw
      exact (List.pairwise_map.mp nw).imp fun h e => h (by rw [e])
    · have : z.cps.toList ∈ (List.range n).map wordL := by rw [← ez]; exact List.mem_map_of_mem hz
      obtain ⟨i, _, e⟩ := List.mem_map.mp this
      refine ⟨fun d hd => ?_, ?_⟩
      · rw [← e] at hd
        have hd' : d ∈ wd.cps.toList.take ap ++ [97 + ((fr + (0 + (i : Int))) % 26).toNat] ++ wd.cps.toList.drop (ap + 1) := hd
        rcases List.mem_append.mp hd' with q | q
        · rcases List.mem_append.mp q with q | q
          · exact wasc d (List.mem_of_mem_take q)
          · have q1 := Int.emod_nonneg (fr + (0 + (i : Int))) (show (26 : Int) ≠ 0 by decide)
            have q2 := Int.emod_lt_of_pos (fr + (0 + (i : Int))) (show (0 : Int) < 26 by decide)
            rw [List.mem_singleton.mp q]
            omega
        · exact wasc d (List.mem_of_mem_drop q)
      rw [str_len, ← e]
      show (wd.cps.toList.take ap ++ [_] ++ wd.cps.toList.drop (ap + 1)).length ≤ 8
      rw [List.length_append, List.length_append, List.length_take, List.length_drop, ← str_len]
      simp only [List.length_cons, List.length_nil]
      omega
end
end Prf

set_option maxHeartbeats 4000000
namespace L2
open PySem PySem.Spec PyProof.Rows
section
variable {X : Cx} {k j : Nat} {x : Str} {ps : List Str} {sp : Sp} {p pos : Pos} {e a b : Expr} {es : List Expr} {t : TA} {ta tb : TE} {E : XK}
/-- f(..) where the arguments too may refuse -/
theorem e_fnX (F : FnX X.prog X.w X.K X.mg X.base k x ps sp) (hr : Room j X.A) (ha : JA X (e :: es) t) (hp : Passes (CXe X.prog X.w) X E) (hj : k ≤ j := by decide) (hg : Gl X x := by rfl) (hdb : (x == ("__debug__" : Str)) = false := by decide +kernel) :
    JE X (.Call (.Name x p) (e :: es) [] pos) (tCall sp [] E t) := by
  have he := ha.hd.star es X.env
  have hpl := ha.rs.no X.env pos
  obtain ⟨f, fd, F, hm, hk, hb⟩ := F.ex
  refine ⟨fun pins s σ H Q I h => ?_⟩
  refine wpAny_Call_Name_kw (ld_glob I hg hm ?_ hdb)
  refine PySem.W.callWith_K (h₀ := X.base) I.ok.mod.kin hk (thn (ha.h pos pins s σ H _ I h) fun us s1 ⟨vs, H1, I1, r, q⟩ => ⟨I1.kIn, ?_⟩) he hpl
  have r2 : Vals (vs ++ []) (us ++ []) := r.append .nil
  have hl : (us ++ []).length = ps.length := by rw [← r2.length]; exact F.len _ _ _ _ q
  refine wpAny_call (codeAny_mono (F.run X.A X.stack s1 H1 ⟨us, []⟩ (us ++ []) (vs ++ []) Q E (hr.mono hj) I1.env0 (hb s1 us I1.kIn hl) r2 q) fun r s' hq => ?_)
  cases r with
  | error e => exact hp pins σ H1 s1 e s' I1 hq
  | ok fl =>
    cases fl with
    | ret u => exact I1.after hq
    | next => exact False.elim hq
    | brk => exact False.elim hq
    | cont => exact False.elim hq
/-- k not in d -/
theorem t_dnotin (hr : Room k X.A) (ha : JE X a ta) (hb : JE X b tb) (hm : ∀ r, behindInMarks .NotIn b = r → r = false := by intro _ h; exact h ▸ rfl) : JT X (.Compare a [.NotIn] [b] pos) (tB (tDNotIn ta tb)) := ⟨pt_cmp (pc_dnotin (by have := hr.units; omega) ha.h hb.h) (hm _ rfl)⟩
end
end L2

set_option maxHeartbeats 4000000
namespace Prf
open PySem L2 Wr
/-! ### conditions with any whole numbers for columns -/
inductive CI where
  | same (i j : Int) | isv (i n : Int) | less (i j : Int) | undr (i n : Int) | neg (a : CI) | either (a b : CI)
def CI.cols : CI → List Int
  | .same i j => [i, j]
  | .isv i _ => [i]
  | .less i j => [i, j]
  | .undr i _ => [i]
  | .neg a => a.cols
  | .either a b => a.cols ++ b.cols
def CI.deep : CI → Nat
  | .neg a => a.deep + 1
  | .either a b => max a.deep b.deep + 1
  | _ => 0
def CIAt (H : Hp) : V → CI → Prop
  | v, .same i j => ∃ t, v = .ref t ∧ H t = some (.tup [.str "same", .int i, .int j])
  | v, .isv i n => ∃ t, v = .ref t ∧ H t = some (.tup [.str "is", .int i, .int n])
  | v, .less i j => ∃ t, v = .ref t ∧ H t = some (.tup [.str "below", .int i, .int j])
  | v, .undr i n => ∃ t, v = .ref t ∧ H t = some (.tup [.str "under", .int i, .int n])
  | v, .neg a => ∃ t va, v = .ref t ∧ H t = some (.tup [.str "not", va]) ∧ CIAt H va a
  | v, .either a b => ∃ t va vb, v = .ref t ∧ H t = some (.tup [.str "either", va, vb]) ∧ CIAt H va a ∧ CIAt H vb b
theorem CIAt.same {H H' : Hp} (e : Same H H') : ∀ {c : CI} {v : V}, CIAt H v c → CIAt H' v c
  | .same i j, _, ⟨t, h1, h2⟩ => ⟨t, h1, e _ _ h2⟩
  | .isv i n, _, ⟨t, h1, h2⟩ => ⟨t, h1, e _ _ h2⟩
  | .less i j, _, ⟨t, h1, h2⟩ => ⟨t, h1, e _ _ h2⟩
  | .undr i n, _, ⟨t, h1, h2⟩ => ⟨t, h1, e _ _ h2⟩
  | .neg a, _, ⟨t, va, h1, h2, h3⟩ => ⟨t, va, h1, e _ _ h2, CIAt.same e h3⟩
  | .either a b, _, ⟨t, va, vb, h1, h2, h3, h4⟩ => ⟨t, va, vb, h1, e _ _ h2, CIAt.same e h3, CIAt.same e h4⟩
theorem CI.cols_len : ∀ c : CI, c.cols.length ≤ 2 * 2 ^ c.deep
  | .same _ _ => by show 2 ≤ 2 * 2 ^ 0; decide
  | .isv _ _ => by show 1 ≤ 2 * 2 ^ 0; decide
  | .less _ _ => by show 2 ≤ 2 * 2 ^ 0; decide
  | .undr _ _ => by show 1 ≤ 2 * 2 ^ 0; decide
  | .neg a => by
    have h := CI.cols_len a
    show a.cols.length ≤ 2 * 2 ^ (a.deep + 1)
    rw [Nat.pow_succ]; omega
  | .either a b => by
    have h1 := CI.cols_len a
    have h2 := CI.cols_len b
    show (a.cols ++ b.cols).length ≤ 2 * 2 ^ (max a.deep b.deep + 1)
    have p1 : 2 ^ a.deep ≤ 2 ^ max a.deep b.deep := Nat.pow_le_pow_right (by decide) (Nat.le_max_left _ _)
    have p2 : 2 ^ b.deep ≤ 2 ^ max a.deep b.deep := Nat.pow_le_pow_right (by decide) (Nat.le_max_right _ _)
    rw [List.length_append, Nat.pow_succ]; omega
/-! ### questions -/
inductive Ag where | count | sum (i : Int) | least (i : Int)
def Ag.col : Ag → Option Int
  | .count => none
  | .sum i => some i
  | .least i => some i
def AgAt (H : Hp) : V → Ag → Prop
  | v, .count => ∃ t, v = .ref t ∧ H t = some (.tup [.str "count"])
  | v, .sum i => ∃ t, v = .ref t ∧ H t = some (.tup [.str "sum", .int i])
  | v, .least i => ∃ t, v = .ref t ∧ H t = some (.tup [.str "least", .int i])
theorem AgAt.same {H H' : Hp} (e : Same H H') {a : Ag} {v : V} (h : AgAt H v a) : AgAt H' v a := by
  cases a <;> (obtain ⟨t, h1, h2⟩ := h; exact ⟨t, h1, e _ _ h2⟩)
inductive Op2 where | join | union | common | less
def Op2.nm : Op2 → Str
  | .join => "join"
  | .union => "union"
  | .common => "common"
  | .less => "less"
inductive Qn where
  | table (z : Str) | pick (c : CI) (q : Qn) | columns (cs : List Int) (q : Qn) | group (cs : List Int) (ag : List Ag) (q : Qn) | two (o : Op2) (a b : Qn)
def Qn.deep : Qn → Nat
  | .table _ => 0
  | .pick _ q => q.deep + 1
  | .columns _ q => q.deep + 1
  | .group _ _ q => q.deep + 1
  | .two _ a b => max a.deep b.deep + 1
def QAt (H : Hp) : V → Qn → Prop
  | v, .table z => ∃ t, v = .ref t ∧ H t = some (.tup [.str "table", .str z])
  | v, .pick c q => ∃ t vc vq, v = .ref t ∧ H t = some (.tup [.str "pick", vc, vq]) ∧ CIAt H vc c ∧ QAt H vq q
  | v, .columns cs q => ∃ t l vq, v = .ref t ∧ H t = some (.tup [.str "columns", .ref l, vq]) ∧ H l = some (.lst (cs.map V.int)) ∧ QAt H vq q
  | v, .group cs ag q => ∃ t l m ms vq, v = .ref t ∧ H t = some (.tup [.str "group", .ref l, .ref m, vq]) ∧ H l = some (.lst (cs.map V.int)) ∧ H m = some (.lst ms) ∧ Paired (AgAt H) ms ag ∧ QAt H vq q
  | v, .two o a b => ∃ t va vb, v = .ref t ∧ H t = some (.tup [.str o.nm, va, vb]) ∧ QAt H va a ∧ QAt H vb b
theorem QAt.same {H H' : Hp} (e : Same H H') : ∀ {q : Qn} {v : V}, QAt H v q → QAt H' v q
  | .table z, _, ⟨t, h1, h2⟩ => ⟨t, h1, e _ _ h2⟩
  | .pick c q, _, ⟨t, vc, vq, h1, h2, h3, h4⟩ => ⟨t, vc, vq, h1, e _ _ h2, h3.same e, QAt.same e h4⟩
  | .columns cs q, _, ⟨t, l, vq, h1, h2, h3, h4⟩ => ⟨t, l, vq, h1, e _ _ h2, e _ _ h3, QAt.same e h4⟩
  | .group cs ag q, _, ⟨t, l, m, ms, vq, h1, h2, h3, h4, h5, h6⟩ => ⟨t, l, m, ms, vq, h1, e _ _ h2, e _ _ h3, e _ _ h4, Paired.mapP h5 fun _ _ z => z.same e, QAt.same e h6⟩
  | .two o a b, _, ⟨t, va, vb, h1, h2, h3, h4⟩ => ⟨t, va, vb, h1, e _ _ h2, QAt.same e h3, QAt.same e h4⟩
def smallC (cs : List Int) : Prop := cs.length ≤ 50 ∧ ∀ c ∈ cs, c.natAbs ≤ 1000
/-- names are short, lists too -/
def Qn.ok : Qn → Prop
  | .table z => Sh 8 z
  | .pick c q => c.deep ≤ 2 ∧ smallC c.cols ∧ q.ok
  | .columns cs q => smallC cs ∧ cs.length ≤ 10 ∧ q.ok
  | .group cs ag q => smallC (cs ++ ag.filterMap Ag.col) ∧ cs.length ≤ 10 ∧ ag.length ≤ 10 ∧ q.ok
  | .two _ a b => a.ok ∧ b.ok
def colsOk (cs : List Int) (n : Int) : Bool := cs.all fun c => decide (0 ≤ c) && decide (c < n)
/-- how wide the answer is, or which error: 1 NoWidth, 2 NoTable, 3 NoColumn -/
def qw (W : Str → Option Int) : Qn → Sum Nat Int
  | .table z => match W z with | some n => .inr n | none => .inl 2
  | .pick c q => match qw W q with | .inl k => .inl k | .inr n => if colsOk c.cols n = true then .inr n else .inl 3
  | .columns cs q => match qw W q with | .inl k => .inl k | .inr n => if colsOk cs n = true then .inr cs.length else .inl 3
  | .group cs ag q => match qw W q with | .inl k => .inl k | .inr n => if colsOk (cs ++ ag.filterMap Ag.col) n = true then .inr (cs.length + ag.length) else .inl 3
  | .two o a b => match qw W a with
    | .inl k => .inl k
    | .inr n => match qw W b with
      | .inl k => .inl k
      | .inr m => match o with
        | .join => .inr (n + m)
        | _ => if n = m then .inr n else .inl 1
theorem qw_bound {W : Str → Option Int} (hW : ∀ z n, W z = some n → 0 ≤ n ∧ n ≤ 4) : ∀ {q : Qn} {n : Int}, q.ok → qw W q = .inr n → 0 ≤ n ∧ n ≤ 100 * 2 ^ q.deep := by
  intro q
  have one : ∀ d : Nat, (100 : Int) ≤ 100 * 2 ^ d := fun d => by
    have : (1 : Int) ≤ 2 ^ d := by exact_mod_cast Nat.one_le_two_pow
    omega
  have up : ∀ {d : Nat} {n : Int}, n ≤ 100 * 2 ^ d → n ≤ 100 * 2 ^ (d + 1) := fun {d n} h => by
    have : (0 : Int) ≤ 2 ^ d := by exact_mod_cast Nat.zero_le _
    rw [Int.pow_succ]; omega
  induction q with
  | table z =>
    intro n _ h
    unfold qw at h
    cases e : W z with
    | none => rw [e] at h; cases h
    | some m =>
      rw [e] at h
      cases h
      have := hW z n e
      exact ⟨this.1, by have := one 0; show n ≤ 100 * 2 ^ 0; omega⟩
  | pick c q ih =>
    intro n ho h
    unfold qw at h
    cases e : qw W q with
    | inl k => rw [e] at h; cases h
    | inr m =>
      rw [e] at h
      have h' : (if colsOk c.cols m = true then (.inr m : Sum Nat Int) else .inl 3) = .inr n := h
      split at h'
      · cases h'
        have := ih ho.2.2 e
        exact ⟨this.1, up this.2⟩
      · cases h'
  | columns cs q ih =>
    intro n ho h
    unfold qw at h
    cases e : qw W q with
    | inl k => rw [e] at h; cases h
    | inr m =>
      rw [e] at h
      have h' : (if colsOk cs m = true then (.inr (cs.length : Int) : Sum Nat Int) else .inl 3) = .inr n := h
      split at h'
      · cases h'
        have := ho.2.1
        exact ⟨by omega, by have := one (q.deep + 1); show (cs.length : Int) ≤ 100 * 2 ^ (q.deep + 1); omega⟩
      · cases h'
  | group cs ag q ih =>
    intro n ho h
    unfold qw at h
    cases e : qw W q with
    | inl k => rw [e] at h; cases h
    | inr m =>
      rw [e] at h
      have h' : (if colsOk (cs ++ ag.filterMap Ag.col) m = true then (.inr ((cs.length : Int) + ag.length) : Sum Nat Int) else .inl 3) = .inr n := h
      split at h'
      · cases h'
        have h1 := ho.2.1
        have h2 := ho.2.2.1
        exact ⟨by omega, by have := one (q.deep + 1); show (cs.length : Int) + ag.length ≤ 100 * 2 ^ (q.deep + 1); omega⟩
      · cases h'
  | two o a b iha ihb =>
    intro n ho h
    unfold qw at h
    cases ea : qw W a with
    | inl k => rw [ea] at h; cases h
    | inr x =>
      cases eb : qw W b with
      | inl k => rw [ea, eb] at h; cases h
      | inr y =>
        rw [ea, eb] at h
        have ha := iha ho.1 ea
        have hb := ihb ho.2 eb
        have p1 : (2 : Int) ^ a.deep ≤ 2 ^ max a.deep b.deep := by exact_mod_cast Nat.pow_le_pow_right (by decide) (Nat.le_max_left _ _)
        have p2 : (2 : Int) ^ b.deep ≤ 2 ^ max a.deep b.deep := by exact_mod_cast Nat.pow_le_pow_right (by decide) (Nat.le_max_right _ _)
        have fin : ∀ r : Int, 0 ≤ r → r ≤ x + y → 0 ≤ r ∧ r ≤ 100 * 2 ^ (Qn.two o a b).deep := fun r r0 r1 => ⟨r0, by
          show r ≤ 100 * 2 ^ (max a.deep b.deep + 1)
          rw [Int.pow_succ]; omega⟩
        have two : (if x = y then (.inr x : Sum Nat Int) else .inl 1) = .inr n → 0 ≤ n ∧ n ≤ 100 * 2 ^ (Qn.two o a b).deep := fun h' => by
          split at h'
          · cases h'; exact fin _ ha.1 (by omega)
          · cases h'
        cases o with
        | join => cases h; exact fin _ (by omega) (Int.le_refl _)
        | union => exact two h
        | common => exact two h
        | less => exact two h
end Prf

set_option maxHeartbeats 4000000
namespace Prf
open PySem L2 Wr
theorem sm {n : Nat} (h : n ≤ 100 := by decide) : n ≤ sizeLine := Nat.le_trans h (by decide)
theorem strs_flat (ys : List Str) : (ys.map V.str).all flatV = true := by
  rw [List.all_eq_true]; intro v hv; obtain ⟨y, _, rfl⟩ := List.mem_map.mp hv; rfl
section
variable {K : PySem.W.Frag} {A B : TS} {D : Ends} {σ : St} {H : Hp} {i : Nat} {x a b c : Str}
/-- kind in ('a', 'b') -/
theorem in2 (hx : σ[i]? = some (some (.str x))) (h1 : (a == x || b == x) = true → ∀ H', Same H H' → A D σ H') (h2 : (a == x || b == x) = false → ∀ H', Same H H' → B D σ H') :
    tIfS (tTest (tOp (rIn K false) (tVar i) (tTup (tCons (tC (.str a)) (tCons (tC (.str b)) tNil))))) A B D σ H := by
  refine ⟨_, hx, by show 2 ≤ sizeLine; exact sm, fun u hu => ?_⟩
  have s1 : Same H (upd H u (.tup [.str a, .str b])) := (Same.refl H).upd hu
  have u1 : upd H u (.tup [.str a, .str b]) u = some (.tup (([a, b] : List Str).map V.str)) := upd_same
  generalize upd H u (.tup [.str a, .str b]) = H1 at s1 u1 ⊢
  refine ⟨u, _, rfl, .inr (SqT.of u1), rfl, strs_flat _, _, rfl, ?_⟩
  have e : (if false = true then !inV (V.str x) (([a, b] : List Str).map V.str) else inV (V.str x) (([a, b] : List Str).map V.str)) = (a == x || b == x) := by
    show ((a == x) || ((b == x) || false)) = _
    rw [Bool.or_false]
  rw [e]
  cases q : (a == x || b == x) with
  | true => exact iteT (h1 q H1 s1)
  | false => exact iteF (h2 q H1 s1)
theorem in3 (hx : σ[i]? = some (some (.str x))) (h1 : (a == x || b == x || c == x) = true → ∀ H', Same H H' → A D σ H') (h2 : (a == x || b == x || c == x) = false → ∀ H', Same H H' → B D σ H') :
    tIfS (tTest (tOp (rIn K false) (tVar i) (tTup (tCons (tC (.str a)) (tCons (tC (.str b)) (tCons (tC (.str c)) tNil)))))) A B D σ H := by
  refine ⟨_, hx, by show 3 ≤ sizeLine; exact sm, fun u hu => ?_⟩
  have s1 : Same H (upd H u (.tup [.str a, .str b, .str c])) := (Same.refl H).upd hu
  have u1 : upd H u (.tup [.str a, .str b, .str c]) u = some (.tup (([a, b, c] : List Str).map V.str)) := upd_same
  generalize upd H u (.tup [.str a, .str b, .str c]) = H1 at s1 u1 ⊢
  refine ⟨u, _, rfl, .inr (SqT.of u1), rfl, strs_flat _, _, rfl, ?_⟩
  have e : (if false = true then !inV (V.str x) (([a, b, c] : List Str).map V.str) else inV (V.str x) (([a, b, c] : List Str).map V.str)) = (a == x || b == x || c == x) := by
    show ((a == x) || ((b == x) || ((c == x) || false))) = _
    rw [Bool.or_false, Bool.or_assoc]
  rw [e]
  cases q : (a == x || b == x || c == x) with
  | true => exact iteT (h1 q H1 s1)
  | false => exact iteF (h2 q H1 s1)
end
section
variable {P : Program} {w : World} {K : PySem.W.Frag} {mg : Str → Option Value} {base : Heap}
def sp_condition_columns (n : Nat) : Sp := fun vs H Q _ => ∃ (v : V) (c : CI), vs = [v] ∧ CIAt H v c ∧ c.deep < n ∧ n ≤ 3 ∧ ∀ (p : Addr) (H' : Hp), Same H H' → H' p = some (.lst (c.cols.map V.int)) → Q (.ref p) H'
theorem sc_condition_columns : FnScope ["condition", "kind"] ["condition"] (defScope st_condition_columns) := ⟨rfl, rfl, rfl, by decide +kernel, rfl, by decide +kernel, by decide +kernel⟩
theorem ok_condition_columns {f : Addr} {fd : FuncData} (F : Fun K "condition_columns" "condition_columns" st_condition_columns f fd) (hm : mg "condition_columns" = some (.ref f)) (hk : PySem.W.keepIn K (.ref f) = true) (hb : Binds K fd ["condition"] []) : ∀ n, FnOk P w K mg base CX0 n f fd ["condition"] (sp_condition_columns n)
  | 0 => FnOk.none fun _ _ _ _ ⟨_, _, _, _, h, _⟩ => absurd h (Nat.not_lt_zero _)
  | n + 1 => by
    have FC : FnP P w K mg base n "condition_columns" ["condition"] (sp_condition_columns n) := ⟨f, fd, ok_condition_columns F hm hk hb n, hm, hk, hb⟩
    refine F.okJ sc_condition_columns (fun vs H Q E h => ?_) (fun cdv A outer s H vs Q E hr h => ?_)
    · obtain ⟨_, _, rfl, _⟩ := h
      rfl
    · obtain ⟨v, c, rfl, hc, dp, n3, k⟩ := h
      have nd := sc_condition_columns.nd
      refine ⟨_, (b_cons (s_set 1 nd (e_ix x_tup (e_v 0) e_i))
        (b_cons (s_if (t_in (e_v 1) (e_tup (ac e_s (a1 e_s)))) (b_one (s_ret (e_lst (ac (e_ix x_tup (e_v 0) e_i) (a1 (e_ix x_tup (e_v 0) e_i)))))) b_nil)
        (b_cons (s_if (t_in (e_v 1) (e_tup (ac e_s (a1 e_s)))) (b_one (s_ret (e_lst (a1 (e_ix x_tup (e_v 0) e_i))))) b_nil)
        (b_cons (s_if (t_cmp o_eq (e_v 1) e_s) (b_one (s_ret (e_fn FC hr (a1 (e_ix x_tup (e_v 0) e_i)) (Nat.le_refl _)))) b_nil)
        (b_one (s_ret (e_op o_cat (e_fn FC hr (a1 (e_ix x_tup (e_v 0) e_i)) (Nat.le_refl _)) (e_fn FC hr (a1 (e_ix x_tup (e_v 0) e_i)) (Nat.le_refl _))))))))), ?_⟩
      cases c with
      | same i j =>
        obtain ⟨t, rfl, ht⟩ := hc
        refine ⟨_, rfl, t, _, 0, _, rfl, rfl, SqT.of ht, rfl, ?_⟩
        refine in2 (x := "same") rfl (fun _ H1 s1 => ?_) (fun e => absurd e (by decide +kernel))
        exact ⟨_, rfl, t, _, 1, _, rfl, rfl, SqT.of (s1 _ _ ht), rfl, _, rfl, t, _, 2, _, rfl, rfl, SqT.of (s1 _ _ ht), rfl, by show 2 ≤ sizeLine; exact sm, fun p hp => k p _ (s1.trans ((Same.refl H1).upd hp)) upd_same⟩
      | less i j =>
        obtain ⟨t, rfl, ht⟩ := hc
        refine ⟨_, rfl, t, _, 0, _, rfl, rfl, SqT.of ht, rfl, ?_⟩
        refine in2 (x := "below") rfl (fun _ H1 s1 => ?_) (fun e => absurd e (by decide +kernel))
        exact ⟨_, rfl, t, _, 1, _, rfl, rfl, SqT.of (s1 _ _ ht), rfl, _, rfl, t, _, 2, _, rfl, rfl, SqT.of (s1 _ _ ht), rfl, by show 2 ≤ sizeLine; exact sm, fun p hp => k p _ (s1.trans ((Same.refl H1).upd hp)) upd_same⟩
      | isv i m =>
        obtain ⟨t, rfl, ht⟩ := hc
        refine ⟨_, rfl, t, _, 0, _, rfl, rfl, SqT.of ht, rfl, ?_⟩
        refine in2 (x := "is") rfl (fun e => absurd e (by decide +kernel)) (fun _ H0 s0 => ?_)
        refine in2 (x := "is") rfl (fun _ H1 s1 => ?_) (fun e => absurd e (by decide +kernel))
        have s01 := s0.trans s1
        exact ⟨_, rfl, t, _, 1, _, rfl, rfl, SqT.of (s01 _ _ ht), rfl, by show 1 ≤ sizeLine; exact sm, fun p hp => k p _ (s01.trans ((Same.refl H1).upd hp)) upd_same⟩
      | undr i m =>
        obtain ⟨t, rfl, ht⟩ := hc
        refine ⟨_, rfl, t, _, 0, _, rfl, rfl, SqT.of ht, rfl, ?_⟩
        refine in2 (x := "under") rfl (fun e => absurd e (by decide +kernel)) (fun _ H0 s0 => ?_)
        refine in2 (x := "under") rfl (fun _ H1 s1 => ?_) (fun e => absurd e (by decide +kernel))
        have s01 := s0.trans s1
        exact ⟨_, rfl, t, _, 1, _, rfl, rfl, SqT.of (s01 _ _ ht), rfl, by show 1 ≤ sizeLine; exact sm, fun p hp => k p _ (s01.trans ((Same.refl H1).upd hp)) upd_same⟩
      | neg a =>
        obtain ⟨t, va, rfl, ht, ha⟩ := hc
        refine ⟨_, rfl, t, _, 0, _, rfl, rfl, SqT.of ht, rfl, ?_⟩
        refine in2 (x := "not") rfl (fun e => absurd e (by decide +kernel)) (fun _ H0 s0 => ?_)
        refine in2 (x := "not") rfl (fun e => absurd e (by decide +kernel)) (fun _ H1 s1 => ?_)
        have s01 := s0.trans s1
        refine ⟨_, rfl, rfl, _, rfl, iteSS ?_⟩
        exact ⟨_, rfl, t, _, 1, _, rfl, rfl, SqT.of (s01 _ _ ht), rfl, va, a, rfl, ha.same s01, Nat.lt_of_succ_lt_succ dp, by omega, fun p H' s' hp => k p H' (s01.trans s') hp⟩
      | either a b =>
        obtain ⟨t, va, vb, rfl, ht, ha, hb'⟩ := hc
        refine ⟨_, rfl, t, _, 0, _, rfl, rfl, SqT.of ht, rfl, ?_⟩
        refine in2 (x := "either") rfl (fun e => absurd e (by decide +kernel)) (fun _ H0 s0 => ?_)
        refine in2 (x := "either") rfl (fun e => absurd e (by decide +kernel)) (fun _ H1 s1 => ?_)
        have s01 := s0.trans s1
        refine ⟨_, rfl, rfl, _, rfl, iteSF (by decide +kernel) ?_⟩
        have dp' : max a.deep b.deep < n := Nat.lt_of_succ_lt_succ dp
        have da : a.deep < n := Nat.lt_of_le_of_lt (Nat.le_max_left _ _) dp'
        have db : b.deep < n := Nat.lt_of_le_of_lt (Nat.le_max_right _ _) dp'
        refine ⟨_, rfl, t, _, 1, _, rfl, rfl, SqT.of (s01 _ _ ht), rfl, va, a, rfl, ha.same s01, da, by omega, fun p H2 s2 hp => ?_⟩
        have s02 := s01.trans s2
        refine ⟨_, rfl, t, _, 2, _, rfl, rfl, SqT.of (s02 _ _ ht), rfl, vb, b, rfl, hb'.same s02, db, by omega, fun q H3 s3 hq => ?_⟩
        have la := CI.cols_len a
        have lb := CI.cols_len b
        have pa : 2 ^ a.deep ≤ 2 ^ 3 := Nat.pow_le_pow_right (by decide) (by omega)
        have pb : 2 ^ b.deep ≤ 2 ^ 3 := Nat.pow_le_pow_right (by decide) (by omega)
        refine ⟨p, q, _, _, rfl, rfl, s3 _ _ hp, hq, by rw [List.length_map, List.length_map]; exact sm (by omega), fun r hr' => ?_⟩
        refine k r _ (s02.trans (s3.trans ((Same.refl H3).upd hr'))) ?_
        rw [upd_same, ← List.map_append]
        rfl
def Qn.parts : Qn → List Qn
  | .table _ => []
  | .pick _ q => [q]
  | .columns _ q => [q]
  | .group _ _ q => [q]
  | .two _ a b => [a, b]
def sp_parts_of : Sp := fun vs H Q _ => ∃ (v : V) (q : Qn), vs = [v] ∧ QAt H v q ∧ ∀ (p : Addr) (H' : Hp) (xs : List V), Same H H' → H p = none → H' p = some (.lst xs) → Paired (QAt H') xs q.parts → Q (.ref p) H'
theorem sc_parts_of : FnScope ["question", "kind"] ["question"] (defScope st_parts_of) := ⟨rfl, rfl, rfl, by decide +kernel, rfl, by decide +kernel, by decide +kernel⟩
theorem ok_parts_of {f : Addr} {fd : FuncData} (F : Fun K "parts_of" "parts_of" st_parts_of f fd) : FnOk P w K mg base CX0 1 f fd ["question"] sp_parts_of := by
  refine F.okJ sc_parts_of (fun vs H Q E h => ?_) (fun cdv A outer s H vs Q E hr h => ?_)
  · obtain ⟨_, _, rfl, _⟩ := h
    rfl
  · obtain ⟨v, q, rfl, hq, k⟩ := h
    have nd := sc_parts_of.nd
    refine ⟨_, (b_cons (s_set 1 nd (e_ix x_tup (e_v 0) e_i))
      (b_cons (s_if (t_cmp o_eq (e_v 1) e_s) (b_one (s_ret (e_lst a0))) b_nil)
      (b_cons (s_if (t_in (e_v 1) (e_tup (ac e_s (ac e_s (a1 e_s))))) (b_one (s_ret (e_lst (a1 (e_ix x_tup (e_v 0) (e_un o_neg e_i)))))) b_nil)
      (b_one (s_ret (e_lst (ac (e_ix x_tup (e_v 0) e_i) (a1 (e_ix x_tup (e_v 0) e_i))))))))), ?_⟩
    have one : ∀ (kd : Str) (t : Addr) (xs : List V) (vq : V) (q1 : Qn), H t = some (.tup (.str kd :: xs ++ [vq])) → QAt H vq q1 → q.parts = [q1] → ("pick" == kd || "columns" == kd || "group" == kd) = true → kd ≠ "table" →
        tSeq (tIfS (tTest (tOp rEq (tVar 1) (tC (.str "table")))) (tRet (tLst tNil)) tNext) (tSeq (tIfS (tTest (tOp (rIn K false) (tVar 1) (tTup (tCons (tC (.str "pick")) (tCons (tC (.str "columns")) (tCons (tC (.str "group")) tNil)))))) (tRet (tLst (tCons (tOp (rIxT K) (tVar 0) (tUn (rU fun i => .int (-i)) (tC (.int 1)))) tNil))) tNext) (tRet (tLst (tCons (tOp (rIxT K) (tVar 0) (tC (.int 1))) (tCons (tOp (rIxT K) (tVar 0) (tC (.int 2))) tNil))))) { nx := fun _ H' => Q .non H', rt := Q } [some (.ref t), some (.str kd)] H := by
      intro kd t xs vq q1 ht hq1 eq kin nt
      refine ⟨_, rfl, rfl, _, rfl, iteSF nt ?_⟩
      refine in3 (x := kd) rfl (fun _ H1 s1 => ?_) (fun e => by rw [kin] at e; cases e)
      refine ⟨_, rfl, 1, rfl, t, _, -1, _, rfl, rfl, SqT.of (s1 _ _ ht), atI_last _ _, by show 1 ≤ sizeLine; exact sm, fun p hp => ?_⟩
      have s2 : Same H1 (upd H1 p (.lst [vq])) := (Same.refl H1).upd hp
      refine k p _ [vq] (s1.trans s2) (s1.free hp) upd_same ?_
      rw [eq]
      exact .cons (hq1.same (s1.trans s2)) .nil
    cases q with
    | table z =>
      obtain ⟨t, rfl, ht⟩ := hq
      refine ⟨_, rfl, t, _, 0, _, rfl, rfl, SqT.of ht, rfl, ?_⟩
      refine ⟨_, rfl, rfl, _, rfl, iteSS ?_⟩
      exact ⟨Nat.zero_le _, fun p hp => k p _ [] ((Same.refl H).upd hp) hp upd_same .nil⟩
    | pick c q =>
      obtain ⟨t, vc, vq, rfl, ht, hc, hq⟩ := hq
      exact ⟨_, rfl, t, _, 0, _, rfl, rfl, SqT.of ht, rfl, one "pick" t [vc] vq q ht hq rfl (by decide +kernel) (by decide +kernel)⟩
    | columns cs q =>
      obtain ⟨t, l, vq, rfl, ht, hl, hq⟩ := hq
      exact ⟨_, rfl, t, _, 0, _, rfl, rfl, SqT.of ht, rfl, one "columns" t [.ref l] vq q ht hq rfl (by decide +kernel) (by decide +kernel)⟩
    | group cs ag q =>
      obtain ⟨t, l, m, ms, vq, rfl, ht, hl, hm, hp, hq⟩ := hq
      exact ⟨_, rfl, t, _, 0, _, rfl, rfl, SqT.of ht, rfl, one "group" t [.ref l, .ref m] vq q ht hq rfl (by decide +kernel) (by decide +kernel)⟩
    | two o a b =>
      obtain ⟨t, va, vb, rfl, ht, ha, hb⟩ := hq
      refine ⟨_, rfl, t, _, 0, _, rfl, rfl, SqT.of ht, rfl, ?_⟩
      have e1 : o.nm ≠ "table" := by cases o <;> decide +kernel
      have e2 : ("pick" == o.nm || "columns" == o.nm || "group" == o.nm) = false := by cases o <;> decide +kernel
      refine ⟨_, rfl, rfl, _, rfl, iteSF e1 ?_⟩
      refine in3 (x := o.nm) rfl (fun e => by rw [e2] at e; cases e) (fun _ H1 s1 => ?_)
      refine ⟨_, rfl, t, _, 1, _, rfl, rfl, SqT.of (s1 _ _ ht), rfl, _, rfl, t, _, 2, _, rfl, rfl, SqT.of (s1 _ _ ht), rfl, by show 2 ≤ sizeLine; exact sm, fun p hp => ?_⟩
      have s2 : Same H1 (upd H1 p (.lst [va, vb])) := (Same.refl H1).upd hp
      exact k p _ [va, vb] (s1.trans s2) (s1.free hp) upd_same (.cons (ha.same (s1.trans s2)) (.cons (hb.same (s1.trans s2)) .nil))
end
end Prf

set_option maxHeartbeats 4000000
namespace Prf
open PySem L2 Wr
/-- the widths by name -/
structure Wd (kvs : List (Key × V)) (W : Str → Option Int) : Prop where
  val : ∀ z, valV kvs (Sum.inr z) = (W z).map V.int
  num : ∀ p ∈ kvs, ∃ n, p.2 = .int n
  few : ∀ z n, W z = some n → 0 ≤ n ∧ n ≤ 4
theorem iteND {x y : Str} {A B : Prop} (ne : x ≠ y) (h : A) : if (!decide (V.str x = V.str y)) = true then A else B := by rw [if_pos (by simp [ne])]; exact h
theorem logS {n : Int} (h : n.natAbs ≤ 1000000) : n.natAbs.log2 < 1920 := log_lt (Nat.lt_of_le_of_lt h (by decide))
theorem Sh.repr {z : Str} (h : Sh 8 z) : (reprText z).length ≤ 100 := by
  have a := StrLaws.reprText_len z fun c hc => Nat.lt_of_lt_of_le (h.1 c hc) (by decide)
  have := h.2
  omega
section
variable {P : Program} {w : World} {K : PySem.W.Frag} {mg : Str → Option Value} {base : Heap}
def sp_table_width (CT : Addr) : Sp := fun vs H Q E => ∃ (z : Str) (d : Addr) (kvs : List (Key × V)) (W : Str → Option Int), vs = [.str z, .ref d] ∧ Sh 8 z ∧ H d = some (.dK kvs) ∧ Wd kvs W ∧ (∀ n, W z = some n → Q (.int n) H) ∧ (W z = none → E (.ref CT) none H)
theorem sc_table_width : FnScope ["name", "widths"] ["name", "widths"] (defScope st_table_width) := ⟨rfl, rfl, rfl, by decide +kernel, rfl, by decide +kernel, by decide +kernel⟩
theorem ok_table_width {f CT : Addr} {fd : FuncData} (F : Fun K "table_width" "table_width" st_table_width f fd) (O : ErrC K mg "NoTable" CT) : FnOk P w K mg base (CXe P w) 1 f fd ["name", "widths"] (sp_table_width CT) := by
  refine F.okX sc_table_width (fun vs H Q E h => ?_) (fun cdv A outer s H vs Q E hr h => ?_)
  · obtain ⟨_, _, _, _, rfl, _⟩ := h
    rfl
  · obtain ⟨z, d, kvs, W, rfl, hz, hd, wd, k1, k2⟩ := h
    refine ⟨_, (b_cons (s_if (t_dnotin hr (e_v 0) (e_v 1)) (b_one (s_raise raises_cx O (e_fst2 e_s (e_fmR (e_v 0))))) b_nil) (b_one (s_ret (e_dget hr (e_v 1) (e_v 0))))), ?_⟩
    have g := DGet.k (k := (Sum.inr z : Key)) hd
    rw [wd.val] at g
    have hq := hz.repr
    cases e : W z with
    | some n =>
      rw [e] at g
      refine ⟨_, rfl, _, rfl, d, _, rfl, g, _, rfl, iteF ?_⟩
      exact ⟨_, rfl, _, rfl, d, .int n, rfl, g, k1 n e⟩
    | none =>
      rw [e] at g
      refine ⟨_, rfl, _, rfl, d, _, rfl, g, _, rfl, iteT ?_⟩
      exact ⟨_, rfl, by decide +kernel, _, rfl, z, rfl, Nat.le_trans hq (by decide), _, rfl, Nat.le_trans hq (by decide), rfl, k2 e⟩
def sp_refuse_unlike (CW : Addr) : Sp := fun vs H Q E => ∃ (a b : Int), vs = [.int a, .int b] ∧ a.natAbs ≤ 1000000 ∧ b.natAbs ≤ 1000000 ∧ (a = b → Q .non H) ∧ (a ≠ b → E (.ref CW) none H)
theorem sc_refuse_unlike : FnScope ["one", "other"] ["one", "other"] (defScope st_refuse_unlike) := ⟨rfl, rfl, rfl, by decide +kernel, rfl, by decide +kernel, by decide +kernel⟩
theorem ok_refuse_unlike {f CW : Addr} {fd : FuncData} (F : Fun K "refuse_unlike" "refuse_unlike" st_refuse_unlike f fd) (O : ErrC K mg "NoWidth" CW) : FnOk P w K mg base (CXe P w) 1 f fd ["one", "other"] (sp_refuse_unlike CW) := by
  refine F.okX sc_refuse_unlike (fun vs H Q E h => ?_) (fun cdv A outer s H vs Q E hr h => ?_)
  · obtain ⟨_, _, rfl, _⟩ := h
    rfl
  · obtain ⟨a, b, rfl, ha, hb, k1, k2⟩ := h
    refine ⟨_, (b_one (s_if (t_cmp o_ne (e_v 0) (e_v 1)) (b_one (s_raise raises_cx O (e_fst (j_cons e_s (j_cons (e_fmI (e_v 0)) (j_cons e_s (j_cons (e_fmI (e_v 1)) j_nil))))))) b_nil)), ?_⟩
    refine ⟨_, rfl, _, rfl, rfl, _, rfl, ?_⟩
    by_cases e : a = b
    · rw [decide_eq_true (congrArg V.int e)]
      exact iteF (k1 e)
    · rw [decide_eq_false (fun y => e (V.int.inj y))]
      refine iteT ?_
      exact ⟨_, rfl, by decide +kernel, _, rfl, a, rfl, logS ha, _, rfl, int_len (logS ha), _, rfl, by decide +kernel, _, rfl, b, rfl, logS hb, _, rfl, int_len (logS hb), rfl, k2 e⟩
def sp_refuse_no_column (CC : Addr) : Sp := fun vs H Q E => ∃ (p : Addr) (cs : List Int) (n : Int), vs = [.ref p, .int n] ∧ H p = some (.lst (cs.map V.int)) ∧ n.natAbs ≤ 1000000 ∧ (∀ c ∈ cs, c.natAbs ≤ 1000) ∧ (colsOk cs n = true → Q .non H) ∧ (colsOk cs n = false → E (.ref CC) none H)
theorem sc_refuse_no_column : FnScope ["columns", "count", "column"] ["columns", "count"] (defScope st_refuse_no_column) := ⟨rfl, rfl, rfl, by decide +kernel, rfl, by decide +kernel, by decide +kernel⟩
theorem ok_refuse_no_column {f CC : Addr} {fd : FuncData} (F : Fun K "refuse_no_column" "refuse_no_column" st_refuse_no_column f fd) (O : ErrC K mg "NoColumn" CC) : FnOk P w K mg base (CXe P w) 1 f fd ["columns", "count"] (sp_refuse_no_column CC) := by
  refine F.okX sc_refuse_no_column (fun vs H Q E h => ?_) (fun cdv A outer s H vs Q E hr h => ?_)
  · obtain ⟨_, _, _, rfl, _⟩ := h
    rfl
  · obtain ⟨p, cs, n, rfl, hp, hn, hc, k1, k2⟩ := h
    have nd := sc_refuse_no_column.nd
    refine ⟨_, (b_one (s_for (i_list (e_v 0)) (g_n 2 nd)
        (b_one (s_if (JW.jt (w_or (t_cmp o_lt (e_v 2) e_i) (w_or1 (t_cmp o_ge (e_v 2) (e_v 1))))) (b_one (s_raise raises_cx O (e_fst (j_cons e_s (j_cons (e_fmI (e_v 1)) (j_cons e_s (j_cons (e_fmI (e_v 2)) j_nil))))))) b_nil)) own_cx)), ?_⟩
    refine ⟨_, rfl, p, rfl, ⟨_, SqL.of hp⟩, for_list (K := K) (a := p) (xs := cs.map V.int) (fun i σ H' => ∃ o2, σ = [some (.ref p), some (.int n), o2] ∧ H' = H ∧ ∀ c ∈ cs.take i, 0 ≤ c ∧ c < n)
      ⟨none, rfl, rfl, fun c h => nomatch h⟩ (fun i σ H' _ ⟨_, _, e, _⟩ => by rw [e]; exact SqL.of hp) ?_ ?_⟩
    · rintro i x σ H' hx ⟨o2, rfl, rfl, al⟩
      obtain ⟨c, ec, rfl⟩ := map_at hx
      have mc := List.mem_of_getElem? ec
      have bad : ¬ (0 ≤ c ∧ c < n) → colsOk cs n = false := fun hb => by
        unfold colsOk
        rw [List.all_eq_false]
        refine ⟨c, mc, fun h => hb ?_⟩
        rw [Bool.and_eq_true] at h
        exact ⟨of_decide_eq_true h.1, of_decide_eq_true h.2⟩
      have raise : ¬ (0 ≤ c ∧ c < n) → tRaise CC E (tFst (jCons (tC (.str "rows of ")) (jCons (tFmI (tVar 1)) (jCons (tC (.str " cells have no column ")) (jCons (tFmI (tVar 2)) jNil))))) { nx := fun _ _ => True, rt := fun _ _ => True } [some (.ref p), some (.int n), some (.int c)] H' := fun hb =>
        ⟨_, rfl, by decide +kernel, _, rfl, n, rfl, logS hn, _, rfl, int_len (logS hn), _, rfl, by decide +kernel, _, rfl, c, rfl, logS (Nat.le_trans (hc c mc) (by decide)), _, rfl, int_len (logS (Nat.le_trans (hc c mc) (by decide))), rfl, k2 (bad hb)⟩
      refine ⟨_, rfl, _, _, rfl, rfl, _, rfl, ite2 (fun y => raise fun z => ?_) (fun y => ?_)⟩
      · have := of_decide_eq_true y; omega
      refine ⟨_, rfl, _, rfl, _, _, rfl, rfl, _, rfl, ite2 (fun y2 => raise fun z => ?_) (fun y2 => ?_)⟩
      · have := of_decide_eq_true y2; omega
      refine ⟨_, rfl, rfl, fun d hd => ?_⟩
      rw [take_snoc ec] at hd
      rcases List.mem_append.mp hd with q | q
      · exact al d q
      · rw [List.mem_singleton.mp q]
        have h1 : ¬ (c < 0) := fun z => y (decide_eq_true z)
        have h2 : ¬ (n ≤ c) := fun z => y2 (decide_eq_true z)
        omega
    · rintro σ H' ⟨o2, rfl, rfl, al⟩
      rw [List.length_map, List.take_length] at al
      refine k1 ?_
      unfold colsOk
      rw [List.all_eq_true]
      intro c hc'
      have := al c hc'
      rw [decide_eq_true this.1, decide_eq_true this.2]
      rfl
/-! ### told_columns -/
def Qn.told : Qn → List Int
  | .pick c _ => c.cols
  | .columns cs _ => cs
  | .group cs ag _ => cs ++ ag.filterMap Ag.col
  | _ => []
def Qn.one : Qn → Bool
  | .table _ => false
  | .two _ _ _ => false
  | _ => true
def sp_told_columns : Sp := fun vs H Q _ => ∃ (v : V) (q : Qn), vs = [v] ∧ QAt H v q ∧ q.one = true ∧ q.ok ∧ ∀ (p : Addr) (H' : Hp), Same H H' → H' p = some (.lst (q.told.map V.int)) → Q (.ref p) H'
theorem sc_told_columns : FnScope ["question", "columns"] ["question"] (defScope st_told_columns) := ⟨rfl, rfl, rfl, by decide +kernel, rfl, by decide +kernel, by decide +kernel⟩
theorem ok_told_columns {f : Addr} {fd : FuncData} (F : Fun K "told_columns" "told_columns" st_told_columns f fd) (B : Blts mg) (FC : FnP P w K mg base 3 "condition_columns" ["condition"] (sp_condition_columns 3)) : FnOk P w K mg base CX0 4 f fd ["question"] sp_told_columns := by
  refine F.okJ sc_told_columns (fun vs H Q E h => ?_) (fun cdv A outer s H vs Q E hr h => ?_)
  · obtain ⟨_, _, rfl, _⟩ := h
    rfl
  · obtain ⟨v, q, rfl, hq, ho, ok, k⟩ := h
    have nd := sc_told_columns.nd
    have nd1 : (["each"] : List Str).Nodup := by decide +kernel
    refine ⟨_, (b_cons (s_if (t_cmp o_eq (e_ix x_tup (e_v 0) e_i) e_s) (b_one (s_ret (e_fn FC hr (a1 (e_ix x_tup (e_v 0) e_i))))) b_nil)
      (b_cons (s_set 1 nd (e_ct c_list B.list PyProof.Rows.boot_list (a1 (e_ix x_tup (e_v 0) e_i))))
      (b_cons (s_if (t_cmp o_eq (e_ix x_tup (e_v 0) e_i) e_s) (b_one (s_ext (e_v 1) (a1c (e_comp (Nc := ["each"]) (js := [none]) (g := (gName 0)) (tt := (tTest (tOp rNe (tOp (rIxT K) (tVar 0) (tC (.int 0))) (tC (.str "count"))))) (te := (tOp (rIxT K) (tVar 0) (tC (.int 1))))
      (comp_mk rfl rfl rfl rfl (fun x c h => by cases h) rfl rfl rfl) (i_list (e_ix x_tup (e_v 0) e_i))
      (fun pins C s3 H3 fp => ⟨(g_n 0 nd1), .inr ⟨_, rfl, (t_cmp o_ne (e_ix x_tup (e_v 0) e_i) e_s)⟩, (e_ix x_tup (e_v 0) e_i)⟩))))) b_nil)
      (b_one (s_ret (e_v 1)))))), ?_⟩
    cases q with
    | table z => cases ho
    | two o a b => cases ho
    | pick c q =>
      obtain ⟨t, vc, vq, rfl, ht, hc, hq⟩ := hq
      refine ⟨_, rfl, t, _, 0, _, rfl, rfl, SqT.of ht, rfl, rfl, _, rfl, iteSS ?_⟩
      exact ⟨_, rfl, t, _, 1, _, rfl, rfl, SqT.of ht, rfl, vc, c, rfl, hc, Nat.lt_succ_of_le ok.1, by decide, k⟩
    | columns cs q =>
      obtain ⟨t, l, vq, rfl, ht, hl, hq⟩ := hq
      refine ⟨_, rfl, t, _, 0, _, rfl, rfl, SqT.of ht, rfl, rfl, _, rfl, iteSF (by decide +kernel) ?_⟩
      refine ⟨_, rfl, t, _, 1, _, rfl, rfl, SqT.of ht, rfl, l, _, rfl, .inl (SqL.of hl), fun p hp => ?_⟩
      have s1 : Same H (upd H p (.lst (cs.map V.int))) := (Same.refl H).upd hp
      have u1 : upd H p (.lst (cs.map V.int)) p = some (.lst (cs.map V.int)) := upd_same
      generalize upd H p (.lst (cs.map V.int)) = H1 at s1 u1 ⊢
      refine ⟨_, rfl, t, _, 0, _, rfl, rfl, SqT.of (s1 _ _ ht), rfl, rfl, _, rfl, iteSF (by decide +kernel) ?_⟩
      exact ⟨_, rfl, k p H1 s1 u1⟩
    | group cs ag q =>
      obtain ⟨t, l, m, ms, vq, rfl, ht, hl, hm, pm, hq⟩ := hq
      refine ⟨_, rfl, t, _, 0, _, rfl, rfl, SqT.of ht, rfl, rfl, _, rfl, iteSF (by decide +kernel) ?_⟩
      refine ⟨_, rfl, t, _, 1, _, rfl, rfl, SqT.of ht, rfl, l, _, rfl, .inl (SqL.of hl), fun p hp => ?_⟩
      have s1 : Same H (upd H p (.lst (cs.map V.int))) := (Same.refl H).upd hp
      have u1 : upd H p (.lst (cs.map V.int)) p = some (.lst (cs.map V.int)) := upd_same
      generalize upd H p (.lst (cs.map V.int)) = H1 at s1 u1 ⊢
      refine ⟨_, rfl, t, _, 0, _, rfl, rfl, SqT.of (s1 _ _ ht), rfl, rfl, _, rfl, iteSS ?_⟩
      have hm1 := s1 _ _ hm
      have lm := Paired.length pm
      have l10 := ok.2.2.1
      refine ⟨_, rfl, .inl ⟨rfl, _, SqL.of u1⟩, _, rfl, t, _, 2, _, rfl, rfl, SqT.of (s1 _ _ ht), rfl, m, rfl, ⟨_, SqL.of hm1⟩, fun D hD => ?_⟩
      have lf : ∀ j, ((ag.take j).filterMap Ag.col).length ≤ 10 := fun j => by
        have h1 := List.length_filterMap_le Ag.col (ag.take j)
        rw [List.length_take] at h1
        omega
      refine comp_list (K := K) (a := m) (xs := ms) (fun j _ σ H2 => ∃ (o : Option V), σ = [o] ∧ Same H1 H2 ∧ H2 D = some (.lst (((ag.take j).filterMap Ag.col).map V.int)))
        ⟨none, rfl, (Same.refl H1).upd hD, upd_same⟩ (fun j _ σ H2 _ ⟨_, _, s2, _⟩ => SqL.of (s2 _ _ hm1)) ?_ ?_
      · rintro j x _ σ H2 hx ⟨o, rfl, s2, h2⟩
        obtain ⟨g, eg, hg⟩ := paired_at pm hx
        have s02 := s1.trans s2
        have keep : g.col = none → ((ag.take (j + 1)).filterMap Ag.col) = ((ag.take j).filterMap Ag.col) := fun e => by
          rw [take_snoc eg, List.filterMap_append, List.filterMap_cons, e, List.filterMap_nil, List.append_nil]
        have more : ∀ i, g.col = some i → ((ag.take (j + 1)).filterMap Ag.col) = ((ag.take j).filterMap Ag.col) ++ [i] := fun i e => by
          rw [take_snoc eg, List.filterMap_append, List.filterMap_cons, e, List.filterMap_nil]
        cases g with
        | count =>
          obtain ⟨u, rfl, hu⟩ := hg
          refine ⟨_, rfl, u, _, 0, _, rfl, rfl, SqT.of (s02 _ _ hu), rfl, rfl, _, rfl, ?_⟩
          refine iteF ⟨[], _, rfl, s2, ?_⟩
          rw [keep rfl]; exact h2
        | sum i =>
          obtain ⟨u, rfl, hu⟩ := hg
          refine ⟨_, rfl, u, _, 0, _, rfl, rfl, SqT.of (s02 _ _ hu), rfl, rfl, _, rfl, ?_⟩
          refine iteND (by decide +kernel) ⟨_, rfl, u, _, 1, _, rfl, rfl, SqT.of (s02 _ _ hu), rfl, _, h2, small1000 (by rw [List.length_map]; have := lf j; omega), [], _, rfl, s2.upd hD, ?_⟩
          rw [upd_same, more i rfl, List.map_append]; rfl
        | least i =>
          obtain ⟨u, rfl, hu⟩ := hg
          refine ⟨_, rfl, u, _, 0, _, rfl, rfl, SqT.of (s02 _ _ hu), rfl, rfl, _, rfl, ?_⟩
          refine iteND (by decide +kernel) ⟨_, rfl, u, _, 1, _, rfl, rfl, SqT.of (s02 _ _ hu), rfl, _, h2, small1000 (by rw [List.length_map]; have := lf j; omega), [], _, rfl, s2.upd hD, ?_⟩
          rw [upd_same, more i rfl, List.map_append]; rfl
      · rintro _ σ H2 ⟨o, rfl, s2, h2⟩
        rw [lm, List.take_length] at h2
        have u2 := s2 _ _ u1
        have lc := ok.2.1
        have lf2 : (ag.filterMap Ag.col).length ≤ 10 := by
          have h1 := List.length_filterMap_le Ag.col ag
          omega
        refine ⟨p, D, _, _, rfl, rfl, u2, h2, by rw [List.length_map, List.length_map]; exact sm (by omega), ?_⟩
        refine ⟨_, rfl, k p _ ((s1.trans s2).upd hp) ?_⟩
        rw [upd_same, ← List.map_append]
        rfl
end
end Prf

set_option maxHeartbeats 4000000
namespace Prf
open PySem L2 Wr
def over : Qn → List Int → Sum Nat Int
  | .pick c _, [n] => if colsOk c.cols n = true then .inr n else .inl 3
  | .columns cs _, [n] => if colsOk cs n = true then .inr cs.length else .inl 3
  | .group cs ag _, [n] => if colsOk (cs ++ ag.filterMap Ag.col) n = true then .inr (cs.length + ag.length) else .inl 3
  | .two o _ _, [n, m] => match o with
    | .join => .inr (n + m)
    | _ => if n = m then .inr n else .inl 1
  | _, _ => .inl 0
def Qn.isT : Qn → Bool
  | .table _ => true
  | _ => false
theorem inr_list {q : Sum Nat Int} {ns : List Int} (h : [q] = ns.map Sum.inr) : ∃ n, ns = [n] ∧ q = .inr n := by
  cases ns with
  | nil => cases h
  | cons n r =>
    cases r with
    | nil => exact ⟨n, rfl, (List.cons.inj h).1⟩
    | cons _ _ => cases (List.cons.inj h).2
theorem inr_list2 {q r : Sum Nat Int} {ns : List Int} (h : [q, r] = ns.map Sum.inr) : ∃ n m, ns = [n, m] ∧ q = .inr n ∧ r = .inr m := by
  cases ns with
  | nil => cases h
  | cons n t =>
    obtain ⟨h1, h2⟩ := List.cons.inj h
    obtain ⟨m, rfl, e⟩ := inr_list h2
    exact ⟨n, m, rfl, h1, e⟩
theorem qw_over {W : Str → Option Int} {q : Qn} {ns : List Int} (ht : q.isT = false) (h : q.parts.map (qw W) = ns.map Sum.inr) : qw W q = over q ns := by
  cases q with
  | table z => cases ht
  | pick c q => obtain ⟨n, rfl, e⟩ := inr_list h; unfold qw; rw [e]; rfl
  | columns cs q => obtain ⟨n, rfl, e⟩ := inr_list h; unfold qw; rw [e]; rfl
  | group cs ag q => obtain ⟨n, rfl, e⟩ := inr_list h; unfold qw; rw [e]; rfl
  | two o a b => obtain ⟨n, m, rfl, e1, e2⟩ := inr_list2 h; unfold qw; rw [e1, e2]; rfl
theorem qw_fail {W : Str → Option Int} {q r : Qn} {ns : List Int} {i k : Nat} (h : (q.parts.take i).map (qw W) = ns.map Sum.inr) (hr : q.parts[i]? = some r) (e : qw W r = .inl k) : qw W q = .inl k := by
  have one : ∀ {q1 : Qn}, q.parts = [q1] → r = q1 := fun {q1} eq => by
    rw [eq] at hr
    cases i with
    | zero => exact (Option.some.inj hr).symm
    | succ i => simp at hr
  cases q with
  | table z => simp [Qn.parts] at hr
  | pick c q => obtain rfl := one rfl; unfold qw; rw [e]
  | columns cs q => obtain rfl := one rfl; unfold qw; rw [e]
  | group cs ag q => obtain rfl := one rfl; unfold qw; rw [e]
  | two o a b =>
    cases i with
    | zero =>
      have : a = r := Option.some.inj hr
      subst this
      unfold qw; rw [e]
    | succ i =>
      cases i with
      | zero =>
        have : b = r := Option.some.inj hr
        subst this
        obtain ⟨n, _, e1⟩ := inr_list (q := qw W a) (ns := ns) h
        unfold qw; rw [e1, e]
      | succ i => simp [Qn.parts] at hr
theorem parts_ok {q r : Qn} (h : q.ok) (hr : r ∈ q.parts) : r.ok ∧ r.deep < q.deep := by
  cases q with
  | table z => cases hr
  | pick c q => rw [List.mem_singleton.mp hr]; exact ⟨h.2.2, Nat.lt_succ_self _⟩
  | columns cs q => rw [List.mem_singleton.mp hr]; exact ⟨h.2.2, Nat.lt_succ_self _⟩
  | group cs ag q => rw [List.mem_singleton.mp hr]; exact ⟨h.2.2.2, Nat.lt_succ_self _⟩
  | two o a b =>
    have hr' : r = a ∨ r = b := by simpa [Qn.parts] using hr
    rcases hr' with rfl | rfl
    · exact ⟨h.1, Nat.lt_succ_of_le (Nat.le_max_left _ _)⟩
    · exact ⟨h.2, Nat.lt_succ_of_le (Nat.le_max_right _ _)⟩
section
variable {P : Program} {w : World} {K : PySem.W.Frag} {mg : Str → Option Value} {base : Heap}
def sp_width_over (c : Nat → Addr) : Sp := fun vs H Q E => ∃ (v : V) (q : Qn) (p : Addr) (ns : List Int), vs = [v, .ref p] ∧ QAt H v q ∧ q.ok ∧ q.isT = false ∧ ns.length = q.parts.length ∧ H p = some (.lst (ns.map V.int)) ∧ (∀ n ∈ ns, n.natAbs ≤ 1000000) ∧
  (∀ m H', over q ns = .inr m → Same H H' → Q (.int m) H') ∧ (∀ k H', over q ns = .inl k → Same H H' → E (.ref (c k)) none H')
theorem sc_width_over : FnScope ["question", "within", "kind"] ["question", "within"] (defScope st_width_over) := ⟨rfl, rfl, rfl, by decide +kernel, rfl, by decide +kernel, by decide +kernel⟩
theorem ok_width_over {f : Addr} {c : Nat → Addr} {fd : FuncData} (F : Fun K "width_over" "width_over" st_width_over f fd) (B : Blts mg) (FU : FnX P w K mg base 1 "refuse_unlike" ["one", "other"] (sp_refuse_unlike (c 1))) (FN : FnX P w K mg base 1 "refuse_no_column" ["columns", "count"] (sp_refuse_no_column (c 3)))
    (FT : FnP P w K mg base 4 "told_columns" ["question"] sp_told_columns) : FnOk P w K mg base (CXe P w) 5 f fd ["question", "within"] (sp_width_over c) := by
  refine F.okX sc_width_over (fun vs H Q E h => ?_) (fun cdv A outer s H vs Q E hr h => ?_)
  · obtain ⟨_, _, _, _, rfl, _⟩ := h
    rfl
  · obtain ⟨v, q, p, ns, rfl, hq, ok, nt, ln, hp, hn, k1, k2⟩ := h
    have nd := sc_width_over.nd
    refine ⟨_, (b_cons (s_set 2 nd (e_ix x_tup (e_v 0) e_i))
      (b_cons (s_if (t_cmp o_eq (e_v 2) e_s) (b_one (s_ret (e_op o_add (e_ix x_list (e_v 1) e_i) (e_ix x_list (e_v 1) e_i)))) b_nil)
      (b_cons (s_if (t_in (e_v 2) (e_tup (ac e_s (ac e_s (a1 e_s))))) (b_cons (s_expr ((x_fn FU hr (ac (e_ix x_list (e_v 1) e_i) (a1 (e_ix x_list (e_v 1) e_i)))).je passes_cx))
        (b_one (s_ret (e_ix x_list (e_v 1) e_i)))) b_nil)
      (b_cons (s_expr ((x_fn FN hr (ac (e_fn FT hr (a1 (e_v 0))) (a1 (e_ix x_list (e_v 1) e_i)))).je passes_cx))
      (b_cons (s_if (t_cmp o_eq (e_v 2) e_s) (b_one (s_ret (e_cb c_len B.len PySem.boot_len (a1 (e_ix x_tup (e_v 0) e_i))))) b_nil)
      (b_cons (s_if (t_cmp o_eq (e_v 2) e_s) (b_one (s_ret (e_op o_add (e_cb c_len B.len PySem.boot_len (a1 (e_ix x_tup (e_v 0) e_i))) (e_cb c_len B.len PySem.boot_len (a1 (e_ix x_tup (e_v 0) e_i)))))) b_nil)
      (b_one (s_ret (e_ix x_list (e_v 1) e_i))))))))), ?_⟩
    have single : ∀ (kd : Str) (t : Addr) (n : Int) (xs : List V), ns = [n] → QAt H (.ref t) q → q.one = true → (∀ c ∈ q.told, c.natAbs ≤ 1000) → ("union" == kd || "common" == kd || "less" == kd) = false → kd ≠ "join" → (∀ k H', colsOk q.told n = false → k = 3 → Same H H' → E (.ref (c k)) none H') →
        (∀ H', Same H H' → colsOk q.told n = true → (tSeq (tIfS (tTest (tOp rEq (tVar 2) (tC (.str "columns")))) (tRet (tCB (fun xs H Q => ∃ p ys, xs = [.ref p] ∧ (SqL K H p ys ∨ SqT K H p ys) ∧ Q (.int ys.length) H) (tCons (tOp (rIxT K) (tVar 0) (tC (.int 1))) tNil))) tNext) (tSeq (tIfS (tTest (tOp rEq (tVar 2) (tC (.str "group")))) (tRet (tOp (rI0 fun i j => .int (i + j)) (tCB (fun xs H Q => ∃ p ys, xs = [.ref p] ∧ (SqL K H p ys ∨ SqT K H p ys) ∧ Q (.int ys.length) H) (tCons (tOp (rIxT K) (tVar 0) (tC (.int 1))) tNil)) (tCB (fun xs H Q => ∃ p ys, xs = [.ref p] ∧ (SqL K H p ys ∨ SqT K H p ys) ∧ Q (.int ys.length) H) (tCons (tOp (rIxT K) (tVar 0) (tC (.int 2))) tNil)))) tNext) (tRet (tOp (rIxL K) (tVar 1) (tC (.int 0)))))) { nx := fun _ H' => Q .non H', rt := Q } [some (.ref t), some (.ref p), some (.str kd)] H') →
        tSeq (tIfS (tTest (tOp rEq (tVar 2) (tC (.str "join")))) (tRet (tOp (rI0 fun i j => .int (i + j)) (tOp (rIxL K) (tVar 1) (tC (.int 0))) (tOp (rIxL K) (tVar 1) (tC (.int 1))))) tNext) (tSeq (tIfS (tTest (tOp (rIn K false) (tVar 2) (tTup (tCons (tC (.str "union")) (tCons (tC (.str "common")) (tCons (tC (.str "less")) tNil)))))) (tSeq (tDrop (tCall (sp_refuse_unlike (c 1)) [] E (tCons (tOp (rIxL K) (tVar 1) (tC (.int 0))) (tCons (tOp (rIxL K) (tVar 1) (tC (.int 1))) tNil)))) (tRet (tOp (rIxL K) (tVar 1) (tC (.int 0))))) tNext) (tSeq (tDrop (tCall (sp_refuse_no_column (c 3)) [] E (tCons (tCall sp_told_columns [] E0 (tCons (tVar 0) tNil)) (tCons (tOp (rIxL K) (tVar 1) (tC (.int 0))) tNil))))
          (tSeq (tIfS (tTest (tOp rEq (tVar 2) (tC (.str "columns")))) (tRet (tCB (fun xs H Q => ∃ p ys, xs = [.ref p] ∧ (SqL K H p ys ∨ SqT K H p ys) ∧ Q (.int ys.length) H) (tCons (tOp (rIxT K) (tVar 0) (tC (.int 1))) tNil))) tNext) (tSeq (tIfS (tTest (tOp rEq (tVar 2) (tC (.str "group")))) (tRet (tOp (rI0 fun i j => .int (i + j)) (tCB (fun xs H Q => ∃ p ys, xs = [.ref p] ∧ (SqL K H p ys ∨ SqT K H p ys) ∧ Q (.int ys.length) H) (tCons (tOp (rIxT K) (tVar 0) (tC (.int 1))) tNil)) (tCB (fun xs H Q => ∃ p ys, xs = [.ref p] ∧ (SqL K H p ys ∨ SqT K H p ys) ∧ Q (.int ys.length) H) (tCons (tOp (rIxT K) (tVar 0) (tC (.int 2))) tNil)))) tNext) (tRet (tOp (rIxL K) (tVar 1) (tC (.int 0)))))))) { nx := fun _ H' => Q .non H', rt := Q } [some (.ref t), some (.ref p), some (.str kd)] H := by
      intro kd t n xs en hq1 ho hc kno nj ke fin
      subst en
      refine ⟨_, rfl, rfl, _, rfl, iteSF nj ?_⟩
      refine in3 (x := kd) rfl (fun e => by rw [kno] at e; cases e) (fun _ H1 s1 => ?_)
      refine ⟨_, rfl, _, q, rfl, hq1.same s1, ho, ok, fun l H2 s2 hl => ?_⟩
      have s12 := s1.trans s2
      refine ⟨_, rfl, p, _, 0, _, rfl, rfl, SqL.of (s12 _ _ hp), rfl, l, q.told, n, rfl, hl, hn n List.mem_cons_self, hc, fun good => fin H2 s12 good, fun bad => ke 3 H2 bad rfl s12⟩
    cases q with
    | table z => cases nt
    | pick cd q =>
      obtain ⟨t, vc, vq, rfl, ht, hc, hq'⟩ := hq
      obtain ⟨n, rfl⟩ := List.length_eq_one_iff.mp ln
      refine ⟨_, rfl, t, _, 0, _, rfl, rfl, SqT.of ht, rfl, single "pick" t n [] rfl ⟨t, vc, vq, rfl, ht, hc, hq'⟩ rfl ok.2.1.2 (by decide +kernel) (by decide +kernel) (fun k H' b e s' => ?_) (fun H' s' g => ?_)⟩
      · subst e
        exact k2 3 H' (if_neg (by rw [show colsOk cd.cols n = false from b]; decide)) s'
      · refine ⟨_, rfl, rfl, _, rfl, iteSF (by decide +kernel) ?_⟩
        refine ⟨_, rfl, rfl, _, rfl, iteSF (by decide +kernel) ?_⟩
        exact ⟨_, rfl, p, _, 0, _, rfl, rfl, SqL.of (s' _ _ hp), rfl, k1 n H' (if_pos g) s'⟩
    | columns cs q =>
      obtain ⟨t, l, vq, rfl, ht, hl, hq'⟩ := hq
      obtain ⟨n, rfl⟩ := List.length_eq_one_iff.mp ln
      refine ⟨_, rfl, t, _, 0, _, rfl, rfl, SqT.of ht, rfl, single "columns" t n [] rfl ⟨t, l, vq, rfl, ht, hl, hq'⟩ rfl ok.1.2 (by decide +kernel) (by decide +kernel) (fun k H' b e s' => ?_) (fun H' s' g => ?_)⟩
      · subst e
        exact k2 3 H' (if_neg (by rw [show colsOk cs n = false from b]; decide)) s'
      · refine ⟨_, rfl, rfl, _, rfl, iteSS ?_⟩
        refine ⟨_, rfl, t, _, 1, _, rfl, rfl, SqT.of (s' _ _ ht), rfl, l, _, rfl, .inl (SqL.of (s' _ _ hl)), ?_⟩
        rw [List.length_map]
        exact k1 _ H' (if_pos g) s'
    | group cs ag q =>
      obtain ⟨t, l, m, ms, vq, rfl, ht, hl, hm, pm, hq'⟩ := hq
      obtain ⟨n, rfl⟩ := List.length_eq_one_iff.mp ln
      refine ⟨_, rfl, t, _, 0, _, rfl, rfl, SqT.of ht, rfl, single "group" t n [] rfl ⟨t, l, m, ms, vq, rfl, ht, hl, hm, pm, hq'⟩ rfl ok.1.2 (by decide +kernel) (by decide +kernel) (fun k H' b e s' => ?_) (fun H' s' g => ?_)⟩
      · subst e
        exact k2 3 H' (if_neg (by rw [show colsOk (cs ++ ag.filterMap Ag.col) n = false from b]; decide)) s'
      · refine ⟨_, rfl, rfl, _, rfl, iteSF (by decide +kernel) ?_⟩
        refine ⟨_, rfl, rfl, _, rfl, iteSS ?_⟩
        refine ⟨_, rfl, t, _, 1, _, rfl, rfl, SqT.of (s' _ _ ht), rfl, l, _, rfl, .inl (SqL.of (s' _ _ hl)), _, rfl, t, _, 2, _, rfl, rfl, SqT.of (s' _ _ ht), rfl, m, _, rfl, .inl (SqL.of (s' _ _ hm)), _, _, rfl, rfl, ?_⟩
        rw [List.length_map, Paired.length pm]
        exact k1 _ H' (if_pos g) s'
    | two o a b =>
      obtain ⟨t, va, vb, rfl, ht, ha, hb⟩ := hq
      obtain ⟨n, m, rfl⟩ : ∃ n m, ns = [n, m] := by
        match ns, ln with
        | [n, m], _ => exact ⟨n, m, rfl⟩
      refine ⟨_, rfl, t, _, 0, _, rfl, rfl, SqT.of ht, rfl, ?_⟩
      have setop : o ≠ .join → over (.two o a b) [n, m] = (if n = m then .inr n else .inl 1) := fun e => by cases o <;> first | exact absurd rfl e | rfl
      by_cases oj : o = .join
      · subst oj
        refine ⟨_, rfl, rfl, _, rfl, iteSS ?_⟩
        exact ⟨_, rfl, p, _, 0, _, rfl, rfl, SqL.of hp, rfl, _, rfl, p, _, 1, _, rfl, rfl, SqL.of hp, rfl, _, _, rfl, rfl, k1 _ H rfl (Same.refl H)⟩
      · have e1 : o.nm ≠ "join" := by cases o <;> first | exact absurd rfl oj | decide +kernel
        have e2 : ("union" == o.nm || "common" == o.nm || "less" == o.nm) = true := by cases o <;> first | exact absurd rfl oj | decide +kernel
        refine ⟨_, rfl, rfl, _, rfl, iteSF e1 ?_⟩
        refine in3 (x := o.nm) rfl (fun _ H1 s1 => ?_) (fun e => by rw [e2] at e; cases e)
        have hp1 := s1 _ _ hp
        refine ⟨_, rfl, p, _, 0, _, rfl, rfl, SqL.of hp1, rfl, _, rfl, p, _, 1, _, rfl, rfl, SqL.of hp1, rfl, n, m, rfl, hn n (by simp), hn m (by simp), fun e => ?_, fun e => ?_⟩
        · exact ⟨_, rfl, p, _, 0, _, rfl, rfl, SqL.of hp1, rfl, k1 n H1 (by rw [setop oj, if_pos e]) s1⟩
        · exact k2 1 H1 (by rw [setop oj, if_neg e]) s1
/-! ### width -/
def sp_width (c : Nat → Addr) (n : Nat) : Sp := fun vs H Q E => ∃ (v : V) (d : Addr) (q : Qn) (kvs : List (Key × V)) (W : Str → Option Int), vs = [v, .ref d] ∧ QAt H v q ∧ q.ok ∧ q.deep < n ∧ n ≤ 6 ∧ H d = some (.dK kvs) ∧ Wd kvs W ∧
  (∀ m H', qw W q = .inr m → Same H H' → Q (.int m) H') ∧ (∀ k H', qw W q = .inl k → Same H H' → E (.ref (c k)) none H')
theorem sc_width : FnScope ["question", "widths"] ["question", "widths"] (defScope st_width) := ⟨rfl, rfl, rfl, by decide +kernel, rfl, by decide +kernel, by decide +kernel⟩
theorem ok_width {f : Addr} {c : Nat → Addr} {fd : FuncData} (F : Fun K "width" "width" st_width f fd) (hm : mg "width" = some (.ref f)) (hk : PySem.W.keepIn K (.ref f) = true) (hb : Binds K fd ["question", "widths"] [])
    (FT : FnX P w K mg base 1 "table_width" ["name", "widths"] (sp_table_width (c 2))) (FO : FnX P w K mg base 5 "width_over" ["question", "within"] (sp_width_over c)) (FP : FnP P w K mg base 1 "parts_of" ["question"] sp_parts_of) : ∀ n, FnOk P w K mg base (CXe P w) (n + 6) f fd ["question", "widths"] (sp_width c n)
  | 0 => FnOk.none fun _ _ _ _ ⟨_, _, _, _, _, _, _, _, h, _⟩ => absurd h (Nat.not_lt_zero _)
  | n + 1 => by
    have FW : FnX P w K mg base (n + 6) "width" ["question", "widths"] (sp_width c n) := ⟨f, fd, ok_width F hm hk hb FT FO FP n, hm, hk, hb⟩
    refine F.okX (k := n + 6) sc_width (fun vs H Q E h => ?_) (fun cdv A outer s H vs Q E hr h => ?_)
    · obtain ⟨_, _, _, _, _, rfl, _⟩ := h
      rfl
    · obtain ⟨v, d, q, kvs, W, rfl, hq, ok, dp, n6, hd, wd, k1, k2⟩ := h
      have nd := sc_width.nd
      have nd2 : (["part", "widths"] : List Str).Nodup := by decide +kernel
      refine ⟨_, (b_cons (s_if (t_cmp o_eq (e_ix x_tup (e_v 0) e_i) e_s) (b_one (s_ret ((x_fn FT hr (ac (e_ix x_tup (e_v 0) e_i) (a1 (e_v 1))) (by omega)).je passes_cx))) b_nil)
        (b_one (s_ret (e_fnX FO hr (ac (e_v 0) (a1c (e_compW leavesW_cx (Nc := ["part", "widths"]) (js := [none, some 1]) (g := (gName 0)) (tt := tYes) (te := (tCall (sp_width c n) [] E (tCons (tVar 0) (tCons (tVar 1) tNil))))
        (comp_mk rfl rfl rfl rfl (fun x c h => by simp at h; rcases h with ⟨rfl, rfl⟩ <;> rfl) rfl rfl rfl) (i_list (e_fn FP hr (a1 (e_v 0)) (by omega)))
        (fun pins C s3 H3 fp W hp => ⟨(g_n 0 nd2), .inl ⟨rfl, rfl⟩, (x_fn FW hr (ac (e_v 0) (a1 (e_v 1))) (Nat.le_refl _)).je hp⟩)))) passes_cx (by omega))))), ?_⟩
      by_cases it : q.isT = true
      · cases q with
        | table z =>
          obtain ⟨t, rfl, ht⟩ := hq
          refine ⟨_, rfl, t, _, 0, _, rfl, rfl, SqT.of ht, rfl, rfl, _, rfl, iteSS ?_⟩
          refine ⟨_, rfl, t, _, 1, _, rfl, rfl, SqT.of ht, rfl, _, rfl, z, d, kvs, W, rfl, ok, hd, wd, fun m e => k1 m H ?_ (Same.refl H), fun e => k2 2 H ?_ (Same.refl H)⟩
          · unfold qw; rw [e]
          · unfold qw; rw [e]
        | _ => cases it
      · have nt : q.isT = false := by cases e : q.isT with | true => exact absurd e it | false => rfl
        have hd0 : ∃ (t : Addr) (kd : Str) (xs : List V), v = .ref t ∧ H t = some (.tup (.str kd :: xs)) ∧ kd ≠ "table" := by
          cases q with
          | table z => cases nt
          | pick cd q => obtain ⟨t, vc, vq, e, ht, _⟩ := hq; exact ⟨t, "pick", _, e, ht, by decide +kernel⟩
          | columns cs q => obtain ⟨t, vc, vq, e, ht, _⟩ := hq; exact ⟨t, "columns", _, e, ht, by decide +kernel⟩
          | group cs ag q => obtain ⟨t, _, _, _, _, e, ht, _⟩ := hq; exact ⟨t, "group", _, e, ht, by decide +kernel⟩
          | two o a b => obtain ⟨t, va, vb, e, ht, _⟩ := hq; exact ⟨t, o.nm, _, e, ht, by cases o <;> decide +kernel⟩
        obtain ⟨t, kd, xs0, rfl, ht, nk⟩ := hd0
        refine ⟨_, rfl, t, _, 0, _, rfl, rfl, SqT.of ht, atI_nat (j := 0) (show (V.str kd :: xs0)[0]? = some (V.str kd) from rfl), rfl, _, rfl, iteSF nk ?_⟩
        refine ⟨_, rfl, _, rfl, _, q, rfl, hq, fun p H1 xs s1 _ hp px => ⟨p, rfl, ⟨_, SqL.of hp⟩, fun D hD => ?_⟩⟩
        have lx : xs.length = q.parts.length := Paired.length px
        have lp : q.parts.length ≤ 2 := by cases q <;> first | decide | (show 1 ≤ 2; decide) | (show 2 ≤ 2; decide) | (show 0 ≤ 2; decide)
        have big : ∀ {r : Qn} {m : Int}, r ∈ q.parts → qw W r = .inr m → m.natAbs ≤ 1000000 := fun {r m} hr' e => by
          obtain ⟨o1, o2⟩ := parts_ok ok hr'
          have b := qw_bound wd.few o1 e
          have p5 : (2 : Int) ^ r.deep ≤ 2 ^ 6 := by exact_mod_cast Nat.pow_le_pow_right (by decide) (by omega)
          have p6 : (2 : Int) ^ 6 = 64 := by decide
          omega
        refine comp_list (K := K) (a := p) (xs := xs) (fun i _ σ H2 => ∃ (o : Option V) (ns : List Int), σ = [o, some (.ref d)] ∧ Same H1 H2 ∧ H2 D = some (.lst (ns.map V.int)) ∧ (q.parts.take i).map (qw W) = ns.map Sum.inr ∧ ∀ m ∈ ns, m.natAbs ≤ 1000000)
          ⟨none, [], rfl, (Same.refl H1).upd hD, upd_same, rfl, fun m h => nomatch h⟩ (fun i _ σ H2 _ ⟨_, _, _, s2, _⟩ => SqL.of (s2 _ _ hp)) ?_ ?_
        · rintro i x _ σ H2 hx ⟨o, ns, rfl, s2, h2, er, hn⟩
          obtain ⟨r, er', hr'⟩ := paired_at px hx
          have mr := List.mem_of_getElem? er'
          obtain ⟨o1, o2⟩ := parts_ok ok mr
          have hi : i < q.parts.length := (List.getElem?_eq_some_iff.mp er').1
          have ln : ns.length = i := by
            have := congrArg List.length er
            rw [List.length_map, List.length_map, List.length_take] at this
            omega
          refine ⟨_, rfl, _, rfl, x, d, r, kvs, W, rfl, hr'.same s2, o1, by omega, by omega, s2 _ _ (s1 _ _ hd), wd, fun m H3 e3 s3 => ?_, fun k H3 e3 s3 => k2 k H3 (qw_fail er er' e3) (s1.trans (s2.trans s3))⟩
          refine ⟨_, s3 _ _ h2, small1000 (by rw [List.length_map]; omega), [], _, ns ++ [m], rfl, (s2.trans s3).upd hD, ?_, ?_, fun y hy => ?_⟩
          · rw [upd_same, List.map_append]; rfl
          · rw [take_snoc er', List.map_append, er, List.map_append, List.map_singleton, e3]; rfl
          · rcases List.mem_append.mp hy with z | z
            · exact hn y z
            · rw [List.mem_singleton.mp z]; exact big mr e3
        · rintro _ σ H2 ⟨o, ns, rfl, s2, h2, er, hn⟩
          rw [lx, List.take_length] at er
          have ln : ns.length = q.parts.length := by
            have := congrArg List.length er
            rw [List.length_map, List.length_map] at this
            exact this.symm
          have eo := qw_over nt er
          exact ⟨_, q, D, ns, rfl, hq.same (s1.trans s2), ok, nt, ln, h2, hn, fun m H3 e3 s3 => k1 m H3 (by rw [eo, e3]) (s1.trans (s2.trans s3)), fun k H3 e3 s3 => k2 k H3 (by rw [eo, e3]) (s1.trans (s2.trans s3))⟩
end
end Prf

set_option maxHeartbeats 4000000
namespace Prf
open PySem L2 Wr
section
variable {P : Program} {w : World} {K : PySem.W.Frag} {mg : Str → Option Value} {base : Heap}
theorem atI_any {α : Type} {xs : List α} {i : Int} (h0 : 0 ≤ i) (h1 : i < xs.length) : ∃ x, x ∈ xs ∧ atI xs i = some x := by
  obtain ⟨j, rfl⟩ : ∃ j : Nat, i = (j : Int) := ⟨i.toNat, by omega⟩
  have hl : j < xs.length := by omega
  exact ⟨xs[j], List.getElem_mem hl, atI_nat (by simp [hl])⟩
def sp__law_drawn (n : Nat) : Sp := fun vs H Q _ => ∃ (c k : Int) (dp : Nat) (a : Addr) (ys : List Str), vs = [.int c, .int k, .int dp, .ref a] ∧ dp < n ∧ n ≤ 4 ∧ 0 ≤ k ∧ (k + 2) * 2 ^ dp ≤ 100 ∧ H a = some (.lst (ys.map V.str)) ∧ ys.length = 3 ∧ (∀ y ∈ ys, Sh 8 y) ∧
  ∀ (t : Addr) (q : Qn) (H' : Hp), QAt H' (.ref t) q → q.ok → q.deep ≤ dp → Same H H' → Q (.ref t) H'
theorem sc__law_drawn : FnScope ["_law_cell", "_law_k", "_law_deep", "_law_names", "_law_number", "_law_one", "_law_i", "_law_j", "_law_some", "_law_word_here"] ["_law_cell", "_law_k", "_law_deep", "_law_names"] (defScope st__law_drawn) := ⟨rfl, rfl, rfl, by decide +kernel, rfl, by decide +kernel, by decide +kernel⟩
theorem ok__law_drawn {f : Addr} {fd : FuncData} (F : Fun K "_law_drawn" "_law_drawn" st__law_drawn f fd) (hm : mg "_law_drawn" = some (.ref f)) (hk : PySem.W.keepIn K (.ref f) = true) (hb : Binds K fd ["_law_cell", "_law_k", "_law_deep", "_law_names"] []) (B : Blts mg) (FM : FnP P w K mg base 1 "_law_mixed" ["_law_cell", "_law_k"] sp__law_mixed) : ∀ n, FnOk P w K mg base CX0 (n + 2) f fd ["_law_cell", "_law_k", "_law_deep", "_law_names"] (sp__law_drawn n)
  | 0 => FnOk.none fun _ _ _ _ ⟨_, _, _, _, _, _, h, _⟩ => absurd h (Nat.not_lt_zero _)
  | n + 1 => by
    have FD : FnP P w K mg base (n + 2) "_law_drawn" ["_law_cell", "_law_k", "_law_deep", "_law_names"] (sp__law_drawn n) := ⟨f, fd, ok__law_drawn F hm hk hb B FM n, hm, hk, hb⟩
    refine F.okJ (k := n + 2) sc__law_drawn (fun vs H Q E h => ?_) (fun cdv A outer s H vs Q E hr h => ?_)
    · obtain ⟨_, _, _, _, _, rfl, _⟩ := h
      rfl
    · obtain ⟨c, k, dp, a, ys, rfl, hdp, n4, k0, kb, ha, ly, shy, fin⟩ := h
      have nd := sc__law_drawn.nd
      refine ⟨_, (b_cons (s_set 4 nd (e_fn FM hr (ac (e_v 0) (a1 (e_v 1))) (by omega)))
      (b_cons (s_if (JW.jt (w_or (t_cmp o_eq (e_v 2) e_i) (w_or1 (t_cmp o_eq (e_op o_mod (e_v 4) e_i) e_i)))) (b_one (s_ret (e_tup (ac e_s (a1 (e_ix x_list (e_v 3) (e_op o_mod (e_op o_mod (e_op o_fdiv (e_v 4) e_i) e_i) e_i))))))) b_nil)
      (b_cons (s_set 5 nd (e_fn FD hr (ac (e_v 0) (ac (e_op o_add (e_op o_mul e_i (e_v 1)) e_i) (ac (e_op o_sub (e_v 2) e_i) (a1 (e_v 3))))) (Nat.le_refl _)))
      (b_cons (s_set 6 nd (e_op o_sub (e_op o_mod (e_op o_fdiv (e_v 4) e_i) e_i) e_i))
      (b_cons (s_set 7 nd (e_op o_sub (e_op o_mod (e_op o_fdiv (e_v 4) e_i) e_i) (e_ct c_intB B.int PyProof.Rows.boot_int (a1 (e_cmp o_eq (e_op o_mod (e_v 4) e_i) e_i)))))
      (b_cons (s_if (t_cmp o_eq (e_op o_mod (e_v 4) e_i) e_i) (b_cons (s_set 8 nd (e_lst (ac (e_tup (ac e_s (ac (e_v 6) (a1 (e_v 7))))) (ac (e_tup (ac e_s (ac (e_v 7) (a1 e_i)))) (ac (e_tup (ac e_s (a1 (e_tup (ac e_s (ac (e_v 7) (a1 (e_v 6)))))))) (a1 (e_tup (ac e_s (ac (e_tup (ac e_s (ac (e_v 7) (a1 e_i)))) (a1 (e_tup (ac e_s (ac (e_v 6) (a1 e_i))))))))))))))
        (b_one (s_ret (e_tup (ac e_s (ac (e_ix x_list (e_v 8) (e_op o_mod (e_v 6) e_i)) (a1 (e_v 5)))))))) b_nil)
      (b_cons (s_if (t_cmp o_eq (e_op o_mod (e_v 4) e_i) e_i) (b_one (s_ret (e_tup (ac e_s (ac (e_upto (e_lst (ac (e_v 7) (a1 (e_v 6)))) (e_op o_add e_i (e_op o_mod (e_v 6) e_i))) (a1 (e_v 5))))))) b_nil)
      (b_cons (s_if (t_cmp o_eq (e_op o_mod (e_v 4) e_i) e_i) (b_one (s_ret (e_tup (ac e_s (ac (e_upto (e_lst (a1 (e_v 7))) (e_op o_mod (e_v 6) e_i)) (ac (e_upto (e_lst (ac (e_tup (a1 e_s)) (ac (e_tup (ac e_s (a1 (e_v 6)))) (a1 (e_tup (ac e_s (a1 (e_v 7)))))))) (e_op o_add e_i (e_op o_mod (e_op o_fdiv (e_v 4) e_i) e_i))) (a1 (e_v 5)))))))) b_nil)
      (b_cons (s_set 9 nd (e_ix x_list (e_lst (ac e_s (ac e_s (ac e_s (a1 e_s))))) (e_op o_sub (e_op o_mod (e_v 4) e_i) e_i)))
      (b_one (s_ret (e_tup (ac (e_v 9) (ac (e_v 5) (a1 (e_fn FD hr (ac (e_v 0) (ac (e_op o_add (e_op o_mul e_i (e_v 1)) e_i) (ac (e_op o_sub (e_v 2) e_i) (a1 (e_v 3))))) (Nat.le_refl _))))))))))))))))), ?_⟩
      have kk : k ≤ 1000 := by
        have h2 : (1 : Int) ≤ 2 ^ dp := by exact_mod_cast Nat.one_le_two_pow
        have h3 : (k + 2) * 1 ≤ (k + 2) * 2 ^ dp := Int.mul_le_mul_of_nonneg_left h2 (by omega)
        omega
      refine ⟨_, rfl, _, rfl, c, k, rfl, k0, kk, fun r r0 r1 => ?_⟩
      have tab : ∀ (D : Ends), D.rt = Q → tRet (tTup (tCons (tC (.str "table")) (tCons (tOp (rIxL K) (tVar 3) (tOp (rI (fun _ j => 0 < j) fun i j => .int (i % j)) (tOp (rI (fun _ j => 0 < j) fun i j => .int (i % j)) (tOp (rI CDiv fun i j => .int (i / j)) (tVar 4) (tC (.int 8))) (tC (.int 7))) (tC (.int 3)))) tNil))) D [some (.int c), some (.int k), some (.int dp), some (.ref a), some (.int r), none, none, none, none, none] H := by
        rintro D rfl
        obtain ⟨y, hy, ey⟩ := atI_any (xs := ys) (i := r / 8 % 7 % 3) (Int.emod_nonneg _ (by decide)) (by rw [ly]; exact Int.emod_lt_of_pos _ (by decide))
        have ey' : atI (ys.map V.str) (r / 8 % 7 % 3) = some (.str y) := by
          unfold atI at ey ⊢
          rw [List.length_map]
          cases e : ixN ys.length (r / 8 % 7 % 3) with
          | none => rw [e] at ey; cases ey
          | some j => rw [e] at ey; show (ys.map V.str)[j]? = _; rw [List.getElem?_map, show ys[j]? = some y from ey]; rfl
        refine ⟨_, rfl, _, rfl, _, _, rfl, rfl, ⟨by decide, by decide⟩, _, _, rfl, rfl, pz, _, _, rfl, rfl, pz, a, _, _, _, rfl, rfl, SqL.of ha, ey', by show 2 ≤ sizeLine; exact sm, fun t ht => ?_⟩
        exact fin t (.table y) _ ⟨t, rfl, upd_same⟩ (shy y hy) (Nat.zero_le _) ((Same.refl H).upd ht)
      refine ⟨_, rfl, rfl, _, rfl, ite2 (fun _ => tab _ rfl) (fun nz => ?_)⟩
      have dp1 : dp ≠ 0 := fun e => nz (by rw [e]; exact decide_eq_true rfl)
      refine ⟨_, rfl, _, _, rfl, rfl, pz, rfl, _, rfl, ite2 (fun _ => tab _ rfl) (fun n8 => ?_)⟩
      obtain ⟨d, rfl⟩ : ∃ d, dp = d + 1 := ⟨dp - 1, by omega⟩
      have ed : ((d + 1 : Nat) : Int) - 1 = (d : Int) := by omega
      have kb2 : (2 * k + 1 + 2) * 2 ^ d ≤ 100 ∧ (2 * k + 2 + 2) * 2 ^ d ≤ 100 := by
        rw [Int.pow_succ] at kb
        have h2 : (0 : Int) ≤ 2 ^ d := by exact_mod_cast Nat.zero_le _
        generalize (2 : Int) ^ d = x at kb h2 ⊢
        have e1 : (k + 2) * (x * 2) = (2 * k + 4) * x := by rw [Int.mul_comm x 2, ← Int.mul_assoc]; congr 1; omega
        have e2 : (2 * k + 2 + 2) * x = (2 * k + 4) * x := by congr 1; omega
        have e3 : (2 * k + 1 + 2) * x ≤ (2 * k + 4) * x := Int.mul_le_mul_of_nonneg_right (by omega) h2
        omega
      refine ⟨_, rfl, _, rfl, _, _, rfl, rfl, .inl ⟨by decide, by decide⟩, _, _, rfl, rfl, _, rfl, _, _, rfl, rfl, _, rfl, c, 2 * k + 1, d, a, ys, by show [V.int c, V.int (2 * k + 1), V.int (((d + 1 : Nat) : Int) - 1), V.ref a] ++ [] = _; rw [ed]; rfl, by omega, by omega, by omega, kb2.1, ha, ly, shy, fun t1 q1 H1 hq1 ok1 dp1' s1 => ?_⟩
      have ha1 := s1 _ _ ha
      refine ⟨_, rfl, _, _, rfl, rfl, ⟨by decide, by decide⟩, _, _, rfl, rfl, pz, _, _, rfl, rfl, ?_⟩
      refine ⟨_, rfl, _, _, rfl, rfl, ⟨by decide, by decide⟩, _, _, rfl, rfl, pz, _, rfl, _, _, rfl, rfl, pz, rfl, _, rfl, _, _, rfl, rfl, ?_⟩
      show tSeq _ _ _ [some (.int c), some (.int k), some (.int ((d + 1 : Nat) : Int)), some (.ref a), some (.int r), some (.ref t1), some (.int (r / 64 % 7 - 1)), some (.int (r / 448 % 5 - if decide (V.int (r % 5) = V.int 0) = true then 1 else 0)), none, none] H1
      obtain ⟨i, ei, i1, i2⟩ : ∃ i : Int, r / 64 % 7 - 1 = i ∧ -1 ≤ i ∧ i ≤ 5 := ⟨_, rfl, by omega, by omega⟩
      obtain ⟨j, ej, j1, j2⟩ : ∃ j : Int, (r / 448 % 5 - if decide (V.int (r % 5) = V.int 0) = true then 1 else 0) = j ∧ -1 ≤ j ∧ j ≤ 4 := ⟨_, rfl, by split <;> omega, by split <;> omega⟩
      rw [ei, ej]
      have bi : i.natAbs ≤ 1000 := by omega
      have bj : j.natAbs ≤ 1000 := by omega
      have small : ∀ {cs : List Int}, cs.length ≤ 50 → (∀ x ∈ cs, x = i ∨ x = j) → smallC cs := fun l h => ⟨l, fun x hx => (h x hx).elim (fun e => by rw [e]; exact bi) fun e => by rw [e]; exact bj⟩
      -- pick
      refine ⟨_, rfl, _, _, rfl, rfl, pz, rfl, _, rfl, ite2 (fun _ => ?_) (fun n1 => ?_)⟩
      · refine ⟨_, rfl, _, rfl, by show 3 ≤ sizeLine; exact sm, fun c1 hc1 => ?_⟩
        have s2 : Same H1 (upd H1 c1 (.tup [.str "same", .int i, .int j])) := (Same.refl H1).upd hc1
        have u2 : upd H1 c1 (.tup [.str "same", .int i, .int j]) c1 = some (.tup [.str "same", .int i, .int j]) := upd_same
        generalize upd H1 c1 (.tup [.str "same", .int i, .int j]) = H2 at s2 u2 ⊢
        refine ⟨_, rfl, by show 3 ≤ sizeLine; exact sm, fun c2 hc2 => ?_⟩
        have s3 : Same H2 (upd H2 c2 (.tup [.str "is", .int j, .int 5])) := (Same.refl H2).upd hc2
        have u3 : upd H2 c2 (.tup [.str "is", .int j, .int 5]) c2 = some (.tup [.str "is", .int j, .int 5]) := upd_same
        generalize upd H2 c2 (.tup [.str "is", .int j, .int 5]) = H3 at s3 u3 ⊢
        refine ⟨_, rfl, _, rfl, by show 3 ≤ sizeLine; exact sm, fun c3 hc3 => ?_⟩
        have s4 : Same H3 (upd H3 c3 (.tup [.str "below", .int j, .int i])) := (Same.refl H3).upd hc3
        have u4 : upd H3 c3 (.tup [.str "below", .int j, .int i]) c3 = some (.tup [.str "below", .int j, .int i]) := upd_same
        generalize upd H3 c3 (.tup [.str "below", .int j, .int i]) = H4 at s4 u4 ⊢
        refine ⟨by show 2 ≤ sizeLine; exact sm, fun c4 hc4 => ?_⟩
        have s5 : Same H4 (upd H4 c4 (.tup [.str "not", .ref c3])) := (Same.refl H4).upd hc4
        have u5 : upd H4 c4 (.tup [.str "not", .ref c3]) c4 = some (.tup [.str "not", .ref c3]) := upd_same
        generalize upd H4 c4 (.tup [.str "not", .ref c3]) = H5 at s5 u5 ⊢
        refine ⟨_, rfl, by show 3 ≤ sizeLine; exact sm, fun c5 hc5 => ?_⟩
        have s6 : Same H5 (upd H5 c5 (.tup [.str "is", .int j, .int 1])) := (Same.refl H5).upd hc5
        have u6 : upd H5 c5 (.tup [.str "is", .int j, .int 1]) c5 = some (.tup [.str "is", .int j, .int 1]) := upd_same
        generalize upd H5 c5 (.tup [.str "is", .int j, .int 1]) = H6 at s6 u6 ⊢
        refine ⟨_, rfl, by show 3 ≤ sizeLine; exact sm, fun c6 hc6 => ?_⟩
        have s7 : Same H6 (upd H6 c6 (.tup [.str "under", .int i, .int 2])) := (Same.refl H6).upd hc6
        have u7 : upd H6 c6 (.tup [.str "under", .int i, .int 2]) c6 = some (.tup [.str "under", .int i, .int 2]) := upd_same
        generalize upd H6 c6 (.tup [.str "under", .int i, .int 2]) = H7 at s7 u7 ⊢
        refine ⟨by show 3 ≤ sizeLine; exact sm, fun c7 hc7 => ?_⟩
        have s8 : Same H7 (upd H7 c7 (.tup [.str "either", .ref c5, .ref c6])) := (Same.refl H7).upd hc7
        have u8 : upd H7 c7 (.tup [.str "either", .ref c5, .ref c6]) c7 = some (.tup [.str "either", .ref c5, .ref c6]) := upd_same
        generalize upd H7 c7 (.tup [.str "either", .ref c5, .ref c6]) = H8 at s8 u8 ⊢
        refine ⟨by show 4 ≤ sizeLine; exact sm, fun l1 hl1 => ?_⟩
        have s9 : Same H8 (upd H8 l1 (.lst [.ref c1, .ref c2, .ref c4, .ref c7])) := (Same.refl H8).upd hl1
        have u9 : upd H8 l1 (.lst [.ref c1, .ref c2, .ref c4, .ref c7]) l1 = some (.lst [.ref c1, .ref c2, .ref c4, .ref c7]) := upd_same
        generalize upd H8 l1 (.lst [.ref c1, .ref c2, .ref c4, .ref c7]) = H9 at s9 u9 ⊢
        have a3 := s4.trans (s5.trans (s6.trans (s7.trans (s8.trans s9))))
        have a29 := s3.trans a3
        have s29 := s2.trans a29
        have conds : ∀ x ∈ [V.ref c1, V.ref c2, V.ref c4, V.ref c7], ∃ cd : CI, CIAt H9 x cd ∧ cd.deep ≤ 2 ∧ smallC cd.cols := fun x hx => by
          simp only [List.mem_cons, List.not_mem_nil, or_false] at hx
          rcases hx with rfl | rfl | rfl | rfl
          · exact ⟨.same i j, ⟨c1, rfl, a29 _ _ u2⟩, (by show 0 ≤ 2; decide), small (by show 2 ≤ 50; decide) fun x hx => by simpa [CI.cols] using hx⟩
          · exact ⟨.isv j 5, ⟨c2, rfl, a3 _ _ u3⟩, (by show 0 ≤ 2; decide), small (by show 1 ≤ 50; decide) fun x hx => .inr (by simpa [CI.cols] using hx)⟩
          · exact ⟨.neg (.less j i), ⟨c4, .ref c3, rfl, (s6.trans (s7.trans (s8.trans s9))) _ _ u5, c3, rfl, (s5.trans (s6.trans (s7.trans (s8.trans s9)))) _ _ u4⟩, (by show 1 ≤ 2; decide), small (by show 2 ≤ 50; decide) fun x hx => (show x = j ∨ x = i by simpa [CI.cols] using hx).symm⟩
          · exact ⟨.either (.isv j 1) (.undr i 2), ⟨c7, .ref c5, .ref c6, rfl, s9 _ _ u8, ⟨c5, rfl, (s7.trans (s8.trans s9)) _ _ u6⟩, ⟨c6, rfl, (s8.trans s9) _ _ u7⟩⟩, (by show 1 ≤ 2; decide), small (by show 2 ≤ 50; decide) fun x hx => (show x = j ∨ x = i by simpa [CI.cols] using hx).symm⟩
        refine ⟨_, rfl, _, rfl, _, _, rfl, rfl, pz, ?_⟩
        obtain ⟨x, hx, ex⟩ := atI_any (xs := [V.ref c1, V.ref c2, V.ref c4, V.ref c7]) (Int.emod_nonneg i (show (4 : Int) ≠ 0 by decide)) (by have := Int.emod_lt_of_pos i (show (0 : Int) < 4 by decide); exact this)
        obtain ⟨cd, hcd, dcd, scd⟩ := conds x hx
        refine ⟨l1, _, _, _, rfl, rfl, SqL.of u9, ex, _, rfl, by show 3 ≤ sizeLine; exact sm, fun t ht => ?_⟩
        have s10 : Same H9 (upd H9 t (.tup [.str "pick", x, .ref t1])) := (Same.refl H9).upd ht
        have sA := s29.trans s10
        exact fin t (.pick cd q1) _ ⟨t, x, .ref t1, rfl, upd_same, hcd.same s10, hq1.same sA⟩ ⟨dcd, scd, ok1⟩ (Nat.succ_le_succ dp1') (s1.trans sA)
      -- columns
      have two01 : ∃ m : Nat, i % 2 = (m : Int) ∧ m ≤ 1 := ⟨(i % 2).toNat, by omega, by omega⟩
      obtain ⟨m2, em2, hm2⟩ := two01
      refine ⟨_, rfl, _, _, rfl, rfl, pz, rfl, _, rfl, ite2 (fun _ => ?_) (fun n2 => ?_)⟩
      · refine ⟨_, rfl, _, rfl, by show 2 ≤ sizeLine; exact sm, fun l1 hl1 => ?_⟩
        have s2 : Same H1 (upd H1 l1 (.lst [.int j, .int i])) := (Same.refl H1).upd hl1
        have u2 : upd H1 l1 (.lst [.int j, .int i]) l1 = some (.lst (([j, i] : List Int).map V.int)) := upd_same
        generalize upd H1 l1 (.lst [.int j, .int i]) = H2 at s2 u2 ⊢
        refine ⟨_, rfl, _, _, rfl, rfl, pz, _, _, rfl, rfl, _, rfl, l1, _, rfl, SqL.of u2, fun l2 hl2 => ?_⟩
        have ec : cutV (([j, i] : List Int).map V.int) none (some (1 + i % 2)) = (([j, i] : List Int).take (1 + m2)).map V.int := by
          rw [em2, show (1 : Int) + (m2 : Int) = ((1 + m2 : Nat) : Int) by omega]
          exact cut_ints _ _
        rw [ec]
        have s3 : Same H2 (upd H2 l2 (.lst ((([j, i] : List Int).take (1 + m2)).map V.int))) := (Same.refl H2).upd hl2
        have u3 : upd H2 l2 (.lst ((([j, i] : List Int).take (1 + m2)).map V.int)) l2 = some (.lst ((([j, i] : List Int).take (1 + m2)).map V.int)) := upd_same
        generalize upd H2 l2 (.lst ((([j, i] : List Int).take (1 + m2)).map V.int)) = H3 at s3 u3 ⊢
        refine ⟨_, rfl, by show 3 ≤ sizeLine; exact sm, fun t ht => ?_⟩
        have s4 : Same H3 (upd H3 t (.tup [.str "columns", .ref l2, .ref t1])) := (Same.refl H3).upd ht
        have sA := s2.trans (s3.trans s4)
        refine fin t (.columns (([j, i] : List Int).take (1 + m2)) q1) _ ⟨t, l2, .ref t1, rfl, upd_same, s4 _ _ u3, hq1.same sA⟩ ⟨small ?_ fun x hx => ?_, ?_, ok1⟩ (Nat.succ_le_succ dp1') (s1.trans sA)
        · rw [List.length_take]; exact Nat.le_trans (Nat.min_le_right _ _) (by show 2 ≤ 50; decide)
        · have := List.mem_of_mem_take hx
          exact (show x = j ∨ x = i by simpa using this).symm
        · rw [List.length_take]; exact Nat.le_trans (Nat.min_le_right _ _) (by show 2 ≤ 10; decide)
      -- group
      refine ⟨_, rfl, _, _, rfl, rfl, pz, rfl, _, rfl, ite2 (fun _ => ?_) (fun n3 => ?_)⟩
      · refine ⟨_, rfl, by show 1 ≤ sizeLine; exact sm, fun l1 hl1 => ?_⟩
        have s2 : Same H1 (upd H1 l1 (.lst [.int j])) := (Same.refl H1).upd hl1
        have u2 : upd H1 l1 (.lst [.int j]) l1 = some (.lst (([j] : List Int).map V.int)) := upd_same
        generalize upd H1 l1 (.lst [.int j]) = H2 at s2 u2 ⊢
        refine ⟨_, rfl, _, _, rfl, rfl, pz, _, rfl, l1, _, rfl, SqL.of u2, fun l2 hl2 => ?_⟩
        have ec : cutV (([j] : List Int).map V.int) none (some (i % 2)) = (([j] : List Int).take m2).map V.int := by rw [em2]; exact cut_ints _ _
        rw [ec]
        have s3 : Same H2 (upd H2 l2 (.lst ((([j] : List Int).take m2).map V.int))) := (Same.refl H2).upd hl2
        have u3 : upd H2 l2 (.lst ((([j] : List Int).take m2).map V.int)) l2 = some (.lst ((([j] : List Int).take m2).map V.int)) := upd_same
        generalize upd H2 l2 (.lst ((([j] : List Int).take m2).map V.int)) = H3 at s3 u3 ⊢
        refine ⟨by show 1 ≤ sizeLine; exact sm, fun g1 hg1 => ?_⟩
        have s4 : Same H3 (upd H3 g1 (.tup [.str "count"])) := (Same.refl H3).upd hg1
        have u4 : upd H3 g1 (.tup [.str "count"]) g1 = some (.tup [.str "count"]) := upd_same
        generalize upd H3 g1 (.tup [.str "count"]) = H4 at s4 u4 ⊢
        refine ⟨_, rfl, by show 2 ≤ sizeLine; exact sm, fun g2 hg2 => ?_⟩
        have s5 : Same H4 (upd H4 g2 (.tup [.str "sum", .int i])) := (Same.refl H4).upd hg2
        have u5 : upd H4 g2 (.tup [.str "sum", .int i]) g2 = some (.tup [.str "sum", .int i]) := upd_same
        generalize upd H4 g2 (.tup [.str "sum", .int i]) = H5 at s5 u5 ⊢
        refine ⟨_, rfl, by show 2 ≤ sizeLine; exact sm, fun g3 hg3 => ?_⟩
        have s6 : Same H5 (upd H5 g3 (.tup [.str "least", .int j])) := (Same.refl H5).upd hg3
        have u6 : upd H5 g3 (.tup [.str "least", .int j]) g3 = some (.tup [.str "least", .int j]) := upd_same
        generalize upd H5 g3 (.tup [.str "least", .int j]) = H6 at s6 u6 ⊢
        refine ⟨by show 3 ≤ sizeLine; exact sm, fun m1 hm1 => ?_⟩
        have s7 : Same H6 (upd H6 m1 (.lst [.ref g1, .ref g2, .ref g3])) := (Same.refl H6).upd hm1
        have u7 : upd H6 m1 (.lst [.ref g1, .ref g2, .ref g3]) m1 = some (.lst [.ref g1, .ref g2, .ref g3]) := upd_same
        generalize upd H6 m1 (.lst [.ref g1, .ref g2, .ref g3]) = H7 at s7 u7 ⊢
        refine ⟨_, rfl, _, _, rfl, rfl, ⟨by decide, by decide⟩, _, _, rfl, rfl, pz, _, _, rfl, rfl, _, rfl, m1, _, rfl, SqL.of u7, fun m3 hm3 => ?_⟩
        obtain ⟨m4, em4, hm4⟩ : ∃ m4 : Nat, 1 + r / 9 % 3 = (m4 : Int) ∧ m4 ≤ 3 := ⟨(1 + r / 9 % 3).toNat, by omega, by omega⟩
        have ed2 : cutV [.ref g1, .ref g2, .ref g3] none (some (1 + r / 9 % 3)) = ([.ref g1, .ref g2, .ref g3] : List V).take m4 := by rw [em4]; exact cutN _ _
        rw [ed2]
        have s8 : Same H7 (upd H7 m3 (.lst (([.ref g1, .ref g2, .ref g3] : List V).take m4))) := (Same.refl H7).upd hm3
        have u8 : upd H7 m3 (.lst (([.ref g1, .ref g2, .ref g3] : List V).take m4)) m3 = some (.lst (([.ref g1, .ref g2, .ref g3] : List V).take m4)) := upd_same
        generalize upd H7 m3 (.lst (([.ref g1, .ref g2, .ref g3] : List V).take m4)) = H8 at s8 u8 ⊢
        refine ⟨_, rfl, by show 4 ≤ sizeLine; exact sm, fun t ht => ?_⟩
        have s9 : Same H8 (upd H8 t (.tup [.str "group", .ref l2, .ref m3, .ref t1])) := (Same.refl H8).upd ht
        have s59 := s7.trans (s8.trans s9)
        have s49 := s6.trans s59
        have s39 := s5.trans s49
        have s29 := s4.trans s39
        have sA := s2.trans (s3.trans s29)
        have pg : Paired (AgAt (upd H8 t (.tup [.str "group", .ref l2, .ref m3, .ref t1]))) [.ref g1, .ref g2, .ref g3] [.count, .sum i, .least j] :=
          .cons ⟨g1, rfl, s39 _ _ u4⟩ (.cons ⟨g2, rfl, s49 _ _ u5⟩ (.cons ⟨g3, rfl, s59 _ _ u6⟩ .nil))
        have pt : Paired (AgAt (upd H8 t (.tup [.str "group", .ref l2, .ref m3, .ref t1]))) (([.ref g1, .ref g2, .ref g3] : List V).take m4) (([.count, .sum i, .least j] : List Ag).take m4) := by
          rcases m4 with _ | _ | _ | _ | m4
          · exact .nil
          · cases pg with | cons a _ => exact .cons a .nil
          · cases pg with | cons a t => cases t with | cons b _ => exact .cons a (.cons b .nil)
          · exact pg
          · omega
        have lg : (([.count, .sum i, .least j] : List Ag).take m4).length ≤ 3 := by rw [List.length_take]; exact Nat.min_le_right _ _
        have lj : (([j] : List Int).take m2).length ≤ 1 := by rw [List.length_take]; exact Nat.min_le_right _ _
        refine fin t (.group (([j] : List Int).take m2) (([.count, .sum i, .least j] : List Ag).take m4) q1) _ ⟨t, l2, m3, _, .ref t1, rfl, upd_same, s29 _ _ u3, s9 _ _ u8, pt, hq1.same sA⟩ ⟨small ?_ fun x hx => ?_, by omega, by omega, ok1⟩ (Nat.succ_le_succ dp1') (s1.trans sA)
        · have h1 := List.length_filterMap_le Ag.col (([.count, .sum i, .least j] : List Ag).take m4)
          rw [List.length_append]; omega
        · rcases List.mem_append.mp hx with z | z
          · exact .inr (by simpa using List.mem_of_mem_take z)
          · obtain ⟨g, hg, eg⟩ := List.mem_filterMap.mp z
            have hg' := List.mem_of_mem_take hg
            simp only [List.mem_cons, List.not_mem_nil, or_false] at hg'
            rcases hg' with rfl | rfl | rfl
            · cases eg
            · cases eg; exact .inl rfl
            · cases eg; exact .inr rfl
      -- two
      refine ⟨by show 4 ≤ sizeLine; exact sm, fun l1 hl1 => ?_⟩
      have s2 : Same H1 (upd H1 l1 (.lst [.str "join", .str "union", .str "common", .str "less"])) := (Same.refl H1).upd hl1
      have u2 : upd H1 l1 (.lst [.str "join", .str "union", .str "common", .str "less"]) l1 = some (.lst [.str "join", .str "union", .str "common", .str "less"]) := upd_same
      generalize upd H1 l1 (.lst [.str "join", .str "union", .str "common", .str "less"]) = H2 at s2 u2 ⊢
      refine ⟨_, rfl, _, _, rfl, rfl, pz, _, _, rfl, rfl, ?_⟩
      have r8 : 4 ≤ r % 8 ∧ r % 8 < 8 := by
        have q0 : ¬ (r % 8 = 0) := fun e => n8 (decide_eq_true (congrArg V.int e))
        have q1 : ¬ (r % 8 = 1) := fun e => n1 (decide_eq_true (congrArg V.int e))
        have q2 : ¬ (r % 8 = 2) := fun e => n2 (decide_eq_true (congrArg V.int e))
        have q3 : ¬ (r % 8 = 3) := fun e => n3 (decide_eq_true (congrArg V.int e))
        omega
      obtain ⟨o, eo⟩ : ∃ o : Op2, atI [V.str "join", V.str "union", V.str "common", V.str "less"] (r % 8 - 4) = some (V.str o.nm) := by
        have : r % 8 - 4 = ((0 : Nat) : Int) ∨ r % 8 - 4 = ((1 : Nat) : Int) ∨ r % 8 - 4 = ((2 : Nat) : Int) ∨ r % 8 - 4 = ((3 : Nat) : Int) := by omega
        rcases this with e | e | e | e <;> rw [e]
        · exact ⟨.join, rfl⟩
        · exact ⟨.union, rfl⟩
        · exact ⟨.common, rfl⟩
        · exact ⟨.less, rfl⟩
      refine ⟨l1, _, _, _, rfl, rfl, SqL.of u2, eo, ?_⟩
      refine ⟨_, rfl, _, rfl, _, rfl, _, rfl, _, _, rfl, rfl, .inl ⟨by decide, by decide⟩, _, _, rfl, rfl, _, rfl, _, _, rfl, rfl, _, rfl, c, 2 * k + 2, d, a, ys, by show [V.int c, V.int (2 * k + 2), V.int (((d + 1 : Nat) : Int) - 1), V.ref a] ++ [] = _; rw [ed]; rfl, by omega, by omega, by omega, kb2.2, s2 _ _ ha1, ly, shy, fun t2 q2 H3 hq2 ok2 dp2 s3 => ?_⟩
      refine ⟨by show 3 ≤ sizeLine; exact sm, fun t ht => ?_⟩
      have s4 : Same H3 (upd H3 t (.tup [.str o.nm, .ref t1, .ref t2])) := (Same.refl H3).upd ht
      have sA := s2.trans (s3.trans s4)
      exact fin t (.two o q1 q2) _ ⟨t, .ref t1, .ref t2, rfl, upd_same, hq1.same sA, hq2.same s4⟩ ⟨ok1, ok2⟩ (Nat.succ_le_succ (Nat.max_le.mpr ⟨dp1', dp2⟩)) (s1.trans sA)
end
end Prf

set_option maxHeartbeats 4000000
namespace L2
open PySem PySem.Spec PyProof.Rows
theorem e_inQ {X : Cx} {a b : Expr} {ta tb : TE} {pos : Pos} (ha : JE X a ta) (hb : JE X b tb) (hm : ∀ r, behindInMarks .In b = r → r = false := by intro _ h; exact h ▸ rfl) : JE X (.Compare a [.In] [b] pos) (tOp (rIn X.K false) ta tb) := ⟨pe_cmpR op_in_seq ha.h hb.h (hm _ rfl)⟩
end L2
namespace Prf
open PySem L2 Wr
section
variable {P : Program} {w : World} {K : PySem.W.Frag} {mg : Str → Option Value} {base : Heap}
def sp__law_asked (n : Nat) : Sp := sp_condition_columns n
theorem sc__law_asked : FnScope ["_law_condition"] ["_law_condition"] (defScope st__law_asked) := ⟨rfl, rfl, rfl, by decide +kernel, rfl, by decide +kernel, by decide +kernel⟩
theorem ok__law_asked {f : Addr} {fd : FuncData} (F : Fun K "_law_asked" "_law_asked" st__law_asked f fd) (hm : mg "_law_asked" = some (.ref f)) (hk : PySem.W.keepIn K (.ref f) = true) (hb : Binds K fd ["_law_condition"] []) : ∀ n, FnOk P w K mg base CX0 n f fd ["_law_condition"] (sp__law_asked n)
  | 0 => FnOk.none fun _ _ _ _ ⟨_, _, _, _, h, _⟩ => absurd h (Nat.not_lt_zero _)
  | n + 1 => by
    have FC : FnP P w K mg base n "_law_asked" ["_law_condition"] (sp__law_asked n) := ⟨f, fd, ok__law_asked F hm hk hb n, hm, hk, hb⟩
    refine F.okJ sc__law_asked (fun vs H Q E h => ?_) (fun cdv A outer s H vs Q E hr h => ?_)
    · obtain ⟨_, _, rfl, _⟩ := h
      rfl
    · obtain ⟨v, c, rfl, hc, dp, n3, k⟩ := h
      have nd := sc__law_asked.nd
      refine ⟨_, (b_cons (s_if (t_cmp o_eq (e_ix x_tup (e_v 0) e_i) e_s) (b_one (s_ret (e_fn FC hr (a1 (e_ix x_tup (e_v 0) e_i)) (Nat.le_refl _)))) b_nil)
        (b_cons (s_if (t_cmp o_eq (e_ix x_tup (e_v 0) e_i) e_s) (b_one (s_ret (e_op o_cat (e_fn FC hr (a1 (e_ix x_tup (e_v 0) e_i)) (Nat.le_refl _)) (e_fn FC hr (a1 (e_ix x_tup (e_v 0) e_i)) (Nat.le_refl _))))) b_nil)
        (b_cons (s_if (JW.jt (w_or (t_cmp o_eq (e_ix x_tup (e_v 0) e_i) e_s) (w_or1 (t_cmp o_eq (e_ix x_tup (e_v 0) e_i) e_s)))) (b_one (s_ret (e_lst (a1 (e_ix x_tup (e_v 0) e_i))))) b_nil)
        (b_one (s_ret (e_lst (ac (e_ix x_tup (e_v 0) e_i) (a1 (e_ix x_tup (e_v 0) e_i))))))))), ?_⟩
      cases c with
      | same i j =>
        obtain ⟨t, rfl, ht⟩ := hc
        have g : ∀ {R : Prop}, R → R := fun h => h
        refine ⟨_, rfl, t, _, 0, _, rfl, rfl, SqT.of ht, rfl, rfl, _, rfl, iteSF (by decide +kernel) ?_⟩
        refine ⟨_, rfl, t, _, 0, _, rfl, rfl, SqT.of ht, rfl, rfl, _, rfl, iteSF (by decide +kernel) ?_⟩
        refine ⟨_, rfl, t, _, 0, _, rfl, rfl, SqT.of ht, rfl, rfl, _, rfl, iteSF (by decide +kernel) ?_⟩
        refine ⟨_, rfl, t, _, 0, _, rfl, rfl, SqT.of ht, rfl, rfl, _, rfl, iteSF (by decide +kernel) ?_⟩
        exact ⟨_, rfl, t, _, 1, _, rfl, rfl, SqT.of ht, rfl, _, rfl, t, _, 2, _, rfl, rfl, SqT.of ht, rfl, by show 2 ≤ sizeLine; exact sm, fun p hp => k p _ ((Same.refl H).upd hp) upd_same⟩
      | less i j =>
        obtain ⟨t, rfl, ht⟩ := hc
        refine ⟨_, rfl, t, _, 0, _, rfl, rfl, SqT.of ht, rfl, rfl, _, rfl, iteSF (by decide +kernel) ?_⟩
        refine ⟨_, rfl, t, _, 0, _, rfl, rfl, SqT.of ht, rfl, rfl, _, rfl, iteSF (by decide +kernel) ?_⟩
        refine ⟨_, rfl, t, _, 0, _, rfl, rfl, SqT.of ht, rfl, rfl, _, rfl, iteSF (by decide +kernel) ?_⟩
        refine ⟨_, rfl, t, _, 0, _, rfl, rfl, SqT.of ht, rfl, rfl, _, rfl, iteSF (by decide +kernel) ?_⟩
        exact ⟨_, rfl, t, _, 1, _, rfl, rfl, SqT.of ht, rfl, _, rfl, t, _, 2, _, rfl, rfl, SqT.of ht, rfl, by show 2 ≤ sizeLine; exact sm, fun p hp => k p _ ((Same.refl H).upd hp) upd_same⟩
      | isv i m =>
        obtain ⟨t, rfl, ht⟩ := hc
        refine ⟨_, rfl, t, _, 0, _, rfl, rfl, SqT.of ht, rfl, rfl, _, rfl, iteSF (by decide +kernel) ?_⟩
        refine ⟨_, rfl, t, _, 0, _, rfl, rfl, SqT.of ht, rfl, rfl, _, rfl, iteSF (by decide +kernel) ?_⟩
        refine ⟨_, rfl, t, _, 0, _, rfl, rfl, SqT.of ht, rfl, rfl, _, rfl, iteSS ?_⟩
        exact ⟨_, rfl, t, _, 1, _, rfl, rfl, SqT.of ht, rfl, by show 1 ≤ sizeLine; exact sm, fun p hp => k p _ ((Same.refl H).upd hp) upd_same⟩
      | undr i m =>
        obtain ⟨t, rfl, ht⟩ := hc
        refine ⟨_, rfl, t, _, 0, _, rfl, rfl, SqT.of ht, rfl, rfl, _, rfl, iteSF (by decide +kernel) ?_⟩
        refine ⟨_, rfl, t, _, 0, _, rfl, rfl, SqT.of ht, rfl, rfl, _, rfl, iteSF (by decide +kernel) ?_⟩
        refine ⟨_, rfl, t, _, 0, _, rfl, rfl, SqT.of ht, rfl, rfl, _, rfl, iteSF (by decide +kernel) ?_⟩
        refine ⟨_, rfl, t, _, 0, _, rfl, rfl, SqT.of ht, rfl, rfl, _, rfl, iteSS ?_⟩
        exact ⟨_, rfl, t, _, 1, _, rfl, rfl, SqT.of ht, rfl, by show 1 ≤ sizeLine; exact sm, fun p hp => k p _ ((Same.refl H).upd hp) upd_same⟩
      | neg a =>
        obtain ⟨t, va, rfl, ht, ha⟩ := hc
        refine ⟨_, rfl, t, _, 0, _, rfl, rfl, SqT.of ht, rfl, rfl, _, rfl, iteSS ?_⟩
        exact ⟨_, rfl, t, _, 1, _, rfl, rfl, SqT.of ht, rfl, va, a, rfl, ha, Nat.lt_of_succ_lt_succ dp, by omega, k⟩
      | either a b =>
        obtain ⟨t, va, vb, rfl, ht, ha, hb'⟩ := hc
        refine ⟨_, rfl, t, _, 0, _, rfl, rfl, SqT.of ht, rfl, rfl, _, rfl, iteSF (by decide +kernel) ?_⟩
        refine ⟨_, rfl, t, _, 0, _, rfl, rfl, SqT.of ht, rfl, rfl, _, rfl, iteSS ?_⟩
        have dp' : max a.deep b.deep < n := Nat.lt_of_succ_lt_succ dp
        have da : a.deep < n := Nat.lt_of_le_of_lt (Nat.le_max_left _ _) dp'
        have db : b.deep < n := Nat.lt_of_le_of_lt (Nat.le_max_right _ _) dp'
        refine ⟨_, rfl, t, _, 1, _, rfl, rfl, SqT.of ht, rfl, va, a, rfl, ha, da, by omega, fun p H2 s2 hp => ?_⟩
        refine ⟨_, rfl, t, _, 2, _, rfl, rfl, SqT.of (s2 _ _ ht), rfl, vb, b, rfl, hb'.same s2, db, by omega, fun q H3 s3 hq => ?_⟩
        have la := CI.cols_len a
        have lb := CI.cols_len b
        have pa : 2 ^ a.deep ≤ 2 ^ 3 := Nat.pow_le_pow_right (by decide) (by omega)
        have pb : 2 ^ b.deep ≤ 2 ^ 3 := Nat.pow_le_pow_right (by decide) (by omega)
        refine ⟨p, q, _, _, rfl, rfl, s3 _ _ hp, hq, by rw [List.length_map, List.length_map]; exact sm (by omega), fun r hr' => ?_⟩
        refine k r _ (s2.trans (s3.trans ((Same.refl H3).upd hr'))) ?_
        rw [upd_same, ← List.map_append]
        rfl
/-! ### what is due -/
def eword : Nat → Str
  | 1 => "unlike"
  | 2 => "table"
  | 3 => "column"
  | _ => "none"
def dueT : Sum Nat Int → List V
  | .inr n => [.str "width", .int n]
  | .inl k => [.str (eword k), .int 0]
theorem ci_tup {H : Hp} {v : V} {c : CI} (h : CIAt H v c) : ∃ t xs, v = .ref t ∧ H t = some (.tup xs) := by
  cases c with
  | same i j => obtain ⟨t, e, h⟩ := h; exact ⟨t, _, e, h⟩
  | isv i j => obtain ⟨t, e, h⟩ := h; exact ⟨t, _, e, h⟩
  | less i j => obtain ⟨t, e, h⟩ := h; exact ⟨t, _, e, h⟩
  | undr i j => obtain ⟨t, e, h⟩ := h; exact ⟨t, _, e, h⟩
  | neg a => obtain ⟨t, _, e, h, _⟩ := h; exact ⟨t, _, e, h⟩
  | either a b => obtain ⟨t, _, _, e, h, _⟩ := h; exact ⟨t, _, e, h⟩
def sp__law_due_of_one : Sp := fun vs H Q _ => ∃ (v : V) (q : Qn) (m : Int), vs = [v, .int m] ∧ QAt H v q ∧ q.one = true ∧ q.ok ∧ ∀ (t : Addr) (H' : Hp), Same H H' → H' t = some (.tup (dueT (over q [m]))) → Q (.ref t) H'
theorem sc__law_due_of_one : FnScope ["_law_question", "_law_size", "_law_columns", "_law_told", "_law_column"] ["_law_question", "_law_size"] (defScope st__law_due_of_one) := ⟨rfl, rfl, rfl, by decide +kernel, rfl, by decide +kernel, by decide +kernel⟩
theorem ok__law_due_of_one {f : Addr} {fd : FuncData} (F : Fun K "_law_due_of_one" "_law_due_of_one" st__law_due_of_one f fd) (B : Blts mg) (FA : FnP P w K mg base 3 "_law_asked" ["_law_condition"] (sp__law_asked 3)) : FnOk P w K mg base CX0 4 f fd ["_law_question", "_law_size"] sp__law_due_of_one := by
  refine F.okJ sc__law_due_of_one (fun vs H Q E h => ?_) (fun cdv A outer s H vs Q E hr h => ?_)
  · obtain ⟨_, _, _, rfl, _⟩ := h
    rfl
  · obtain ⟨v, q, m, rfl, hq, ho, ok, k⟩ := h
    have nd := sc__law_due_of_one.nd
    have nd1 : (["_law_one"] : List Str).Nodup := by decide +kernel
    refine ⟨_, (b_cons (s_set 2 nd (e_ix x_tup (e_v 0) e_i))
      (b_cons (s_set 3 nd (e_cb c_len B.len PySem.boot_len (a1 (e_v 2))))
      (b_cons (s_if (t_cmp o_eq (e_ix x_tup (e_v 0) e_i) e_s) (b_cons (s_set 2 nd (e_fn FA hr (a1 (e_ix x_tup (e_v 0) e_i))))
        (b_one (s_set 3 nd (e_v 1)))) b_nil)
      (b_cons (s_if (t_cmp o_eq (e_ix x_tup (e_v 0) e_i) e_s) (b_cons (s_set 3 nd (e_op o_add (e_v 3) (e_cb c_len B.len PySem.boot_len (a1 (e_ix x_tup (e_v 0) e_i)))))
        (b_one (s_set 2 nd (e_op o_cat (e_v 2) (e_comp (Nc := ["_law_one"]) (js := [none]) (g := (gName 0)) (tt := (tTest (tOp (rI0 fun i j => .bl (decide (j < i))) (tCB (fun xs H Q => ∃ p ys, xs = [.ref p] ∧ (SqL K H p ys ∨ SqT K H p ys) ∧ Q (.int ys.length) H) (tCons (tVar 0) tNil)) (tC (.int 1))))) (te := (tOp (rIxT K) (tVar 0) (tC (.int 1))))
      (comp_mk rfl rfl rfl rfl (fun x c h => by cases h) rfl rfl rfl) (i_list (e_ix x_tup (e_v 0) e_i))
      (fun pins C s3 H3 fp => ⟨(g_n 0 nd1), .inr ⟨_, rfl, (t_cmp o_gt (e_cb c_len B.len PySem.boot_len (a1 (e_v 0))) e_i)⟩, (e_ix x_tup (e_v 0) e_i)⟩)))))) b_nil)
      (b_cons (s_for (i_list (e_v 2)) (g_n 4 nd)
        (b_one (s_if (JW.jt (w_or (t_cmp o_lt (e_v 4) e_i) (w_or1 (t_cmp o_ge (e_v 4) (e_v 1))))) (b_one (s_ret (e_tup (ac e_s (a1 e_i))))) b_nil)))
      (b_one (s_ret (e_tup (ac e_s (a1 (e_v 3))))))))))), ?_⟩
    have rest : ∀ (v : V) (l : Addr) (cs : List Int) (tl : Int) (H1 : Hp) (D : Ends), Same H H1 → H1 l = some (.lst (cs.map V.int)) → D.rt = Q → over q [m] = (if colsOk cs m = true then .inr tl else .inl 3) →
        tSeq (tFor (iList K (tVar 2)) (gName 4) (tIfS (tOr (tTest (tOp (rI0 fun i j => .bl (decide (i < j))) (tVar 4) (tC (.int 0)))) (tTest (tOp (rI0 fun i j => .bl (decide (j ≤ i))) (tVar 4) (tVar 1)))) (tRet (tTup (tCons (tC (.str "column")) (tCons (tC (.int 0)) tNil)))) tNext)) (tRet (tTup (tCons (tC (.str "width")) (tCons (tVar 3) tNil)))) D [some v, some (.int m), some (.ref l), some (.int tl), none] H1 := by
      rintro v l cs tl H1 D s1 hl rfl eo
      have bad : ∀ (c : Int), c ∈ cs → ¬ (0 ≤ c ∧ c < m) → over q [m] = .inl 3 := fun c hc hb => by
        rw [eo, if_neg]
        intro h
        unfold colsOk at h
        have := List.all_eq_true.mp h c hc
        rw [Bool.and_eq_true] at this
        exact hb ⟨of_decide_eq_true this.1, of_decide_eq_true this.2⟩
      refine ⟨_, rfl, l, rfl, ⟨_, SqL.of hl⟩, for_list (K := K) (a := l) (xs := cs.map V.int) (fun i σ H' => ∃ o4, σ = [some v, some (.int m), some (.ref l), some (.int tl), o4] ∧ H' = H1 ∧ ∀ c ∈ cs.take i, 0 ≤ c ∧ c < m)
        ⟨none, rfl, rfl, fun c h => nomatch h⟩ (fun i σ H' _ ⟨_, _, e, _⟩ => by rw [e]; exact SqL.of hl) ?_ ?_⟩
      · rintro i x σ H' hx ⟨o4, rfl, rfl, al⟩
        obtain ⟨c, ec, rfl⟩ := map_at hx
        have mc := List.mem_of_getElem? ec
        have out : ¬ (0 ≤ c ∧ c < m) → 2 ≤ sizeLine ∧ ∀ p, H' p = none → D.rt (.ref p) (upd H' p (.tup [.str "column", .int 0])) := fun hb => ⟨sm, fun p hp => k p _ (s1.trans ((Same.refl H').upd hp)) (by rw [upd_same, bad c mc hb]; rfl)⟩
        refine ⟨_, rfl, _, _, rfl, rfl, _, rfl, ite2 (fun y => out fun z => ?_) (fun y => ?_)⟩
        · have := of_decide_eq_true y; omega
        refine ⟨_, rfl, _, rfl, _, _, rfl, rfl, _, rfl, ite2 (fun y2 => out fun z => ?_) (fun y2 => ?_)⟩
        · have := of_decide_eq_true y2; omega
        refine ⟨_, rfl, rfl, fun d hd => ?_⟩
        rw [take_snoc ec] at hd
        rcases List.mem_append.mp hd with q | q
        · exact al d q
        · rw [List.mem_singleton.mp q]
          have h1 : ¬ (c < 0) := fun z => y (decide_eq_true z)
          have h2 : ¬ (m ≤ c) := fun z => y2 (decide_eq_true z)
          omega
      · rintro σ H' ⟨o4, rfl, rfl, al⟩
        rw [List.length_map, List.take_length] at al
        have good : colsOk cs m = true := by
          unfold colsOk
          rw [List.all_eq_true]
          intro c hc'
          have := al c hc'
          rw [decide_eq_true this.1, decide_eq_true this.2]
          rfl
        refine ⟨_, rfl, by show 2 ≤ sizeLine; exact sm, fun p hp => k p _ (s1.trans ((Same.refl H').upd hp)) ?_⟩
        rw [upd_same, eo, if_pos good]
        rfl
    cases q with
    | table z => cases ho
    | two o a b => cases ho
    | pick c q =>
      obtain ⟨t, vc, vq, rfl, ht, hc, hq⟩ := hq
      obtain ⟨u, xs, rfl, hu⟩ := ci_tup hc
      refine ⟨_, rfl, t, _, 1, _, rfl, rfl, SqT.of ht, rfl, ?_⟩
      refine ⟨_, rfl, u, _, rfl, .inr (SqT.of hu), ?_⟩
      refine ⟨_, rfl, t, _, 0, _, rfl, rfl, SqT.of ht, rfl, rfl, _, rfl, iteSS ?_⟩
      refine ⟨_, rfl, t, _, 1, _, rfl, rfl, SqT.of ht, rfl, .ref u, c, rfl, hc, Nat.lt_succ_of_le ok.1, by decide, fun l H1 s1 hl => ?_⟩
      refine ⟨_, rfl, ?_⟩
      refine ⟨_, rfl, t, _, 0, _, rfl, rfl, SqT.of (s1 _ _ ht), rfl, rfl, _, rfl, iteSF (by decide +kernel) ?_⟩
      exact rest _ l c.cols m H1 _ s1 hl rfl rfl
    | columns cs q =>
      obtain ⟨t, l, vq, rfl, ht, hl, hq⟩ := hq
      refine ⟨_, rfl, t, _, 1, _, rfl, rfl, SqT.of ht, rfl, ?_⟩
      refine ⟨_, rfl, l, _, rfl, .inl (SqL.of hl), ?_⟩
      refine ⟨_, rfl, t, _, 0, _, rfl, rfl, SqT.of ht, rfl, rfl, _, rfl, iteSF (by decide +kernel) ?_⟩
      refine ⟨_, rfl, t, _, 0, _, rfl, rfl, SqT.of ht, rfl, rfl, _, rfl, iteSF (by decide +kernel) ?_⟩
      exact rest _ l cs _ H _ (Same.refl H) hl rfl (by rw [List.length_map]; rfl)
    | group cs ag q =>
      obtain ⟨t, l, mm, ms, vq, rfl, ht, hl, hm, pm, hq⟩ := hq
      refine ⟨_, rfl, t, _, 1, _, rfl, rfl, SqT.of ht, rfl, ?_⟩
      refine ⟨_, rfl, l, _, rfl, .inl (SqL.of hl), ?_⟩
      refine ⟨_, rfl, t, _, 0, _, rfl, rfl, SqT.of ht, rfl, rfl, _, rfl, iteSF (by decide +kernel) ?_⟩
      refine ⟨_, rfl, t, _, 0, _, rfl, rfl, SqT.of ht, rfl, rfl, _, rfl, iteSS ?_⟩
      refine ⟨_, rfl, _, rfl, t, _, 2, _, rfl, rfl, SqT.of ht, rfl, mm, _, rfl, .inl (SqL.of hm), _, _, rfl, rfl, ?_⟩
      refine ⟨_, rfl, _, rfl, t, _, 2, _, rfl, rfl, SqT.of ht, rfl, mm, rfl, ⟨_, SqL.of hm⟩, fun D hD => ?_⟩
      have lm := Paired.length pm
      have l10 := ok.2.2.1
      have l11 := ok.2.1
      have lf : ∀ j, ((ag.take j).filterMap Ag.col).length ≤ 10 := fun j => by
        have h1 := List.length_filterMap_le Ag.col (ag.take j)
        rw [List.length_take] at h1
        omega
      refine comp_list (K := K) (a := mm) (xs := ms) (fun j _ σ H2 => ∃ (o : Option V), σ = [o] ∧ Same H H2 ∧ H2 D = some (.lst (((ag.take j).filterMap Ag.col).map V.int)))
        ⟨none, rfl, (Same.refl H).upd hD, upd_same⟩ (fun j _ σ H2 _ ⟨_, _, s2, _⟩ => SqL.of (s2 _ _ hm)) ?_ ?_
      · rintro j x _ σ H2 hx ⟨o, rfl, s2, h2⟩
        obtain ⟨g, eg, hg⟩ := paired_at pm hx
        have keep : g.col = none → ((ag.take (j + 1)).filterMap Ag.col) = ((ag.take j).filterMap Ag.col) := fun e => by
          rw [take_snoc eg, List.filterMap_append, List.filterMap_cons, e, List.filterMap_nil, List.append_nil]
        have more : ∀ i, g.col = some i → ((ag.take (j + 1)).filterMap Ag.col) = ((ag.take j).filterMap Ag.col) ++ [i] := fun i e => by
          rw [take_snoc eg, List.filterMap_append, List.filterMap_cons, e, List.filterMap_nil]
        cases g with
        | count =>
          obtain ⟨u, rfl, hu⟩ := hg
          refine ⟨_, rfl, u, _, rfl, .inr (SqT.of (s2 _ _ hu)), _, _, rfl, rfl, _, rfl, ?_⟩
          refine iteF ⟨[], _, rfl, s2, ?_⟩
          rw [keep rfl]; exact h2
        | sum i =>
          obtain ⟨u, rfl, hu⟩ := hg
          refine ⟨_, rfl, u, _, rfl, .inr (SqT.of (s2 _ _ hu)), _, _, rfl, rfl, _, rfl, ?_⟩
          refine iteT ⟨_, rfl, u, _, 1, _, rfl, rfl, SqT.of (s2 _ _ hu), rfl, _, h2, small1000 (by rw [List.length_map]; have := lf j; omega), [], _, rfl, s2.upd hD, ?_⟩
          rw [upd_same, more i rfl, List.map_append]; rfl
        | least i =>
          obtain ⟨u, rfl, hu⟩ := hg
          refine ⟨_, rfl, u, _, rfl, .inr (SqT.of (s2 _ _ hu)), _, _, rfl, rfl, _, rfl, ?_⟩
          refine iteT ⟨_, rfl, u, _, 1, _, rfl, rfl, SqT.of (s2 _ _ hu), rfl, _, h2, small1000 (by rw [List.length_map]; have := lf j; omega), [], _, rfl, s2.upd hD, ?_⟩
          rw [upd_same, more i rfl, List.map_append]; rfl
      · rintro _ σ H2 ⟨o, rfl, s2, h2⟩
        rw [lm, List.take_length] at h2
        have lf2 : (ag.filterMap Ag.col).length ≤ 10 := by
          have h1 := List.length_filterMap_le Ag.col ag
          omega
        refine ⟨l, D, _, _, rfl, rfl, s2 _ _ hl, h2, by rw [List.length_map, List.length_map]; exact sm (by omega), fun p hp => ?_⟩
        rw [← List.map_append]
        exact rest _ p (cs ++ ag.filterMap Ag.col) _ _ _ (s2.trans ((Same.refl H2).upd hp)) upd_same rfl (by rw [List.length_map, lm]; rfl)
end
end Prf

set_option maxHeartbeats 4000000
namespace Prf
open PySem L2 Wr
section
variable {K : PySem.W.Frag} {A B : TS} {D : Ends} {σ : St} {H : Hp} {i : Nat} {x a b c d : Str} {t : Addr} {xs : List V}
theorem hd0 : atI (V.str x :: xs) 0 = some (V.str x) := atI_nat (j := 0) (show (V.str x :: xs)[0]? = some (V.str x) from rfl)
/-- t[0] in ['a', 'b', 'c'] -/
theorem inL3 (hx : σ[i]? = some (some (.ref t))) (ht : H t = some (.tup (.str x :: xs))) (h1 : (a == x || b == x || c == x) = true → ∀ H', Same H H' → A D σ H') (h2 : (a == x || b == x || c == x) = false → ∀ H', Same H H' → B D σ H') :
    tIfS (tTest (tOp (rIn K false) (tOp (rIxT K) (tVar i) (tC (.int 0))) (tLst (tCons (tC (.str a)) (tCons (tC (.str b)) (tCons (tC (.str c)) tNil)))))) A B D σ H := by
  refine ⟨_, hx, t, _, 0, _, rfl, rfl, SqT.of ht, hd0, by show 3 ≤ sizeLine; exact sm, fun u hu => ?_⟩
  have s1 : Same H (upd H u (.lst [.str a, .str b, .str c])) := (Same.refl H).upd hu
  have u1 : upd H u (.lst [.str a, .str b, .str c]) u = some (.lst (([a, b, c] : List Str).map V.str)) := upd_same
  generalize upd H u (.lst [.str a, .str b, .str c]) = H1 at s1 u1 ⊢
  refine ⟨u, _, rfl, .inl (SqL.of u1), rfl, strs_flat _, _, rfl, ?_⟩
  have e : (if false = true then !inV (V.str x) (([a, b, c] : List Str).map V.str) else inV (V.str x) (([a, b, c] : List Str).map V.str)) = (a == x || b == x || c == x) := by
    show ((a == x) || ((b == x) || ((c == x) || false))) = _
    rw [Bool.or_false, Bool.or_assoc]
  rw [e]
  cases q : (a == x || b == x || c == x) with
  | true => exact iteT (h1 q H1 s1)
  | false => exact iteF (h2 q H1 s1)
/-- t[len(t) - 1 - int(t[0] in [..])] -/
theorem ixL4 {Q : VK} {v : V} (hx : σ[i]? = some (some (.ref t))) (ht : H t = some (.tup (.str x :: xs))) (hv : (.str x :: xs : List V)[(.str x :: xs : List V).length - 1 - (if (a == x || b == x || c == x || d == x) = true then 1 else 0)]? = some v) (hl : 2 ≤ (.str x :: xs : List V).length) (h : ∀ H', Same H H' → Q v H') :
    tOp (rIxT K) (tVar i) (tOp (rI0 fun i j => .int (i - j)) (tOp (rI0 fun i j => .int (i - j)) (tCB (fun xs H Q => ∃ p ys, xs = [.ref p] ∧ (SqL K H p ys ∨ SqT K H p ys) ∧ Q (.int ys.length) H) (tCons (tVar i) tNil)) (tC (.int 1))) (tCB (fun xs H Q => ∃ b : Bool, xs = [.bl b] ∧ Q (.int (if b then 1 else 0)) H) (tCons (tOp (rIn K false) (tOp (rIxT K) (tVar i) (tC (.int 0))) (tLst (tCons (tC (.str a)) (tCons (tC (.str b)) (tCons (tC (.str c)) (tCons (tC (.str d)) tNil)))))) tNil))) σ H Q := by
  refine ⟨_, hx, _, hx, t, _, rfl, .inr (SqT.of ht), _, _, rfl, rfl, _, hx, t, _, 0, _, rfl, rfl, SqT.of ht, hd0, by show 4 ≤ sizeLine; exact sm, fun u hu => ?_⟩
  have s1 : Same H (upd H u (.lst [.str a, .str b, .str c, .str d])) := (Same.refl H).upd hu
  have u1 : upd H u (.lst [.str a, .str b, .str c, .str d]) u = some (.lst (([a, b, c, d] : List Str).map V.str)) := upd_same
  generalize upd H u (.lst [.str a, .str b, .str c, .str d]) = H1 at s1 u1 ⊢
  refine ⟨u, _, rfl, .inl (SqL.of u1), rfl, strs_flat _, _, rfl, _, _, rfl, rfl, ?_⟩
  have e : (if false = true then !inV (V.str x) (([a, b, c, d] : List Str).map V.str) else inV (V.str x) (([a, b, c, d] : List Str).map V.str)) = (a == x || b == x || c == x || d == x) := by
    show ((a == x) || ((b == x) || ((c == x) || ((d == x) || false)))) = _
    rw [Bool.or_false, Bool.or_assoc, Bool.or_assoc]
  rw [e]
  refine ⟨t, _, _, v, rfl, rfl, SqT.of (s1 _ _ ht), ?_, h H1 s1⟩
  generalize (.str x :: xs : List V) = ys at hv hl ⊢
  have ei : ((ys.length : Int) - 1 - if (a == x || b == x || c == x || d == x) = true then 1 else 0) = ((ys.length - 1 - (if (a == x || b == x || c == x || d == x) = true then 1 else 0) : Nat) : Int) := by split <;> omega
  show atI ys ((ys.length : Int) - 1 - if (a == x || b == x || c == x || d == x) = true then 1 else 0) = some v
  rw [ei]
  exact atI_nat hv
end
theorem eword_ne (k : Nat) : eword k ≠ "width" := by
  unfold eword
  split <;> decide +kernel
section
variable {P : Program} {w : World} {K : PySem.W.Frag} {mg : Str → Option Value} {base : Heap}
def sp__law_due (n : Nat) : Sp := fun vs H Q _ => ∃ (v : V) (dd : Addr) (q : Qn) (kvs : List (Key × V)) (W : Str → Option Int), vs = [v, .ref dd] ∧ QAt H v q ∧ q.ok ∧ q.deep < n ∧ H dd = some (.dK kvs) ∧ Wd kvs W ∧ ∀ (t : Addr) (H' : Hp), Same H H' → H' t = some (.tup (dueT (qw W q))) → Q (.ref t) H'
theorem sc__law_due : FnScope ["_law_question", "_law_widths", "_law_one", "_law_other"] ["_law_question", "_law_widths"] (defScope st__law_due) := ⟨rfl, rfl, rfl, by decide +kernel, rfl, by decide +kernel, by decide +kernel⟩
theorem ok__law_due {f : Addr} {fd : FuncData} (F : Fun K "_law_due" "_law_due" st__law_due f fd) (hm : mg "_law_due" = some (.ref f)) (hk : PySem.W.keepIn K (.ref f) = true) (hb : Binds K fd ["_law_question", "_law_widths"] []) (B : Blts mg) (FO : FnP P w K mg base 4 "_law_due_of_one" ["_law_question", "_law_size"] sp__law_due_of_one) : ∀ n, FnOk P w K mg base CX0 (n + 4) f fd ["_law_question", "_law_widths"] (sp__law_due n)
  | 0 => FnOk.none fun _ _ _ _ ⟨_, _, _, _, _, _, _, _, h, _⟩ => absurd h (Nat.not_lt_zero _)
  | n + 1 => by
    have FD : FnP P w K mg base (n + 4) "_law_due" ["_law_question", "_law_widths"] (sp__law_due n) := ⟨f, fd, ok__law_due F hm hk hb B FO n, hm, hk, hb⟩
    refine F.okJ (k := n + 4) sc__law_due (fun vs H Q E h => ?_) (fun cdv A outer s H vs Q E hr h => ?_)
    · obtain ⟨_, _, _, _, _, rfl, _⟩ := h
      rfl
    · obtain ⟨v, dd, q, kvs, W, rfl, hq, ok, dp, hd, wd, k⟩ := h
      have nd := sc__law_due.nd
      refine ⟨_, (b_cons (s_if (t_cmp o_eq (e_ix x_tup (e_v 0) e_i) e_s) (b_cons (s_if (t_dnotin hr (e_ix x_tup (e_v 0) e_i) (e_v 1)) (b_one (s_ret (e_tup (ac e_s (a1 e_i))))) b_nil)
        (b_one (s_ret (e_tup (ac e_s (a1 (e_dget hr (e_v 1) (e_ix x_tup (e_v 0) e_i)))))))) b_nil)
      (b_cons (s_set 2 nd (e_fn FD hr (ac (e_ix x_tup (e_v 0) (e_op o_sub (e_op o_sub (e_cb c_len B.len PySem.boot_len (a1 (e_v 0))) e_i) (e_ct c_intB B.int PyProof.Rows.boot_int (a1 (e_inQ (e_ix x_tup (e_v 0) e_i) (e_lst (ac e_s (ac e_s (ac e_s (a1 e_s)))))))))) (a1 (e_v 1))) (Nat.le_refl _)))
      (b_cons (s_if (t_cmp o_ne (e_ix x_tup (e_v 2) e_i) e_s) (b_one (s_ret (e_v 2))) b_nil)
      (b_cons (s_if (t_in (e_ix x_tup (e_v 0) e_i) (e_lst (ac e_s (ac e_s (a1 e_s))))) (b_one (s_ret (e_fn FO hr (ac (e_v 0) (a1 (e_ix x_tup (e_v 2) e_i))) (by omega)))) b_nil)
      (b_cons (s_set 3 nd (e_fn FD hr (ac (e_ix x_tup (e_v 0) e_i) (a1 (e_v 1))) (Nat.le_refl _)))
      (b_cons (s_if (t_cmp o_ne (e_ix x_tup (e_v 3) e_i) e_s) (b_one (s_ret (e_v 3))) b_nil)
      (b_cons (s_if (t_cmp o_eq (e_ix x_tup (e_v 0) e_i) e_s) (b_one (s_ret (e_tup (ac e_s (a1 (e_op o_add (e_ix x_tup (e_v 2) e_i) (e_ix x_tup (e_v 3) e_i))))))) b_nil)
      (b_cons (s_if (t_cmp o_ne (e_ix x_tup (e_v 2) e_i) (e_ix x_tup (e_v 3) e_i)) (b_one (s_ret (e_tup (ac e_s (a1 e_i))))) b_nil)
      (b_one (s_ret (e_v 2))))))))))), ?_⟩
      -- kinds with one part
      have one : ∀ (kd : Str) (t : Addr) (xs : List V) (vq : V) (q1 : Qn), H t = some (.tup (.str kd :: xs)) → (.str kd :: xs : List V)[(.str kd :: xs : List V).length - 1]? = some vq → 2 ≤ (.str kd :: xs : List V).length → QAt H (.ref t) q → QAt H vq q1 → q.parts = [q1] → q.one = true → ("join" == kd || "union" == kd || "common" == kd || "less" == kd) = false → ("pick" == kd || "columns" == kd || "group" == kd) = true → kd ≠ "table" → v = .ref t →
          tSeq (tIfS (tTest (tOp rEq (tOp (rIxT K) (tVar 0) (tC (.int 0))) (tC (.str "table")))) (tSeq (tIfS (tB (tDNotIn (tOp (rIxT K) (tVar 0) (tC (.int 1))) (tVar 1))) (tRet (tTup (tCons (tC (.str "table")) (tCons (tC (.int 0)) tNil)))) tNext) (tRet (tTup (tCons (tC (.str "width")) (tCons (tDGet (tVar 1) (tOp (rIxT K) (tVar 0) (tC (.int 1)))) tNil))))) tNext)
          (tSeq (tAsg (tCall (sp__law_due n) [] E0 (tCons (tOp (rIxT K) (tVar 0) (tOp (rI0 fun i j => .int (i - j)) (tOp (rI0 fun i j => .int (i - j)) (tCB (fun xs H Q => ∃ p ys, xs = [.ref p] ∧ (SqL K H p ys ∨ SqT K H p ys) ∧ Q (.int ys.length) H) (tCons (tVar 0) tNil)) (tC (.int 1))) (tCB (fun xs H Q => ∃ b : Bool, xs = [.bl b] ∧ Q (.int (if b then 1 else 0)) H) (tCons (tOp (rIn K false) (tOp (rIxT K) (tVar 0) (tC (.int 0))) (tLst (tCons (tC (.str "join")) (tCons (tC (.str "union")) (tCons (tC (.str "common")) (tCons (tC (.str "less")) tNil)))))) tNil)))) (tCons (tVar 1) tNil))) (gName 2))
          (tSeq (tIfS (tTest (tOp rNe (tOp (rIxT K) (tVar 2) (tC (.int 0))) (tC (.str "width")))) (tRet (tVar 2)) tNext)
          (tSeq (tIfS (tTest (tOp (rIn K false) (tOp (rIxT K) (tVar 0) (tC (.int 0))) (tLst (tCons (tC (.str "pick")) (tCons (tC (.str "columns")) (tCons (tC (.str "group")) tNil)))))) (tRet (tCall sp__law_due_of_one [] E0 (tCons (tVar 0) (tCons (tOp (rIxT K) (tVar 2) (tC (.int 1))) tNil)))) tNext)
          (tSeq (tAsg (tCall (sp__law_due n) [] E0 (tCons (tOp (rIxT K) (tVar 0) (tC (.int 2))) (tCons (tVar 1) tNil))) (gName 3)) (tSeq (tIfS (tTest (tOp rNe (tOp (rIxT K) (tVar 3) (tC (.int 0))) (tC (.str "width")))) (tRet (tVar 3)) tNext) (tSeq (tIfS (tTest (tOp rEq (tOp (rIxT K) (tVar 0) (tC (.int 0))) (tC (.str "join")))) (tRet (tTup (tCons (tC (.str "width")) (tCons (tOp (rI0 fun i j => .int (i + j)) (tOp (rIxT K) (tVar 2) (tC (.int 1))) (tOp (rIxT K) (tVar 3) (tC (.int 1)))) tNil)))) tNext) (tSeq (tIfS (tTest (tOp rNe (tOp (rIxT K) (tVar 2) (tC (.int 1))) (tOp (rIxT K) (tVar 3) (tC (.int 1))))) (tRet (tTup (tCons (tC (.str "unlike")) (tCons (tC (.int 0)) tNil)))) tNext) (tRet (tVar 2))))))))) { nx := fun _ H' => Q .non H', rt := Q } [some v, some (.ref dd), none, none] H := by
        intro kd t xs vq q1 ht hvq hl2 hqt hq1 ep ho kn ky ktab ev
        subst ev
        obtain ⟨o1, o2⟩ := parts_ok ok (r := q1) (by rw [ep]; exact List.mem_singleton.mpr rfl)
        refine ⟨_, rfl, t, _, 0, _, rfl, rfl, SqT.of ht, hd0, rfl, _, rfl, iteSF ktab ?_⟩
        refine ixL4 (x := kd) (xs := xs) rfl ht (v := vq) (by rw [kn]; exact hvq) hl2 fun H1 s1 => ?_
        refine ⟨_, rfl, vq, dd, q1, kvs, W, rfl, hq1.same s1, o1, by omega, s1 _ _ hd, wd, fun t1 H2 s2 h2 => ?_⟩
        have s12 := s1.trans s2
        cases e : qw W q1 with
        | inl kx =>
          rw [e] at h2
          refine ⟨_, rfl, t1, _, 0, _, rfl, rfl, SqT.of h2, rfl, rfl, _, rfl, iteND (eword_ne kx) ?_⟩
          refine ⟨_, rfl, k t1 H2 s12 ?_⟩
          rw [qw_fail (q := q) (r := q1) (ns := []) (i := 0) rfl (by rw [ep]; rfl) e]
          exact h2
        | inr m =>
          rw [e] at h2
          refine ⟨_, rfl, t1, _, 0, _, rfl, rfl, SqT.of h2, rfl, rfl, _, rfl, iteF ?_⟩
          refine inL3 (x := kd) (xs := xs) rfl (s12 _ _ ht) (fun _ H3 s3 => ?_) (fun z => by rw [ky] at z; cases z)
          have s13 := s12.trans s3
          refine ⟨_, rfl, _, rfl, t1, _, 1, _, rfl, rfl, SqT.of (s3 _ _ h2), rfl, .ref t, q, m, rfl, hqt.same s13, ho, ok, fun t4 H4 s4 h4 => k t4 H4 (s13.trans s4) ?_⟩
          rw [h4, qw_over (q := q) (ns := [m]) (by cases q <;> first | rfl | cases ho) (by rw [ep]; show [qw W q1] = _; rw [e]; rfl)]
      cases q with
      | table z =>
        obtain ⟨t, rfl, ht⟩ := hq
        have g := DGet.k (k := (Sum.inr z : Key)) hd
        rw [wd.val] at g
        refine ⟨_, rfl, t, _, 0, _, rfl, rfl, SqT.of ht, rfl, rfl, _, rfl, iteSS ?_⟩
        cases e : W z with
        | none =>
          rw [e] at g
          refine ⟨_, rfl, t, _, 1, _, rfl, rfl, SqT.of ht, rfl, _, rfl, dd, _, rfl, g, _, rfl, iteT ?_⟩
          refine ⟨by show 2 ≤ sizeLine; exact sm, fun p hp => k p _ ((Same.refl H).upd hp) ?_⟩
          rw [upd_same]; unfold qw; rw [e]; rfl
        | some m =>
          rw [e] at g
          refine ⟨_, rfl, t, _, 1, _, rfl, rfl, SqT.of ht, rfl, _, rfl, dd, _, rfl, g, _, rfl, iteF ?_⟩
          refine ⟨_, rfl, _, rfl, t, _, 1, _, rfl, rfl, SqT.of ht, rfl, dd, .int m, rfl, g, by show 2 ≤ sizeLine; exact sm, fun p hp => k p _ ((Same.refl H).upd hp) ?_⟩
          rw [upd_same]; unfold qw; rw [e]; rfl
      | pick c q =>
        obtain ⟨t, vc, vq, ev, ht, hc, hq'⟩ := id hq
        exact one "pick" t _ vq q ht rfl (by show 2 ≤ 3; decide) (by rw [← ev]; exact hq) hq' rfl rfl (by decide +kernel) (by decide +kernel) (by decide +kernel) ev
      | columns cs q =>
        obtain ⟨t, l, vq, ev, ht, hc, hq'⟩ := id hq
        exact one "columns" t _ vq q ht rfl (by show 2 ≤ 3; decide) (by rw [← ev]; exact hq) hq' rfl rfl (by decide +kernel) (by decide +kernel) (by decide +kernel) ev
      | group cs ag q =>
        obtain ⟨t, l, m, ms, vq, ev, ht, h1, h2, h3, hq'⟩ := id hq
        exact one "group" t _ vq q ht rfl (by show 2 ≤ 4; decide) (by rw [← ev]; exact hq) hq' rfl rfl (by decide +kernel) (by decide +kernel) (by decide +kernel) ev
      | two o a b =>
        obtain ⟨t, va, vb, rfl, ht, ha, hb'⟩ := hq
        have dpa : a.deep < n := Nat.lt_of_le_of_lt (Nat.le_max_left a.deep b.deep) (Nat.lt_of_succ_lt_succ dp)
        have dpb : b.deep < n := Nat.lt_of_le_of_lt (Nat.le_max_right a.deep b.deep) (Nat.lt_of_succ_lt_succ dp)
        have e1 : o.nm ≠ "table" := by cases o <;> decide +kernel
        have e2 : ("join" == o.nm || "union" == o.nm || "common" == o.nm || "less" == o.nm) = true := by cases o <;> decide +kernel
        have e3 : ("pick" == o.nm || "columns" == o.nm || "group" == o.nm) = false := by cases o <;> decide +kernel
        refine ⟨_, rfl, t, _, 0, _, rfl, rfl, SqT.of ht, hd0, rfl, _, rfl, iteSF e1 ?_⟩
        refine ixL4 (x := o.nm) (xs := [va, vb]) rfl ht (v := va) (by rw [e2]; rfl) (by show 2 ≤ 3; decide) fun H1 s1 => ?_
        refine ⟨_, rfl, va, dd, a, kvs, W, rfl, ha.same s1, ok.1, dpa, s1 _ _ hd, wd, fun t1 H2 s2 h2 => ?_⟩
        have s12 := s1.trans s2
        cases ea : qw W a with
        | inl kx =>
          rw [ea] at h2
          refine ⟨_, rfl, t1, _, 0, _, rfl, rfl, SqT.of h2, rfl, rfl, _, rfl, iteND (eword_ne kx) ?_⟩
          refine ⟨_, rfl, k t1 H2 s12 ?_⟩
          rw [qw_fail (q := .two o a b) (r := a) (ns := []) (i := 0) rfl rfl ea]
          exact h2
        | inr x =>
          rw [ea] at h2
          refine ⟨_, rfl, t1, _, 0, _, rfl, rfl, SqT.of h2, rfl, rfl, _, rfl, iteF ?_⟩
          refine inL3 (x := o.nm) (xs := [va, vb]) rfl (s12 _ _ ht) (fun z => by rw [e3] at z; cases z) (fun _ H3 s3 => ?_)
          have s13 := s12.trans s3
          refine ⟨_, rfl, t, _, 2, _, rfl, rfl, SqT.of (s13 _ _ ht), rfl, _, rfl, vb, dd, b, kvs, W, rfl, hb'.same s13, ok.2, dpb, s13 _ _ hd, wd, fun t2 H4 s4 h4 => ?_⟩
          have s14 := s13.trans s4
          have h24 := s4 _ _ (s3 _ _ h2)
          cases eb : qw W b with
          | inl kx =>
            rw [eb] at h4
            refine ⟨_, rfl, t2, _, 0, _, rfl, rfl, SqT.of h4, rfl, rfl, _, rfl, iteND (eword_ne kx) ?_⟩
            refine ⟨_, rfl, k t2 H4 s14 ?_⟩
            rw [qw_fail (q := .two o a b) (r := b) (ns := [x]) (i := 1) (by show [qw W a] = _; rw [ea]; rfl) rfl eb]
            exact h4
          | inr y =>
            rw [eb] at h4
            refine ⟨_, rfl, t2, _, 0, _, rfl, rfl, SqT.of h4, rfl, rfl, _, rfl, iteF ?_⟩
            have eq : qw W (.two o a b) = over (.two o a b) [x, y] := qw_over rfl (by show [qw W a, qw W b] = _; rw [ea, eb]; rfl)
            rw [eq] at k
            by_cases oj : o = .join
            · subst oj
              refine ⟨_, rfl, t, _, 0, _, rfl, rfl, SqT.of (s14 _ _ ht), rfl, rfl, _, rfl, iteSS ?_⟩
              refine ⟨_, rfl, t1, _, 1, _, rfl, rfl, SqT.of h24, rfl, _, rfl, t2, _, 1, _, rfl, rfl, SqT.of h4, rfl, _, _, rfl, rfl, by show 2 ≤ sizeLine; exact sm, fun p hp => k p _ (s14.trans ((Same.refl H4).upd hp)) ?_⟩
              rw [upd_same]; rfl
            · have e4 : o.nm ≠ "join" := by cases o <;> first | exact absurd rfl oj | decide +kernel
              have setop : over (.two o a b) [x, y] = (if x = y then .inr x else .inl 1) := by cases o <;> first | exact absurd rfl oj | rfl
              rw [setop] at k
              refine ⟨_, rfl, t, _, 0, _, rfl, rfl, SqT.of (s14 _ _ ht), hd0, rfl, _, rfl, iteSF e4 ?_⟩
              refine ⟨_, rfl, t1, _, 1, _, rfl, rfl, SqT.of h24, rfl, _, rfl, t2, _, 1, _, rfl, rfl, SqT.of h4, rfl, rfl, _, rfl, ?_⟩
              by_cases exy : x = y
              · rw [decide_eq_true (congrArg V.int exy)]
                refine iteF ⟨_, rfl, k t1 H4 s14 ?_⟩
                rw [if_pos exy]; exact h24
              · rw [decide_eq_false (fun z => exy (V.int.inj z))]
                refine iteT ⟨by show 2 ≤ sizeLine; exact sm, fun p hp => k p _ (s14.trans ((Same.refl H4).upd hp)) ?_⟩
                rw [upd_same, if_neg exy]; rfl
end
end Prf

set_option maxHeartbeats 4000000
namespace L2
open PySem PySem.Spec PyProof.Rows
theorem s_setF {X : Cx} {x : Str} {e : Expr} {te : TE} {pos : Pos} (i : Nat) {pos' : Pos} (hN : X.N.Nodup) (he : JE X e te) (hsw : swapsWith e (some (.Name x pos')) pos.line X.env = pure false := by rfl) (hi : X.N[i]? = some x := by rfl) (hx : Loc X.env.scope x := by first | exact Or.inl rfl | exact Or.inr rfl)
    (hf : X.fn x = true ∨ X.env.scope.names.lookup x = some .local := by first | exact .inl rfl | exact .inr rfl) : JS X (.Assign [.Name x pos'] e pos) (tAsg te (gName i)) := ⟨ps_set hN hi hx he.h hsw hf⟩
/-- {a: b, c: d} -/
theorem e_disp2 {X : Cx} {pos : Pos} {a b c d : Expr} {ta tb tc td : TE} (ha : JE X a ta) (hb : JE X b tb) (hc : JE X c tc) (hd : JE X d td) : JE X (.Dict [some a, some c] [b, d] pos) (tDisp [(ta, tb), (tc, td)]) :=
  ⟨pe_disp (pps_cons ha.h hb.h (pps_cons hc.h hd.h pps_nil)) rfl rfl (by simp) (by show 2 ≤ 15; decide)⟩
end L2
namespace Prf
open PySem L2 Wr
theorem qw_err {W : Str → Option Int} : ∀ {q : Qn} {k : Nat}, qw W q = .inl k → 1 ≤ k ∧ k ≤ 3 := by
  intro q
  have if3 : ∀ {b : Bool} {n : Int} {k : Nat}, (if b = true then (.inr n : Sum Nat Int) else .inl 3) = .inl k → 1 ≤ k ∧ k ≤ 3 := fun {b n k} h => by
    split at h
    · cases h
    · cases h; decide
  induction q with
  | table z =>
    intro k h
    unfold qw at h
    cases e : W z with
    | none => rw [e] at h; cases h; decide
    | some m => rw [e] at h; cases h
  | pick c q ih =>
    intro k h
    unfold qw at h
    cases e : qw W q with
    | inl x => rw [e] at h; cases h; exact ih e
    | inr m => rw [e] at h; exact if3 h
  | columns cs q ih =>
    intro k h
    unfold qw at h
    cases e : qw W q with
    | inl x => rw [e] at h; cases h; exact ih e
    | inr m => rw [e] at h; exact if3 h
  | group cs ag q ih =>
    intro k h
    unfold qw at h
    cases e : qw W q with
    | inl x => rw [e] at h; cases h; exact ih e
    | inr m => rw [e] at h; exact if3 h
  | two o a b iha ihb =>
    intro k h
    unfold qw at h
    cases ea : qw W a with
    | inl x => rw [ea] at h; cases h; exact iha ea
    | inr m =>
      cases eb : qw W b with
      | inl x => rw [ea, eb] at h; cases h; exact ihb eb
      | inr y =>
        rw [ea, eb] at h
        have if1 : (if m = y then (.inr m : Sum Nat Int) else .inl 1) = .inl k → 1 ≤ k ∧ k ≤ 3 := fun h => by
          split at h
          · cases h
          · cases h; decide
        cases o with
        | join => cases h
        | union => exact if1 h
        | common => exact if1 h
        | less => exact if1 h
section
variable {P : Program} {w : World} {K : PySem.W.Frag} {mg : Str → Option Value} {base : Heap}
def sp__law_word (c : Nat → Addr) : Sp := fun vs H Q _ => ∃ (e : Addr) (k : Nat), vs = [.ref e] ∧ H e = some (excO e (.ref (c k))) ∧ 1 ≤ k ∧ k ≤ 3 ∧ ∀ H', Same H H' → Q (.str (eword k)) H'
theorem sc__law_word : FnScope ["_law_got", "_law_some", "_law_k"] ["_law_got"] (defScope st__law_word) := ⟨rfl, rfl, rfl, by decide +kernel, rfl, by decide +kernel, by decide +kernel⟩
theorem dens_bl {H : Hp} : ∀ bs : List Bool, DenAll K H (bs.map V.bl) (bs.map PyData.bool)
  | [] => .nil
  | b :: bs => .cons (.bl b) (dens_bl bs)
theorem bls_shape : ∀ bs : List Bool, PyData.canLayAll0 (bs.map PyData.bool) = true ∧ PyData.depthAll (bs.map PyData.bool) ≤ 2
  | [] => by simp [PyData.canLayAll0, PyData.depthAll]
  | b :: bs => by
    have h := bls_shape bs
    simp only [List.map_cons, PyData.canLayAll0, PyData.depthAll, PyData.canLay0, PyData.depth, h.1, Bool.true_and]
    exact ⟨trivial, by have := h.2; omega⟩
theorem shaped_bls (bs : List Bool) : SeqAt.shaped (.list (bs.map PyData.bool)) = true := by
  have e := bls_shape bs
  unfold SeqAt.shaped
  simp only [PyData.canLay0, PyData.depth, e.1, Bool.true_and]
  exact decide_eq_true (by have := e.2; omega)
theorem ok__law_word {f WE : Addr} {c : Nat → Addr} {fd : FuncData} (F : Fun K "_law_word" "_law_word" st__law_word f fd) (B : Blts mg) (O : Errs K mg WE c) : FnOk P w K mg base CX0 1 f fd ["_law_got"] (sp__law_word c) := by
  refine F.okJ sc__law_word (fun vs H Q E h => ?_) (fun cdv A outer s H vs Q E hr h => ?_)
  · obtain ⟨_, _, rfl, _⟩ := h
    rfl
  · obtain ⟨e, k, rfl, he, k1, k3, fin⟩ := h
    have nd := sc__law_word.nd
    have nd2 : (["_law_j", "_law_k"] : List Str).Nodup := by decide +kernel
    refine ⟨_, (b_cons (s_if (JW.jt (w_or (t_not (t_val (e_cb c_isE B.isinstance PyProof.Rows.boot_isinstance (ac (e_v 0) (a1 (e_ty O.ve boot_ValueError)))))) (w_or (t_val (e_cb c_isE B.isinstance PyProof.Rows.boot_isinstance (ac (e_v 0) (a1 (e_ref O.bS))))) (w_or1 (t_val (e_cb c_isE B.isinstance PyProof.Rows.boot_isinstance (ac (e_v 0) (a1 (e_ref O.bX))))))))) (b_one (s_ret e_s)) b_nil)
      (b_cons (s_if (JW.jt (w_or (t_val (e_cb c_isE B.isinstance PyProof.Rows.boot_isinstance (ac (e_v 0) (a1 (e_ref O.bN))))) (w_or1 (t_val (e_cb c_isE B.isinstance PyProof.Rows.boot_isinstance (ac (e_v 0) (a1 (e_ref O.bR)))))))) (b_one (s_ret e_s)) b_nil)
      (b_cons (s_set 1 nd (e_lst (ac (e_cb c_isE B.isinstance PyProof.Rows.boot_isinstance (ac (e_v 0) (a1 (e_ref O.bT)))) (ac (e_cb c_isE B.isinstance PyProof.Rows.boot_isinstance (ac (e_v 0) (a1 (e_ref O.bC)))) (a1 (e_cb c_isE B.isinstance PyProof.Rows.boot_isinstance (ac (e_v 0) (a1 (e_ref O.bW)))))))))
      (b_cons (s_for (i_rng1 B.range (a1 e_i)) (g_n 2 nd)
        (b_one (s_if (t_cmp (o_eqD hr) (e_v 1) (e_comp (Nc := ["_law_j", "_law_k"]) (js := [none, some 2]) (g := (gName 0)) (tt := tYes) (te := (tOp rEq (tVar 0) (tVar 1)))
      (comp_mk rfl rfl rfl rfl (fun x c h => by simp at h; rcases h with ⟨rfl, rfl⟩ <;> rfl) rfl rfl rfl) (i_rng1 B.range (a1 e_i))
      (fun pins C s3 H3 fp => ⟨(g_n 0 nd2), .inl ⟨rfl, rfl⟩, (e_cmp o_eq (e_v 0) (e_v 1))⟩))) (b_one (s_ret (e_ix x_list (e_lst (ac e_s (ac e_s (a1 e_s)))) (e_v 2)))) b_nil)))
      (b_one (s_ret e_s)))))), ?_⟩
    have k7 : k < 7 := by omega
    have ty : TyE K H (.ref e) (.ref (c k)) := .inr ⟨e, c k, rfl, rfl, he, O.ek k k7⟩
    have no : ∀ j, j < 7 → k ≠ j → PySem.W.kitOne K (.ref (c k)) (.ref (c j)) = some false := fun j hj ne => by rw [O.kit k k7 j hj, decide_eq_false ne]
    refine ⟨_, rfl, _, _, _, _, rfl, .inr ⟨_, rfl⟩, ty, O.val k k7, _, rfl, iteF ?_⟩
    refine ⟨_, rfl, _, _, _, _, rfl, .inl ⟨_, rfl⟩, ty, no 0 (by decide) (by omega), _, rfl, iteF ?_⟩
    refine ⟨_, rfl, _, _, _, _, rfl, .inl ⟨_, rfl⟩, ty, no 4 (by decide) (by omega), _, rfl, iteF ?_⟩
    refine ⟨_, rfl, _, _, _, _, rfl, .inl ⟨_, rfl⟩, ty, no 5 (by decide) (by omega), _, rfl, iteF ?_⟩
    refine ⟨_, rfl, _, _, _, _, rfl, .inl ⟨_, rfl⟩, ty, no 6 (by decide) (by omega), _, rfl, iteF ?_⟩
    refine ⟨_, rfl, _, _, _, _, rfl, .inl ⟨_, rfl⟩, ty, O.kit k k7 2 (by decide), _, rfl, _, _, _, _, rfl, .inl ⟨_, rfl⟩, ty, O.kit k k7 3 (by decide), _, rfl, _, _, _, _, rfl, .inl ⟨_, rfl⟩, ty, O.kit k k7 1 (by decide), by show 3 ≤ sizeLine; exact sm, fun p1 hp1 => ?_⟩
    have s1 : Same H (upd H p1 (.lst [.bl (decide (k = 2)), .bl (decide (k = 3)), .bl (decide (k = 1))])) := (Same.refl H).upd hp1
    have u1 : upd H p1 (.lst [.bl (decide (k = 2)), .bl (decide (k = 3)), .bl (decide (k = 1))]) p1 = some (.lst (([decide (k = 2), decide (k = 3), decide (k = 1)] : List Bool).map V.bl)) := upd_same
    generalize upd H p1 (.lst [.bl (decide (k = 2)), .bl (decide (k = 3)), .bl (decide (k = 1))]) = H1 at s1 u1 ⊢
    obtain ⟨ix, eix, ix3⟩ : ∃ ix : Nat, (∀ i : Nat, i < 3 → PyData.eqv (.list (([decide (k = 2), decide (k = 3), decide (k = 1)] : List Bool).map PyData.bool)) (.list (((List.range 3).map fun j => decide (j = i)).map PyData.bool)) = decide (i = ix)) ∧ ix < 3 ∧ ([("table" : Str), "column", "unlike"])[ix]? = some (eword k) := by
      have h : k = 1 ∨ k = 2 ∨ k = 3 := by omega
      have tri : ∀ i : Nat, i < 3 → i = 0 ∨ i = 1 ∨ i = 2 := fun i hi => by omega
      rcases h with rfl | rfl | rfl
      · exact ⟨2, (fun i hi => by rcases tri i hi with rfl | rfl | rfl <;> decide +kernel), by decide, by decide +kernel⟩
      · exact ⟨0, (fun i hi => by rcases tri i hi with rfl | rfl | rfl <;> decide +kernel), by decide, by decide +kernel⟩
      · exact ⟨1, (fun i hi => by rcases tri i hi with rfl | rfl | rfl <;> decide +kernel), by decide, by decide +kernel⟩
    generalize [decide (k = 2), decide (k = 3), decide (k = 1)] = bs at u1 eix ⊢
    refine ⟨_, rfl, by decide, by decide, for_range (n := 3) (fun i σ H' => ∃ o2, σ = [some (.ref e), some (.ref p1), o2] ∧ Same H1 H' ∧ i ≤ ix) ⟨none, rfl, Same.refl H1, Nat.zero_le _⟩ ?_ ?_⟩
    · rintro i σ H2 hi ⟨o2, rfl, s2, le⟩
      have e0 : (0 : Int) + (i : Int) = ((i : Nat) : Int) := by omega
      refine ⟨_, rfl, _, rfl, by decide, by decide, fun D hD => ?_⟩
      refine comp_range (n := 3) (fun j σ H' => ∃ o, σ = [o, some (.int (0 + (i : Int)))] ∧ Same H2 H' ∧ H' D = some (.lst (((List.range j).map fun j => decide (j = i)).map V.bl))) ⟨none, rfl, (Same.refl H2).upd hD, upd_same⟩ ?_ ?_
      · rintro j σ H3 hj ⟨o, rfl, s3, h3⟩
        refine ⟨_, rfl, _, rfl, rfl, _, h3, small1000 (by simp; omega), _, rfl, s3.upd hD, ?_⟩
        have ed : decide (V.int (0 + (j : Int)) = V.int (0 + (i : Int))) = decide (j = i) := by
          rw [dI]
          by_cases h : j = i
          · subst h; simp
          · rw [decide_eq_false h, decide_eq_false (by omega)]
        rw [ed, upd_same, List.range_succ, List.map_append, List.map_append]
        rfl
      · rintro σ H3 ⟨o, rfl, s3, h3⟩
        refine ⟨_, _, .lst (SqL.of ((s2.trans s3) _ _ u1)) (dens_bl _), .lst (SqL.of h3) (dens_bl _), shaped_bls _, shaped_bls _, _, rfl, ?_⟩
        · rw [eix i hi]
          by_cases ei : i = ix
          · rw [decide_eq_true ei]
            refine iteT ⟨by show 3 ≤ sizeLine; exact sm, fun p2 hp2 => ?_⟩
            refine ⟨_, rfl, p2, [.str "table", .str "column", .str "unlike"], _, .str (eword k), rfl, rfl, SqL.of upd_same, ?_, fin _ (s1.trans (s2.trans (s3.trans ((Same.refl H3).upd hp2))))⟩
            rw [e0]
            refine atI_nat ?_
            rw [ei]
            show (([("table" : Str), "column", "unlike"]).map V.str)[ix]? = _
            rw [List.getElem?_map, ix3.2]
            rfl
          · rw [decide_eq_false ei]
            exact iteF ⟨_, rfl, s2.trans s3, by omega⟩
    · rintro σ H2 ⟨o2, rfl, s2, le⟩
      exact absurd ix3.1 (by omega)
def sp__law_right : Sp := fun vs H Q _ => ∃ (v : V) (dd : Addr) (q : Qn) (kvs : List (Key × V)) (W : Str → Option Int), vs = [v, .ref dd] ∧ QAt H v q ∧ q.ok ∧ q.deep < 4 ∧ H dd = some (.dK kvs) ∧ Wd kvs W ∧ ∀ H', Same H H' → Q (.bl true) H'
theorem sc__law_right : FnScope ["_law_question", "_law_widths", "_law_due_here", "_law_got", "_law_found", "_law_handed", "e"] ["_law_question", "_law_widths"] (defScope st__law_right) := ⟨rfl, rfl, rfl, by decide +kernel, rfl, by decide +kernel, by decide +kernel⟩
theorem ok__law_right {f WE : Addr} {c : Nat → Addr} {fd : FuncData} (F : Fun K "_law_right" "_law_right" st__law_right f fd) (B : Blts mg) (O : Errs K mg WE c) (FD : FnP P w K mg base 8 "_law_due" ["_law_question", "_law_widths"] (sp__law_due 4)) (FW : FnX P w K mg base 10 "width" ["question", "widths"] (sp_width c 4))
    (FO : FnP P w K mg base 1 "_law_word" ["_law_got"] (sp__law_word c)) (FH : FnP P w K mg base 1 "_law_whole" ["_law_found"] sp__law_whole) : FnOk P w K mg base CX0 11 f fd ["_law_question", "_law_widths"] sp__law_right := by
  refine F.okJ sc__law_right (fun vs H Q E h => ?_) (fun cdv A outer s H vs Q E hr h => ?_)
  · obtain ⟨_, _, _, _, _, rfl, _⟩ := h
    rfl
  · obtain ⟨v, dd, q, kvs, W, rfl, hq, ok, dp, hd, wd, k⟩ := h
    have nd := sc__law_right.nd
    refine ⟨_, (b_cons (s_set 2 nd (e_fn FD hr (ac (e_v 0) (a1 (e_v 1)))))
      (b_cons (s_set 3 nd e_n)
      (b_cons (s_set 4 nd e_n)
      (b_cons (s_set 5 nd (e_ct c_dictD B.dict PyProof.Rows.boot_dict (a1 (e_v 1))))
      (b_cons (s_tryS 3 6 4 (x_fn FW hr (ac (e_v 0) (a1 (e_v 5)))) O.when nd)
      (b_cons (s_if (t_cmp (o_neK hr) (e_v 5) (e_v 1)) (b_one (s_ret e_b)) b_nil)
      (b_cons (s_if (t_notN (e_v 3)) (b_one (s_ret (e_cmp o_eq (e_fn FO hr (a1 (e_v 3))) (e_ix x_tup (e_v 2) e_i)))) b_nil)
      (b_one (s_ret (e_and (e_cmp o_eq (e_ix x_tup (e_v 2) e_i) e_s) (e_and (e_fn FH hr (a1 (e_v 4))) (e_one (e_cmp o_eq (e_v 4) (e_ix x_tup (e_v 2) e_i)))))))))))))), ?_⟩
    refine ⟨_, rfl, _, rfl, v, dd, q, kvs, W, rfl, hq, ok, dp, hd, wd, fun t H1 s1 h1 => ?_⟩
    have hd1 := s1 _ _ hd
    refine ⟨_, rfl, dd, kvs, rfl, hd1, fun p hp => ?_⟩
    have s2 : Same H1 (upd H1 p (.dK kvs)) := (Same.refl H1).upd hp
    have u2 : upd H1 p (.dK kvs) p = some (.dK kvs) := upd_same
    generalize upd H1 p (.dK kvs) = H2 at s2 u2 ⊢
    have s12 := s1.trans s2
    have h2 := s2 _ _ h1
    have hd2 := s2 _ _ hd1
    refine ⟨_, rfl, _, rfl, v, p, q, kvs, W, rfl, hq.same s12, ok, dp, by decide, u2, wd, fun m H3 em s3 => ?_, fun kx H3 em s3 => ⟨O.mt kx (by have := qw_err em; omega), fun e he => ?_⟩⟩
    · have s13 := s12.trans s3
      refine ⟨_, rfl, _, rfl, p, dd, kvs, rfl, rfl, s3 _ _ u2, s3 _ _ hd2, wd.num, _, rfl, iteF ?_⟩
      refine ⟨_, rfl, _, rfl, iteF ?_⟩
      rw [em] at h2
      have h3 := s3 _ _ h2
      refine ⟨_, rfl, t, _, 0, _, rfl, rfl, SqT.of h3, rfl, rfl, _, rfl, ?_⟩
      refine iteSS ⟨_, rfl, m, rfl, _, rfl, iteT ?_⟩
      refine ⟨_, rfl, _, rfl, t, _, 1, _, rfl, rfl, SqT.of h3, rfl, rfl, ?_⟩
      rw [decide_eq_true rfl]
      exact k H3 s13
    · have hk := qw_err em
      have s4 : Same H3 (upd H3 e (excO e (.ref (c kx)))) := (Same.refl H3).upd he
      have u4 : upd H3 e (excO e (.ref (c kx))) e = some (excO e (.ref (c kx))) := upd_same
      generalize upd H3 e (excO e (.ref (c kx))) = H4 at s4 u4 ⊢
      have s34 := s3.trans s4
      have s14 := s12.trans s34
      refine ⟨_, rfl, _, rfl, p, dd, kvs, rfl, rfl, s34 _ _ u2, s34 _ _ hd2, wd.num, _, rfl, iteF ?_⟩
      refine ⟨_, rfl, _, rfl, iteT ?_⟩
      rw [em] at h2
      have h4 := s34 _ _ h2
      refine ⟨_, rfl, e, kx, rfl, u4, hk.1, hk.2, fun H5 s5 => ?_⟩
      refine ⟨_, rfl, t, _, 0, _, rfl, rfl, SqT.of (s5 _ _ h4), rfl, rfl, ?_⟩
      rw [decide_eq_true rfl]
      exact k H5 (s14.trans s5)
/-! ### law -/
def sp_law (K : PySem.W.Frag) : Sp := fun vs H Q _ => ∃ (a : Addr) (ns : List Int), vs = [.ref a] ∧ SqL K H a (ns.map V.int) ∧ ns.length ≤ 63 ∧ ∀ H', Q (.bl true) H'
abbrev spLaw (K : PySem.W.Frag) : Sp := sp_law K
theorem sc_law : FnScope ["_law_script", "_law_cells", "_law_names", "_law_widths", "_law_cell"] ["_law_script"] (defScope st_law) := ⟨rfl, rfl, rfl, by decide +kernel, rfl, by decide +kernel, by decide +kernel⟩
theorem ok_law {f : Addr} {fd : FuncData} (F : Fun K "law" "law" st_law f fd) (FW : FnP P w K mg base 2 "_law_words" ["_law_cell", "_law_many"] sp__law_words) (FR : FnP P w K mg base 11 "_law_right" ["_law_question", "_law_widths"] sp__law_right) (FD : FnP P w K mg base 6 "_law_drawn" ["_law_cell", "_law_k", "_law_deep", "_law_names"] (sp__law_drawn 4)) : FnOk P w K mg base CX0 12 f fd ["_law_script"] (sp_law K) := by
  refine F.okJ sc_law (fun vs H Q E h => ?_) (fun cdv A outer s H vs Q E hr h => ?_)
  · obtain ⟨a, ns, rfl, _⟩ := h
    rfl
  · obtain ⟨a, ns, rfl, hS, h63, k⟩ := h
    have nd := sc_law.nd
    refine ⟨_, (b_cons (s_set 1 nd (e_op o_cat (e_upto (e_v 0) e_i) (e_lst (a1 e_i))))
      (b_cons (s_set 2 nd (e_fn FW hr (ac (e_ix x_list (e_v 1) e_i) (a1 e_i))))
      (b_cons (s_setF 3 nd (e_disp2 (e_ix x_list (e_v 2) e_i) (e_op o_add e_i (e_op o_mod (e_op o_fdiv (e_ix x_list (e_v 1) e_i) e_i) e_i)) (e_ix x_list (e_v 2) e_i) (e_op o_add e_i (e_op o_mod (e_op o_fdiv (e_ix x_list (e_v 1) e_i) e_i) e_i))))
      (b_cons (s_for (i_list (e_v 1)) (g_n 4 nd)
        (b_one (s_if (t_not (t_val (e_fn FR hr (ac (e_fn FD hr (ac (e_v 4) (ac e_i (ac e_i (a1 (e_v 2)))))) (a1 (e_v 3)))))) (b_one (s_ret e_b)) b_nil)))
      (b_one (s_ret e_b)))))), ?_⟩
    refine ⟨_, rfl, 63, rfl, a, _, rfl, hS, fun pc hpc => ?_⟩
    have e63 : cutV (ns.map V.int) none (some 63) = (ns.take 63).map V.int := cut_ints ns 63
    rw [e63]
    have s1 : Same H (upd H pc (.lst ((ns.take 63).map V.int))) := (Same.refl H).upd hpc
    have c62 : (ns.take 63).length ≤ 63 := by rw [List.length_take]; omega
    generalize ns.take 63 = cs at s1 c62 ⊢
    have hc1 : upd H pc (.lst (cs.map V.int)) pc = some (.lst (cs.map V.int)) := upd_same
    generalize upd H pc (.lst (cs.map V.int)) = H1 at s1 hc1 ⊢
    refine ⟨by show 1 ≤ sizeLine; decide, fun p2 hp2 => ?_⟩
    have s2 : Same H1 (upd H1 p2 (.lst [.int 0])) := (Same.refl H1).upd hp2
    have u2 : upd H1 p2 (.lst [.int 0]) p2 = some (.lst [.int 0]) := upd_same
    generalize upd H1 p2 (.lst [.int 0]) = H2 at s2 u2 ⊢
    refine ⟨pc, p2, _, _, rfl, rfl, s2 _ _ hc1, u2, by rw [List.length_map]; exact sm (by show cs.length + 1 ≤ 100; omega), fun p3 hp3 => ?_⟩
    have ec : cs.map V.int ++ [.int 0] = (cs ++ [0]).map V.int := by rw [List.map_append]; rfl
    rw [ec]
    have lc : 0 < (cs ++ [0]).length := by rw [List.length_append, List.length_singleton]; omega
    generalize cs ++ [0] = ds at lc ⊢
    have s3 : Same H2 (upd H2 p3 (.lst (ds.map V.int))) := (Same.refl H2).upd hp3
    have u3 : upd H2 p3 (.lst (ds.map V.int)) p3 = some (.lst (ds.map V.int)) := upd_same
    generalize upd H2 p3 (.lst (ds.map V.int)) = H3 at s3 u3 ⊢
    obtain ⟨c0, e0⟩ : ∃ c0, ds[0]? = some c0 := ⟨ds[0], by simp [lc]⟩
    have ec0 : atI (ds.map V.int) 0 = some (.int c0) := atI_nat (j := 0) (by rw [List.getElem?_map, e0]; rfl)
    refine ⟨_, rfl, p3, _, 0, _, rfl, rfl, SqL.of u3, ec0, c0, 3, rfl, by decide, fun pn H4 ys s4 _ hn ly ndy shy => ?_⟩
    have u4 := s4 _ _ u3
    obtain ⟨n0, n1, n2, rfl⟩ : ∃ n0 n1 n2, ys = [n0, n1, n2] := by
      match ys, ly with
      | [n0, n1, n2], _ => exact ⟨n0, n1, n2, rfl⟩
    have ne01 : n0 ≠ n1 := fun e => by
      have := (List.nodup_cons.mp ndy).1
      exact this (by rw [e]; exact List.mem_cons_self)
    refine fun pd hpd => ?_
    have hpd0 := hpd
    have s5 : Same H4 (upd H4 pd (.dK [])) := (Same.refl H4).upd hpd
    have u5 : upd H4 pd (.dK []) pd = some (.dK []) := upd_same
    generalize upd H4 pd (.dK []) = H5 at s5 u5 ⊢
    have hn5 := s5 _ _ hn
    have hd5 := s5 _ _ u4
    refine ⟨_, rfl, pn, _, 0, _, rfl, rfl, SqL.of hn5, rfl, ?_⟩
    refine ⟨_, rfl, p3, _, 0, _, rfl, rfl, SqL.of hd5, ec0, _, _, rfl, rfl, ⟨by decide, by decide⟩, _, _, rfl, rfl, pz, _, _, rfl, rfl, ?_⟩
    refine ⟨_, rfl, pn, _, 1, _, rfl, rfl, SqL.of hn5, rfl, ?_⟩
    refine ⟨_, rfl, p3, _, 0, _, rfl, rfl, SqL.of hd5, ec0, _, _, rfl, rfl, ⟨by decide, by decide⟩, _, _, rfl, rfl, pz, _, _, rfl, rfl, ?_⟩
    refine ⟨u5, [(Sum.inr n0, .int (1 + c0 / 8 % 4)), (Sum.inr n1, .int (1 + c0 / 32 % 4))], rfl, by show 2 ≤ 15; decide, ?_⟩
    have em : mergeK [] [((Sum.inr n0 : Key), V.int (1 + c0 / 8 % 4)), (Sum.inr n1, V.int (1 + c0 / 32 % 4))] = [((Sum.inr n0 : Key), V.int (1 + c0 / 8 % 4)), (Sum.inr n1, V.int (1 + c0 / 32 % 4))] := by
      have ne : ¬ ((Sum.inr n0 : Key) = Sum.inr n1) := fun e => ne01 (Sum.inr.inj e)
      simp [mergeK, putK, ne]
    rw [em]
    obtain ⟨x0, ex0, x00, x04⟩ : ∃ x0 : Int, 1 + c0 / 8 % 4 = x0 ∧ 0 ≤ x0 ∧ x0 ≤ 4 := ⟨_, rfl, by omega, by omega⟩
    obtain ⟨x1, ex1, x10, x14⟩ : ∃ x1 : Int, 1 + c0 / 32 % 4 = x1 ∧ 0 ≤ x1 ∧ x1 ≤ 4 := ⟨_, rfl, by omega, by omega⟩
    rw [ex0, ex1]
    have s6 : Same H4 (upd H5 pd (.dK [(Sum.inr n0, .int x0), (Sum.inr n1, .int x1)])) := s5.upd hpd0
    have u6 : upd H5 pd (.dK [(Sum.inr n0, .int x0), (Sum.inr n1, .int x1)]) pd = some (.dK [(Sum.inr n0, .int x0), (Sum.inr n1, .int x1)]) := upd_same
    generalize upd H5 pd (.dK [(Sum.inr n0, .int x0), (Sum.inr n1, .int x1)]) = H6 at s6 u6 ⊢
    have wd : Wd [(Sum.inr n0, .int x0), (Sum.inr n1, .int x1)] (fun z => if z = n0 then some x0 else if z = n1 then some x1 else none) := by
      refine ⟨fun z => ?_, fun p hp => ?_, fun z n h => ?_⟩
      · by_cases h0 : z = n0
        · subst h0
          rw [valV_pos rfl, if_pos rfl]; rfl
        · rw [valV_neg (fun e => h0 (Sum.inr.inj e).symm), if_neg h0]
          by_cases h1 : z = n1
          · subst h1
            rw [valV_pos rfl, if_pos rfl]; rfl
          · rw [valV_neg (fun e => h1 (Sum.inr.inj e).symm), if_neg h1]; rfl
      · simp only [List.mem_cons, List.not_mem_nil, or_false] at hp
        rcases hp with rfl | rfl
        · exact ⟨x0, rfl⟩
        · exact ⟨x1, rfl⟩
      · split at h
        · cases h; exact ⟨x00, x04⟩
        · split at h
          · cases h; exact ⟨x10, x14⟩
          · cases h
    have hds := s6 _ _ u4
    have hns := s6 _ _ hn
    refine ⟨_, rfl, p3, rfl, ⟨_, SqL.of hds⟩, for_list (K := K) (a := p3) (xs := ds.map V.int) (fun i σ H' => ∃ o4, σ = [some (.ref a), some (.ref p3), some (.ref pn), some (.ref pd), o4] ∧ Same H6 H') ⟨none, rfl, Same.refl H6⟩ (fun i σ H' _ ⟨_, _, sm'⟩ => SqL.of (sm' _ _ hds)) ?_ (fun σ H' _ => k H')⟩
    rintro i x σ H7 hx ⟨o4, rfl, s7⟩
    obtain ⟨cell, _, rfl⟩ := map_at hx
    refine ⟨_, rfl, _, rfl, cell, 0, 3, pn, [n0, n1, n2], rfl, by decide, by decide, by decide, by decide, s7 _ _ hns, rfl, shy, fun t q H8 hq ok dq s8 => ?_⟩
    refine ⟨_, rfl, .ref t, pd, q, _, _, rfl, hq, ok, by omega, s8 _ _ (s7 _ _ u6), wd, fun H9 s9 => ⟨_, rfl, iteF ?_⟩⟩
    exact ⟨_, rfl, s7.trans (s8.trans s9)⟩
end
end Prf

set_option maxHeartbeats 4000000
namespace L2
open PySem PySem.Spec PyProof.Rows PySem.W
/-! ### the classes of refusals, by one look at what stands there -/
def errOne (K : PySem.W.Frag) (WE C : Addr) : Bool :=
  excIn K C veM "ValueError.__new__" && ((clsIn K C).isSome && (findIn K (.ref C) "__getattribute__" == some (some (.builtin "BaseException.__getattribute__")) && (findIn K (.ref C) "__getattr__" == some none &&
    (findIn K (.ref C) "__class__" == some (some (.builtin "object.__class__")) && (mroIn K C (.type "object") == some true && (mroIn K C (.type "BaseException") == some true && (exmOne K (.ref C) (.ref WE) == some true && kitOne K (.ref C) (.type "ValueError") == some true)))))))
def errOk (K : PySem.W.Frag) (WE : Addr) (cs : List Addr) : Bool :=
  cs.length == 7 && (cs.all (errOne K WE) && (specialIn K (.builtin "object.__class__") "__get__" == some (some (.builtin "getset_descriptor.__get__")) && (takesIn K (.builtin "object.__class__") == some true &&
    (List.range 7).all fun i => (List.range 7).all fun j => kitOne K (.ref (cs.getD i 0)) (.ref (cs.getD j 0)) == some (decide (i = j)))))
theorem errs_mk {K : PySem.W.Frag} {mg : Str → Option Value} {WE c0 c1 c2 c3 c4 c5 c6 : Addr} (h : errOk K WE [c0, c1, c2, c3, c4, c5, c6] = true) (hw : mg "WhenError" = some (.ref WE)) (h0 : mg "NoStretch" = some (.ref c0)) (h1 : mg "NoWidth" = some (.ref c1))
    (h2 : mg "NoTable" = some (.ref c2)) (h3 : mg "NoColumn" = some (.ref c3)) (h4 : mg "NoText" = some (.ref c4)) (h5 : mg "NoName" = some (.ref c5)) (h6 : mg "NoRow" = some (.ref c6)) (hv : mg "ValueError" = none) :
    Errs K mg WE (fun i => [c0, c1, c2, c3, c4, c5, c6].getD i 0) := by
  simp only [errOk, Bool.and_eq_true, beq_iff_eq, List.all_eq_true] at h
  obtain ⟨_, one, gt, tk, kit⟩ := h
  have mem : ∀ i, i < 7 → [c0, c1, c2, c3, c4, c5, c6].getD i 0 ∈ [c0, c1, c2, c3, c4, c5, c6] := fun i hi => by
    rw [List.getD_eq_getElem?_getD, List.getElem?_eq_getElem (show i < [c0, c1, c2, c3, c4, c5, c6].length from hi)]
    exact List.getElem_mem _
  have all : ∀ i, i < 7 → errOne K WE ([c0, c1, c2, c3, c4, c5, c6].getD i 0) = true := fun i hi => one _ (mem i hi)
  simp only [errOne, Bool.and_eq_true, beq_iff_eq] at all
  exact ⟨hw, h0, h1, h2, h3, h4, h5, h6, hv, fun i hi => (all i hi).1, fun i hi => let ⟨_, b, c, d, e, f, g, _, _⟩ := all i hi; ⟨b, c, d, e, gt, tk, f, g⟩, fun i hi => (all i hi).2.2.2.2.2.2.2.1,
    fun i hi j hj => kit i (List.mem_range.mpr hi) j (List.mem_range.mpr hj), fun i hi => (all i hi).2.2.2.2.2.2.2.2⟩
end L2

set_option maxHeartbeats 4000000
namespace Prf
open PySem L2 Wr
theorem ar1 {α : Type} {us : List α} (h : us.length = 1) : ∃ a, us = [a] := List.length_eq_one_iff.mp h
theorem ar2 {α : Type} {us : List α} (h : us.length = 2) : ∃ a b, us = [a, b] := by
  match us, h with
  | [a, b], _ => exact ⟨a, b, rfl⟩
theorem ar4 {α : Type} {us : List α} (h : us.length = 4) : ∃ a b c d, us = [a, b, c, d] := by
  match us, h with
  | [a, b, c, d], _ => exact ⟨a, b, c, d, rfl⟩
theorem all_mk {l : PySem.W.OpenLaw} {w : World} {K : PySem.W.Frag} {h : Heap} {mg : Str → Option Value} {g0 g1 g2 g3 g4 g5 g6 g7 fa f0 f1 f2 f3 f4 f5 f6 f7 f8 f9 f10 f11 f12 f13 f14 f15 f16 f17 : Addr} (X : K.In h) (G : h.Ns mainGlobals mg) (hfa : mg "law" = some (.ref fa))
    {od0 an0 od1 an1 od2 an2 od3 an3 od4 an4 od5 an5 od6 an6 od7 an7 od8 an8 od9 an9 od10 an10 od11 an11 od12 an12 od13 an13 od14 an14 od15 an15 od16 an16 od17 an17 : Option Addr} {sl0 sl1 sl2 sl3 sl4 sl5 sl6 sl7 sl8 sl9 sl10 sl11 sl12 sl13 sl14 sl15 sl16 sl17 : Array (Option Value)} {oc0 kV0 dc0 pm0 cd0 ct0 oc1 kV1 dc1 pm1 cd1 ct1 oc2 kV2 dc2 pm2 cd2 ct2 oc3 kV3 dc3 pm3 cd3 ct3 oc4 kV4 dc4 pm4 cd4 ct4 oc5 kV5 dc5 pm5 cd5 ct5 oc6 kV6 dc6 pm6 cd6 ct6 oc7 kV7 dc7 pm7 cd7 ct7 oc8 kV8 dc8 pm8 cd8 ct8 oc9 kV9 dc9 pm9 cd9 ct9 oc10 kV10 dc10 pm10 cd10 ct10 oc11 kV11 dc11 pm11 cd11 ct11 oc12 kV12 dc12 pm12 cd12 ct12 oc13 kV13 dc13 pm13 cd13 ct13 oc14 kV14 dc14 pm14 cd14 ct14 oc15 kV15 dc15 pm15 cd15 ct15 oc16 kV16 dc16 pm16 cd16 ct16 oc17 kV17 dc17 pm17 cd17 ct17 : Value}
    (a0 : PySem.W.nsIn K mainGlobals "condition_columns" = some (some (.ref f0))) (l0 : K.lookup f0 = some ⟨oc0, od0, .func (PySem.W.fnOf "condition_columns" "condition_columns" (defArgs (top 1)) (defBody (top 1)) (defScope (top 1)) .none kV0 dc0 pm0 an0 cd0 ct0), sl0⟩) (c0 : PySem.W.codeIn K cd0 "condition_columns" = true) (k0 : PySem.W.keepIn K (.ref f0) = true)
    (a1 : PySem.W.nsIn K mainGlobals "parts_of" = some (some (.ref f1))) (l1 : K.lookup f1 = some ⟨oc1, od1, .func (PySem.W.fnOf "parts_of" "parts_of" (defArgs (top 12)) (defBody (top 12)) (defScope (top 12)) .none kV1 dc1 pm1 an1 cd1 ct1), sl1⟩) (c1 : PySem.W.codeIn K cd1 "parts_of" = true) (k1 : PySem.W.keepIn K (.ref f1) = true)
    (a2 : PySem.W.nsIn K mainGlobals "width" = some (some (.ref f2))) (l2 : K.lookup f2 = some ⟨oc2, od2, .func (PySem.W.fnOf "width" "width" (defArgs (top 13)) (defBody (top 13)) (defScope (top 13)) .none kV2 dc2 pm2 an2 cd2 ct2), sl2⟩) (c2 : PySem.W.codeIn K cd2 "width" = true) (k2 : PySem.W.keepIn K (.ref f2) = true)
    (a3 : PySem.W.nsIn K mainGlobals "table_width" = some (some (.ref f3))) (l3 : K.lookup f3 = some ⟨oc3, od3, .func (PySem.W.fnOf "table_width" "table_width" (defArgs (top 14)) (defBody (top 14)) (defScope (top 14)) .none kV3 dc3 pm3 an3 cd3 ct3), sl3⟩) (c3 : PySem.W.codeIn K cd3 "table_width" = true) (k3 : PySem.W.keepIn K (.ref f3) = true)
    (a4 : PySem.W.nsIn K mainGlobals "width_over" = some (some (.ref f4))) (l4 : K.lookup f4 = some ⟨oc4, od4, .func (PySem.W.fnOf "width_over" "width_over" (defArgs (top 15)) (defBody (top 15)) (defScope (top 15)) .none kV4 dc4 pm4 an4 cd4 ct4), sl4⟩) (c4 : PySem.W.codeIn K cd4 "width_over" = true) (k4 : PySem.W.keepIn K (.ref f4) = true)
    (a5 : PySem.W.nsIn K mainGlobals "refuse_unlike" = some (some (.ref f5))) (l5 : K.lookup f5 = some ⟨oc5, od5, .func (PySem.W.fnOf "refuse_unlike" "refuse_unlike" (defArgs (top 16)) (defBody (top 16)) (defScope (top 16)) .none kV5 dc5 pm5 an5 cd5 ct5), sl5⟩) (c5 : PySem.W.codeIn K cd5 "refuse_unlike" = true) (k5 : PySem.W.keepIn K (.ref f5) = true)
    (a6 : PySem.W.nsIn K mainGlobals "refuse_no_column" = some (some (.ref f6))) (l6 : K.lookup f6 = some ⟨oc6, od6, .func (PySem.W.fnOf "refuse_no_column" "refuse_no_column" (defArgs (top 17)) (defBody (top 17)) (defScope (top 17)) .none kV6 dc6 pm6 an6 cd6 ct6), sl6⟩) (c6 : PySem.W.codeIn K cd6 "refuse_no_column" = true) (k6 : PySem.W.keepIn K (.ref f6) = true)
    (a7 : PySem.W.nsIn K mainGlobals "told_columns" = some (some (.ref f7))) (l7 : K.lookup f7 = some ⟨oc7, od7, .func (PySem.W.fnOf "told_columns" "told_columns" (defArgs (top 18)) (defBody (top 18)) (defScope (top 18)) .none kV7 dc7 pm7 an7 cd7 ct7), sl7⟩) (c7 : PySem.W.codeIn K cd7 "told_columns" = true) (k7 : PySem.W.keepIn K (.ref f7) = true)
    (a8 : PySem.W.nsIn K mainGlobals "_law_whole" = some (some (.ref f8))) (l8 : K.lookup f8 = some ⟨oc8, od8, .func (PySem.W.fnOf "_law_whole" "_law_whole" (defArgs (top 20)) (defBody (top 20)) (defScope (top 20)) .none kV8 dc8 pm8 an8 cd8 ct8), sl8⟩) (c8 : PySem.W.codeIn K cd8 "_law_whole" = true) (k8 : PySem.W.keepIn K (.ref f8) = true)
    (a9 : PySem.W.nsIn K mainGlobals "_law_mixed" = some (some (.ref f9))) (l9 : K.lookup f9 = some ⟨oc9, od9, .func (PySem.W.fnOf "_law_mixed" "_law_mixed" (defArgs (top 21)) (defBody (top 21)) (defScope (top 21)) .none kV9 dc9 pm9 an9 cd9 ct9), sl9⟩) (c9 : PySem.W.codeIn K cd9 "_law_mixed" = true) (k9 : PySem.W.keepIn K (.ref f9) = true)
    (a10 : PySem.W.nsIn K mainGlobals "_law_words" = some (some (.ref f10))) (l10 : K.lookup f10 = some ⟨oc10, od10, .func (PySem.W.fnOf "_law_words" "_law_words" (defArgs (top 22)) (defBody (top 22)) (defScope (top 22)) .none kV10 dc10 pm10 an10 cd10 ct10), sl10⟩) (c10 : PySem.W.codeIn K cd10 "_law_words" = true) (k10 : PySem.W.keepIn K (.ref f10) = true)
    (a11 : PySem.W.nsIn K mainGlobals "_law_drawn" = some (some (.ref f11))) (l11 : K.lookup f11 = some ⟨oc11, od11, .func (PySem.W.fnOf "_law_drawn" "_law_drawn" (defArgs (top 23)) (defBody (top 23)) (defScope (top 23)) .none kV11 dc11 pm11 an11 cd11 ct11), sl11⟩) (c11 : PySem.W.codeIn K cd11 "_law_drawn" = true) (k11 : PySem.W.keepIn K (.ref f11) = true)
    (a12 : PySem.W.nsIn K mainGlobals "_law_asked" = some (some (.ref f12))) (l12 : K.lookup f12 = some ⟨oc12, od12, .func (PySem.W.fnOf "_law_asked" "_law_asked" (defArgs (top 24)) (defBody (top 24)) (defScope (top 24)) .none kV12 dc12 pm12 an12 cd12 ct12), sl12⟩) (c12 : PySem.W.codeIn K cd12 "_law_asked" = true) (k12 : PySem.W.keepIn K (.ref f12) = true)
    (a13 : PySem.W.nsIn K mainGlobals "_law_due_of_one" = some (some (.ref f13))) (l13 : K.lookup f13 = some ⟨oc13, od13, .func (PySem.W.fnOf "_law_due_of_one" "_law_due_of_one" (defArgs (top 25)) (defBody (top 25)) (defScope (top 25)) .none kV13 dc13 pm13 an13 cd13 ct13), sl13⟩) (c13 : PySem.W.codeIn K cd13 "_law_due_of_one" = true) (k13 : PySem.W.keepIn K (.ref f13) = true)
    (a14 : PySem.W.nsIn K mainGlobals "_law_due" = some (some (.ref f14))) (l14 : K.lookup f14 = some ⟨oc14, od14, .func (PySem.W.fnOf "_law_due" "_law_due" (defArgs (top 26)) (defBody (top 26)) (defScope (top 26)) .none kV14 dc14 pm14 an14 cd14 ct14), sl14⟩) (c14 : PySem.W.codeIn K cd14 "_law_due" = true) (k14 : PySem.W.keepIn K (.ref f14) = true)
    (a15 : PySem.W.nsIn K mainGlobals "_law_word" = some (some (.ref f15))) (l15 : K.lookup f15 = some ⟨oc15, od15, .func (PySem.W.fnOf "_law_word" "_law_word" (defArgs (top 27)) (defBody (top 27)) (defScope (top 27)) .none kV15 dc15 pm15 an15 cd15 ct15), sl15⟩) (c15 : PySem.W.codeIn K cd15 "_law_word" = true) (k15 : PySem.W.keepIn K (.ref f15) = true)
    (a16 : PySem.W.nsIn K mainGlobals "_law_right" = some (some (.ref f16))) (l16 : K.lookup f16 = some ⟨oc16, od16, .func (PySem.W.fnOf "_law_right" "_law_right" (defArgs (top 28)) (defBody (top 28)) (defScope (top 28)) .none kV16 dc16 pm16 an16 cd16 ct16), sl16⟩) (c16 : PySem.W.codeIn K cd16 "_law_right" = true) (k16 : PySem.W.keepIn K (.ref f16) = true)
    (a17 : PySem.W.nsIn K mainGlobals "law" = some (some (.ref f17))) (l17 : K.lookup f17 = some ⟨oc17, od17, .func (PySem.W.fnOf "law" "law" (defArgs (top 29)) (defBody (top 29)) (defScope (top 29)) .none kV17 dc17 pm17 an17 cd17 ct17), sl17⟩) (c17 : PySem.W.codeIn K cd17 "law" = true) (k17 : PySem.W.keepIn K (.ref f17) = true)
    (z0 : PySem.W.nsIn K mainGlobals "sorted" = some none)
    (z1 : PySem.W.nsIn K mainGlobals "max" = some none)
    (z2 : PySem.W.nsIn K mainGlobals "min" = some none)
    (z3 : PySem.W.nsIn K mainGlobals "any" = some none)
    (z4 : PySem.W.nsIn K mainGlobals "all" = some none)
    (z5 : PySem.W.nsIn K mainGlobals "sum" = some none)
    (z6 : PySem.W.nsIn K mainGlobals "len" = some none)
    (z7 : PySem.W.nsIn K mainGlobals "range" = some none)
    (z8 : PySem.W.nsIn K mainGlobals "isinstance" = some none)
    (z9 : PySem.W.nsIn K mainGlobals "list" = some none)
    (z10 : PySem.W.nsIn K mainGlobals "tuple" = some none)
    (z11 : PySem.W.nsIn K mainGlobals "int" = some none)
    (z12 : PySem.W.nsIn K mainGlobals "bool" = some none)
    (z13 : PySem.W.nsIn K mainGlobals "str" = some none)
    (z14 : PySem.W.nsIn K mainGlobals "dict" = some none)
    (z15 : PySem.W.nsIn K mainGlobals "set" = some none)
    (z16 : PySem.W.nsIn K mainGlobals "zip" = some none)
    (z17 : PySem.W.nsIn K mainGlobals "enumerate" = some none)
    (z18 : PySem.W.nsIn K mainGlobals "reversed" = some none)
    (e0 : PySem.W.nsIn K mainGlobals "WhenError" = some (some (.ref g0)))
    (e1 : PySem.W.nsIn K mainGlobals "NoStretch" = some (some (.ref g1)))
    (e2 : PySem.W.nsIn K mainGlobals "NoWidth" = some (some (.ref g2)))
    (e3 : PySem.W.nsIn K mainGlobals "NoTable" = some (some (.ref g3)))
    (e4 : PySem.W.nsIn K mainGlobals "NoColumn" = some (some (.ref g4)))
    (e5 : PySem.W.nsIn K mainGlobals "NoText" = some (some (.ref g5)))
    (e6 : PySem.W.nsIn K mainGlobals "NoName" = some (some (.ref g6)))
    (e7 : PySem.W.nsIn K mainGlobals "NoRow" = some (some (.ref g7)))
    (ev : PySem.W.nsIn K mainGlobals "ValueError" = some none) (eo : errOk K g0 [g1, g2, g3, g4, g5, g6, g7] = true)
    : ∃ fd : FuncData, (∀ (s : Shared) (v : Value), BindsTo s fd ⟨[v], []⟩ [("_law_script", v)]) ∧ ∀ base : Heap, K.In base → base.Ns mainGlobals mg → FnOk l.prog w K mg base CX0 12 fa fd ["_law_script"] (spLaw K) := by
  have e := hfa.symm.trans (PySem.W.mg_of X G a17)
  cases e
  have F0 : Fun K "condition_columns" "condition_columns" st_condition_columns f0 (PySem.W.fnOf "condition_columns" "condition_columns" (defArgs st_condition_columns) (defBody st_condition_columns) (defScope st_condition_columns) .none kV0 dc0 pm0 an0 cd0 ct0) := fun_mk (st := st_condition_columns) l0 c0 k0
  have b0 := F0.binds (ps := ["condition"]) fun _ _ _ _ _ _ us hl => by obtain ⟨_, rfl⟩ := ar1 hl; rfl
  have F1 : Fun K "parts_of" "parts_of" st_parts_of f1 (PySem.W.fnOf "parts_of" "parts_of" (defArgs st_parts_of) (defBody st_parts_of) (defScope st_parts_of) .none kV1 dc1 pm1 an1 cd1 ct1) := fun_mk (st := st_parts_of) l1 c1 k1
  have b1 := F1.binds (ps := ["question"]) fun _ _ _ _ _ _ us hl => by obtain ⟨_, rfl⟩ := ar1 hl; rfl
  have F2 : Fun K "width" "width" st_width f2 (PySem.W.fnOf "width" "width" (defArgs st_width) (defBody st_width) (defScope st_width) .none kV2 dc2 pm2 an2 cd2 ct2) := fun_mk (st := st_width) l2 c2 k2
  have b2 := F2.binds (ps := ["question", "widths"]) fun _ _ _ _ _ _ us hl => by obtain ⟨_, _, rfl⟩ := ar2 hl; rfl
  have F3 : Fun K "table_width" "table_width" st_table_width f3 (PySem.W.fnOf "table_width" "table_width" (defArgs st_table_width) (defBody st_table_width) (defScope st_table_width) .none kV3 dc3 pm3 an3 cd3 ct3) := fun_mk (st := st_table_width) l3 c3 k3
  have b3 := F3.binds (ps := ["name", "widths"]) fun _ _ _ _ _ _ us hl => by obtain ⟨_, _, rfl⟩ := ar2 hl; rfl
  have F4 : Fun K "width_over" "width_over" st_width_over f4 (PySem.W.fnOf "width_over" "width_over" (defArgs st_width_over) (defBody st_width_over) (defScope st_width_over) .none kV4 dc4 pm4 an4 cd4 ct4) := fun_mk (st := st_width_over) l4 c4 k4
  have b4 := F4.binds (ps := ["question", "within"]) fun _ _ _ _ _ _ us hl => by obtain ⟨_, _, rfl⟩ := ar2 hl; rfl
  have F5 : Fun K "refuse_unlike" "refuse_unlike" st_refuse_unlike f5 (PySem.W.fnOf "refuse_unlike" "refuse_unlike" (defArgs st_refuse_unlike) (defBody st_refuse_unlike) (defScope st_refuse_unlike) .none kV5 dc5 pm5 an5 cd5 ct5) := fun_mk (st := st_refuse_unlike) l5 c5 k5
  have b5 := F5.binds (ps := ["one", "other"]) fun _ _ _ _ _ _ us hl => by obtain ⟨_, _, rfl⟩ := ar2 hl; rfl
  have F6 : Fun K "refuse_no_column" "refuse_no_column" st_refuse_no_column f6 (PySem.W.fnOf "refuse_no_column" "refuse_no_column" (defArgs st_refuse_no_column) (defBody st_refuse_no_column) (defScope st_refuse_no_column) .none kV6 dc6 pm6 an6 cd6 ct6) := fun_mk (st := st_refuse_no_column) l6 c6 k6
  have b6 := F6.binds (ps := ["columns", "count"]) fun _ _ _ _ _ _ us hl => by obtain ⟨_, _, rfl⟩ := ar2 hl; rfl
  have F7 : Fun K "told_columns" "told_columns" st_told_columns f7 (PySem.W.fnOf "told_columns" "told_columns" (defArgs st_told_columns) (defBody st_told_columns) (defScope st_told_columns) .none kV7 dc7 pm7 an7 cd7 ct7) := fun_mk (st := st_told_columns) l7 c7 k7
  have b7 := F7.binds (ps := ["question"]) fun _ _ _ _ _ _ us hl => by obtain ⟨_, rfl⟩ := ar1 hl; rfl
  have F8 : Fun K "_law_whole" "_law_whole" st__law_whole f8 (PySem.W.fnOf "_law_whole" "_law_whole" (defArgs st__law_whole) (defBody st__law_whole) (defScope st__law_whole) .none kV8 dc8 pm8 an8 cd8 ct8) := fun_mk (st := st__law_whole) l8 c8 k8
  have b8 := F8.binds (ps := ["_law_found"]) fun _ _ _ _ _ _ us hl => by obtain ⟨_, rfl⟩ := ar1 hl; rfl
  have F9 : Fun K "_law_mixed" "_law_mixed" st__law_mixed f9 (PySem.W.fnOf "_law_mixed" "_law_mixed" (defArgs st__law_mixed) (defBody st__law_mixed) (defScope st__law_mixed) .none kV9 dc9 pm9 an9 cd9 ct9) := fun_mk (st := st__law_mixed) l9 c9 k9
  have b9 := F9.binds (ps := ["_law_cell", "_law_k"]) fun _ _ _ _ _ _ us hl => by obtain ⟨_, _, rfl⟩ := ar2 hl; rfl
  have F10 : Fun K "_law_words" "_law_words" st__law_words f10 (PySem.W.fnOf "_law_words" "_law_words" (defArgs st__law_words) (defBody st__law_words) (defScope st__law_words) .none kV10 dc10 pm10 an10 cd10 ct10) := fun_mk (st := st__law_words) l10 c10 k10
  have b10 := F10.binds (ps := ["_law_cell", "_law_many"]) fun _ _ _ _ _ _ us hl => by obtain ⟨_, _, rfl⟩ := ar2 hl; rfl
  have F11 : Fun K "_law_drawn" "_law_drawn" st__law_drawn f11 (PySem.W.fnOf "_law_drawn" "_law_drawn" (defArgs st__law_drawn) (defBody st__law_drawn) (defScope st__law_drawn) .none kV11 dc11 pm11 an11 cd11 ct11) := fun_mk (st := st__law_drawn) l11 c11 k11
  have b11 := F11.binds (ps := ["_law_cell", "_law_k", "_law_deep", "_law_names"]) fun _ _ _ _ _ _ us hl => by obtain ⟨_, _, _, _, rfl⟩ := ar4 hl; rfl
  have F12 : Fun K "_law_asked" "_law_asked" st__law_asked f12 (PySem.W.fnOf "_law_asked" "_law_asked" (defArgs st__law_asked) (defBody st__law_asked) (defScope st__law_asked) .none kV12 dc12 pm12 an12 cd12 ct12) := fun_mk (st := st__law_asked) l12 c12 k12
  have b12 := F12.binds (ps := ["_law_condition"]) fun _ _ _ _ _ _ us hl => by obtain ⟨_, rfl⟩ := ar1 hl; rfl
  have F13 : Fun K "_law_due_of_one" "_law_due_of_one" st__law_due_of_one f13 (PySem.W.fnOf "_law_due_of_one" "_law_due_of_one" (defArgs st__law_due_of_one) (defBody st__law_due_of_one) (defScope st__law_due_of_one) .none kV13 dc13 pm13 an13 cd13 ct13) := fun_mk (st := st__law_due_of_one) l13 c13 k13
  have b13 := F13.binds (ps := ["_law_question", "_law_size"]) fun _ _ _ _ _ _ us hl => by obtain ⟨_, _, rfl⟩ := ar2 hl; rfl
  have F14 : Fun K "_law_due" "_law_due" st__law_due f14 (PySem.W.fnOf "_law_due" "_law_due" (defArgs st__law_due) (defBody st__law_due) (defScope st__law_due) .none kV14 dc14 pm14 an14 cd14 ct14) := fun_mk (st := st__law_due) l14 c14 k14
  have b14 := F14.binds (ps := ["_law_question", "_law_widths"]) fun _ _ _ _ _ _ us hl => by obtain ⟨_, _, rfl⟩ := ar2 hl; rfl
  have F15 : Fun K "_law_word" "_law_word" st__law_word f15 (PySem.W.fnOf "_law_word" "_law_word" (defArgs st__law_word) (defBody st__law_word) (defScope st__law_word) .none kV15 dc15 pm15 an15 cd15 ct15) := fun_mk (st := st__law_word) l15 c15 k15
  have b15 := F15.binds (ps := ["_law_got"]) fun _ _ _ _ _ _ us hl => by obtain ⟨_, rfl⟩ := ar1 hl; rfl
  have F16 : Fun K "_law_right" "_law_right" st__law_right f16 (PySem.W.fnOf "_law_right" "_law_right" (defArgs st__law_right) (defBody st__law_right) (defScope st__law_right) .none kV16 dc16 pm16 an16 cd16 ct16) := fun_mk (st := st__law_right) l16 c16 k16
  have b16 := F16.binds (ps := ["_law_question", "_law_widths"]) fun _ _ _ _ _ _ us hl => by obtain ⟨_, _, rfl⟩ := ar2 hl; rfl
  have F17 : Fun K "law" "law" st_law _ (PySem.W.fnOf "law" "law" (defArgs st_law) (defBody st_law) (defScope st_law) .none kV17 dc17 pm17 an17 cd17 ct17) := fun_mk (st := st_law) l17 c17 k17
  have y0 := PySem.W.mg_none_of X G z0
  have y1 := PySem.W.mg_none_of X G z1
  have y2 := PySem.W.mg_none_of X G z2
  have y3 := PySem.W.mg_none_of X G z3
  have y4 := PySem.W.mg_none_of X G z4
  have y5 := PySem.W.mg_none_of X G z5
  have y6 := PySem.W.mg_none_of X G z6
  have y7 := PySem.W.mg_none_of X G z7
  have y8 := PySem.W.mg_none_of X G z8
  have y9 := PySem.W.mg_none_of X G z9
  have y10 := PySem.W.mg_none_of X G z10
  have y11 := PySem.W.mg_none_of X G z11
  have y12 := PySem.W.mg_none_of X G z12
  have y13 := PySem.W.mg_none_of X G z13
  have y14 := PySem.W.mg_none_of X G z14
  have y15 := PySem.W.mg_none_of X G z15
  have y16 := PySem.W.mg_none_of X G z16
  have y17 := PySem.W.mg_none_of X G z17
  have y18 := PySem.W.mg_none_of X G z18
  have O : Errs K mg g0 (fun i => [g1, g2, g3, g4, g5, g6, g7].getD i 0) := errs_mk eo (PySem.W.mg_of X G e0) (PySem.W.mg_of X G e1) (PySem.W.mg_of X G e2) (PySem.W.mg_of X G e3) (PySem.W.mg_of X G e4) (PySem.W.mg_of X G e5) (PySem.W.mg_of X G e6) (PySem.W.mg_of X G e7) (PySem.W.mg_none_of X G ev)
  refine ⟨PySem.W.fnOf "law" "law" (defArgs st_law) (defBody st_law) (defScope st_law) .none kV17 dc17 pm17 an17 cd17 ct17, fun s v => .of_eq rfl, fun base _ _ => ?_⟩
  have B : Blts mg := ⟨y0, y1, y2, y3, y4, y5, y6, y7, y8, y9, y10, y11, y12, y13, y14, y15, y16, y17, y18⟩
  have F_condition_columns : FnP l.prog w K mg base 3 "condition_columns" ["condition"] (sp_condition_columns 3) := ⟨_, _, ok_condition_columns F0 (PySem.W.mg_of X G a0) k0 b0 3, PySem.W.mg_of X G a0, k0, b0⟩
  have F_parts_of : FnP l.prog w K mg base 1 "parts_of" ["question"] sp_parts_of := ⟨_, _, ok_parts_of F1, PySem.W.mg_of X G a1, k1, b1⟩
  have F_table_width : FnX l.prog w K mg base 1 "table_width" ["name", "widths"] (sp_table_width ((fun i => [g1, g2, g3, g4, g5, g6, g7].getD i 0) 2)) := ⟨_, _, ok_table_width F3 ⟨O.bT, O.exc 2 (by decide)⟩, PySem.W.mg_of X G a3, k3, b3⟩
  have F_refuse_unlike : FnX l.prog w K mg base 1 "refuse_unlike" ["one", "other"] (sp_refuse_unlike ((fun i => [g1, g2, g3, g4, g5, g6, g7].getD i 0) 1)) := ⟨_, _, ok_refuse_unlike F5 ⟨O.bW, O.exc 1 (by decide)⟩, PySem.W.mg_of X G a5, k5, b5⟩
  have F_refuse_no_column : FnX l.prog w K mg base 1 "refuse_no_column" ["columns", "count"] (sp_refuse_no_column ((fun i => [g1, g2, g3, g4, g5, g6, g7].getD i 0) 3)) := ⟨_, _, ok_refuse_no_column F6 ⟨O.bC, O.exc 3 (by decide)⟩, PySem.W.mg_of X G a6, k6, b6⟩
  have F_told_columns : FnP l.prog w K mg base 4 "told_columns" ["question"] sp_told_columns := ⟨_, _, ok_told_columns F7 B F_condition_columns, PySem.W.mg_of X G a7, k7, b7⟩
  have F_width_over : FnX l.prog w K mg base 5 "width_over" ["question", "within"] (sp_width_over (fun i => [g1, g2, g3, g4, g5, g6, g7].getD i 0)) := ⟨_, _, ok_width_over F4 B F_refuse_unlike F_refuse_no_column F_told_columns, PySem.W.mg_of X G a4, k4, b4⟩
  have F_width : FnX l.prog w K mg base 10 "width" ["question", "widths"] (sp_width (fun i => [g1, g2, g3, g4, g5, g6, g7].getD i 0) 4) := ⟨_, _, ok_width F2 (PySem.W.mg_of X G a2) k2 b2 F_table_width F_width_over F_parts_of 4, PySem.W.mg_of X G a2, k2, b2⟩
  have F__law_whole : FnP l.prog w K mg base 1 "_law_whole" ["_law_found"] sp__law_whole := ⟨_, _, ok__law_whole F8 B, PySem.W.mg_of X G a8, k8, b8⟩
  have F__law_mixed : FnP l.prog w K mg base 1 "_law_mixed" ["_law_cell", "_law_k"] sp__law_mixed := ⟨_, _, ok__law_mixed F9 B, PySem.W.mg_of X G a9, k9, b9⟩
  have F__law_words : FnP l.prog w K mg base 2 "_law_words" ["_law_cell", "_law_many"] sp__law_words := ⟨_, _, ok__law_words F10 B F__law_mixed, PySem.W.mg_of X G a10, k10, b10⟩
  have F__law_drawn : FnP l.prog w K mg base 6 "_law_drawn" ["_law_cell", "_law_k", "_law_deep", "_law_names"] (sp__law_drawn 4) := ⟨_, _, ok__law_drawn F11 (PySem.W.mg_of X G a11) k11 b11 B F__law_mixed 4, PySem.W.mg_of X G a11, k11, b11⟩
  have F__law_asked : FnP l.prog w K mg base 3 "_law_asked" ["_law_condition"] (sp__law_asked 3) := ⟨_, _, ok__law_asked F12 (PySem.W.mg_of X G a12) k12 b12 3, PySem.W.mg_of X G a12, k12, b12⟩
  have F__law_due_of_one : FnP l.prog w K mg base 4 "_law_due_of_one" ["_law_question", "_law_size"] sp__law_due_of_one := ⟨_, _, ok__law_due_of_one F13 B F__law_asked, PySem.W.mg_of X G a13, k13, b13⟩
  have F__law_due : FnP l.prog w K mg base 8 "_law_due" ["_law_question", "_law_widths"] (sp__law_due 4) := ⟨_, _, ok__law_due F14 (PySem.W.mg_of X G a14) k14 b14 B F__law_due_of_one 4, PySem.W.mg_of X G a14, k14, b14⟩
  have F__law_word : FnP l.prog w K mg base 1 "_law_word" ["_law_got"] (sp__law_word (fun i => [g1, g2, g3, g4, g5, g6, g7].getD i 0)) := ⟨_, _, ok__law_word F15 B O, PySem.W.mg_of X G a15, k15, b15⟩
  have F__law_right : FnP l.prog w K mg base 11 "_law_right" ["_law_question", "_law_widths"] sp__law_right := ⟨_, _, ok__law_right (c := (fun i => [g1, g2, g3, g4, g5, g6, g7].getD i 0)) F16 B O F__law_due F_width F__law_word F__law_whole, PySem.W.mg_of X G a16, k16, b16⟩
  exact ok_law F17 F__law_words F__law_right F__law_drawn
theorem walk {l : PySem.W.OpenLaw} {q : Program} {loose : List Str} {XP : (Str → Option Value) → Heap → Prop} {YP : World → Heap → Prop} {d : DefRec} {K : Params → PySem.W.Frag} (hn : l.most = some 63) (hdf : d.params.defaults = [])
    (hY : ∀ (w : World) (h : Heap), YP w h → (K w.params).In h) (F : ∀ (w : World) (mg : Str → Option Value) (fa : Addr) (h : Heap), (K w.params).In h → h.Ns mainGlobals mg → mg d.name = some (.ref fa) →
      ∃ fd : FuncData, (∀ (s : Shared) (u : Value), BindsTo s fd ⟨[u], []⟩ [("_law_script", u)]) ∧ ∀ base : Heap, (K w.params).In base → base.Ns mainGlobals mg → FnOk l.prog w (K w.params) mg base CX0 12 fa fd ["_law_script"] (spLaw (K w.params))) :
    PySem.W.WalkO q loose XP YP l.row.toRowW d [] (fun f vs => PySem.call f vs) :=
  L2.walk_of (n := 63) (k := 12) (x := "_law_script") (CX := fun _ => CX0) (sp := fun w => spLaw (K w.params)) hn (by decide) hdf ⟨rfl, by decide, by decide⟩ hY F (fun _ _ a ns hl _ hS => ⟨a, ns, rfl, hS, hl, fun _ => rfl⟩) fun _ _ _ _ _ z => z
end Prf
open PySem PySem.W PyProof.Rows
set_option maxRecDepth 100000 in
set_option maxHeartbeats 0 in
theorem PySem.Challenge.cw_whenrows_k32_widths_holds : PySem.Challenge.rw_whenrows_k32_widths.Holds := by
  w_on; o_law; k_head; (case hw => w_witness2)
  k_fill
  refine Prf.walk (l := PySem.Challenge.rw_whenrows_k32_widths) rfl rfl (fun w h Y => PySem.W.kIn_of Y) ?F
  case F =>
    intro w mg fa h KX G hmg
    refine' Prf.all_mk KX G hmg ?a0 ?l0 ?c0 ?k0 ?a1 ?l1 ?c1 ?k1 ?a2 ?l2 ?c2 ?k2 ?a3 ?l3 ?c3 ?k3 ?a4 ?l4 ?c4 ?k4 ?a5 ?l5 ?c5 ?k5 ?a6 ?l6 ?c6 ?k6 ?a7 ?l7 ?c7 ?k7 ?a8 ?l8 ?c8 ?k8 ?a9 ?l9 ?c9 ?k9 ?a10 ?l10 ?c10 ?k10 ?a11 ?l11 ?c11 ?k11 ?a12 ?l12 ?c12 ?k12 ?a13 ?l13 ?c13 ?k13 ?a14 ?l14 ?c14 ?k14 ?a15 ?l15 ?c15 ?k15 ?a16 ?l16 ?c16 ?k16 ?a17 ?l17 ?c17 ?k17 ?z0 ?z1 ?z2 ?z3 ?z4 ?z5 ?z6 ?z7 ?z8 ?z9 ?z10 ?z11 ?z12 ?z13 ?z14 ?z15 ?z16 ?z17 ?z18 ?e0 ?e1 ?e2 ?e3 ?e4 ?e5 ?e6 ?e7 ?ev ?eo
    (case a0 => k_is); (case l0 => k_is); (case c0 => k_is); (case k0 => k_is)
    (case a1 => k_is); (case l1 => k_is); (case c1 => k_is); (case k1 => k_is)
    (case a2 => k_is); (case l2 => k_is); (case c2 => k_is); (case k2 => k_is)
    (case a3 => k_is); (case l3 => k_is); (case c3 => k_is); (case k3 => k_is)
    (case a4 => k_is); (case l4 => k_is); (case c4 => k_is); (case k4 => k_is)
    (case a5 => k_is); (case l5 => k_is); (case c5 => k_is); (case k5 => k_is)
    (case a6 => k_is); (case l6 => k_is); (case c6 => k_is); (case k6 => k_is)
    (case a7 => k_is); (case l7 => k_is); (case c7 => k_is); (case k7 => k_is)
    (case a8 => k_is); (case l8 => k_is); (case c8 => k_is); (case k8 => k_is)
    (case a9 => k_is); (case l9 => k_is); (case c9 => k_is); (case k9 => k_is)
    (case a10 => k_is); (case l10 => k_is); (case c10 => k_is); (case k10 => k_is)
    (case a11 => k_is); (case l11 => k_is); (case c11 => k_is); (case k11 => k_is)
    (case a12 => k_is); (case l12 => k_is); (case c12 => k_is); (case k12 => k_is)
    (case a13 => k_is); (case l13 => k_is); (case c13 => k_is); (case k13 => k_is)
    (case a14 => k_is); (case l14 => k_is); (case c14 => k_is); (case k14 => k_is)
    (case a15 => k_is); (case l15 => k_is); (case c15 => k_is); (case k15 => k_is)
    (case a16 => k_is); (case l16 => k_is); (case c16 => k_is); (case k16 => k_is)
    (case a17 => k_is); (case l17 => k_is); (case c17 => k_is); (case k17 => k_is)
    (case z0 => k_is); (case z1 => k_is); (case z2 => k_is); (case z3 => k_is); (case z4 => k_is); (case z5 => k_is); (case z6 => k_is); (case z7 => k_is); (case z8 => k_is); (case z9 => k_is); (case z10 => k_is); (case z11 => k_is); (case z12 => k_is); (case z13 => k_is); (case z14 => k_is); (case z15 => k_is); (case z16 => k_is); (case z17 => k_is); (case z18 => k_is)
    (case e0 => k_is); (case e1 => k_is); (case e2 => k_is); (case e3 => k_is); (case e4 => k_is); (case e5 => k_is); (case e6 => k_is); (case e7 => k_is); (case ev => k_is)
    (case eo => kernel_rfl)
