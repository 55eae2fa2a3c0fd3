import PyProof.Rows.All
import Wide.All
import OpenK.AllK
import Wide.FinOn
import Lean
import PyProof.EqAt
import PyProof.EqKinds
import PyProof.TupleCall
import KE.KSortTup
import PySem.SetTable
import PyProof.SetScanFacts
import PyProof.SetKind
import PyProof.SetRoads
import PyProof.DictKinds
import PyProof.SetNew
import PyProof.Rows.SetFrom
import PyProof.CollectWalk
import PyProof.MeetsSeq2
import PyProof.Walks
import PyProof.DictIter
import PyProof.FactsAll.set_1
import PyProof.FactsAll.set_2
import PyProof.Rows.SortWalk
import PyProof.FactsAll.subtypes_5
import PyProof.AttrMiss
import PyProof.IsiH_list
import PyProof.Rows.SortShell
import KE.KDictOf
import PyProof.ConsumeS
import PyProof.ZipIter
import PyProof.Rows.SortShellK
import PyProof.DictWalks
import KE.KDictList
import PySem.Challenge.RW_whenrows_k12_cut_at
set_option Elab.async false
set_option linter.all false
set_option maxRecDepth 100000
/-! THE HAND LAYER, for ints, bools, texts, own classes, LISTS and tuples (index, slices, in, append, pop ..), calls, loops. Paste it whole ahead of your own text; what your proof does not reach may be deleted. -/
namespace L2
open PySem PySem.Spec PyProof.Rows

/-- a key: an int or a str -/
abbrev Key := Sum Int Str
def keyIs : Key → Value → Bool
  | .inl k, v => Value.isInt k v
  | .inr x, v => Value.isStrOf x v
def keyH (w : World) : Key → Int
  | .inl k => hashInt k
  | .inr x => hashStr w x
theorem keyIs_shape : ∀ {k : Key} {v : Value}, keyIs k v = true → (∃ i t, k = Sum.inl i ∧ v = Value.int i t) ∨ (∃ x t, k = Sum.inr x ∧ v = Value.str x t)
  | .inl i, v, h => by
    obtain ⟨t, e⟩ := Value.isInt_shape (k := i) (v := v) h
    exact .inl ⟨i, t, rfl, e⟩
  | .inr x, v, h => by
    obtain ⟨t, e⟩ := Value.isStrOf_shape (x := x) (v := v) h
    exact .inr ⟨x, t, rfl, e⟩
theorem keyIs_int (i : Int) (t : Tok) : keyIs (.inl i) (.int i t) = true := by simp [keyIs, Value.isInt]
theorem keyIs_str (x : Str) (t : Tok) : keyIs (.inr x) (.str x t) = true := by simp [keyIs, Value.isStrOf]
theorem key_ll (a b : Int) : decide ((Sum.inl a : Key) = Sum.inl b) = (a == b) := by
  by_cases e : a = b
  · subst e; simp
  · have h : ¬ (Sum.inl a : Key) = Sum.inl b := fun q => e (Sum.inl.inj q)
    rw [decide_eq_false h]
    exact (beq_eq_false_iff_ne.mpr e).symm
theorem key_rr (a b : Str) : decide ((Sum.inr a : Key) = Sum.inr b) = decide (a = b) := by
  by_cases e : a = b
  · subst e; simp
  · have h : ¬ (Sum.inr a : Key) = Sum.inr b := fun q => e (Sum.inr.inj q)
    rw [decide_eq_false h, decide_eq_false e]
theorem key_lr (a : Int) (b : Str) : decide ((Sum.inl a : Key) = Sum.inr b) = false := decide_eq_false (fun q => nomatch q)
theorem key_rl (a : Str) (b : Int) : decide ((Sum.inr a : Key) = Sum.inl b) = false := decide_eq_false (fun q => nomatch q)

def mixKind (prog : Program) (w : World) : PySem.KeyKind prog w Key where
  is := keyIs
  hash := keyH w
  inj := fun v a b ha hb => by
    rcases keyIs_shape ha with ⟨i, t, rfl, rfl⟩ | ⟨x, t, rfl, rfl⟩
    · rcases keyIs_shape hb with ⟨j, u, rfl, e⟩ | ⟨y, u, rfl, e⟩
      · injection e with e1 _; rw [e1]
      · exact nomatch e
    · rcases keyIs_shape hb with ⟨j, u, rfl, e⟩ | ⟨y, u, rfl, e⟩
      · exact nomatch e
      · injection e with e1 _; rw [e1]
  byValue := fun k v h => by
    rcases keyIs_shape h with ⟨i, t, rfl, rfl⟩ | ⟨x, t, rfl, rfl⟩ <;> rfl
  pyHash := fun hv h => by
    rcases keyIs_shape hv with ⟨i, t, rfl, rfl⟩ | ⟨x, t, rfl, rfl⟩
    · exact wpAny_pyHash_int h
    · exact wpAny_pyHash_str h
  eqBool := fun hu hv h => by
    rcases keyIs_shape hu with ⟨i, t, rfl, rfl⟩ | ⟨x, t, rfl, rfl⟩
    · rcases keyIs_shape hv with ⟨j, u, rfl, rfl⟩ | ⟨y, u, rfl, rfl⟩
      · rw [key_ll] at h; exact wpAny_eqBool_int h
      · rw [key_lr] at h; exact SeqAt.EqAt.int_str i t y u _ _ _ _ h
    · rcases keyIs_shape hv with ⟨j, u, rfl, rfl⟩ | ⟨y, u, rfl, rfl⟩
      · rw [key_rl] at h; exact SeqAt.EqAt.str_int x t j u _ _ _ _ h
      · rw [key_rr] at h; exact wpAny_eqBool_str h
  «strs» := fun k x t v h => by
    rcases keyIs_shape h with ⟨i, u, rfl, e⟩ | ⟨y, u, rfl, e⟩
    · exact nomatch e
    · injection e with e1 _
      subst e1
      cases v <;> rfl

theorem mixKind_is (prog : Program) (w : World) (k : Key) (v : Value) : (mixKind prog w).is k v = keyIs k v := rfl
theorem mixKind_int (prog : Program) (w : World) (i : Int) (t : Tok) : (mixKind prog w).is (.inl i) (.int i t) = true := keyIs_int i t
theorem mixKind_str (prog : Program) (w : World) (x : Str) (t : Tok) : (mixKind prog w).is (.inr x) (.str x t) = true := keyIs_str x t
end L2

namespace L2
open PySem PySem.Spec PyProof.Rows

/-- a value, without the heap -/
inductive V where
  | non | bl (b : Bool) | int (i : Int) | str (x : Str) | byt (b : Array UInt8) | flt (b : UInt64) | ref (a : Addr) | ty (n : String)
  deriving DecidableEq

def RelV : V → Value → Prop
  | .non, u => u = Value.none
  | .bl b, u => u = Value.bool b
  | .int i, u => ∃ t, u = Value.int i t
  | .str x, u => ∃ t, u = Value.str x t
  | .byt b, u => ∃ t, u = Value.bytes b t
  | .flt b, u => ∃ t, u = Value.float b t
  | .ref a, u => u = Value.ref a
  | .ty n, u => u = Value.type n

abbrev Vals : List V → List Value → Prop := Paired RelV
theorem Vals.length {xs : List V} {us : List Value} (r : Vals xs us) : xs.length = us.length := Paired.length r
theorem Vals.get : ∀ {xs : List V} {us : List Value} {i : Nat} {x : V}, Vals xs us → xs[i]? = some x → ∃ u, us[i]? = some u ∧ RelV x u
  | _, _, _, _, .nil, e => by simp at e
  | _, _, 0, _, .cons r _, e => by simp at e; subst e; exact ⟨_, rfl, r⟩
  | _, _, i + 1, x, .cons _ t, e => by
    obtain ⟨u, h1, h2⟩ := Vals.get (i := i) (x := x) t (by simpa using e)
    exact ⟨u, by simpa using h1, h2⟩
theorem Vals.set {x : V} {u : Value} (r : RelV x u) : ∀ {xs : List V} {us : List Value} (i : Nat), Vals xs us → Vals (xs.set i x) (us.set i u)
  | _, _, _, .nil => .nil
  | _, _, 0, .cons _ t => .cons r t
  | _, _, i + 1, .cons q t => .cons q (Vals.set r i t)
theorem Vals.append : ∀ {xs ys : List V} {us ws : List Value}, Vals xs us → Vals ys ws → Vals (xs ++ ys) (us ++ ws)
  | _, _, _, _, .nil, s => s
  | _, _, _, _, .cons r t, s => .cons r (Vals.append t s)
theorem Vals.take : ∀ {xs : List V} {us : List Value} (n : Nat), Vals xs us → Vals (xs.take n) (us.take n)
  | _, _, 0, _ => .nil
  | _, _, _ + 1, .nil => .nil
  | _, _, n + 1, .cons r t => .cons r (Vals.take n t)
theorem Vals.drop : ∀ {xs : List V} {us : List Value} (n : Nat), Vals xs us → Vals (xs.drop n) (us.drop n)
  | _, _, 0, r => r
  | _, _, _ + 1, .nil => .nil
  | _, _, n + 1, .cons _ t => Vals.drop n t
theorem Vals.none_of : ∀ {xs : List V} {us : List Value} {i : Nat}, Vals xs us → xs[i]? = none → us[i]? = none := fun {xs us i} r e => by
  have h1 := r.length
  have h2 : xs.length ≤ i := List.getElem?_eq_none_iff.mp e
  exact List.getElem?_eq_none_iff.mpr (by omega)

def RelO : Option V → Option Value → Prop
  | some v, some u => RelV v u
  | none, none => True
  | _, _ => False
def KV {κ : Type} : List (κ × V) → List (κ × Value) → Prop := Paired fun (p : κ × V) (q : κ × Value) => p.1 = q.1 ∧ RelV p.2 q.2

/-- a key of a dict (00_mix): an int or a text -/
def kV : Key → V
  | .inl i => .int i
  | .inr x => .str x

/-- what stands at a tracked address -/
inductive HO where
  /-- a list -/
  | lst (xs : List V)
  /-- a tuple (never changes) -/
  | tup (xs : List V)
  /-- a dict whose keys are ints and texts; one whose keys are tuples of ints and texts (the empty one is both) -/
  | dK (kvs : List (Key × V)) | dT (kvs : List (List Key × V))
  /-- a set of ints: its members, its size -/
  | set (S : Int → Bool) (n : Nat)
  /-- an instance of the class at C, its dict at dx, its attributes -/
  | ins (C dx : Addr) (fs : List (Str × V))
  /-- the dict of the instance at x -/
  | own (x : Addr)
  /-- the dict of an exception -/
  | xd (fs : List (Str × V))
  /-- a bound method, f of x -/
  | met (f x : Addr)
  /-- a range object lo, lo + 1, .. below hi -/
  | rng (lo hi : Int)
  /-- a thing that is known to the object (the script; a dict while a loop walks it): read, never written while it is so -/
  | frz (o : Obj) (u : HO)
  /-- a code object's table -/
  | tbl (ps : Array Value)
  /-- any other thing, by what is true of its one object (a def of one's own: SetO a S n := HO.ext fun h => ..) -/
  | ext (φ : Heap → Prop)

abbrev Hp := Addr → Option HO
def upd (H : Hp) (a : Addr) (o : HO) : Hp := fun b => if b = a then some o else H b
theorem upd_same {H : Hp} {a : Addr} {o : HO} : upd H a o a = some o := by unfold upd; rw [if_pos rfl]
theorem upd_ne {H : Hp} {a b : Addr} {o : HO} (h : b ≠ a) : upd H a o b = H b := by unfold upd; rw [if_neg h]
theorem upd_upd {H : Hp} {a : Addr} {o u : HO} : upd (upd H a o) a u = upd H a u := by
  funext b; unfold upd; split <;> rfl
/-- two objects of different content stand apart -/
theorem ne_of {H : Hp} {a b : Addr} {o u : HO} (h : H a = some o) (h' : H b = some u) (d : o ≠ u) : a ≠ b := by
  intro e; subst e; rw [h] at h'; exact d (Option.some.inj h')
theorem ne_of_none {H : Hp} {a b : Addr} {o : HO} (h : H a = some o) (h' : H b = none) : a ≠ b := by
  intro e; subst e; rw [h] at h'; cases h'

section
variable (P : Program) (w : World)
def ObjOk (H : Hp) (h : Heap) (a : Addr) : HO → Prop
  | .lst xs => xs.length ≤ sizeLine ∧ ∃ (its : List Value) (n : Nat), Vals xs its ∧ h.get? a = some { cls := .type "list", data := .seq its.toArray n }
  | .tup xs => xs.length ≤ sizeLine ∧ ∃ its : List Value, Vals xs its ∧ IsTup h a its.toArray
  | .dK kvs => kvs.length ≤ sizeLine ∧ (a == sysModules) = false ∧ ∃ vs, KV kvs vs ∧ h.DictOf (mixKind P w) a vs
  | .dT kvs => kvs.length ≤ sizeLine ∧ (a == sysModules) = false ∧ ∃ xs : List (List Key × Addr × Value),
      Paired (fun (p : List Key × V) (q : List Key × Addr × Value) => p.1 = q.1 ∧ H q.2.1 = some (.tup (p.1.map kV)) ∧ RelV p.2 q.2.2) kvs xs ∧
      ∃ o es ep, h.get? a = some o ∧ o.ExactDict ∧ o.data = .dict es ep ∧ es.toList = xs.map (entryOfKey (tupleKind (mixKind P w))) ∧ (xs.map (·.1)).Nodup
  | .set S n => h.SetOf (intKind P w) a S n
  | .ins C dx fs => H dx = some (.own a) ∧ fs.length ≤ 1000 ∧ dx ≠ a ∧ h.get? a = some (PySem.W.instObj C dx) ∧
      ∃ mA, h.Ns1 dx mA ∧ (∀ f, RelO (fs.lookup f) (mA f)) ∧ PySem.Within mA (fs.map (·.1))
  | .own _ => ∃ o, h.get? a = some o
  | .xd fs => ∃ mA, h.Ns1 a mA ∧ ∀ f, RelO (fs.lookup f) (mA f)
  | .rng lo hi => ∃ t u v, h.get? a = some { cls := .type "range", data := .fields #[.int lo t, .int hi u, .int 1 v] }
  | .frz o u => h.get? a = some o ∧ ObjOk H h a u
  | .tbl ps => h.get? a = some { cls := .none, data := .fields ps }
  | .met f x => h.get? a = some (PySem.W.methodObj (.ref f) (.ref x))
  | .ext φ => φ h ∧ (∃ o, h.get? a = some o) ∧ ∀ h1 h2 : Heap, φ h1 → (∀ o, h1.get? a = some o → h2.get? a = some o) → φ h2
/-- the abstract heap is held -/
def HOk (H : Hp) (h : Heap) : Prop := ∀ a o, H a = some o → ObjOk P w H h a o
end

section
variable {P : Program} {w : World} {H H' : Hp} {h h' : Heap} {a : Addr} {o : HO}
theorem ObjOk.lt (x : ObjOk P w H h a o) : a < h.objs.size := by
  cases o with
  | lst xs => obtain ⟨_, _, _, _, e⟩ := x; exact Heap.lt_size e
  | tup xs => obtain ⟨_, _, _, p⟩ := x; exact p.lt
  | dK kvs => obtain ⟨_, _, _, _, o, _, _, e, _⟩ := x; exact Heap.lt_size e
  | dT kvs => obtain ⟨_, _, _, _, o, _, _, e, _⟩ := x; exact Heap.lt_size e
  | set S n => obtain ⟨o, _, _, _, e, _⟩ := x; exact Heap.lt_size e
  | ins C dx fs => obtain ⟨_, _, _, e, _⟩ := x; exact Heap.lt_size e
  | own y => obtain ⟨_, e⟩ := x; exact Heap.lt_size e
  | xd fs => obtain ⟨_, ⟨_, _, _, e, _⟩, _⟩ := x; exact Heap.lt_size e
  | rng lo hi => obtain ⟨_, _, _, e⟩ := x; exact Heap.lt_size e
  | frz ob u => obtain ⟨e, _⟩ := x; exact Heap.lt_size e
  | tbl ps => exact Heap.lt_size (show h.get? a = some _ from x)
  | met f y => exact Heap.lt_size (show h.get? a = some _ from x)
  | ext φ => obtain ⟨_, ⟨_, e⟩, _⟩ := x; exact Heap.lt_size e
theorem Paired.mapP {α β : Type} {F G : α → β → Prop} : ∀ {l₁ : List α} {l₂ : List β}, Paired F l₁ l₂ → (∀ a b, F a b → G a b) → Paired G l₁ l₂
  | _, _, .nil, _ => .nil
  | _, _, .cons r t, f => .cons (f _ _ r) (Paired.mapP t f)
theorem Paired.imp' {α β : Type} {F G : α → β → Prop} (f : ∀ a b, F a b → G a b) {l₁ : List α} {l₂ : List β} (r : Paired F l₁ l₂) : Paired G l₁ l₂ := Paired.mapP r f
/-- what an object's description leans on: its own object, its own dict, the tuples -/
theorem ObjOk.stay (x : ObjOk P w H h a o) (k : ∀ b u, (b = a ∨ H b = some (.own a)) → h.get? b = some u → h'.get? b = some u)
    (ho : ∀ b, H b = some (.own a) → H' b = some (.own a)) (ht : ∀ b xs, H b = some (.tup xs) → H' b = some (.tup xs)) : ObjOk P w H' h' a o := by
  induction o with
  | lst xs => obtain ⟨z, its, n, r, e⟩ := x; exact ⟨z, its, n, r, k _ _ (.inl rfl) e⟩
  | tup xs => obtain ⟨z, its, r, ob, e, c⟩ := x; exact ⟨z, its, r, ob, k _ _ (.inl rfl) e, c⟩
  | dK kvs => obtain ⟨z, y, vs, r, ob, es, ep, e, c⟩ := x; exact ⟨z, y, vs, r, ob, es, ep, k _ _ (.inl rfl) e, c⟩
  | dT kvs =>
    obtain ⟨z, y, xs, r, ob, es, ep, e, c⟩ := x
    exact ⟨z, y, xs, Paired.mapP r fun p q z => ⟨z.1, ht _ _ z.2.1, z.2.2⟩, ob, es, ep, k _ _ (.inl rfl) e, c⟩
  | set S n => obtain ⟨ob, es, ep, t, e, c⟩ := x; exact ⟨ob, es, ep, t, k _ _ (.inl rfl) e, c⟩
  | ins C dx fs =>
    obtain ⟨d, z, ne, e, mA, ⟨od, es, ep, e2, c⟩, r⟩ := x
    exact ⟨ho _ d, z, ne, k _ _ (.inl rfl) e, mA, ⟨od, es, ep, k _ _ (.inr d) e2, c⟩, r⟩
  | own y => obtain ⟨ob, e⟩ := x; exact ⟨ob, k _ _ (.inl rfl) e⟩
  | xd fs => obtain ⟨mA, ⟨od, es, ep, e, c⟩, r⟩ := x; exact ⟨mA, ⟨od, es, ep, k _ _ (.inl rfl) e, c⟩, r⟩
  | rng lo hi => obtain ⟨t, u, v, e⟩ := x; exact ⟨t, u, v, k _ _ (.inl rfl) e⟩
  | frz ob u ih => obtain ⟨e, q⟩ := x; exact ⟨k _ _ (.inl rfl) e, ih q⟩
  | tbl ps =>
    have e : h.get? a = some { cls := .none, data := .fields ps } := x
    show h'.get? a = some { cls := .none, data := .fields ps }
    exact k a _ (.inl rfl) e
  | met f y =>
    have e : h.get? a = some (PySem.W.methodObj (.ref f) (.ref y)) := x
    show h'.get? a = some (PySem.W.methodObj (.ref f) (.ref y))
    exact k a _ (.inl rfl) e
  | ext φ => obtain ⟨p, ⟨o, e⟩, st⟩ := x; exact ⟨st _ _ p fun o q => k _ _ (.inl rfl) q, ⟨o, k _ _ (.inl rfl) e⟩, st⟩
theorem HOk.lt (x : HOk P w H h) (e : H a = some o) : a < h.objs.size := (x a o e).lt
theorem HOk.fresh (x : HOk P w H h) (e : h.objs.size ≤ a) : H a = none := by
  cases q : H a with
  | none => rfl
  | some u => exact absurd (Nat.lt_of_lt_of_le (x.lt q) e) (Nat.lt_irrefl _)
/-- every object of the heap is kept -/
theorem HOk.kept (x : HOk P w H h) (k : ∀ b u, h.get? b = some u → h'.get? b = some u) : HOk P w H h' := fun a o e =>
  (x a o e).stay (fun b u _ q => k b u q) (fun _ q => q) fun _ _ q => q
/-- a new object is laid and tracked -/
theorem HOk.laid (x : HOk P w H h) (k : ∀ b u, h.get? b = some u → h'.get? b = some u) (hp : h.objs.size ≤ a) (new : ObjOk P w (upd H a o) h' a o) : HOk P w (upd H a o) h' := fun b u e => by
  have hn := x.fresh hp
  by_cases hb : b = a
  · subst hb; rw [upd_same] at e; cases e; exact new
  · rw [upd_ne hb] at e
    exact (x b u e).stay (fun c v _ q => k c v q) (fun c q => by rw [upd_ne (ne_of_none q hn)]; exact q) fun c xs q => by rw [upd_ne (ne_of_none q hn)]; exact q
end

/-- what may be read as u: it is u, or a known u -/
def Rd (H : Hp) (a : Addr) (u : HO) : Prop := H a = some u ∨ ∃ o, H a = some (.frz o u)
theorem Rd.of {H : Hp} {a : Addr} {u : HO} (h : H a = some u) : Rd H a u := .inl h
theorem Rd.ok {P : Program} {w : World} {H : Hp} {h : Heap} {a : Addr} {u : HO} (r : Rd H a u) (x : HOk P w H h) : ObjOk P w H h a u := by
  rcases r with r | ⟨o, r⟩
  · exact x a u r
  · obtain ⟨_, q⟩ := x a _ r
    exact q
/-- what may be written -/
def Mut : Option HO → Prop
  | some (.lst _) => True
  | some (.dK _) => True
  | some (.dT _) => True
  | some (.set _ _) => True
  | some (.ins _ _ _) => True
  | some (.ext _) => True
  | _ => False
section
variable {P : Program} {w : World} {H : Hp} {h h' : Heap} {x e : Addr} {o' : HO}
/-- the object at e is changed: x itself, or the dict of the instance x -/
theorem HOk.write (ok : HOk P w H h) (mu : Mut (H x)) (he : e = x ∨ H e = some (.own x)) (k : ∀ b u, b ≠ e → h.get? b = some u → h'.get? b = some u) (heo : ∃ u, h'.get? e = some u)
    (new : ObjOk P w (upd H x o') h' x o') : HOk P w (upd H x o') h' := fun b u q => by
  have nown : ∀ c y, H c = some (.own y) → c ≠ x := fun c y r z => by subst z; rw [r] at mu; exact mu
  have ntup : ∀ c xs, H c = some (.tup xs) → c ≠ x := fun c xs r z => by subst z; rw [r] at mu; exact mu
  by_cases hb : b = x
  · subst hb; rw [upd_same] at q; cases q; exact new
  · rw [upd_ne hb] at q
    by_cases hbe : b = e
    · have q' : H b = some (.own x) := by
        rcases he with z | z
        · exact absurd (hbe.trans z) hb
        · rw [hbe]; exact z
      rw [q] at q'; cases q'
      obtain ⟨v, hv⟩ := heo
      exact ⟨v, by rw [hbe]; exact hv⟩
    · refine (ok b u q).stay (fun c v hc r => k c v ?_ r) (fun c r => by rw [upd_ne (nown c b r)]; exact r) fun c xs r => by rw [upd_ne (ntup c xs r)]; exact r
      rcases hc with rfl | hc
      · exact hbe
      · rintro rfl
        rcases he with z | z
        · exact nown c b hc z
        · rw [hc] at z; cases z; exact hb rfl
end

/-! ### kept unless tracked; of the frames at fs (the callers') the slots may change (an exception that passes writes there); of the records at ex (iterators) nothing is said -/
structure Un (fs ex : List Addr) (H H' : Hp) (h h' : Heap) : Prop where
  keep : ∀ b o, h.get? b = some o → H b = none → b ∉ fs → b ∉ ex → h'.get? b = some o
  slot : ∀ b o, h.get? b = some o → H b = none → b ∈ fs → b ∉ ex → ∃ sl, h'.get? b = some { o with slots := sl }
  free : ∀ b o, h.get? b = some o → H b = none → b ∉ ex → H' b = none
  there : ∀ b o, h.get? b = some o → b ∉ ex → ∃ o', h'.get? b = some o'
  tups : ∀ b xs, H b = some (.tup xs) → H' b = some (.tup xs)
  frzs : ∀ b o u, H b = some (.frz o u) → H' b = some (.frz o u)
  tbls : ∀ b ps, H b = some (.tbl ps) → ∃ more, H' b = some (.tbl (ps ++ more))
section
variable {fs fs' ex ex' : List Addr} {H H1 H2 : Hp} {h h1 h2 h' : Heap} {a x e : Addr} {o : HO}
theorem Un.any (u : Un fs ex H H1 h h1) {b : Addr} {ob : Obj} (q : h.get? b = some ob) (n : H b = none) (hx : b ∉ ex) : ∃ sl, h1.get? b = some { ob with slots := sl } := by
  by_cases hb : b ∈ fs
  · exact u.slot b ob q n hb hx
  · exact ⟨ob.slots, u.keep b ob q n hb hx⟩
theorem Un.trans (a : Un fs ex H H1 h h1) (b : Un fs ex H1 H2 h1 h2) : Un fs ex H H2 h h2 where
  keep := fun c ob q n hc hx => b.keep c ob (a.keep c ob q n hc hx) (a.free c ob q n hx) hc hx
  slot := fun c ob q n hc hx => by
    obtain ⟨sl, e1⟩ := a.slot c ob q n hc hx
    obtain ⟨sl', e2⟩ := b.slot c _ e1 (a.free c ob q n hx) hc hx
    exact ⟨sl', e2⟩
  free := fun c ob q n hx => by
    obtain ⟨o', e1⟩ := a.there c ob q hx
    exact b.free c o' e1 (a.free c ob q n hx) hx
  there := fun c ob q hx => by
    obtain ⟨o', e1⟩ := a.there c ob q hx
    exact b.there c o' e1 hx
  tups := fun c xs q => b.tups c xs (a.tups c xs q)
  frzs := fun c ob xs q => b.frzs c ob xs (a.frzs c ob xs q)
  tbls := fun c ps q => by
    obtain ⟨m1, e1⟩ := a.tbls c ps q
    obtain ⟨m2, e2⟩ := b.tbls c _ e1
    exact ⟨m1 ++ m2, by rw [e2, Array.append_assoc]⟩
theorem Un.kept (k : ∀ b u, h.get? b = some u → h'.get? b = some u) : Un fs ex H H h h' :=
  ⟨fun b ob q _ _ _ => k b ob q, fun b ob q _ _ _ => ⟨ob.slots, k b ob q⟩, fun _ _ _ n _ => n, fun b ob q _ => ⟨ob, k b ob q⟩, fun _ _ q => q, fun _ _ _ q => q, fun _ ps q => ⟨#[], by rw [q]; simp⟩⟩
theorem Un.refl : Un fs ex H H h h := Un.kept fun _ _ q => q
theorem Un.laid (k : ∀ b u, h.get? b = some u → h'.get? b = some u) (hp : h.objs.size ≤ a) (hn : H a = none) : Un fs ex H (upd H a o) h h' where
  keep := fun b u q _ _ _ => k b u q
  slot := fun b u q _ _ _ => ⟨u.slots, k b u q⟩
  free := fun b u q n _ => by rw [upd_ne (Nat.ne_of_lt (Nat.lt_of_lt_of_le (Heap.lt_size q) hp))]; exact n
  there := fun b u q _ => ⟨u, k b u q⟩
  tups := fun b xs q => by rw [upd_ne (ne_of_none q hn)]; exact q
  frzs := fun b u xs q => by rw [upd_ne (ne_of_none q hn)]; exact q
  tbls := fun b ps q => ⟨#[], by rw [upd_ne (ne_of_none q hn), q]; simp⟩
theorem Un.write (mu : Mut (H x)) (he : e = x ∨ H e = some (.own x)) (k : ∀ b u, b ≠ e → h.get? b = some u → h'.get? b = some u) (heo : ∃ u, h'.get? e = some u) : Un fs ex H (upd H x o) h h' := by
  have hx : ∀ b, H b = none → b ≠ x := fun b n z => by subst z; rw [n] at mu; exact mu
  have hb : ∀ b, H b = none → b ≠ e := fun b n z => by
    subst z
    rcases he with r | r
    · exact hx b n r
    · rw [n] at r; cases r
  have hm : ∀ b u, H b = some u → ¬ Mut (some u) → b ≠ x := fun b u q nm z => by subst z; rw [q] at mu; exact nm mu
  refine ⟨fun b u q n _ _ => k b u (hb b n) q, fun b u q n _ _ => ⟨u.slots, k b u (hb b n) q⟩, fun b u q n _ => by rw [upd_ne (hx b n)]; exact n, fun b u q _ => ?_,
    fun b xs q => by rw [upd_ne (hm b _ q fun z => z)]; exact q, fun b u xs q => by rw [upd_ne (hm b _ q fun z => z)]; exact q, fun b ps q => ⟨#[], by rw [upd_ne (hm b _ q fun z => z), q]; simp⟩⟩
  by_cases hbe : b = e
  · subst hbe; exact heo
  · exact ⟨u, k b u hbe q⟩
theorem Un.mono (u : Un fs ex H H1 h h1) (hs : ∀ b ∈ fs, b ∈ fs') (hx : ∀ b ∈ ex, b ∈ ex') : Un fs' ex' H H1 h h1 :=
  ⟨fun b ob q n hb he => u.keep b ob q n (fun z => hb (hs b z)) fun z => he (hx b z), fun _ _ q n _ he => u.any q n fun z => he (hx _ z), fun b ob q n he => u.free b ob q n fun z => he (hx b z), fun b ob q he => u.there b ob q fun z => he (hx b z), u.tups, u.frzs, u.tbls⟩
end

/-! ### the heap without what is tracked -/
def trk (h : Heap) (H : Hp) : List Addr := (List.range h.objs.size).filter fun a => (H a).isSome
def hidT (h : Heap) (H : Hp) : Heap := PySem.W.hideAll h (trk h H)
theorem hidT_size (h : Heap) (H : Hp) : (hidT h H).objs.size = h.objs.size := PySem.W.hideAll_size _ _
theorem hidT_get {h : Heap} {H : Hp} {b : Addr} {o : Obj} (e : h.get? b = some o) (n : H b = none) : (hidT h H).get? b = some o :=
  PySem.W.hideAll_get _ e fun hm => by
    have q : (H b).isSome = true := (List.mem_filter.mp hm).2
    rw [n] at q; simp at q
theorem of_hidT {h : Heap} {H : Hp} {b : Addr} {o : Obj} (e : (hidT h H).get? b = some o) : h.get? b = some o ∧ H b = none := by
  have e' : h.get? b = some o := PySem.W.of_hideAll (trk h H) e
  refine ⟨e', ?_⟩
  cases q : H b with
  | none => rfl
  | some x =>
    have hm : b ∈ trk h H := List.mem_filter.mpr ⟨List.mem_range.mpr (Heap.lt_size e'), by simp [q]⟩
    have z : (hidT h H).get? b = none := PySem.W.hideAll_none (trk h H) hm
    rw [z] at e; cases e

/-! ### OpenK's ledger, filled with every new object but one -/
def allNews (g h : Heap) (L : Addr) : List (Addr × Obj) := (List.range h.objs.size).filterMap fun a => if a = L ∨ (g.get? a).isSome = true then none else (h.get? a).map fun o => (a, o)
theorem mem_allNews {g h : Heap} {L a : Addr} {o : Obj} (h1 : a ≠ L) (h2 : g.get? a = none) (h3 : h.get? a = some o) : (a, o) ∈ allNews g h L :=
  List.mem_filterMap.mpr ⟨a, List.mem_range.mpr (Heap.lt_size h3), by simp [h1, h2, h3]⟩
theorem of_mem_allNews {g h : Heap} {L : Addr} {p : Addr × Obj} (hp : p ∈ allNews g h L) : p.1 ≠ L ∧ g.get? p.1 = none ∧ h.get? p.1 = some p.2 := by
  obtain ⟨b, _, e⟩ := List.mem_filterMap.mp hp
  split at e
  · cases e
  · rename_i hn
    cases q : h.get? b with
    | none => rw [q] at e; simp at e
    | some u =>
      rw [q] at e
      simp only [Option.map_some, Option.some.injEq] at e
      subst e
      refine ⟨fun z => hn (.inl z), ?_, q⟩
      show g.get? b = none
      cases r : g.get? b with
      | none => rfl
      | some v => exact (hn (.inr (by simp [r]))).elim
def rest (g h : Heap) (L d : Addr) : List (Addr × Obj) := (allNews g h L).filter fun p => decide (p.1 ≠ d)
theorem rest_ne {g h : Heap} {L d : Addr} : ∀ p ∈ rest g h L d, p.1 ≠ d := fun p hp => of_decide_eq_true (List.mem_filter.mp hp).2
theorem mem_rest {g h : Heap} {L d a : Addr} {o : Obj} (h1 : a ≠ L) (h2 : g.get? a = none) (h3 : h.get? a = some o) (h4 : a ≠ d) : (a, o) ∈ rest g h L d :=
  List.mem_filter.mpr ⟨mem_allNews h1 h2 h3, decide_eq_true h4⟩
theorem news_all {g h : Heap} {L : Addr} : News g L h (allNews g h L) := fun p hp => let ⟨a, b, c⟩ := of_mem_allNews hp; ⟨c, a, b⟩
theorem news_at {g h : Heap} {L d : Addr} {o : Obj} (h1 : d ≠ L) (h2 : g.get? d = none) (h3 : h.get? d = some o) : News g L h ((d, o) :: rest g h L d) := fun p hp => by
  rcases List.mem_cons.mp hp with rfl | hp
  · exact ⟨h3, h1, h2⟩
  · exact news_all p (List.mem_filter.mp hp).1
/-- behind a rule that changed d alone: all else but the frame is kept -/
theorem kept_of_news {g h h' : Heap} {L d : Addr} {m : Str → Option Value} (k : ∀ b o, g.get? b = some o → h.get? b = some o) (F : Fr g L h' m) (N : News g L h' (rest g h L d)) :
    ∀ b o, b ≠ L → b ≠ d → h.get? b = some o → h'.get? b = some o := fun b o h1 h2 e => by
  cases q : g.get? b with
  | some u =>
    have := k b u q
    rw [e] at this; cases this
    exact F.keep b _ q
  | none => exact (N (b, o) (mem_rest h1 q e h2)).1
end L2

namespace L2
open PySem PySem.Spec PyProof.Rows

/-- the module's facts, over the base: the heap at the law's entry without what is tracked there -/
structure Mod (K : PySem.W.Frag) (mg : Str → Option Value) (base : Heap) : Prop where
  kin : K.In base
  glob : base.Ns mainGlobals mg
  blt : ∃ mb, base.Ns builtinsNs mb ∧ ∀ x : Str, x ≠ "__name__" → mb x = bootBuiltins x
  nolimit : base.NoLimit

/-- the context: a def's body (or a comprehension's block) running. base: fixed through the whole law; s₀, H₀: the entry; outer: the frames whose slots others may change (a def's callers); stack: all frames that run;
   ex: iterators that were made ahead of the entry and are walked here (a comprehension's); fn: the names whose cells were made at the entry (a def: all; a comprehension's block: its own); calm: not within an except suite; pn: pins that every state bears; xe: what is wanted of an exception that leaves the code -/
structure Cx where
  prog : Program
  w : World
  K : PySem.W.Frag
  mg : Str → Option Value
  base : Heap
  A : Around
  N : List Str
  s₀ : Shared
  H₀ : Hp
  env : Env
  outer : List Env
  stack : List Env
  ex : List Addr
  fn : Str → Bool
  calm : Bool
  pn : List (Addr × Obj)
  xe : Value → Shared → Prop
/-- the callers' frames -/
def frs (l : List Env) : List Addr := l.filterMap (·.frame)
abbrev Cx.fs (X : Cx) : List Addr := frs X.outer

def Vis (sc : Scope) (x : Str) : Prop := sc.names.lookup x = some .local ∨ sc.names.lookup x = some .cell ∨ sc.names.lookup x = some .free
def Loc (sc : Scope) (x : Str) : Prop := sc.names.lookup x = some .local ∨ sc.names.lookup x = some .cell
def Look (env : Env) (h : Heap) (m : Str → Option Value) (x : Str) (u : Value) : Prop :=
  (env.kindOf x = some .local ∧ m x = some u) ∨ ((env.kindOf x = some .cell ∨ env.kindOf x = some .free) ∧ ∃ c, env.cells.lookup x = some c ∧ h.IsCell c (some u))

structure Cx.Ok (X : Cx) : Prop where
  mod : Mod X.K X.mg X.base
  kind : X.env.scope.kind = .function
  glob : X.env.globals = mainGlobals
  blt : X.env.builtins = builtinsNs
  above : X.s₀.heap.objs.size ≤ X.env.locals
  inj : ∀ x y c, X.env.cells.lookup x = some c → X.env.cells.lookup y = some c → x = y
  has : ∀ x, (X.env.kindOf x = some .cell ∨ X.env.kindOf x = some .free) → ∃ c, X.env.cells.lookup x = some c
  cab : ∀ x c, X.fn x = true → X.env.cells.lookup x = some c → X.s₀.heap.objs.size ≤ c
  hd : X.calm = true → X.A.handled = none
  frames : X.A.frames = some X.stack
  stk : X.stack = X.outer ∨ (X.stack = X.env :: X.outer ∧ X.env.frame = some X.env.locals)
  exf : ∀ b ∈ X.ex, b ≠ X.env.locals ∧ ∀ x c, X.env.cells.lookup x = some c → c ≠ b
  bs : ∀ b o, X.base.get? b = some o → X.s₀.heap.get? b = some o ∧ X.H₀ b = none
  bsz : X.base.objs.size ≤ X.s₀.heap.objs.size
  noex : ∀ b o, X.base.get? b = some o → b ∉ X.ex
  exfs : ∀ b ∈ X.ex, b ∉ X.fs
  funs : X.s₀.heap.FunFrames X.base X.outer
  frf : ∀ b ∈ X.fs, X.H₀ b = none

structure Inv (X : Cx) (pins : List (Addr × Obj)) (σ : List (Option V)) (H : Hp) (s : Shared) : Prop where
  ok : X.Ok
  os : s.os = X.s₀.os
  bare : AllBare s.gens
  base : Un X.fs X.ex X.H₀ H X.s₀.heap s.heap
  loc : ∃ m, s.heap.Ns X.env.locals m ∧ ∀ (i : Nat) (x : Str) (v : V), X.N[i]? = some x → σ[i]? = some (some v) → Vis X.env.scope x → ∃ u, RelV v u ∧ Look X.env s.heap m x u
  cell : ∀ x c, X.env.cells.lookup x = some c → ∃ v, s.heap.IsCell c v
  free : H X.env.locals = none
  freeC : ∀ x c, X.env.cells.lookup x = some c → H c = none
  pin : ∀ p ∈ X.pn ++ pins, s.heap.get? p.1 = some p.2 ∧ H p.1 = none ∧ p.1 ≠ X.env.locals ∧ p.1 ∉ X.fs ∧ ∀ v, p.2.data ≠ .cell v
  hok : HOk X.prog X.w H s.heap
  len : σ.length = X.N.length

section
variable {X : Cx} {pins : List (Addr × Obj)} {σ : List (Option V)} {H H' : Hp} {s : Shared} {h' : Heap}

theorem Cx.Ok.nofr (ok : X.Ok) {b : Addr} {o : Obj} (e : X.base.get? b = some o) : b ∉ X.fs := fun hb => by
  have := (ok.funs.mem hb).1
  rw [e] at this; cases this
theorem Inv.bs (I : Inv X pins σ H s) : ∀ b o, X.base.get? b = some o → s.heap.get? b = some o ∧ H b = none := fun b o e =>
  ⟨I.base.keep b o (I.ok.bs b o e).1 (I.ok.bs b o e).2 (I.ok.nofr e) (I.ok.noex b o e), I.base.free b o (I.ok.bs b o e).1 (I.ok.bs b o e).2 (I.ok.noex b o e)⟩
theorem Inv.bk (I : Inv X pins σ H s) : ∀ b o, X.base.get? b = some o → s.heap.get? b = some o := fun b o e => (I.bs b o e).1
theorem Inv.mod (I : Inv X pins σ H s) : Mod X.K X.mg X.base := I.ok.mod
theorem Inv.kIn (I : Inv X pins σ H s) : X.K.In s.heap := I.ok.mod.kin.keeps I.bk
theorem Inv.nolimit (I : Inv X pins σ H s) : s.heap.NoLimit := I.ok.mod.nolimit.keeps I.bk
/-- the frame over the base: for OpenK's rules (K.In X.base is I.mod.kin) -/
theorem Inv.fr (I : Inv X pins σ H s) : ∃ m, Fr X.base X.env.locals s.heap m :=
  let ⟨m, hn, _⟩ := I.loc
  ⟨m, hn, I.bk, Nat.le_trans I.ok.bsz I.ok.above⟩
theorem Inv.lt (I : Inv X pins σ H s) : X.env.locals < s.heap.objs.size := let ⟨_, hn, _⟩ := I.loc; hn.lt
theorem Inv.sz (I : Inv X pins σ H s) : X.s₀.heap.objs.size ≤ s.heap.objs.size := Nat.le_trans I.ok.above (Nat.le_of_lt I.lt)
theorem Inv.nofs (I : Inv X pins σ H s) {a : Addr} (h : s.heap.objs.size ≤ a) : a ∉ X.fs := fun hb => by
  obtain ⟨_, o, ho, _⟩ := I.ok.funs.mem hb
  exact absurd (Nat.lt_of_lt_of_le (Heap.lt_size ho) (Nat.le_trans I.sz h)) (Nat.lt_irrefl _)
theorem Inv.cne (I : Inv X pins σ H s) : ∀ x c, X.env.cells.lookup x = some c → c ≠ X.env.locals := fun x c e z => by
  obtain ⟨v, o, ho, hd⟩ := I.cell x c e
  obtain ⟨m, ⟨o', es, ep, ho', hd', _⟩, _⟩ := I.loc
  rw [z, ho'] at ho; cases ho; rw [hd'] at hd; cases hd
theorem Inv.funs (I : Inv X pins σ H s) : s.heap.FunFrames X.base X.outer := by
  have all : ∀ (l : List Env), (∀ b ∈ frs l, b ∈ X.fs) → X.s₀.heap.FunFrames X.base l → s.heap.FunFrames X.base l := by
    intro l
    induction l with
    | nil => intro _ _; trivial
    | cons env r ih =>
      intro hs hl
      obtain ⟨hk, ⟨L, o, hf, hn, ho, hd⟩, hr⟩ := hl
      have hL : L ∈ X.fs := hs L (by unfold frs; rw [List.filterMap_cons, hf]; exact List.mem_cons_self)
      obtain ⟨sl, e⟩ := I.base.slot L o ho (I.ok.frf L hL) hL fun z => I.ok.exfs L z hL
      exact ⟨hk, ⟨L, _, hf, hn, e, hd⟩, ih (fun b hb => hs b (by unfold frs; rw [List.filterMap_cons, hf]; exact List.mem_cons_of_mem _ hb)) hr⟩
  exact all X.outer (fun _ hb => hb) I.ok.funs

/-- the frames that run, for a call -/
theorem Inv.stack (I : Inv X pins σ H s) : s.heap.FunFrames X.base X.stack := by
  rcases I.ok.stk with e | ⟨e, hf⟩
  · rw [e]; exact I.funs
  · rw [e]
    obtain ⟨m, hn, _⟩ := I.loc
    refine .cons (by rw [I.ok.kind]; decide) hf hn ?_ I.funs
    exact Heap.get?_none_of_le (Nat.le_trans I.ok.bsz I.ok.above)
theorem Inv.stkSub (I : Inv X pins σ H s) : ∀ b ∈ frs X.stack, b ∈ X.env.locals :: X.fs := fun b hb => by
  rcases I.ok.stk with e | ⟨e, hf⟩
  · rw [e] at hb; exact List.mem_cons_of_mem _ hb
  · rw [e] at hb
    unfold frs at hb
    rw [List.filterMap_cons, hf] at hb
    exact hb
theorem Inv.stkFree (I : Inv X pins σ H s) : ∀ b ∈ frs X.stack, H b = none := fun b hb => by
  rcases List.mem_cons.mp (I.stkSub b hb) with e | hb
  · rw [e]; exact I.free
  · obtain ⟨_, o, ho, _⟩ := I.ok.funs.mem hb
    exact I.base.free b o ho (I.ok.frf b hb) fun z => I.ok.exfs b z hb

/-- THE STEP: the untracked objects but the frame and the records at ch are kept (the callers' frames up to slots), the frame's map is kept, the new abstract heap is held -/
theorem Inv.step {g' : Array GenState} {t' : Nat} {d' : Drawn} {ch : List Addr} (I : Inv X pins σ H s)
    (hch : ∀ b ∈ ch, (b ∈ X.ex ∨ X.s₀.heap.objs.size ≤ b) ∧ b ≠ X.env.locals ∧ (∀ x c, X.env.cells.lookup x = some c → c ≠ b) ∧ ∀ p ∈ X.pn ++ pins, p.1 ≠ b)
    (keep : ∀ b o, b ≠ X.env.locals → b ∉ X.fs → b ∉ ch → s.heap.get? b = some o → H b = none → h'.get? b = some o)
    (slot : ∀ b o, b ≠ X.env.locals → b ∈ X.fs → b ∉ ch → s.heap.get? b = some o → H b = none → ∃ sl, h'.get? b = some { o with slots := sl }) (free : ∀ b o, b ∉ ch → s.heap.get? b = some o → H b = none → H' b = none)
    (there : ∀ b o, b ∉ ch → s.heap.get? b = some o → ∃ o', h'.get? b = some o')
    (tups : ∀ b xs, H b = some (.tup xs) → H' b = some (.tup xs)) (frzs : ∀ b o u, H b = some (.frz o u) → H' b = some (.frz o u)) (tbls : ∀ b ps, H b = some (.tbl ps) → ∃ more, H' b = some (.tbl (ps ++ more)))
    (ns : ∀ m, s.heap.Ns X.env.locals m → h'.Ns X.env.locals m) (hok : HOk X.prog X.w H' h') (hg : AllBare g') :
    Inv X pins σ H' { s with heap := h', gens := g', drawn := d', toks := t' } := by
  have neL : ∀ b o, X.s₀.heap.get? b = some o → b ≠ X.env.locals := fun b o e => Nat.ne_of_lt (Nat.lt_of_lt_of_le (Heap.lt_size e) I.ok.above)
  have neC : ∀ b o, X.s₀.heap.get? b = some o → b ∉ X.ex → b ∉ ch := fun b o e hx hb => by
    rcases (hch b hb).1 with z | z
    · exact hx z
    · exact absurd (Nat.lt_of_lt_of_le (Heap.lt_size e) z) (Nat.lt_irrefl _)
  have cellK : ∀ x c, X.env.cells.lookup x = some c → ∀ v, s.heap.IsCell c v → h'.IsCell c v := fun x c e v ⟨o, ho, hd⟩ => by
    have nch : c ∉ ch := fun z => (hch c z).2.2.1 x c e rfl
    by_cases hc : c ∈ X.fs
    · obtain ⟨sl, q⟩ := slot c o (I.cne x c e) hc nch ho (I.freeC x c e)
      exact ⟨_, q, hd⟩
    · exact ⟨o, keep c o (I.cne x c e) hc nch ho (I.freeC x c e), hd⟩
  refine ⟨I.ok, I.os, hg, ⟨fun b o e n hb hx => ?_, fun b o e n hb hx => ?_, fun b o e n hx => ?_, fun b o e hx => ?_, fun b xs e => tups b xs (I.base.tups b xs e), fun b o xs e => frzs b o xs (I.base.frzs b o xs e), fun b ps e => ?_⟩, ?_, fun x c e => ?_, ?_, fun x c e => ?_, fun p hp => ?_, hok, I.len⟩
  · exact keep b o (neL b o e) hb (neC b o e hx) (I.base.keep b o e n hb hx) (I.base.free b o e n hx)
  · obtain ⟨sl, e1⟩ := I.base.slot b o e n hb hx
    obtain ⟨sl', e2⟩ := slot b _ (neL b o e) hb (neC b o e hx) e1 (I.base.free b o e n hx)
    exact ⟨sl', e2⟩
  · obtain ⟨o', e1⟩ := I.base.there b o e hx
    exact free b o' (neC b o e hx) e1 (I.base.free b o e n hx)
  · obtain ⟨o', e1⟩ := I.base.there b o e hx
    exact there b o' (neC b o e hx) e1
  · obtain ⟨m1, e1⟩ := I.base.tbls b ps e
    obtain ⟨m2, e2⟩ := tbls b _ e1
    exact ⟨m1 ++ m2, by rw [e2, Array.append_assoc]⟩
  · obtain ⟨m, hn, hl⟩ := I.loc
    refine ⟨m, ns m hn, fun i x v e1 e2 e3 => ?_⟩
    obtain ⟨u, r, l⟩ := hl i x v e1 e2 e3
    refine ⟨u, r, ?_⟩
    rcases l with l | ⟨k, c, e, z⟩
    · exact .inl l
    · exact .inr ⟨k, c, e, cellK x c e _ z⟩
  · obtain ⟨v, z⟩ := I.cell x c e
    exact ⟨v, cellK x c e v z⟩
  · obtain ⟨m, ⟨o, _, _, ho, _⟩, _⟩ := I.loc
    exact free _ o (fun z => (hch _ z).2.1 rfl) ho I.free
  · obtain ⟨v, o, ho, hd⟩ := I.cell x c e
    exact free c o (fun z => (hch c z).2.2.1 x c e rfl) ho (I.freeC x c e)
  · obtain ⟨e, n, ne, nf, d⟩ := I.pin p hp
    have nch : p.1 ∉ ch := fun z => (hch p.1 z).2.2.2 p hp rfl
    exact ⟨keep p.1 p.2 ne nf nch e n, free p.1 p.2 nch e n, ne, nf, d⟩
/-- .. where the frame's own object is kept too -/
theorem Inv.un {t' : Nat} (I : Inv X pins σ H s) (u : Un X.fs [] H H' s.heap h') (hok : HOk X.prog X.w H' h') : Inv X pins σ H' { s with heap := h', toks := t' } := by
  obtain ⟨m, ⟨o, es, ep, ho, r⟩, _⟩ := id I.loc
  obtain ⟨sl, hL⟩ := u.any ho I.free (by simp)
  exact I.step (g' := s.gens) (d' := s.drawn) (ch := []) (fun _ z => nomatch z) (fun b o _ hb _ e n => u.keep b o e n hb (by simp)) (fun b o _ hb _ e n => u.slot b o e n hb (by simp)) (fun b o _ e n => u.free b o e n (by simp)) (fun b o _ e => u.there b o e (by simp)) u.tups u.frzs u.tbls (fun m' hm => by
    obtain ⟨o', es', ep', ho', r'⟩ := hm
    rw [ho] at ho'; cases ho'
    exact ⟨_, es', ep', hL, r'⟩) hok I.bare
/-- behind a call (or a comprehension's block): the slots of this frame may have changed too, the records at ch may have turned -/
theorem Inv.call {g' : Array GenState} {t' : Nat} {d' : Drawn} {ch : List Addr} (I : Inv X pins σ H s) (u : Un (frs X.stack) ch H H' s.heap h') (hok : HOk X.prog X.w H' h') (hg : AllBare g')
    (hch : ∀ b ∈ ch, (b ∈ X.ex ∨ X.s₀.heap.objs.size ≤ b) ∧ b ≠ X.env.locals ∧ (∀ x c, X.env.cells.lookup x = some c → c ≠ b) ∧ ∀ p ∈ X.pn ++ pins, p.1 ≠ b) :
    Inv X pins σ H' { s with heap := h', gens := g', drawn := d', toks := t' } := by
  obtain ⟨m, ⟨o, es, ep, ho, r⟩, _⟩ := id I.loc
  obtain ⟨sl, hL⟩ := u.any ho I.free fun z => (hch _ z).2.1 rfl
  exact I.step (ch := ch) hch (fun b o hL hb hc e n => u.keep b o e n (fun z => (List.mem_cons.mp (I.stkSub b z)).elim hL hb) hc) (fun b o _ _ hc e n => u.any e n hc) (fun b o hc e n => u.free b o e n hc) (fun b o hc e => u.there b o e hc) u.tups u.frzs u.tbls (fun m' hm => by
    obtain ⟨o', es', ep', ho', r'⟩ := hm
    rw [ho] at ho'; cases ho'
    exact ⟨_, es', ep', hL, r'⟩) hok hg
/-- an untracked record of ours (an iterator) has turned -/
theorem Inv.turned {t' : Nat} {it : Addr} (I : Inv X pins σ H s) (k : ∀ b o, b ≠ it → s.heap.get? b = some o → h'.get? b = some o) (hn : H it = none) (hL : it ≠ X.env.locals)
    (h1 : it ∈ X.ex ∨ X.s₀.heap.objs.size ≤ it) (h2 : ∀ x c, X.env.cells.lookup x = some c → c ≠ it) (h3 : ∀ p ∈ X.pn ++ pins, p.1 ≠ it) : Inv X pins σ H { s with heap := h', toks := t' } := by
  have nit : ∀ b u, H b = some u → b ≠ it := fun b u e z => by rw [z, hn] at e; cases e
  refine I.step (g' := s.gens) (d' := s.drawn) (ch := [it]) (fun b hb => ?_) (fun b o _ _ hc e _ => k b o (fun z => hc (by simp [z])) e) (fun b o _ _ hc e _ => ⟨o.slots, k b o (fun z => hc (by simp [z])) e⟩) (fun _ _ _ _ n => n)
    (fun b o hc e => ⟨o, k b o (fun z => hc (by simp [z])) e⟩) (fun _ _ e => e) (fun _ _ _ e => e) (fun b ps e => ⟨#[], by rw [e]; simp⟩) (fun m hm => ?_) (fun b u e => ?_) I.bare
  · have e : b = it := by simpa using hb
    subst e
    exact ⟨h1, hL, h2, h3⟩
  · obtain ⟨o, es, ep, ho, r⟩ := hm
    exact ⟨o, es, ep, k _ o (Ne.symm hL) ho, r⟩
  · refine (I.hok b u e).stay (fun c v hc q => k c v ?_ q) (fun _ q => q) fun _ _ q => q
    rcases hc with z | z
    · rw [z]; exact nit b u e
    · exact nit c _ z
theorem Inv.tok (I : Inv X pins σ H s) (t : Nat) : Inv X pins σ H { s with toks := t } := I.un (h' := s.heap) (t' := t) Un.refl I.hok
/-- all objects kept -/
theorem Inv.kept {t' : Nat} (I : Inv X pins σ H s) (k : ∀ b u, s.heap.get? b = some u → h'.get? b = some u) : Inv X pins σ H { s with heap := h', toks := t' } := I.un (Un.kept k) (I.hok.kept k)
/-- a new object laid and tracked -/
theorem Inv.laid {a : Addr} {o : HO} {t' : Nat} (I : Inv X pins σ H s) (k : ∀ b u, s.heap.get? b = some u → h'.get? b = some u) (hp : s.heap.objs.size ≤ a) (new : ObjOk X.prog X.w (upd H a o) h' a o) :
    Inv X pins σ (upd H a o) { s with heap := h', toks := t' } := I.un (Un.laid k hp (I.hok.fresh hp)) (I.hok.laid k hp new)
/-- an object written -/
theorem Inv.write {x e : Addr} {o : HO} {t' : Nat} (I : Inv X pins σ H s) (mu : Mut (H x)) (he : e = x ∨ H e = some (.own x)) (k : ∀ b u, b ≠ e → s.heap.get? b = some u → h'.get? b = some u) (heo : ∃ u, h'.get? e = some u)
    (new : ObjOk X.prog X.w (upd H x o) h' x o) : Inv X pins σ (upd H x o) { s with heap := h', toks := t' } := I.un (Un.write mu he k heo) (I.hok.write mu he k heo new)
/-- forgetting slots, pins -/
theorem Inv.weak {σ' : List (Option V)} (I : Inv X pins σ H s) (hl : σ'.length = σ.length) (w : ∀ (i : Nat) v, σ'[i]? = some (some v) → σ[i]? = some (some v)) : Inv X pins σ' H s :=
  ⟨I.ok, I.os, I.bare, I.base, let ⟨m, hn, hl'⟩ := I.loc; ⟨m, hn, fun i x v e1 e2 e3 => hl' i x v e1 (w i v e2) e3⟩, I.cell, I.free, I.freeC, I.pin, I.hok, hl.trans I.len⟩
theorem Inv.pins_of {pins' : List (Addr × Obj)} (I : Inv X pins σ H s) (h : ∀ p ∈ pins', s.heap.get? p.1 = some p.2 ∧ H p.1 = none ∧ p.1 ≠ X.env.locals ∧ p.1 ∉ X.fs ∧ ∀ v, p.2.data ≠ .cell v) : Inv X pins' σ H s :=
  ⟨I.ok, I.os, I.bare, I.base, I.loc, I.cell, I.free, I.freeC, fun p hp => (List.mem_append.mp hp).elim (fun z => I.pin p (List.mem_append_left _ z)) (h p), I.hok, I.len⟩

theorem nodup_ix {N : List Str} (hN : N.Nodup) {i j : Nat} {x : Str} (a : N[i]? = some x) (b : N[j]? = some x) : i = j := by
  obtain ⟨h1, e1⟩ := List.getElem?_eq_some_iff.mp a
  obtain ⟨h2, e2⟩ := List.getElem?_eq_some_iff.mp b
  exact (List.getElem_inj hN).mp (e1.trans e2.symm)

/-- a name is stored; what changed -/
theorem store_ok2 {M : Model} {A : Around} {E : Value → Shared → Prop} {i : Nat} {x : Str} {v : V} {u : Value} {Q : Unit → Shared → Prop} (I : Inv X pins σ H s) (hN : X.N.Nodup) (hi : X.N[i]? = some x) (hx : Loc X.env.scope x) (r : RelV v u)
    (h : ∀ s', Inv X pins (σ.set i (some v)) H s' → (∃ a, Heap.SameBut a s.heap s'.heap ∧ (a = X.env.locals ∨ X.env.cells.lookup x = some a)) → Q () s') (hf : X.fn x = true ∨ X.env.scope.names.lookup x = some .local := by first | exact .inl rfl | exact .inr rfl | assumption) : wpAny M A (storeName X.env x u) Q E s := by
  obtain ⟨m, hn, hl⟩ := id I.loc
  have hcls : (X.env.scope.kind == .class || (X.env.scope.kind == .module && X.env.locals != X.env.globals)) = false := by rw [I.ok.kind]; rfl
  have hiσ : i < σ.length := by rw [I.len]; exact (List.getElem?_eq_some_iff.mp hi).1
  have cne := I.cne
  have tracked : ∀ {a : Addr} {h' : Heap}, (∃ o, s.heap.get? a = some o ∧ H a = none) → Heap.SameBut a s.heap h' → HOk X.prog X.w H h' := fun {a h'} ha hs b ob e => by
    obtain ⟨_, _, hfree⟩ := ha
    refine (I.hok b ob e).stay (fun c w' hc q => (hs.2 c ?_).trans q) (fun _ q => q) fun _ _ q => q
    rintro rfl
    rcases hc with rfl | hc
    · rw [hfree] at e; cases e
    · rw [hfree] at hc; cases hc
  rcases hx with hk | hk
  · refine wpAny_storeName_local hk hn (fun h' hn' hs => ?_) hcls
    obtain ⟨oL, _, _, hoL, _⟩ := id hn
    refine h _ ⟨I.ok, I.os, I.bare, ⟨fun b o e n hb hx => ?_, fun b o e n hb hx => ?_, I.base.free, fun b o e hx => ?_, I.base.tups, I.base.frzs, I.base.tbls⟩, ⟨_, hn', fun j y v' e1 e2 e3 => ?_⟩, fun y c e => ?_, I.free, I.freeC, fun p hp => ?_, tracked ⟨oL, hoL, I.free⟩ hs, by simpa using I.len⟩ ⟨_, hs, .inl rfl⟩
    · exact (hs.2 b (Nat.ne_of_lt (Nat.lt_of_lt_of_le (Heap.lt_size e) I.ok.above))).trans (I.base.keep b o e n hb hx)
    · obtain ⟨sl, e1⟩ := I.base.slot b o e n hb hx
      exact ⟨sl, (hs.2 b (Nat.ne_of_lt (Nat.lt_of_lt_of_le (Heap.lt_size e) I.ok.above))).trans e1⟩
    · obtain ⟨o', e1⟩ := I.base.there b o e hx
      exact ⟨o', (hs.2 b (Nat.ne_of_lt (Nat.lt_of_lt_of_le (Heap.lt_size e) I.ok.above))).trans e1⟩
    · by_cases hj : j = i
      · subst hj
        rw [hi] at e1; cases e1
        rw [List.getElem?_set_self hiσ] at e2
        cases e2
        exact ⟨u, r, .inl ⟨hk, by simp⟩⟩
      · rw [List.getElem?_set_ne (Ne.symm hj)] at e2
        obtain ⟨u', r', q⟩ := hl j y v' e1 e2 e3
        refine ⟨u', r', ?_⟩
        rcases q with ⟨k, e⟩ | ⟨k, c, e, z⟩
        · refine .inl ⟨k, ?_⟩
          have : y ≠ x := fun e => hj (nodup_ix hN e1 (e ▸ hi))
          simp [this, e]
        · exact .inr ⟨k, c, e, z.sameBut hs (cne y c e)⟩
    · obtain ⟨w', z⟩ := I.cell y c e
      exact ⟨w', z.sameBut hs (cne y c e)⟩
    · obtain ⟨e, n, ne, nf, d⟩ := I.pin p hp
      exact ⟨(hs.2 p.1 ne).trans e, n, ne, nf, d⟩
  · have hfn : X.fn x = true := by
      rcases hf with z | z
      · exact z
      · rw [z] at hk; cases hk
    obtain ⟨c, hc⟩ := I.ok.has x (.inl hk)
    obtain ⟨w', z⟩ := I.cell x c hc
    refine wpAny_storeName_cell I.ok.kind hk hc z (fun h' hc' hs => ?_)
    obtain ⟨oc, hoc, hocd⟩ := id z
    refine h { s with heap := h' } ⟨I.ok, I.os, I.bare, ⟨fun b o e n hb hx => ?_, fun b o e n hb hx => ?_, I.base.free, fun b o e hx => ?_, I.base.tups, I.base.frzs, I.base.tbls⟩, ⟨m, hn.sameBut hs (Ne.symm (cne x c hc)), fun j y v' e1 e2 e3 => ?_⟩, fun y c' e => ?_, I.free, I.freeC, fun p hp => ?_, tracked ⟨oc, hoc, I.freeC x c hc⟩ hs, by simpa using I.len⟩ ⟨c, hs, .inr hc⟩
    · exact (hs.2 b (Nat.ne_of_lt (Nat.lt_of_lt_of_le (Heap.lt_size e) (I.ok.cab x c hfn hc)))).trans (I.base.keep b o e n hb hx)
    · obtain ⟨sl, e1⟩ := I.base.slot b o e n hb hx
      exact ⟨sl, (hs.2 b (Nat.ne_of_lt (Nat.lt_of_lt_of_le (Heap.lt_size e) (I.ok.cab x c hfn hc)))).trans e1⟩
    · obtain ⟨o', e1⟩ := I.base.there b o e hx
      exact ⟨o', (hs.2 b (Nat.ne_of_lt (Nat.lt_of_lt_of_le (Heap.lt_size e) (I.ok.cab x c hfn hc)))).trans e1⟩
    · by_cases hj : j = i
      · subst hj
        rw [hi] at e1; cases e1
        rw [List.getElem?_set_self hiσ] at e2
        cases e2
        exact ⟨u, r, .inr ⟨.inl hk, c, hc, hc'⟩⟩
      · rw [List.getElem?_set_ne (Ne.symm hj)] at e2
        obtain ⟨u', r', q⟩ := hl j y v' e1 e2 e3
        refine ⟨u', r', ?_⟩
        rcases q with q | ⟨k, c', e, z'⟩
        · exact .inl q
        · refine .inr ⟨k, c', e, z'.sameBut hs ?_⟩
          rintro rfl
          exact hj (nodup_ix hN e1 (I.ok.inj _ _ _ e hc ▸ hi))
    · by_cases hcc : c' = c
      · subst hcc; exact ⟨_, hc'⟩
      · obtain ⟨w2, z2⟩ := I.cell y c' e
        exact ⟨w2, z2.sameBut hs hcc⟩
    · obtain ⟨e, n, ne, nf, d⟩ := I.pin p hp
      refine ⟨(hs.2 p.1 ?_).trans e, n, ne, nf, d⟩
      intro q
      rw [q, hoc] at e
      have q' : oc = p.2 := Option.some.inj e
      exact d w' (by rw [← q']; exact hocd)
theorem store_ok {M : Model} {A : Around} {E : Value → Shared → Prop} {i : Nat} {x : Str} {v : V} {u : Value} {Q : Unit → Shared → Prop} (I : Inv X pins σ H s) (hN : X.N.Nodup) (hi : X.N[i]? = some x) (hx : Loc X.env.scope x) (r : RelV v u)
    (h : ∀ s', Inv X pins (σ.set i (some v)) H s' → Q () s') (hf : X.fn x = true ∨ X.env.scope.names.lookup x = some .local := by first | exact .inl rfl | exact .inr rfl | assumption) : wpAny M A (storeName X.env x u) Q E s :=
  store_ok2 I hN hi hx r (fun s' I' _ => h s' I') hf
/-- behind a call or a block, the state as it is -/
theorem Inv.call' {s' : Shared} {ch : List Addr} (I : Inv X pins σ H s) (ho : s'.os = s.os) (u : Un (frs X.stack) ch H H' s.heap s'.heap) (hok : HOk X.prog X.w H' s'.heap) (hg : AllBare s'.gens)
    (hch : ∀ b ∈ ch, (b ∈ X.ex ∨ X.s₀.heap.objs.size ≤ b) ∧ b ≠ X.env.locals ∧ (∀ x c, X.env.cells.lookup x = some c → c ≠ b) ∧ ∀ p ∈ X.pn ++ pins, p.1 ≠ b) : Inv X pins σ H' s' := by
  obtain ⟨h', g', d', t', o'⟩ := s'
  have e : o' = s.os := ho
  subst e
  exact I.call (g' := g') (t' := t') (d' := d') u hok hg hch
end

/-! ### the judgements -/
/-- an exception: its class, its own dict's address (where it has one), the abstract heap behind it -/
abbrev XK := Value → Option Addr → Hp → Prop
abbrev St := List (Option V)
abbrev VK := V → Hp → Prop
/-- an expression's reading; a test's; an argument list's -/
abbrev TE := St → Hp → VK → Prop
abbrev TT := St → Hp → (Bool → Hp → Prop) → Prop
abbrev TA := St → Hp → (List V → Hp → Prop) → Prop
/-- what is wanted behind a statement -/
structure Ends where
  nx : St → Hp → Prop
  rt : VK
  bk : St → Hp → Prop := fun _ _ => False
  ct : St → Hp → Prop := fun _ _ => False
abbrev TS := Ends → St → Hp → Prop

def EP (X : Cx) (pins : List (Addr × Obj)) (σ : St) (Q : VK) (u : Value) (s' : Shared) : Prop := ∃ v H', Inv X pins σ H' s' ∧ RelV v u ∧ Q v H'
def TP (X : Cx) (pins : List (Addr × Obj)) (σ : St) (Q : Bool → Hp → Prop) (b : Bool) (s' : Shared) : Prop := ∃ H', Inv X pins σ H' s' ∧ Q b H'
def AP (X : Cx) (pins : List (Addr × Obj)) (σ : St) (Q : List V → Hp → Prop) (us : List Value) (s' : Shared) : Prop := ∃ vs H', Inv X pins σ H' s' ∧ Vals vs us ∧ Q vs H'
def SP (X : Cx) (pins : List (Addr × Obj)) (D : Ends) (f : Flow) (s' : Shared) : Prop :=
  match f with
  | .next => ∃ σ' H', Inv X pins σ' H' s' ∧ D.nx σ' H'
  | .brk => ∃ σ' H', Inv X pins σ' H' s' ∧ D.bk σ' H'
  | .cont => ∃ σ' H', Inv X pins σ' H' s' ∧ D.ct σ' H'
  | .ret u => ∃ v σ' H', Inv X pins σ' H' s' ∧ RelV v u ∧ D.rt v H'

def PE (X : Cx) (e : Expr) (t : TE) : Prop :=
  ∀ (pins : List (Addr × Obj)) (s : Shared) (σ : St) (H : Hp) (Q : VK), Inv X pins σ H s → t σ H Q → wpAny (model X.prog X.w) X.A (eval e X.env) (EP X pins σ Q) X.xe s
def PT (X : Cx) (e : Expr) (t : TT) : Prop :=
  ∀ (pins : List (Addr × Obj)) (s : Shared) (σ : St) (H : Hp) (Q : Bool → Hp → Prop), Inv X pins σ H s → t σ H Q → wpAny (model X.prog X.w) X.A (isTrue e X.env (eval e X.env)) (TP X pins σ Q) X.xe s
/-- a test whatever its 'whole' is (and, or) -/
def PW (X : Cx) (e : Expr) (t : TT) : Prop :=
  ∀ (whole : Sem Value) (pins : List (Addr × Obj)) (s : Shared) (σ : St) (H : Hp) (Q : Bool → Hp → Prop), Inv X pins σ H s → t σ H Q → wpAny (model X.prog X.w) X.A (isTrue e X.env whole) (TP X pins σ Q) X.xe s
theorem PW.pt {X : Cx} {e : Expr} {t : TT} (h : PW X e t) : PT X e t := h _
/-- an argument list (no star), from the left -/
def PA (X : Cx) (es : List Expr) (t : TA) : Prop :=
  ∀ (pos : Pos) (pins : List (Addr × Obj)) (s : Shared) (σ : St) (H : Hp) (Q : List V → Hp → Prop), Inv X pins σ H s → t σ H Q → wpAny (model X.prog X.w) X.A (spliced (backTo pos (starEach es X.env))) (AP X pins σ Q) X.xe s
def PS (X : Cx) (st : Stmt) (t : TS) : Prop :=
  ∀ (pins : List (Addr × Obj)) (s : Shared) (σ : St) (H : Hp) (D : Ends), Inv X pins σ H s → t D σ H → wpAny (model X.prog X.w) X.A (exec st X.env) (SP X pins D) X.xe s
def PSs (X : Cx) (st : List Stmt) (t : TS) : Prop :=
  ∀ (pins : List (Addr × Obj)) (s : Shared) (σ : St) (H : Hp) (D : Ends), Inv X pins σ H s → t D σ H → wpAny (model X.prog X.w) X.A (execs st X.env) (SP X pins D) X.xe s
/-- weaken the end -/
theorem thn {α : Type} {t : Sem α} {Q Q' : α → Shared → Prop} {M : Model} {A : Around} {E : Value → Shared → Prop} {s : Shared} (h : wpAny M A t Q E s) (hQ : ∀ a s, Q a s → Q' a s) : wpAny M A t Q' E s := wpAny_mono h hQ fun _ _ x => x
end L2

namespace L2
open PySem PySem.Spec PyProof.Rows
section
variable {X : Cx}

/-- two expressions in a row -/
theorem bin {a b : Expr} {ta tb : TE} (ha : PE X a ta) (hb : PE X b tb) {pins : List (Addr × Obj)} {s : Shared} {σ : St} {H : Hp} {R : V → V → Hp → Prop} (I : Inv X pins σ H s) (h : ta σ H fun x H1 => tb σ H1 fun y H2 => R x y H2)
    {α : Type} {Q : α → Shared → Prop} {f : Value → Value → Sem α}
    (hf : ∀ v u s2 x y H2, Inv X pins σ H2 s2 → RelV x v → RelV y u → R x y H2 → wpAny (model X.prog X.w) X.A (f v u) Q X.xe s2) :
    wpAny (model X.prog X.w) X.A (eval a X.env) (fun v s₁ => wpAny (model X.prog X.w) X.A (eval b X.env) (fun u s₂ => wpAny (model X.prog X.w) X.A (f v u) Q X.xe s₂) X.xe s₁) X.xe s := by
  refine thn (ha pins s σ H _ I h) fun v s1 ⟨x, H1, I1, r1, q1⟩ => ?_
  refine thn (hb pins s1 σ H1 _ I1 q1) fun u s2 ⟨y, H2, I2, r2, q2⟩ => ?_
  exact hf v u s2 x y H2 I2 r1 r2 q2

/-! ### names and constants -/
def tVar (i : Nat) : TE := fun σ H Q => ∃ v, σ[i]? = some (some v) ∧ Q v H
def tC (v : V) : TE := fun _ H Q => Q v H
theorem pe_var {i : Nat} {x : Str} {pos : Pos} (hN : X.N[i]? = some x) (hv : Vis X.env.scope x) (hd : (x == ("__debug__" : Str)) = false := by decide) (hcd : (x == ("__classdict__" : Str)) = false := by decide) : PE X (.Name x pos) (tVar i) := by
  intro pins s σ H Q I h
  obtain ⟨v, e, h⟩ := h
  obtain ⟨m, hn, hl⟩ := I.loc
  obtain ⟨u, r, l⟩ := hl i x v hN e hv
  have fin : EP X pins σ Q u s := ⟨v, H, I, r, h⟩
  rcases l with ⟨hk, hm⟩ | ⟨hk, c, hc, hcell⟩
  · exact wpAny_Name (wpAny_loadName_local I.ok.kind hk hn hm fin) hd
  · rcases hk with hk | hk
    · exact wpAny_Name (wpAny_loadName_cell I.ok.kind hk hc hcell fin) hd
    · exact wpAny_Name (wpAny_loadName_free I.ok.kind hk hc hcell fin hcd) hd
theorem pe_int {i j pos} : PE X (.Constant (.int i) j pos) (tC (.int i)) := fun _ _ _ H _ I h => wpAny_Constant_int ⟨.int i, H, I.tok _, ⟨_, rfl⟩, h⟩
theorem pe_bl {b j pos} : PE X (.Constant (.bool b) j pos) (tC (.bl b)) := fun _ _ _ H _ I h => Constant_bool ⟨.bl b, H, I, rfl, h⟩
theorem pe_non {j pos} : PE X (.Constant .none j pos) (tC .non) := fun _ _ _ H _ I h => Constant_none ⟨.non, H, I, rfl, h⟩
theorem pe_str {x j pos} : PE X (.Constant (.str x) j pos) (tC (.str x)) := fun _ _ _ H _ I h => Calls.Constant_str ⟨.str x, H, I.tok _, ⟨_, rfl⟩, h⟩

/-- a global name of the def -/
def Gl (X : Cx) (x : Str) : Prop := X.env.kindOf x = some .globalImplicit
theorem ld_glob {E : Value → Shared → Prop} {pins : List (Addr × Obj)} {s : Shared} {σ : St} {H : Hp} {x : Str} {u : Value} {pos : Pos} {Q : Value → Shared → Prop} (I : Inv X pins σ H s) (hg : Gl X x) (hm : X.mg x = some u) (h : Q u s)
    (hd : (x == ("__debug__" : Str)) = false := by decide) : wpAny (model X.prog X.w) X.A (eval (.Name x pos) X.env) Q E s :=
  Calls.Name_function_global I.ok.kind hg (Calls.loadGlobal_global (by rw [I.ok.glob]; exact I.mod.glob.keeps I.bk) hm h) hd
theorem ld_blt {E : Value → Shared → Prop} {pins : List (Addr × Obj)} {s : Shared} {σ : St} {H : Hp} {x : Str} {u : Value} {pos : Pos} {Q : Value → Shared → Prop} (I : Inv X pins σ H s) (hg : Gl X x) (hm : X.mg x = none) (hv : bootBuiltins x = some u) (h : Q u s)
    (hn : x ≠ "__name__" := by decide) (hd : (x == ("__debug__" : Str)) = false := by decide) : wpAny (model X.prog X.w) X.A (eval (.Name x pos) X.env) Q E s := by
  obtain ⟨mb, h1, h2⟩ := I.mod.blt
  exact Calls.Name_function_global I.ok.kind hg (Calls.loadGlobal_builtin (by rw [I.ok.glob]; exact I.mod.glob.keeps I.bk) hm (by rw [I.ok.blt]; exact h1.keeps I.bk) ((h2 x hn).trans hv) h) hd
/-- a module's constant, a class, a function, as a value -/
theorem pe_glob {x : Str} {v : V} {u : Value} {pos : Pos} (hg : Gl X x) (hm : X.mg x = some u) (r : RelV v u) (hd : (x == ("__debug__" : Str)) = false := by decide) : PE X (.Name x pos) (tC v) :=
  fun _ _ _ H _ I h => ld_glob I hg hm ⟨v, H, I, r, h⟩ hd
theorem pe_bltn {x : Str} {v : V} {u : Value} {pos : Pos} (hg : Gl X x) (hm : X.mg x = none) (hv : bootBuiltins x = some u) (r : RelV v u) (hn : x ≠ "__name__" := by decide) (hd : (x == ("__debug__" : Str)) = false := by decide) : PE X (.Name x pos) (tC v) :=
  fun _ _ _ H _ I h => ld_blt I hg hm hv ⟨v, H, I, r, h⟩ hn hd

/-! ### arithmetic -/
/-- two ints -/
def t2I (ta tb : TE) (k : Int → Int → Hp → Prop) : St → Hp → Prop := fun σ H => ta σ H fun x H1 => tb σ H1 fun y H2 => ∃ i j, x = .int i ∧ y = .int j ∧ k i j H2
def tAdd (ta tb : TE) : TE := fun σ H Q => t2I ta tb (fun i j H2 => Q (.int (i + j)) H2) σ H
def tSub (ta tb : TE) : TE := fun σ H Q => t2I ta tb (fun i j H2 => Q (.int (i - j)) H2) σ H
/-- the left factor below 2^64 -/
def tMul (ta tb : TE) : TE := fun σ H Q => t2I ta tb (fun i j H2 => (-(2 ^ 64) < i ∧ i < 2 ^ 64) ∧ Q (.int (i * j)) H2) σ H
variable {a b : Expr} {ta tb : TE} {pos : Pos}
theorem pe_add (ha : PE X a ta) (hb : PE X b tb) : PE X (.BinOp a .Add b pos) (tAdd ta tb) := by
  intro pins s σ H Q I h
  refine wpAny_BinOp (bin ha hb I h fun v u s2 x y H2 I2 rx ry q => ?_)
  obtain ⟨i, j, rfl, rfl, q⟩ := q
  obtain ⟨t, rfl⟩ := rx
  obtain ⟨t', rfl⟩ := ry
  exact add_int ⟨.int _, H2, I2.tok _, ⟨_, rfl⟩, q⟩
theorem pe_sub (ha : PE X a ta) (hb : PE X b tb) : PE X (.BinOp a .Sub b pos) (tSub ta tb) := by
  intro pins s σ H Q I h
  refine wpAny_BinOp (bin ha hb I h fun v u s2 x y H2 I2 rx ry q => ?_)
  obtain ⟨i, j, rfl, rfl, q⟩ := q
  obtain ⟨t, rfl⟩ := rx
  obtain ⟨t', rfl⟩ := ry
  exact sub_int ⟨.int _, H2, I2.tok _, ⟨_, rfl⟩, q⟩
theorem pe_mul (ha : PE X a ta) (hb : PE X b tb) : PE X (.BinOp a .Mult b pos) (tMul ta tb) := by
  intro pins s σ H Q I h
  refine wpAny_BinOp (bin ha hb I h fun v u s2 x y H2 I2 rx ry q => ?_)
  obtain ⟨i, j, rfl, rfl, ⟨q1, q2⟩, q⟩ := q
  obtain ⟨t, rfl⟩ := rx
  obtain ⟨t', rfl⟩ := ry
  exact mul_int ⟨.int _, H2, I2.tok _, ⟨_, rfl⟩, q⟩ (.of_left (intBits_le_64 q1 q2))

/-! ### comparisons -/
def PC (X : Cx) (op : CmpOp) (a b : Expr) (t : TE) : Prop :=
  ∀ (pins : List (Addr × Obj)) (s : Shared) (σ : St) (H : Hp) (Q : VK), Inv X pins σ H s → t σ H Q →
    wpAny (model X.prog X.w) X.A (eval a X.env) (fun v s₁ => wpAny (model X.prog X.w) X.A (eval b X.env) (fun u s₂ => wpAny (model X.prog X.w) X.A (compareOp op v u) (EP X pins σ Q) X.xe s₂) X.xe s₁) X.xe s
theorem nobehind (b : Expr) {op : CmpOp} (h : op ≠ .In) (h2 : op ≠ .NotIn) : behindInMarks op b = false := by
  have e1 : (op == CmpOp.In) = false := by cases op <;> first | rfl | exact absurd rfl h
  have e2 : (op == CmpOp.NotIn) = false := by cases op <;> first | rfl | exact absurd rfl h2
  cases b <;> simp [behindInMarks, e1, e2]
def tCmp (p : Int → Int → Bool) (ta tb : TE) : TE := fun σ H Q => t2I ta tb (fun i j H2 => Q (.bl (p i j)) H2) σ H
abbrev tLt : TE → TE → TE := tCmp fun i j => decide (i < j)
abbrev tLe : TE → TE → TE := tCmp fun i j => decide (i ≤ j)
abbrev tGt : TE → TE → TE := tCmp fun i j => decide (j < i)
abbrev tGe : TE → TE → TE := tCmp fun i j => decide (j ≤ i)
abbrev tEqI : TE → TE → TE := tCmp fun i j => decide (i = j)
abbrev tNeI : TE → TE → TE := tCmp fun i j => !decide (i = j)
/-- a comparison of two ints, by its rule -/
theorem pc_int {op : CmpOp} {p : Int → Int → Bool} (ha : PE X a ta) (hb : PE X b tb)
    (rule : ∀ (i j : Int) (t u : Tok) (Q : Value → Shared → Prop) (s : Shared), Q (.bool (p i j)) s → wpAny (model X.prog X.w) X.A (compareOp op (.int i t) (.int j u)) Q X.xe s) : PC X op a b (tCmp p ta tb) := by
  intro pins s σ H Q I h
  refine bin ha hb I h fun v u s2 x y H2 I2 rx ry q => ?_
  obtain ⟨i, j, rfl, rfl, q⟩ := q
  obtain ⟨t, rfl⟩ := rx
  obtain ⟨t', rfl⟩ := ry
  exact rule i j t t' _ s2 ⟨.bl _, H2, I2, rfl, q⟩
theorem pc_lt (ha : PE X a ta) (hb : PE X b tb) : PC X .Lt a b (tLt ta tb) := pc_int ha hb fun _ _ _ _ _ _ h => lt_int h
theorem pc_le (ha : PE X a ta) (hb : PE X b tb) : PC X .LtE a b (tLe ta tb) := pc_int ha hb fun _ _ _ _ _ _ h => le_int h
theorem pc_gt (ha : PE X a ta) (hb : PE X b tb) : PC X .Gt a b (tGt ta tb) := pc_int ha hb fun _ _ _ _ _ _ h => gt_int h
theorem pc_ge (ha : PE X a ta) (hb : PE X b tb) : PC X .GtE a b (tGe ta tb) := pc_int ha hb fun _ _ _ _ _ _ h => ge_int h
theorem pc_eqI (ha : PE X a ta) (hb : PE X b tb) : PC X .Eq a b (tEqI ta tb) := pc_int ha hb fun _ _ _ _ _ _ h => eq_int (by rw [Bool.beq_eq_decide_eq]; exact h)
theorem pc_neI (ha : PE X a ta) (hb : PE X b tb) : PC X .NotEq a b (tNeI ta tb) := pc_int ha hb fun _ _ _ _ _ _ h => ne_int (by rw [bne, Bool.beq_eq_decide_eq]; exact h)
/-- is None -/
def tIsN (ta : TE) : TE := fun σ H Q => ta σ H fun x H1 => Q (.bl (decide (x = .non))) H1
def tNotN (ta : TE) : TE := fun σ H Q => ta σ H fun x H1 => Q (.bl (!decide (x = .non))) H1
theorem RelV.none_iff {x : V} {v : Value} (r : RelV x v) : (v == Value.none) = decide (x = .non) := by
  cases x with
  | non => cases r; rfl
  | bl _ => cases r; rfl
  | int _ => obtain ⟨t, rfl⟩ := r; rfl
  | str _ => obtain ⟨t, rfl⟩ := r; rfl
  | byt _ => obtain ⟨t, rfl⟩ := r; rfl
  | flt _ => obtain ⟨t, rfl⟩ := r; rfl
  | ref _ => cases r; rfl
  | ty _ => cases r; rfl
theorem pc_isN {j pos'} (ha : PE X a ta) : PC X .Is a (.Constant .none j pos') (tIsN ta) := by
  intro pins s σ H Q I h
  refine thn (ha pins s σ H _ I h) fun v s1 ⟨x, H1, I1, r1, q1⟩ => ?_
  exact Constant_none (is_none_gen ⟨.bl _, H1, I1, by rw [r1.none_iff]; rfl, q1⟩)
theorem pc_notN {j pos'} (ha : PE X a ta) : PC X .IsNot a (.Constant .none j pos') (tNotN ta) := by
  intro pins s σ H Q I h
  refine thn (ha pins s σ H _ I h) fun v s1 ⟨x, H1, I1, r1, q1⟩ => ?_
  exact Constant_none (isnot_none_gen ⟨.bl _, H1, I1, by rw [r1.none_iff]; rfl, q1⟩)
/-- a comparison as a value, as a test -/
def tB (t : TE) : TT := fun σ H Q => t σ H fun x H1 => ∃ c, x = .bl c ∧ Q c H1
theorem pe_cmp {op : CmpOp} {t : TE} (h : PC X op a b t) (h1 : behindInMarks op b = false := by first | exact nobehind _ (by decide) (by decide) | rfl) : PE X (.Compare a [op] [b] pos) t := fun pins s σ H Q I hw => wpAny_Compare1 (h pins s σ H Q I hw) h1
theorem pt_cmp {op : CmpOp} {t : TE} (h : PC X op a b t) (h1 : behindInMarks op b = false := by first | exact nobehind _ (by decide) (by decide) | rfl) : PT X (.Compare a [op] [b] pos) (tB t) := by
  intro pins s σ H Q I hw
  refine wpAny_isTrue_Compare1 (thn (h pins s σ H _ I hw) fun v s1 h1 => thn h1 fun u s2 h2 => thn h2 fun c s3 ⟨x, H1, I1, r1, q1⟩ => ?_) h1
  obtain ⟨d, rfl, q⟩ := q1
  cases r1
  exact wpAny_truthy_bool ⟨H1, I1, q⟩
/-- an expression whose value is a bool, as a test -/
theorem pt_val {e : Expr} {t : TE} (h : PE X e t) (he : ∀ whole, isTrue e X.env whole = (do let v ← whole; standAt e.pos; holding [v] (truthy v)) := by intro _; rfl) : PT X e (tB t) := by
  intro pins s σ H Q I hw
  refine isTrue_plain (thn (h pins s σ H _ I hw) fun v s1 ⟨x, H1, I1, r1, q1⟩ => ?_) (he _)
  obtain ⟨d, rfl, q⟩ := q1
  cases r1
  exact wpAny_truthy_bool ⟨H1, I1, q⟩

/-! ### and, or, not -/
variable {tA tB' : TT} {rest : List Expr}
def tAnd (t u : TT) : TT := fun σ H Q => t σ H fun c H1 => if c = true then u σ H1 Q else Q false H1
def tOr (t u : TT) : TT := fun σ H Q => t σ H fun c H1 => if c = true then Q true H1 else u σ H1 Q
def tNot (t : TT) : TT := fun σ H Q => t σ H fun c H1 => Q (!c) H1
theorem pw_and1 (ha : PT X a tA) : PW X (.BoolOp .And [a] pos) tA := by
  intro wh pins s σ H Q I h
  refine isTrue_and (thn (ha pins s σ H Q I h) fun c s1 e => ?_)
  cases c with
  | true => exact isTrue_and_nil e
  | false => exact e
theorem pw_or1 (ha : PT X a tA) : PW X (.BoolOp .Or [a] pos) tA := by
  intro wh pins s σ H Q I h
  refine isTrue_or (thn (ha pins s σ H Q I h) fun c s1 e => ?_)
  cases c with
  | false => exact isTrue_or_nil e
  | true => exact e
theorem pw_and (ha : PT X a tA) (hb : PW X (.BoolOp .And (b :: rest) pos) tB') : PW X (.BoolOp .And (a :: b :: rest) pos) (tAnd tA tB') := by
  intro wh pins s σ H Q I h
  refine isTrue_and (thn (ha pins s σ H _ I h) fun c s1 ⟨H1, I1, q1⟩ => ?_)
  cases c with
  | true => exact hb wh pins s1 σ H1 Q I1 q1
  | false => exact ⟨H1, I1, q1⟩
theorem pw_or (ha : PT X a tA) (hb : PW X (.BoolOp .Or (b :: rest) pos) tB') : PW X (.BoolOp .Or (a :: b :: rest) pos) (tOr tA tB') := by
  intro wh pins s σ H Q I h
  refine isTrue_or (thn (ha pins s σ H _ I h) fun c s1 ⟨H1, I1, q1⟩ => ?_)
  cases c with
  | true => exact ⟨H1, I1, q1⟩
  | false => exact hb wh pins s1 σ H1 Q I1 q1
theorem pt_not (ha : PT X a tA) : PT X (.UnaryOp .Not a pos) (tNot tA) := by
  intro pins s σ H Q I h
  exact isTrue_not (ha pins s σ H (fun c H1 => Q (!c) H1) I h)
/-- .. as values (bools) -/
def tAndV (ta tb : TE) : TE := fun σ H Q => ta σ H fun x H1 => ∃ c, x = .bl c ∧ if c = true then tb σ H1 Q else Q (.bl false) H1
def tOrV (ta tb : TE) : TE := fun σ H Q => ta σ H fun x H1 => ∃ c, x = .bl c ∧ if c = true then Q (.bl true) H1 else tb σ H1 Q
def tNotV (ta : TE) : TE := fun σ H Q => ta σ H fun x H1 => ∃ c, x = .bl c ∧ Q (.bl (!c)) H1
theorem pe_one {op} {t : TE} (h : PE X a t) : PE X (.BoolOp op [a] pos) t := fun pins s σ H Q I hw => BoolOp_one (h pins s σ H Q I hw)
theorem pe_and (ha : PE X a ta) (hb : PE X (.BoolOp .And (b :: rest) pos) tb) : PE X (.BoolOp .And (a :: b :: rest) pos) (tAndV ta tb) := by
  intro pins s σ H Q I h
  refine BoolOp_and (thn (ha pins s σ H _ I h) fun v s1 ⟨x, H1, I1, r1, q1⟩ => ?_)
  obtain ⟨c, rfl, q1⟩ := q1
  cases r1
  refine wpAny_truthy_bool ?_
  cases c with
  | true => exact hb pins s1 σ H1 Q I1 q1
  | false => exact ⟨.bl false, H1, I1, rfl, q1⟩
theorem pe_or (ha : PE X a ta) (hb : PE X (.BoolOp .Or (b :: rest) pos) tb) : PE X (.BoolOp .Or (a :: b :: rest) pos) (tOrV ta tb) := by
  intro pins s σ H Q I h
  refine BoolOp_or (thn (ha pins s σ H _ I h) fun v s1 ⟨x, H1, I1, r1, q1⟩ => ?_)
  obtain ⟨c, rfl, q1⟩ := q1
  cases r1
  refine wpAny_truthy_bool ?_
  cases c with
  | false => exact hb pins s1 σ H1 Q I1 q1
  | true => exact ⟨.bl true, H1, I1, rfl, q1⟩
theorem pe_not (ha : PE X a ta) : PE X (.UnaryOp .Not a pos) (tNotV ta) := by
  intro pins s σ H Q I h
  refine UnaryOp_ (thn (ha pins s σ H _ I h) fun v s1 ⟨x, H1, I1, r1, q1⟩ => ?_)
  obtain ⟨c, rfl, q1⟩ := q1
  cases r1
  exact not_of (wpAny_truthy_bool ⟨.bl (!c), H1, I1, rfl, q1⟩)
/-- a if t else b -/
def tIf (t : TT) (ta tb : TE) : TE := fun σ H Q => t σ H fun c H1 => if c = true then ta σ H1 Q else tb σ H1 Q
theorem pe_ifExp {c : Expr} (hc : PT X c tA) (ha : PE X a ta) (hb : PE X b tb) : PE X (.IfExp c a b pos) (tIf tA ta tb) := by
  intro pins s σ H Q I h
  refine wpAny_IfExp (thn (hc pins s σ H _ I h) fun d s1 ⟨H1, I1, q1⟩ => ?_)
  cases d with
  | true => exact ha pins s1 σ H1 Q I1 q1
  | false => exact hb pins s1 σ H1 Q I1 q1
end
end L2

namespace L2
open PySem PySem.Spec PyProof.Rows

/-! ### a list, a tuple that is read: tracked, frozen, or an object of the module -/
def SqL (K : PySem.W.Frag) (H : Hp) (a : Addr) (xs : List V) : Prop :=
  Rd H a (.lst xs) ∨
    ∃ (o : Obj) (its : Array Value) (n : Nat), K.lookup a = some o ∧ o.cls = .type "list" ∧ o.dict = none ∧ o.data = .seq its n ∧ its.size ≤ sizeLine ∧ Vals xs its.toList
def SqT (K : PySem.W.Frag) (H : Hp) (a : Addr) (xs : List V) : Prop :=
  Rd H a (.tup xs) ∨
    ∃ (o : Obj) (its : Array Value) (n : Nat), K.lookup a = some o ∧ o.cls = .type "tuple" ∧ o.data = .seq its n ∧ its.size ≤ sizeLine ∧ Vals xs its.toList
def absV : Value → Option V
  | .none => some .non
  | .bool b => some (.bl b)
  | .int i _ => some (.int i)
  | .str x _ => some (.str x)
  | .bytes b _ => some (.byt b)
  | .float b _ => some (.flt b)
  | .ref a => some (.ref a)
  | .type n => some (.ty n)
  | _ => none
theorem RelV.abs {x : V} {u : Value} (r : RelV x u) : absV u = some x := by
  cases x with
  | non => cases r; rfl
  | bl _ => cases r; rfl
  | int _ => obtain ⟨t, rfl⟩ := r; rfl
  | str _ => obtain ⟨t, rfl⟩ := r; rfl
  | byt _ => obtain ⟨t, rfl⟩ := r; rfl
  | flt _ => obtain ⟨t, rfl⟩ := r; rfl
  | ref _ => cases r; rfl
  | ty _ => cases r; rfl
theorem RelV.inj {x y : V} {u : Value} (r : RelV x u) (q : RelV y u) : x = y := Option.some.inj (r.abs.symm.trans q.abs)
theorem Vals.inj : ∀ {xs ys : List V} {us : List Value}, Vals xs us → Vals ys us → xs = ys
  | _, _, _, .nil, .nil => rfl
  | _, _, _, .cons r t, .cons r' t' => by rw [r.inj r', Vals.inj t t']
section
variable {X : Cx} {pins : List (Addr × Obj)} {σ : St} {H : Hp} {s : Shared} {a : Addr} {xs ys : List V}
theorem SqL.of {K : PySem.W.Frag} (h : H a = some (.lst xs)) : SqL K H a xs := .inl (.inl h)
theorem SqT.of {K : PySem.W.Frag} (h : H a = some (.tup xs)) : SqT K H a xs := .inl (.inl h)
theorem Inv.list (I : Inv X pins σ H s) (h : SqL X.K H a xs) : ∃ its : List Value, Vals xs its ∧ PlainL s.heap a its.toArray ∧ xs.length ≤ sizeLine := by
  rcases h with h | ⟨o, its, n, hk, hc, hd, hs, hz, r⟩
  · obtain ⟨z, its, n, r, e⟩ := h.ok I.hok
    exact ⟨its, r, ⟨_, n, e, rfl, rfl, rfl⟩, z⟩
  · refine ⟨its.toList, r, ⟨o, n, I.kIn a o hk, hc, hd, by simpa using hs⟩, ?_⟩
    have e := r.length
    simp only [Array.length_toList] at e
    omega
theorem Inv.tuple (I : Inv X pins σ H s) (h : SqT X.K H a xs) : ∃ its : List Value, Vals xs its ∧ IsTup s.heap a its.toArray ∧ xs.length ≤ sizeLine := by
  rcases h with h | ⟨o, its, n, hk, hc, hs, hz, r⟩
  · obtain ⟨z, its, r, p⟩ := h.ok I.hok
    exact ⟨its, r, p, z⟩
  · refine ⟨its.toList, r, ⟨o, I.kIn a o hk, hc, n, by simpa using hs⟩, ?_⟩
    have e := r.length
    simp only [Array.length_toList] at e
    omega
theorem Inv.list_inj (I : Inv X pins σ H s) (h : SqL X.K H a xs) (h' : SqL X.K H a ys) : xs = ys := by
  obtain ⟨its, r, ⟨o, n, e, _, _, d⟩, _⟩ := I.list h
  obtain ⟨its', r', ⟨o', n', e', _, _, d'⟩, _⟩ := I.list h'
  rw [e] at e'; cases e'
  rw [d] at d'
  injection d' with d1 _
  have : its = its' := by simpa using congrArg Array.toList d1
  subst this
  exact r.inj r'
theorem Inv.tuple_inj (I : Inv X pins σ H s) (h : SqT X.K H a xs) (h' : SqT X.K H a ys) : xs = ys := by
  obtain ⟨its, r, ⟨o, e, _, n, d⟩, _⟩ := I.tuple h
  obtain ⟨its', r', ⟨o', e', _, n', d'⟩, _⟩ := I.tuple h'
  rw [e] at e'; cases e'
  rw [d] at d'
  injection d' with d1 _
  have : its = its' := by simpa using congrArg Array.toList d1
  subst this
  exact r.inj r'
end

/-! ### another wish about exceptions -/
abbrev Cx.wish (X : Cx) (E : Value → Shared → Prop) : Cx := { X with xe := E }
/-- no exception leaves -/
abbrev Cx.nox (X : Cx) : Cx := X.wish fun _ _ => False
theorem Cx.Ok.wish {X : Cx} (ok : X.Ok) (E : Value → Shared → Prop) : (X.wish E).Ok :=
  ⟨ok.mod, ok.kind, ok.glob, ok.blt, ok.above, ok.inj, ok.has, ok.cab, ok.hd, ok.frames, ok.stk, ok.exf, ok.bs, ok.bsz, ok.noex, ok.exfs, ok.funs, ok.frf⟩
theorem Cx.Ok.unwish {X : Cx} {E : Value → Shared → Prop} (ok : (X.wish E).Ok) : X.Ok :=
  ⟨ok.mod, ok.kind, ok.glob, ok.blt, ok.above, ok.inj, ok.has, ok.cab, ok.hd, ok.frames, ok.stk, ok.exf, ok.bs, ok.bsz, ok.noex, ok.exfs, ok.funs, ok.frf⟩
section
variable {X : Cx} {pins : List (Addr × Obj)} {σ : St} {H : Hp} {s : Shared} {E : Value → Shared → Prop}
theorem Inv.wish (I : Inv X pins σ H s) (E : Value → Shared → Prop) : Inv (X.wish E) pins σ H s := ⟨I.ok.wish E, I.os, I.bare, I.base, I.loc, I.cell, I.free, I.freeC, I.pin, I.hok, I.len⟩
theorem Inv.unwish (I : Inv (X.wish E) pins σ H s) : Inv X pins σ H s := ⟨I.ok.unwish, I.os, I.bare, I.base, I.loc, I.cell, I.free, I.freeC, I.pin, I.hok, I.len⟩
theorem SP.unwish {D : Ends} {f : Flow} {s' : Shared} (h : SP (X.wish E) pins D f s') : SP X pins D f s' := by
  cases f with
  | next => obtain ⟨σ', H', I, q⟩ := h; exact ⟨σ', H', I.unwish, q⟩
  | brk => obtain ⟨σ', H', I, q⟩ := h; exact ⟨σ', H', I.unwish, q⟩
  | cont => obtain ⟨σ', H', I, q⟩ := h; exact ⟨σ', H', I.unwish, q⟩
  | ret u => obtain ⟨v, σ', H', I, r, q⟩ := h; exact ⟨v, σ', H', I.unwish, r, q⟩
theorem PE.nox {e : Expr} {t : TE} (h : PE X.nox e t) : PE X e t := fun pins s σ H Q I hw =>
  wpAny_mono (h pins s σ H Q (I.wish _) hw) (fun _ _ ⟨v, H', I', r, q⟩ => ⟨v, H', I'.unwish, r, q⟩) fun _ _ z => False.elim z
theorem PT.nox {e : Expr} {t : TT} (h : PT X.nox e t) : PT X e t := fun pins s σ H Q I hw =>
  wpAny_mono (h pins s σ H Q (I.wish _) hw) (fun _ _ ⟨H', I', q⟩ => ⟨H', I'.unwish, q⟩) fun _ _ z => False.elim z
theorem PSs.nox {st : List Stmt} {t : TS} (h : PSs X.nox st t) : PSs X st t := fun pins s σ H D I hw =>
  wpAny_mono (h pins s σ H D (I.wish _) hw) (fun _ _ q => q.unwish) fun _ _ z => False.elim z
end

/-! ### blocks and small statements -/
section
variable {X : Cx} {st : Stmt} {rest : List Stmt} {t u : TS} {e : Expr} {te : TE} {pos : Pos}
def tNext : TS := fun D σ H => D.nx σ H
def tSeq (t u : TS) : TS := fun D σ H => t { D with nx := u D } σ H
theorem pss_nil : PSs X [] tNext := fun _ _ σ H _ I h => wpAny_execs_nil ⟨σ, H, I, h⟩
theorem pss_cons (h1 : PS X st t) (h2 : PSs X rest u) : PSs X (st :: rest) (tSeq t u) := by
  intro pins s σ H D I h
  refine wpAny_execs_cons (thn (h1 pins s σ H { D with nx := u D } I h) fun f s1 q => ?_)
  cases f with
  | next =>
    obtain ⟨σ', H', I', q⟩ := q
    exact h2 pins s1 σ' H' D I' q
  | ret v => exact q
  | brk => exact q
  | cont => exact q
theorem pss_one (h1 : PS X st t) : PSs X [st] t := by
  intro pins s σ H D I h
  refine wpAny_execs_cons (thn (h1 pins s σ H D I h) fun f s1 q => ?_)
  cases f with
  | next => exact wpAny_execs_nil q
  | ret v => exact q
  | brk => exact q
  | cont => exact q
def tBreak : TS := fun D σ H => D.bk σ H
def tCont : TS := fun D σ H => D.ct σ H
theorem ps_pass : PS X (.Pass pos) tNext := fun _ _ σ H _ I h => wpAny_Pass ⟨σ, H, I, h⟩
theorem ps_break : PS X (.Break pos) tBreak := fun _ _ σ H _ I h => wpAny_Break ⟨σ, H, I, h⟩
theorem ps_continue : PS X (.Continue pos) tCont := fun _ _ σ H _ I h => wpAny_Continue ⟨σ, H, I, h⟩
/-- in a def's body nothing is shown -/
theorem Inv.quiet {pins : List (Addr × Obj)} {σ : St} {H : Hp} {s : Shared} (I : Inv X pins σ H s) : interactive X.env = false := by simp [interactive, I.ok.kind]
/-- a docstring -/
theorem ps_doc {x j pos pos'} : PS X (.Expr (.Constant (.str x) j pos) pos') tNext := fun _ s σ H _ I h => wpAny_Expr (Calls.Constant_str (show SP X _ _ .next { s with toks := s.toks + 1 } from ⟨σ, H, I.tok _, h⟩)) I.quiet
/-- an expression whose value is dropped -/
def tDrop (te : TE) : TS := fun D σ H => te σ H fun _ H1 => D.nx σ H1
theorem ps_expr (he : PE X e te) (hs : swapsWith e none pos.line X.env = pure false := by rfl) : PS X (.Expr e pos) (tDrop te) := by
  intro pins s σ H D I h
  exact wpAny_Expr_any (thn (he pins s σ H _ I h) fun v s1 ⟨x, H1, I1, r1, q1⟩ => ⟨σ, H1, I1, q1⟩) I.quiet hs
def tRet (te : TE) : TS := fun D σ H => te σ H D.rt
theorem ps_ret (he : PE X e te) : PS X (.Return (some e) pos) (tRet te) := by
  intro pins s σ H D I h
  exact wpAny_Return_some (thn (he pins s σ H _ I h) fun v s1 ⟨x, H1, I1, r1, q1⟩ => ⟨x, σ, H1, I1, r1, q1⟩)
def tRetN : TS := fun D _ H => D.rt .non H
theorem ps_retN : PS X (.Return none pos) tRetN := fun _ _ σ H _ I h => wpAny_Return_none ⟨.non, σ, H, I, rfl, h⟩
def tIfS (c : TT) (t u : TS) : TS := fun D σ H => c σ H fun b H1 => if b = true then t D σ H1 else u D σ H1
theorem ps_if {c : Expr} {a b : List Stmt} {tc : TT} (hc : PT X c tc) (ha : PSs X a t) (hb : PSs X b u) : PS X (.If c a b pos) (tIfS tc t u) := by
  intro pins s σ H D I h
  refine wpAny_If (thn (hc pins s σ H _ I h) fun d s1 ⟨H1, I1, q1⟩ => ?_)
  cases d with
  | true => exact ha pins s1 σ H1 D I1 q1
  | false => exact hb pins s1 σ H1 D I1 q1
/-- code that the proof never comes to -/
def tNever : TS := fun _ _ _ => False
theorem ps_never : PS X st tNever := fun _ _ _ _ _ _ h => h.elim
theorem pss_never {sts : List Stmt} : PSs X sts tNever := fun _ _ _ _ _ _ h => h.elim
end

/-! ### targets -/
abbrev TG := V → St → Hp → (St → Hp → Prop) → Prop
abbrev TGs := List V → St → Hp → (St → Hp → Prop) → Prop
def PG (X : Cx) (target : Expr) (t : TG) : Prop :=
  ∀ (pins : List (Addr × Obj)) (s : Shared) (σ : St) (H : Hp) (v : V) (u : Value) (Q : St → Hp → Prop), Inv X pins σ H s → RelV v u → t v σ H Q →
    wpAny (model X.prog X.w) X.A (assign target X.env u) (fun _ s' => ∃ σ' H', Inv X pins σ' H' s' ∧ Q σ' H') X.xe s
/-- several targets, one after another -/
def PGs (X : Cx) (ts : List Expr) (t : TGs) : Prop :=
  ∀ (pins : List (Addr × Obj)) (s : Shared) (σ : St) (H : Hp) (vs : List V) (us : List Value) (Q : St → Hp → Prop), Inv X pins σ H s → Vals vs us → t vs σ H Q →
    wpAny (model X.prog X.w) X.A (assignInOrder ((assignEach ts X.env).map (·.2)) us) (fun _ s' => ∃ σ' H', Inv X pins σ' H' s' ∧ Q σ' H') X.xe s
/-- o[i] = v, by values -/
abbrev TSet := V → V → V → Hp → (Hp → Prop) → Prop
def PSet (X : Cx) (t : TSet) : Prop :=
  ∀ (pins : List (Addr × Obj)) (s : Shared) (σ : St) (H : Hp) (o i v : V) (ov iv u : Value) (Q : Hp → Prop), Inv X pins σ H s → RelV o ov → RelV i iv → RelV v u → t o i v H Q →
    wpAny (model X.prog X.w) X.A (setItem ov iv u) (fun _ s' => ∃ H', Inv X pins σ H' s' ∧ Q H') X.xe s
/-- a op= b, by values -/
abbrev TIp := V → V → Hp → VK → Prop
def PIp (X : Cx) (op : Operator) (t : TIp) : Prop :=
  ∀ (pins : List (Addr × Obj)) (s : Shared) (σ : St) (H : Hp) (x y : V) (v u : Value) (Q : VK), Inv X pins σ H s → RelV x v → RelV y u → t x y H Q →
    wpAny (model X.prog X.w) X.A (inplaceOp op v u) (EP X pins σ Q) X.xe s
section
variable {X : Cx} {pos : Pos}
def gName (i : Nat) : TG := fun v σ H Q => Q (σ.set i (some v)) H
theorem pg_name {i : Nat} {x : Str} (hN : X.N.Nodup) (hi : X.N[i]? = some x) (hx : Loc X.env.scope x) (hf : X.fn x = true ∨ X.env.scope.names.lookup x = some .local := by first | exact .inl rfl | exact .inr rfl | assumption) : PG X (.Name x pos) (gName i) := by
  intro pins s σ H v u Q I r h
  exact wpAny_assign_Name (store_ok I hN hi hx r (fun s' I' => ⟨_, H, I', h⟩) hf)
def gNil : TGs := fun vs σ H Q => vs = [] ∧ Q σ H
def gCons (t : TG) (u : TGs) : TGs := fun vs σ H Q => ∃ v r, vs = v :: r ∧ t v σ H fun σ' H' => u r σ' H' Q
theorem pgs_nil : PGs X [] gNil := by
  intro pins s σ H vs us Q I r h
  obtain ⟨e, h⟩ := h
  subst e
  cases r
  exact assignInOrder_nil ⟨σ, H, I, h⟩
theorem pgs_cons {e : Expr} {es : List Expr} {t : TG} {u : TGs} (h1 : PG X e t) (h2 : PGs X es u)
    (hs : (assignEach (e :: es) X.env).map (·.2) = assign e X.env :: (assignEach es X.env).map (·.2) := by rfl) : PGs X (e :: es) (gCons t u) := by
  intro pins s σ H vs us Q I r h
  obtain ⟨v, vr, e1, h⟩ := h
  subst e1
  cases r with
  | cons r rr =>
    rw [hs]
    refine assignInOrder_cons (thn (h1 pins s σ H _ _ _ I r h) fun _ s1 ⟨σ1, H1, I1, q1⟩ => ?_)
    exact h2 pins s1 σ1 H1 _ _ Q I1 rr q1
/-- (a, b, ..) = a tuple of that length -/
def gTup (K : PySem.W.Frag) (n : Nat) (t : TGs) : TG := fun v σ H Q => ∃ a xs, v = .ref a ∧ SqT K H a xs ∧ xs.length = n ∧ t xs σ H Q
theorem pg_tup {es : List Expr} {k : Nat} {t : TGs} {n : Nat} (hc : X.calm = true) (h : PGs X es t)
    (hn : (assignEach es X.env).length = n := by rfl) (hst : (assignEach es X.env).findIdx? (·.1) = none := by rfl) : PG X (.Tuple es k pos) (gTup X.K n t) := by
  intro pins s σ H v u Q I r hw
  obtain ⟨a, xs, e1, hq, hl, hw⟩ := hw
  subst e1
  cases r
  obtain ⟨its, rv, ht, hz⟩ := I.tuple hq
  refine assign_Tuple_tuple (I.ok.hd hc) ht (by simp [hn, ← hl, rv.length]) hst fun h' hx => ?_
  have I1 : Inv X pins σ H { s with heap := h' } := I.kept (t' := s.toks) fun b o e => hx b o (Nat.ne_of_lt (Heap.lt_size e)) e
  exact h pins _ σ H xs _ Q I1 (by simpa using rv) hw
/-- o[i] = .. -/
def gSub (to ti : TE) (t : TSet) : TG := fun v σ H Q => to σ H fun o H1 => ti σ H1 fun i H2 => t o i v H2 fun H3 => Q σ H3
theorem pg_sub {o i : Expr} {to ti : TE} {t : TSet} (ho : PE X o to) (hi : PE X i ti) (hs : PSet X t)
    (ha : ∀ v, assign (.Subscript o i pos) X.env v = (do
      let ov ← holding [v] (eval o X.env)
      let iv ← holding [v, ov] (eval i X.env)
      standAt pos
      holding [v, ov, iv] (setItem ov iv v)
      release [v, ov, iv] []) := by intro _; rfl) : PG X (.Subscript o i pos) (gSub to ti t) := by
  intro pins s σ H v u Q I r h
  rw [ha]
  refine wpAny_bind (wpAny_holding (thn (ho pins s σ H _ I h) fun ov s1 ⟨x, H1, I1, r1, q1⟩ => ?_))
  refine wpAny_bind (wpAny_holding (thn (hi pins s1 σ H1 _ I1 q1) fun iv s2 ⟨y, H2, I2, r2, q2⟩ => ?_))
  refine wpAny_bind (wpAny_standAt (wpAny_bind (wpAny_holding (thn (hs pins s2 σ H2 x y v ov iv u _ I2 r1 r2 r q2) fun _ s3 ⟨H3, I3, q3⟩ => ?_))))
  exact wpAny_release ⟨σ, H3, I3, q3⟩
/-- target = value -/
def tAsg (te : TE) (g : TG) : TS := fun D σ H => te σ H fun x H1 => g x σ H1 D.nx
theorem ps_asg {tg e : Expr} {te : TE} {g : TG} (he : PE X e te) (hg : PG X tg g) (hs : swapsWithSole [tg] e pos.line X.env = pure false := by rfl) (hw : swappedStores [tg] e X.env = pure none := by rfl)
    (h1 : (assignEach [tg] X.env).map (·.2) = [assign tg X.env] := by rfl) : PS X (.Assign [tg] e pos) (tAsg te g) := by
  intro pins s σ H D I h
  refine wpAny_Assign_stores (thn (he pins s σ H _ I h) fun v s1 ⟨x, H1, I1, r1, q1⟩ => ?_) hs hw
  rw [h1]
  exact thn (hg pins s1 σ H1 x v _ I1 r1 q1) fun _ s2 q => q
/-- name = value -/
theorem ps_set {i : Nat} {x : Str} {e : Expr} {te : TE} {pos' : Pos} (hN : X.N.Nodup) (hi : X.N[i]? = some x) (hx : Loc X.env.scope x) (he : PE X e te) (hs : swapsWith e (some (.Name x pos')) pos.line X.env = pure false := by rfl) (hf : X.fn x = true ∨ X.env.scope.names.lookup x = some .local := by first | exact .inl rfl | exact .inr rfl | assumption) :
    PS X (.Assign [.Name x pos'] e pos) (tAsg te (gName i)) := by
  intro pins s σ H D I h
  refine wpAny_Assign_Name (thn (he pins s σ H _ I h) fun v s1 ⟨y, H1, I1, r1, q1⟩ => ?_) hs
  exact store_ok I1 hN hi hx r1 (fun s2 I2 => ⟨_, H1, I2, q1⟩) hf
/-- a, b = x, y with plain local names: stored from the right; the pair itself is not tracked (the opening rows as in PyProof/Rows/TupAssign.lean:23) -/
def tPar (i j : Nat) (ta : TA) : TS := fun D σ H => ta σ H fun vs H1 => ∃ v w, vs = [v, w] ∧ D.nx ((σ.set i (some v)).set j (some w)) H1
theorem ps_par {i j : Nat} {x y : Str} {a b : Expr} {ta : TA} {px py pt : Pos} {kt k2 pt2} (hc : X.calm = true) (hN : X.N.Nodup) (hi : X.N[i]? = some x) (hj : X.N[j]? = some y) (hij : i ≠ j)
    (hx : X.env.scope.names.lookup x = some .local) (hy : X.env.scope.names.lookup y = some .local) (ha : PA X [a, b] ta)
    (hw : swappedStores [.Tuple [.Name x px, .Name y py] kt pt] (.Tuple [a, b] k2 pt2) X.env = pure (some [x, y]))
    (hs : swapsWithSole [.Tuple [.Name x px, .Name y py] kt pt] (.Tuple [a, b] k2 pt2) pos.line X.env = pure false := by rfl) :
    PS X (.Assign [.Tuple [.Name x px, .Name y py] kt pt] (.Tuple [a, b] k2 pt2) pos) (tPar i j ta) := by
  intro pins s σ H D I h
  rw [exec_Assign_arm]
  refine wpAny_bind (wpAny_standAt ?_)
  rw [hs]
  refine wpAny_bind (wpAny_pure ?_)
  rw [if_neg (by decide)]
  refine wpAny_bind (Tuple_ (thn (ha _ pins s σ H _ I h) fun us s1 ⟨vs, H1, I1, r1, q1⟩ => ?_))
  obtain ⟨v, w, e1, q1⟩ := q1
  subst e1
  obtain ⟨u1, u2, rfl, rv, rw'⟩ : ∃ u1 u2, us = [u1, u2] ∧ RelV v u1 ∧ RelV w u2 := by
    cases r1 with
    | cons p q =>
      cases q with
      | cons p' q' =>
        cases q'
        exact ⟨_, _, rfl, p, p'⟩
  refine wpAny_newObj_type ?_ (by show 2 ≤ sizeLine; decide)
  have I2 : Inv X pins σ H1 { s1 with heap := s1.heap.push { cls := .type "tuple", data := .seq [u1, u2].toArray } } := I1.kept (t' := s1.toks) fun b o e => Heap.get?_push_of_some _ e
  rw [hw]
  refine wpAny_bind (wpAny_pure ?_)
  show wpAny (model X.prog X.w) X.A (do rule "assign.swapped-stores"; let items ← unpackItems (.ref s1.heap.objs.size) 2 none; assignInOrder [fun v => bindName X.env y v, fun v => bindName X.env x v] items.reverse; pure Flow.next) _ _ _
  refine wpAny_bind (wpAny_rule (wpAny_bind (unpackItems_tuple (items := #[u1, u2]) (I.ok.hd hc) (IsTup.new s1.heap _) fun h' hx' => ?_)))
  have I3 := I2.kept (h' := h') (t' := s1.toks) fun b o e => hx' b o (Nat.ne_of_lt (Heap.lt_size e)) e
  show wpAny _ _ (assignInOrder [fun v => bindName X.env y v, fun v => bindName X.env x v] [u2, u1] >>= fun _ => pure Flow.next) _ _ _
  refine wpAny_bind (assignInOrder_cons (wpAny_bindName (store_ok I3 hN hj (.inl hy) rw' (fun s2 I4 => ?_) (.inr hy))))
  refine assignInOrder_cons (wpAny_bindName (store_ok I4 hN hi (.inl hx) rv (fun s3 I5 => assignInOrder_nil (wpAny_pure ?_)) (.inr hx)))
  rw [List.set_comm _ _ (Ne.symm hij)] at I5
  exact ⟨_, H1, I5, q1⟩
/-- name op= e -/
def tAug (i : Nat) (te : TE) (ti : TIp) : TS := fun D σ H => ∃ x, σ[i]? = some (some x) ∧ te σ H fun y H1 => ti x y H1 fun z H2 => D.nx (σ.set i (some z)) H2
theorem ps_aug {i : Nat} {x : Str} {e : Expr} {te : TE} {op : Operator} {ti : TIp} {pos' : Pos} (hN : X.N.Nodup) (hi : X.N[i]? = some x) (hx : Loc X.env.scope x) (he : PE X e te) (ho : PIp X op ti) (hf : X.fn x = true ∨ X.env.scope.names.lookup x = some .local := by first | exact .inl rfl | exact .inr rfl | assumption) :
    PS X (.AugAssign (.Name x pos') op e pos) (tAug i te ti) := by
  intro pins s σ H D I h
  obtain ⟨v, e1, h⟩ := h
  obtain ⟨m, hn, hl⟩ := I.loc
  have vis : Vis X.env.scope x := by rcases hx with k | k; exact .inl k; exact .inr (.inl k)
  obtain ⟨u, r, l⟩ := hl i x v hi e1 vis
  refine wpAny_AugAssign_Name ?_
  have go : wpAny (model X.prog X.w) X.A (eval e X.env) (fun w s₂ => wpAny (model X.prog X.w) X.A (inplaceOp op u w) (fun r s₃ => wpAny (model X.prog X.w) X.A (storeName X.env x r) (fun _ => SP X pins D .next) X.xe s₃) X.xe s₂) X.xe s := by
    refine thn (he pins s σ H _ I h) fun w s1 ⟨y, H1, I1, r1, q1⟩ => ?_
    refine thn (ho pins s1 σ H1 v y u w _ I1 r r1 q1) fun z s2 ⟨zv, H2, I2, r2, q2⟩ => ?_
    exact store_ok I2 hN hi hx r2 (fun s3 I3 => ⟨_, H2, I3, q2⟩) hf
  rcases l with ⟨hk, hm⟩ | ⟨hk, c, hc, hcell⟩
  · exact wpAny_loadName_local I.ok.kind hk hn hm go
  · rcases hk with hk | hk
    · exact wpAny_loadName_cell I.ok.kind hk hc hcell go
    · rcases hx with k | k
      · have : X.env.scope.names.lookup x = some .free := hk
        rw [k] at this; cases this
      · have : X.env.scope.names.lookup x = some .free := hk
        rw [k] at this; cases this
/-- o[i] op= e -/
def tAugS (to ti te : TE) (tget : V → V → Hp → VK → Prop) (tip : TIp) (tset : TSet) : TS := fun D σ H => to σ H fun o H1 => ti σ H1 fun i H2 => tget o i H2 fun x H3 => te σ H3 fun y H4 => tip x y H4 fun z H5 => tset o i z H5 fun H6 => D.nx σ H6
/-- o[i], by values -/
def PGet (X : Cx) (t : V → V → Hp → VK → Prop) : Prop :=
  ∀ (pins : List (Addr × Obj)) (s : Shared) (σ : St) (H : Hp) (o i : V) (ov iv : Value) (Q : VK), Inv X pins σ H s → RelV o ov → RelV i iv → t o i H Q →
    wpAny (model X.prog X.w) X.A (getItem ov iv) (EP X pins σ Q) X.xe s
theorem ps_augS {o i e : Expr} {to ti te : TE} {tget : V → V → Hp → VK → Prop} {tip : TIp} {tset : TSet} {op : Operator} {tpos : Pos} (ho : PE X o to) (hi : PE X i ti) (hg : PGet X tget) (he : PE X e te) (hp : PIp X op tip) (hs : PSet X tset)
    (ha : ∀ ov iv new, augStore i ov iv new = (do holding [new, ov, iv] (setItem ov iv new); release [new, ov, iv] []; pure .next) := by intros; rfl) : PS X (.AugAssign (.Subscript o i tpos) op e pos) (tAugS to ti te tget tip tset) := by
  intro pins s σ H D I h
  refine wpAny_AugAssign_SubscriptAny (thn (ho pins s σ H _ I h) fun ov s1 ⟨x1, H1, I1, r1, q1⟩ => ?_) ha
  refine thn (hi pins s1 σ H1 _ I1 q1) fun iv s2 ⟨x2, H2, I2, r2, q2⟩ => ?_
  refine thn (hg pins s2 σ H2 x1 x2 ov iv _ I2 r1 r2 q2) fun old s3 ⟨x3, H3, I3, r3, q3⟩ => ?_
  refine thn (he pins s3 σ H3 _ I3 q3) fun v s4 ⟨x4, H4, I4, r4, q4⟩ => ?_
  refine thn (hp pins s4 σ H4 x3 x4 old v _ I4 r3 r4 q4) fun new s5 ⟨x5, H5, I5, r5, q5⟩ => ?_
  exact thn (hs pins s5 σ H5 x1 x2 x5 ov iv new _ I5 r1 r2 r5 q5) fun _ s6 ⟨H6, I6, q6⟩ => ⟨σ, H6, I6, q6⟩
/-- ints -/
def ipI (f : Int → Int → Int) : TIp := fun x y H Q => ∃ i j, x = .int i ∧ y = .int j ∧ Q (.int (f i j)) H
theorem ip_add : PIp X .Add (ipI fun i j => i + j) := by
  intro pins s σ H x y v u Q I r1 r2 h
  obtain ⟨i, j, e1, e2, q⟩ := h
  subst e1; subst e2
  obtain ⟨t, rfl⟩ := r1
  obtain ⟨t', rfl⟩ := r2
  exact iadd_int ⟨.int _, H, I.tok _, ⟨_, rfl⟩, q⟩
theorem ip_sub : PIp X .Sub (ipI fun i j => i - j) := by
  intro pins s σ H x y v u Q I r1 r2 h
  obtain ⟨i, j, e1, e2, q⟩ := h
  subst e1; subst e2
  obtain ⟨t, rfl⟩ := r1
  obtain ⟨t', rfl⟩ := r2
  exact isub_int ⟨.int _, H, I.tok _, ⟨_, rfl⟩, q⟩
end

/-! ### while -/
section
variable {X : Cx} {pos : Pos}
/-- the invariant W with its measure -/
def tWhile (c : TT) (tb : TS) : TS := fun D σ H => ∃ W : Nat → St → Hp → Prop, (∃ m, W m σ H) ∧ ∀ m σ H, W m σ H →
  c σ H fun b H1 => if b = true then ∃ N : St → Hp → Prop, (∀ σ' H', N σ' H' → ∃ m', m' < m ∧ W m' σ' H') ∧ tb { D with nx := N, ct := N, bk := D.nx } σ H1 else D.nx σ H1
theorem ps_while {c : Expr} {body : List Stmt} {tc : TT} {tb : TS} (hp : PassesOwn (model X.prog X.w) X.A X.env X.xe) (hc : PT X c tc) (hb : PSs X body tb) : PS X (.While c body [] pos) (tWhile tc tb) := by
  intro pins s σ H D I h
  obtain ⟨W, ⟨m0, w0⟩, turn⟩ := h
  refine wpAny_While (codeAny_whileLoop (fun n s' => ∃ σ' H', Inv X pins σ' H' s' ∧ W n σ' H') ?_ m0 ⟨σ, H, I, w0⟩)
  rintro n s1 ⟨σ1, H1, I1, w1⟩
  refine wpAny_passesOwn hp (thn (hc pins s1 σ1 H1 _ I1 (turn n σ1 H1 w1)) fun b s2 ⟨H2, I2, q2⟩ => ?_)
  cases b with
  | true =>
    obtain ⟨N, hN, q2⟩ := q2
    rw [if_pos rfl]
    refine wpAny_passesOwn hp (thn (hb pins s2 σ1 H2 _ I2 q2) fun f s3 q3 => ?_)
    cases f with
    | next =>
      obtain ⟨σ3, H3, I3, n3⟩ := q3
      obtain ⟨m', hm, w3⟩ := hN σ3 H3 n3
      exact ⟨m', hm, σ3, H3, I3, w3⟩
    | cont =>
      obtain ⟨σ3, H3, I3, n3⟩ := q3
      obtain ⟨m', hm, w3⟩ := hN σ3 H3 n3
      exact ⟨m', hm, σ3, H3, I3, w3⟩
    | brk => exact q3
    | ret v => exact q3
  | false =>
    rw [if_neg Bool.false_ne_true]
    exact wpAny_execs_nil ⟨σ1, H2, I2, q2⟩
end

/-! ### what a loop or a comprehension walks -/
/-- at turn i: it yields x (the heap may grow), or it stops -/
structure It where
  go : Nat → Hp → Prop
  yld : Nat → Hp → V → Hp → Prop
  stop : Nat → Hp → Prop
/-- the iterator's own objects may turn: they are not the frame's, not pinned, younger than the entry (or a comprehension's own) -/
def FpOk (X : Cx) (pins : List (Addr × Obj)) (H : Hp) (b : Addr) : Prop :=
  H b = none ∧ b ≠ X.env.locals ∧ b ∉ X.fs ∧ (b ∈ X.ex ∨ X.s₀.heap.objs.size ≤ b) ∧ (∀ x c, X.env.cells.lookup x = some c → c ≠ b) ∧ ∀ p ∈ X.pn ++ pins, p.1 ≠ b
theorem Inv.fpOk {X : Cx} {pins : List (Addr × Obj)} {σ : St} {H H' : Hp} {s : Shared} {b : Addr} (I : Inv X pins σ H s) (hb : s.heap.objs.size ≤ b) (hn : H' b = none) : FpOk X pins H' b := by
  refine ⟨hn, Nat.ne_of_gt (Nat.lt_of_lt_of_le I.lt hb), I.nofs hb, .inr (Nat.le_trans I.sz hb), fun x c e z => ?_, fun p hp z => ?_⟩
  · obtain ⟨v, q⟩ := I.cell x c e
    exact absurd (Nat.lt_of_lt_of_le q.lt (by rw [z]; exact hb)) (Nat.lt_irrefl _)
  · exact absurd (Nat.lt_of_lt_of_le (Heap.lt_size (I.pin p hp).1) (by rw [z]; exact hb)) (Nat.lt_irrefl _)
structure Turn (P : Program) (w : World) (K : PySem.W.Frag) (tg : Expr) (J : It) (fp : List Addr) (it : Addr) (tn : Nat → Heap → Prop) : Prop where
  mem : it ∈ fp
  obj : ∀ i h, tn i h → ∀ b ∈ fp, ∃ o, h.get? b = some o ∧ ∀ v, o.data ≠ .cell v
  keep : ∀ i h h', tn i h → (∀ b ∈ fp, ∀ o, h.get? b = some o → h'.get? b = some o) → tn i h'
  item : ∀ (X : Cx), X.prog = P → X.w = w → X.K = K → X.calm = true → ∀ (i : Nat) (pins : List (Addr × Obj)) (s : Shared) (σ : St) (H : Hp) (E : Value → Shared → Prop), Inv X pins σ H s → (∀ b ∈ fp, FpOk X pins H b) → tn i s.heap → J.go i H →
    wpAny (model P w) X.A (pyNext (.ref it)) (fun r s1 => ∃ u, r = some u ∧
      wpAny (model P w) X.A (letOwnedTupleGo tg (.ref it) u) (fun _ s2 => ∃ x H', Inv X pins σ H' s2 ∧ RelV x u ∧ J.yld i H x H' ∧ tn (i + 1) s2.heap ∧ ∀ b ∈ fp, H' b = none) E s1) E s
  done : ∀ (X : Cx), X.prog = P → X.w = w → X.K = K → X.calm = true → ∀ (i : Nat) (pins : List (Addr × Obj)) (s : Shared) (σ : St) (H : Hp) (E : Value → Shared → Prop), Inv X pins σ H s → (∀ b ∈ fp, FpOk X pins H b) → tn i s.heap → J.stop i H →
    wpAny (model P w) X.A (pyNext (.ref it)) (fun r s1 => r = none ∧ Inv X pins σ H s1) E s
  self : ∀ (A : Around) (i : Nat) (s : Shared) (Q : Value → Shared → Prop) (E : Value → Shared → Prop), tn i s.heap → Q (.ref it) s → wpAny (model P w) A (pyIter (.ref it)) Q E s
abbrev TI := St → Hp → (It → Hp → Prop) → Prop
/-- an iterator has come -/
def PIE (X : Cx) (pins : List (Addr × Obj)) (σ : St) (tg : Expr) (R : It → Hp → Prop) (itv : Value) (s2 : Shared) : Prop :=
  ∃ (it : Addr) (fp : List Addr) (tn : Nat → Heap → Prop) (J : It) (H' : Hp), itv = .ref it ∧ Inv X pins σ H' s2 ∧ Turn X.prog X.w X.K tg J fp it tn ∧ tn 0 s2.heap ∧ (∀ b ∈ fp, FpOk X pins H' b) ∧ R J H'
def PI (X : Cx) (tg iter : Expr) (wi : TI) : Prop :=
  ∀ (pins : List (Addr × Obj)) (s : Shared) (σ : St) (H : Hp) (R : It → Hp → Prop), Inv X pins σ H s → wi σ H R →
    wpAny (model X.prog X.w) X.A (eval iter X.env) (fun v s1 => wpAny (model X.prog X.w) X.A (pyIter v) (PIE X pins σ tg R) X.xe s1) X.xe s

/-- the step ahead of the store is nothing for an iterator that keeps no tuple -/
theorem go_of {M : Model} {A : Around} {E : Value → Shared → Prop} {s : Shared} {tg : Expr} {it : Addr} {u : Value} {o : Obj} {n : String} {vs : Array Value} {Q : Unit → Shared → Prop} (ho : s.heap.get? it = some o) (hc : o.cls = .type n) (hd : o.data = .fields vs)
    (hn : ["enumerate", "zip", "dict_itemiterator", "dict_reverseitemiterator", "odict_iterator", "itertools.zip_longest", "itertools.pairwise"].contains n = false) (hQ : Q () s) : wpAny M A (letOwnedTupleGo tg (.ref it) u) Q E s := by
  unfold letOwnedTupleGo
  cases tg <;> first
    | exact wpAny_pure hQ
    | (cases u <;> first
        | exact wpAny_pure hQ
        | (refine wpAny_bind (wpAny_load ho ?_)
           rw [hc, hd]
           show wpAny M A (if (["enumerate", "zip", "dict_itemiterator", "dict_reverseitemiterator", "odict_iterator", "itertools.zip_longest", "itertools.pairwise"].contains n && vs[0]? == some (rawInt _)) = true then _ else _) Q E s
           rw [if_neg (by intro h; rw [hn, Bool.false_and] at h; cases h)]
           exact wpAny_pure hQ))

/-- the list at a, as it stands at each turn (a loop may append to it) -/
def Itl (K : PySem.W.Frag) (a : Addr) : It :=
  ⟨fun i H => ∃ xs x, SqL K H a xs ∧ xs[i]? = some x, fun i H x H' => H' = H ∧ ∀ xs, SqL K H a xs → xs[i]? = some x, fun i H => ∃ xs, SqL K H a xs ∧ xs.length ≤ i⟩
def Itt (K : PySem.W.Frag) (a : Addr) : It :=
  ⟨fun i H => ∃ xs x, SqT K H a xs ∧ xs[i]? = some x, fun i H x H' => H' = H ∧ ∀ xs, SqT K H a xs → xs[i]? = some x, fun i H => ∃ xs, SqT K H a xs ∧ xs.length ≤ i⟩
/-- lo, lo + 1, .. (n of them) -/
def Itr (lo : Int) (n : Nat) : It := ⟨fun i _ => i < n, fun i H x H' => H' = H ∧ x = .int (lo + i), fun i _ => n ≤ i⟩
theorem turn_list {P : Program} {w : World} {K : PySem.W.Frag} {tg : Expr} (a it : Addr) : Turn P w K tg (Itl K a) [it] it (fun i h => h.IsListIter it a i) where
  mem := by simp
  obj := fun i h st b hb => by
    have e : b = it := by simpa using hb
    subst e
    obtain ⟨o, e, c, d⟩ := st
    exact ⟨o, e, fun v z => by rw [d] at z; cases z⟩
  keep := fun i h h' st k => st.at fun o e => k it (by simp) o e
  item := by
    intro X hP hw hK hc i pins s σ H E I hf st hg
    subst hP hw hK
    obtain ⟨xs, x, hq, hx⟩ := hg
    obtain ⟨its, rv, p, hz⟩ := I.list hq
    obtain ⟨u, hu, ru⟩ := rv.get hx
    obtain ⟨f0, f1, f2, f3, f4, f5⟩ := hf it (by simp)
    refine wpAny_pyNext_list_item st p.isList (x := u) (by simpa using hu) fun h' st' sb => ?_
    have I1 : Inv X pins σ H { s with heap := h' } := I.turned (t' := s.toks) (fun b o hb e => (sb.2 b hb).trans e) f0 f1 f3 f4 f5
    obtain ⟨o, e, c, d⟩ := id st'
    exact ⟨u, rfl, go_of (s := { s with heap := h' }) e c d (by decide) ⟨x, H, I1, ru, ⟨rfl, fun ys hy => by rw [I.list_inj hy hq]; exact hx⟩, st', fun b hb => (hf b hb).1⟩⟩
  done := by
    intro X hP hw hK hc i pins s σ H E I hf st hg
    subst hP hw hK
    obtain ⟨xs, hq, hx⟩ := hg
    obtain ⟨its, rv, p, hz⟩ := I.list hq
    obtain ⟨f0, f1, f2, f3, f4, f5⟩ := hf it (by simp)
    have hl := rv.length
    exact wpAny_pyNext_list_end (I.ok.hd hc) st p.isList (by simp; omega) fun h' eb => ⟨rfl, I.turned (t' := s.toks) (fun b o hb e => eb b o hb e) f0 f1 f3 f4 f5⟩
  self := fun _ _ _ _ _ st h => wpAny_pyIter_listiter st h
theorem turn_tuple {P : Program} {w : World} {K : PySem.W.Frag} {tg : Expr} (a it : Addr) : Turn P w K tg (Itt K a) [it] it (fun i h => h.IsTupleIter it a i) where
  mem := by simp
  obj := fun i h st b hb => by
    have e : b = it := by simpa using hb
    subst e
    obtain ⟨o, e, c, d⟩ := st
    exact ⟨o, e, fun v z => by rw [d] at z; cases z⟩
  keep := fun i h h' st k => st.at fun o e => k it (by simp) o e
  item := by
    intro X hP hw hK hc i pins s σ H E I hf st hg
    subst hP hw hK
    obtain ⟨xs, x, hq, hx⟩ := hg
    obtain ⟨its, rv, p, hz⟩ := I.tuple hq
    obtain ⟨u, hu, ru⟩ := rv.get hx
    obtain ⟨f0, f1, f2, f3, f4, f5⟩ := hf it (by simp)
    refine wpAny_pyNext_tuple_item st (show s.heap.IsTuple a its.toArray from p) (x := u) (by simpa using hu) fun h' st' sb => ?_
    have I1 : Inv X pins σ H { s with heap := h' } := I.turned (t' := s.toks) (fun b o hb e => (sb.2 b hb).trans e) f0 f1 f3 f4 f5
    obtain ⟨o, e, c, d⟩ := id st'
    exact ⟨u, rfl, go_of (s := { s with heap := h' }) e c d (by decide) ⟨x, H, I1, ru, ⟨rfl, fun ys hy => by rw [I.tuple_inj hy hq]; exact hx⟩, st', fun b hb => (hf b hb).1⟩⟩
  done := by
    intro X hP hw hK hc i pins s σ H E I hf st hg
    subst hP hw hK
    obtain ⟨xs, hq, hx⟩ := hg
    obtain ⟨its, rv, p, hz⟩ := I.tuple hq
    obtain ⟨f0, f1, f2, f3, f4, f5⟩ := hf it (by simp)
    have hl := rv.length
    exact wpAny_pyNext_tuple_end (I.ok.hd hc) st (show s.heap.IsTuple a its.toArray from p) (by simp; omega) fun h' eb => ⟨rfl, I.turned (t' := s.toks) (fun b o hb e => eb b o hb e) f0 f1 f3 f4 f5⟩
  self := fun _ _ _ _ _ st h => wpAny_pyIter_tupleiter st h
theorem turn_range {P : Program} {w : World} {K : PySem.W.Frag} {tg : Expr} (it : Addr) (lo : Int) (n : Nat) : Turn P w K tg (Itr lo n) [it] it (fun i h => IsRangeIter h it (lo + (i : Nat) * 1) ((n : Int) - (i : Nat)) 1) where
  mem := by simp
  obj := fun i h st b hb => by
    have e : b = it := by simpa using hb
    subst e
    exact ⟨_, st, fun v z => by
      have z' : Data.fields _ = Data.cell v := z
      cases z'⟩
  keep := fun i h h' st k => k it (by simp) _ st
  item := by
    intro X hP hw hK hc i pins s σ H E I hf st hg
    subst hP hw hK
    obtain ⟨f0, f1, f2, f3, f4, f5⟩ := hf it (by simp)
    have W := Walks.range (prog := X.prog) (w := X.w) (I.ok.hd hc) it lo 1 n
    refine W.item i s _ _ hg st fun v h' tk hv st' kk => ?_
    obtain ⟨t, rfl⟩ := hv
    have I1 : Inv X pins σ H { s with heap := h', toks := tk } := I.turned (fun b o hb e => kk b o (by simpa using hb) e) f0 f1 f3 f4 f5
    refine ⟨_, rfl, go_of (s := { s with heap := h', toks := tk }) (n := "range_iterator") st' rfl rfl (by decide) ⟨.int (lo + i), H, I1, ⟨t, ?_⟩, ⟨rfl, rfl⟩, st', fun b hb => (hf b hb).1⟩⟩
    rw [Int.mul_one]
  done := by
    intro X hP hw hK hc i pins s σ H E I hf st hg
    subst hP hw hK
    obtain ⟨f0, f1, f2, f3, f4, f5⟩ := hf it (by simp)
    exact wpAny_pyNext_range_end (I.ok.hd hc) st (by have : n ≤ i := hg; omega) fun h' eb => ⟨rfl, I.turned (t' := s.toks) (fun b o hb e => eb b o hb e) f0 f1 f3 f4 f5⟩
  self := fun _ _ _ _ _ st h => wpAny_pyIter_rangeiter st h
end L2

namespace L2
open PySem PySem.Spec PyProof.Rows
section
variable {X : Cx} {tg : Expr}
def iList (K : PySem.W.Frag) (tl : TE) : TI := fun σ H R => tl σ H fun x H1 => ∃ a, x = .ref a ∧ (∃ xs, SqL K H1 a xs) ∧ R (Itl K a) H1
def iTup (K : PySem.W.Frag) (tl : TE) : TI := fun σ H R => tl σ H fun x H1 => ∃ a, x = .ref a ∧ (∃ xs, SqT K H1 a xs) ∧ R (Itt K a) H1
theorem pi_list {l : Expr} {tl : TE} (hl : PE X l tl) : PI X tg l (iList X.K tl) := by
  intro pins s σ H R I h
  refine thn (hl pins s σ H _ I h) fun v s1 ⟨x, H1, I1, r1, q1⟩ => ?_
  obtain ⟨a, e, ⟨xs, hq⟩, q⟩ := q1
  subst e
  cases r1
  obtain ⟨its, rv, p, hz⟩ := I1.list hq
  refine wpAny_pyIter_list p.isList ?_
  refine ⟨s1.heap.objs.size, [s1.heap.objs.size], _, _, H1, rfl, I1.kept (t' := s1.toks) fun b o e => Heap.get?_push_of_some _ e, turn_list a _, ⟨_, Heap.get?_push_size _ rfl, rfl, rfl⟩, fun b hb => ?_, q⟩
  have e : b = s1.heap.objs.size := by simpa using hb
  subst e
  exact I1.fpOk (Nat.le_refl _) (I1.hok.fresh (Nat.le_refl _))
theorem pi_tup {l : Expr} {tl : TE} (hl : PE X l tl) : PI X tg l (iTup X.K tl) := by
  intro pins s σ H R I h
  refine thn (hl pins s σ H _ I h) fun v s1 ⟨x, H1, I1, r1, q1⟩ => ?_
  obtain ⟨a, e, ⟨xs, hq⟩, q⟩ := q1
  subst e
  cases r1
  obtain ⟨its, rv, p, hz⟩ := I1.tuple hq
  refine wpAny_pyIter_tuple (show s1.heap.IsTuple a its.toArray from p) ?_
  refine ⟨s1.heap.objs.size, [s1.heap.objs.size], _, _, H1, rfl, I1.kept (t' := s1.toks) fun b o e => Heap.get?_push_of_some _ e, turn_tuple a _, ⟨_, Heap.get?_push_size _ rfl, rfl, rfl⟩, fun b hb => ?_, q⟩
  have e : b = s1.heap.objs.size := by simpa using hb
  subst e
  exact I1.fpOk (Nat.le_refl _) (I1.hok.fresh (Nat.le_refl _))
/-- a range object just made, walked -/
theorem range_it {pins : List (Addr × Obj)} {σ : St} {H : Hp} {s : Shared} {R : It → Hp → Prop} {E : Value → Shared → Prop} {lo hi : Int} {t u v : Tok} {tk : Nat} (I : Inv X pins σ H s) (h1 : -(2 ^ 62) ≤ lo) (h2 : lo < 2 ^ 62) (h3 : -(2 ^ 62) ≤ hi) (h4 : hi < 2 ^ 62)
    (q : R (Itr lo (hi - lo).toNat) H) : wpAny (model X.prog X.w) X.A (pyIter (.ref s.heap.objs.size)) (PIE X pins σ tg R) E { s with heap := s.heap.push { cls := .type "range", data := .fields #[.int lo t, .int hi u, .int 1 v] }, toks := tk } := by
  refine wpAny_pyIter_range (IsRange.new ..) (small_one h1 h2 h3 h4) ?_
  have I1 : Inv X pins σ H { s with heap := s.heap.push { cls := .type "range", data := .fields #[.int lo t, .int hi u, .int 1 v] }, toks := tk } := I.kept fun b o e => Heap.get?_push_of_some _ e
  refine ⟨(s.heap.push { cls := .type "range", data := .fields #[.int lo t, .int hi u, .int 1 v] }).objs.size, [(s.heap.push { cls := .type "range", data := .fields #[.int lo t, .int hi u, .int 1 v] }).objs.size], _, _, H, rfl,
    I1.kept (t' := tk) fun b o e => Heap.get?_push_of_some _ e, turn_range _ lo (hi - lo).toNat, ?_, fun b hb => ?_, q⟩
  · have e1 : lo + ((0 : Nat) : Int) * 1 = lo := by simp
    have e2 : (((hi - lo).toNat : Nat) : Int) - ((0 : Nat) : Int) = Builtin.Range.rangeSize lo hi 1 := by rw [rangeSize_one]; split <;> omega
    show IsRangeIter _ _ (lo + ((0 : Nat) : Int) * 1) ((((hi - lo).toNat : Nat) : Int) - ((0 : Nat) : Int)) 1
    rw [e1, e2]
    exact Heap.get?_push_size _ rfl
  · have e : b = (s.heap.push { cls := .type "range", data := .fields #[.int lo t, .int hi u, .int 1 v] }).objs.size := by simpa using hb
    subst e
    exact I1.fpOk (Nat.le_refl _) (I1.hok.fresh (Nat.le_refl _))
def iRng1 (ta : TA) : TI := fun σ H R => ta σ H fun vs H1 => ∃ j : Int, vs = [.int j] ∧ -(2 ^ 62) ≤ j ∧ j < 2 ^ 62 ∧ R (Itr 0 j.toNat) H1
def iRng2 (ta : TA) : TI := fun σ H R => ta σ H fun vs H1 => ∃ i j : Int, vs = [.int i, .int j] ∧ (-(2 ^ 62) ≤ i ∧ i < 2 ^ 62 ∧ -(2 ^ 62) ≤ j ∧ j < 2 ^ 62) ∧ R (Itr i (j - i).toNat) H1
theorem pi_range1 {a : Expr} {ta : TA} {p pos : Pos} (hg : Gl X "range") (hm : X.mg "range" = none) (ha : PA X [a] ta) (hs : starEach [a] X.env = [(false, eval a X.env)] := by rfl) : PI X tg (.Call (.Name "range" p) [a] [] pos) (iRng1 ta) := by
  intro pins s σ H R I h
  refine Call_ (ld_blt I hg hm boot_range (PyProof.Rows.callWith_type1 (thn (ha pos pins s σ H _ I h) fun us s1 ⟨vs, H1, I1, r1, q1⟩ => ?_) hs rfl))
  obtain ⟨j, e, q1, q2, q⟩ := q1
  subst e
  cases r1 with
  | cons r rr =>
    cases rr
    obtain ⟨t, rfl⟩ := r
    exact call_range_1 (range_it I1 (by omega) (by omega) q1 q2 (by simpa using q))
theorem pi_range2 {a b : Expr} {ta : TA} {p pos : Pos} (hg : Gl X "range") (hm : X.mg "range" = none) (ha : PA X [a, b] ta) (hs : starEach [a, b] X.env = [(false, eval a X.env), (false, eval b X.env)] := by rfl) (hs2 : starEach [b] X.env = [(false, eval b X.env)] := by rfl) :
    PI X tg (.Call (.Name "range" p) [a, b] [] pos) (iRng2 ta) := by
  intro pins s σ H R I h
  refine Call_ (ld_blt I hg hm boot_range (PyProof.Rows.callWith_type1 (thn (ha pos pins s σ H _ I h) fun us s1 ⟨vs, H1, I1, r1, q1⟩ => ?_) (by rw [hs, hs2]) (by rw [hs2]; rfl)))
  obtain ⟨i, j, e, ⟨q1, q2, q3, q4⟩, q⟩ := q1
  subst e
  cases r1 with
  | cons r rr =>
    cases rr with
    | cons r' rr =>
      cases rr
      obtain ⟨t, rfl⟩ := r
      obtain ⟨t', rfl⟩ := r'
      exact call_range_2 (range_it I1 q1 q2 q3 q4 q)

/-! ### for -/
/-- W: the invariant by the turn and a measure; N: what the body is to reach -/
def tFor (wi : TI) (g : TG) (tb : TS) : TS := fun D σ H => wi σ H fun J H1 => ∃ W : Nat → Nat → St → Hp → Prop, (∃ m, W 0 m σ H1) ∧ ∀ i m σ H, W i m σ H →
  (J.stop i H ∧ D.nx σ H) ∨ (J.go i H ∧ ∃ N : St → Hp → Prop, (∀ σ' H', N σ' H' → ∃ m', m' < m ∧ W (i + 1) m' σ' H') ∧ ∀ x H', J.yld i H x H' → g x σ H' fun σ2 H2 => tb { D with nx := N, ct := N, bk := D.nx } σ2 H2)
/-- the records at fp as they stand -/
def pinsAt (fp : List Addr) (h : Heap) : List (Addr × Obj) := fp.filterMap fun b => (h.get? b).map fun o => (b, o)
theorem mem_pinsAt {fp : List Addr} {h : Heap} {b : Addr} {o : Obj} (hb : b ∈ fp) (e : h.get? b = some o) : (b, o) ∈ pinsAt fp h := List.mem_filterMap.mpr ⟨b, hb, by rw [e]; rfl⟩
theorem of_pinsAt {fp : List Addr} {h : Heap} {p : Addr × Obj} (hp : p ∈ pinsAt fp h) : p.1 ∈ fp ∧ h.get? p.1 = some p.2 := by
  obtain ⟨b, hb, e⟩ := List.mem_filterMap.mp hp
  cases q : h.get? b with
  | none => rw [q] at e; cases e
  | some o =>
    rw [q] at e
    have e' : (b, o) = p := Option.some.inj e
    subst e'
    exact ⟨hb, q⟩
theorem Inv.pinned {pins : List (Addr × Obj)} {σ : St} {H : Hp} {s : Shared} {fp : List Addr} (I : Inv X pins σ H s) (hf : ∀ b ∈ fp, FpOk X pins H b) (ho : ∀ b ∈ fp, ∃ o, s.heap.get? b = some o ∧ ∀ v, o.data ≠ .cell v) : Inv X (pins ++ pinsAt fp s.heap) σ H s :=
  I.pins_of fun p hp => (List.mem_append.mp hp).elim (fun z => I.pin p (List.mem_append_right _ z)) fun z => by
    obtain ⟨hb, e⟩ := of_pinsAt z
    obtain ⟨f0, f1, f2, _⟩ := hf p.1 hb
    obtain ⟨o, e', d⟩ := ho p.1 hb
    rw [e] at e'; cases e'
    exact ⟨e, f0, f1, f2, d⟩
theorem Inv.unpinned {pins pl : List (Addr × Obj)} {σ : St} {H : Hp} {s : Shared} (I : Inv X (pins ++ pl) σ H s) : Inv X pins σ H s := I.pins_of fun p hp => I.pin p (List.mem_append_right _ (List.mem_append_left _ hp))
theorem ps_for {iter : Expr} {body : List Stmt} {wi : TI} {g : TG} {tb : TS} {pos : Pos} (hp : PassesOwn (model X.prog X.w) X.A X.env X.xe) (hc : X.calm = true) (hi : PI X tg iter wi) (hg : PG X tg g) (hb : PSs X body tb)
    (hs : ∀ x, foldedSetIterable iter X.env x = pure x := by intro _; rfl) : PS X (.For tg iter body [] pos) (tFor wi g tb) := by
  intro pins s σ H D I h
  refine wpAny_For (thn (hi pins s σ H _ I h) fun v s1 h1 => thn h1 fun itv s2 h2 => ?_) hs
  obtain ⟨it, fp, tn, J, H2, e, I2, T, st2, f2, W, ⟨m0, w0⟩, turn⟩ := h2
  subst e
  -- what stays true of the iterator's objects through the loop
  have stat : ∀ {H' : Hp}, (∀ b ∈ fp, H' b = none) → ∀ b ∈ fp, FpOk X pins H' b := fun hn b hb => ⟨hn b hb, (f2 b hb).2⟩
  refine codeAny_forLoop_any (fun n s' => ∃ i σ' H', Inv X pins σ' H' s' ∧ tn i s'.heap ∧ (∀ b ∈ fp, H' b = none) ∧ W i n σ' H') ?_ m0 ⟨0, σ, H2, I2, st2, fun b hb => (f2 b hb).1, w0⟩
  rintro n s3 ⟨i, σ3, H3, I3, st3, fr3, w3⟩
  rcases turn i n σ3 H3 w3 with ⟨stop, qn⟩ | ⟨go, N, hN, step⟩
  · refine wpAny_passesOwn hp (thn (T.done X rfl rfl rfl hc i pins s3 σ3 H3 X.xe I3 (stat fr3) st3 stop) fun r s4 ⟨hr, I4⟩ => ?_)
    subst hr
    exact wpAny_execs_nil ⟨σ3, H3, I4, qn⟩
  · refine wpAny_passesOwn hp (thn (T.item X rfl rfl rfl hc i pins s3 σ3 H3 X.xe I3 (stat fr3) st3 go) fun r s4 ⟨u, hr, h4⟩ => ?_)
    subst hr
    refine wpAny_passesOwn hp (thn h4 fun _ s5 ⟨x, H5, I5, r5, y5, st5, fr5⟩ => ?_)
    have I5' := I5.pinned (stat fr5) (T.obj _ _ st5)
    refine wpAny_passesOwn hp (thn (hg _ s5 σ3 H5 x u _ I5' r5 (step x H5 y5)) fun _ s6 ⟨σ6, H6, I6, q6⟩ => ?_)
    refine wpAny_passesOwn hp (thn (hb _ s6 σ6 H6 _ I6 q6) fun f s7 q7 => ?_)
    have again : ∀ {σ7 : St} {H7 : Hp}, Inv X (pins ++ pinsAt fp s5.heap) σ7 H7 s7 → N σ7 H7 → ∃ m, m < n ∧ ∃ i σ' H', Inv X pins σ' H' s7 ∧ tn i s7.heap ∧ (∀ b ∈ fp, H' b = none) ∧ W i m σ' H' := fun {σ7 H7} I7 n7 => by
      obtain ⟨m', hm, w7⟩ := hN σ7 H7 n7
      refine ⟨m', hm, i + 1, σ7, H7, I7.unpinned, T.keep _ _ _ st5 fun b hb o e => (I7.pin (b, o) (List.mem_append_right _ (List.mem_append_right _ (mem_pinsAt hb e)))).1, fun b hb => ?_, w7⟩
      obtain ⟨o, e, d⟩ := T.obj _ _ st5 b hb
      exact (I7.pin (b, o) (List.mem_append_right _ (List.mem_append_right _ (mem_pinsAt hb e)))).2.1
    cases f with
    | next => obtain ⟨σ7, H7, I7, n7⟩ := q7; exact again I7 n7
    | cont => obtain ⟨σ7, H7, I7, n7⟩ := q7; exact again I7 n7
    | brk => obtain ⟨σ7, H7, I7, q7⟩ := q7; exact ⟨σ7, H7, I7.unpinned, q7⟩
    | ret v => obtain ⟨x7, σ7, H7, I7, r7, q7⟩ := q7; exact ⟨x7, σ7, H7, I7.unpinned, r7, q7⟩
end

/-! ### the forms one uses -/
/-- over a list that the body leaves as it is -/
theorem for_list {K : PySem.W.Frag} {a : Addr} {xs : List V} {g : TG} {tb : TS} {D : Ends} {σ : St} {H : Hp} (Pv : Nat → St → Hp → Prop) (h0 : Pv 0 σ H) (hl : ∀ i σ H, i ≤ xs.length → Pv i σ H → SqL K H a xs)
    (hs : ∀ i x σ H, xs[i]? = some x → Pv i σ H → g x σ H fun σ2 H2 => tb { D with nx := Pv (i + 1), ct := Pv (i + 1), bk := D.nx } σ2 H2) (hd : ∀ σ H, Pv xs.length σ H → D.nx σ H) :
    ∃ W : Nat → Nat → St → Hp → Prop, (∃ m, W 0 m σ H) ∧ ∀ i m σ H, W i m σ H →
      ((Itl K a).stop i H ∧ D.nx σ H) ∨ ((Itl K a).go i H ∧ ∃ N : St → Hp → Prop, (∀ σ' H', N σ' H' → ∃ m', m' < m ∧ W (i + 1) m' σ' H') ∧ ∀ x H', (Itl K a).yld i H x H' → g x σ H' fun σ2 H2 => tb { D with nx := N, ct := N, bk := D.nx } σ2 H2) := by
  refine ⟨fun i m σ H => m = xs.length - i ∧ i ≤ xs.length ∧ Pv i σ H, ⟨xs.length, by simp, Nat.zero_le _, h0⟩, ?_⟩
  rintro i m σ H ⟨rfl, hi, p⟩
  have q := hl i σ H hi p
  by_cases hlt : i < xs.length
  · refine .inr ⟨⟨xs, xs[i], q, by simp [hlt]⟩, Pv (i + 1), fun σ' H' p' => ⟨xs.length - (i + 1), by omega, rfl, hlt, p'⟩, fun x H' y => ?_⟩
    obtain ⟨e, y⟩ := y
    subst e
    exact hs i x σ _ (y xs q) p
  · have e : i = xs.length := by omega
    subst e
    exact .inl ⟨⟨xs, q, Nat.le_refl _⟩, hd σ H p⟩
theorem for_tup {K : PySem.W.Frag} {a : Addr} {xs : List V} {g : TG} {tb : TS} {D : Ends} {σ : St} {H : Hp} (Pv : Nat → St → Hp → Prop) (h0 : Pv 0 σ H) (hl : ∀ i σ H, i ≤ xs.length → Pv i σ H → SqT K H a xs)
    (hs : ∀ i x σ H, xs[i]? = some x → Pv i σ H → g x σ H fun σ2 H2 => tb { D with nx := Pv (i + 1), ct := Pv (i + 1), bk := D.nx } σ2 H2) (hd : ∀ σ H, Pv xs.length σ H → D.nx σ H) :
    ∃ W : Nat → Nat → St → Hp → Prop, (∃ m, W 0 m σ H) ∧ ∀ i m σ H, W i m σ H →
      ((Itt K a).stop i H ∧ D.nx σ H) ∨ ((Itt K a).go i H ∧ ∃ N : St → Hp → Prop, (∀ σ' H', N σ' H' → ∃ m', m' < m ∧ W (i + 1) m' σ' H') ∧ ∀ x H', (Itt K a).yld i H x H' → g x σ H' fun σ2 H2 => tb { D with nx := N, ct := N, bk := D.nx } σ2 H2) := by
  refine ⟨fun i m σ H => m = xs.length - i ∧ i ≤ xs.length ∧ Pv i σ H, ⟨xs.length, by simp, Nat.zero_le _, h0⟩, ?_⟩
  rintro i m σ H ⟨rfl, hi, p⟩
  have q := hl i σ H hi p
  by_cases hlt : i < xs.length
  · refine .inr ⟨⟨xs, xs[i], q, by simp [hlt]⟩, Pv (i + 1), fun σ' H' p' => ⟨xs.length - (i + 1), by omega, rfl, hlt, p'⟩, fun x H' y => ?_⟩
    obtain ⟨e, y⟩ := y
    subst e
    exact hs i x σ _ (y xs q) p
  · have e : i = xs.length := by omega
    subst e
    exact .inl ⟨⟨xs, q, Nat.le_refl _⟩, hd σ H p⟩
theorem for_range {lo : Int} {n : Nat} {g : TG} {tb : TS} {D : Ends} {σ : St} {H : Hp} (Pv : Nat → St → Hp → Prop) (h0 : Pv 0 σ H)
    (hs : ∀ i σ H, i < n → Pv i σ H → g (.int (lo + i)) σ H fun σ2 H2 => tb { D with nx := Pv (i + 1), ct := Pv (i + 1), bk := D.nx } σ2 H2) (hd : ∀ σ H, Pv n σ H → D.nx σ H) :
    ∃ W : Nat → Nat → St → Hp → Prop, (∃ m, W 0 m σ H) ∧ ∀ i m σ H, W i m σ H →
      ((Itr lo n).stop i H ∧ D.nx σ H) ∨ ((Itr lo n).go i H ∧ ∃ N : St → Hp → Prop, (∀ σ' H', N σ' H' → ∃ m', m' < m ∧ W (i + 1) m' σ' H') ∧ ∀ x H', (Itr lo n).yld i H x H' → g x σ H' fun σ2 H2 => tb { D with nx := N, ct := N, bk := D.nx } σ2 H2) := by
  refine ⟨fun i m σ H => m = n - i ∧ i ≤ n ∧ Pv i σ H, ⟨n, by simp, Nat.zero_le _, h0⟩, ?_⟩
  rintro i m σ H ⟨rfl, hi, p⟩
  by_cases hlt : i < n
  · refine .inr ⟨hlt, Pv (i + 1), fun σ' H' p' => ⟨n - (i + 1), by omega, rfl, hlt, p'⟩, fun x H' y => ?_⟩
    obtain ⟨e, y⟩ := y
    subst e y
    exact hs i σ _ hlt p
  · have e : i = n := by omega
    subst e
    exact .inl ⟨Nat.le_refl _, hd σ H p⟩
/-- while, by a word and a measure of the state -/
theorem while_by {c : TT} {tb : TS} {D : Ends} {σ : St} {H : Hp} (Pv : St → Hp → Prop) (μ : St → Hp → Nat) (h0 : Pv σ H)
    (hs : ∀ σ H, Pv σ H → c σ H fun b H1 => if b = true then tb { D with nx := fun σ' H' => Pv σ' H' ∧ μ σ' H' < μ σ H, ct := fun σ' H' => Pv σ' H' ∧ μ σ' H' < μ σ H, bk := D.nx } σ H1 else D.nx σ H1)
    (mono : ∀ σ H Q Q', (∀ b H1, Q b H1 → Q' b H1) → c σ H Q → c σ H Q') : tWhile c tb D σ H := by
  refine ⟨fun m σ H => m = μ σ H ∧ Pv σ H, ⟨_, rfl, h0⟩, ?_⟩
  rintro m σ H ⟨rfl, p⟩
  refine mono σ H _ _ (fun b H1 q => ?_) (hs σ H p)
  cases b with
  | true => exact ⟨_, fun σ' H' ⟨p', l⟩ => ⟨_, l, rfl, p'⟩, q⟩
  | false => exact q
end L2

namespace L2
open PySem PySem.Spec PyProof.Rows

abbrev R2 := V → V → Hp → VK → Prop
/-- a two-place operation on values: f is binaryOp op, inplaceOp op or compareOp op -/
def OpR (X : Cx) (f : Value → Value → Sem Value) (r : R2) : Prop :=
  ∀ (pins : List (Addr × Obj)) (s : Shared) (σ : St) (H : Hp) (x y : V) (v u : Value) (Q : VK), Inv X pins σ H s → RelV x v → RelV y u → r x y H Q →
    wpAny (model X.prog X.w) X.A (f v u) (EP X pins σ Q) X.xe s
/-- a one-place operation -/
def UnR (X : Cx) (f : Value → Sem Value) (r : V → Hp → VK → Prop) : Prop :=
  ∀ (pins : List (Addr × Obj)) (s : Shared) (σ : St) (H : Hp) (x : V) (v : Value) (Q : VK), Inv X pins σ H s → RelV x v → r x H Q →
    wpAny (model X.prog X.w) X.A (f v) (EP X pins σ Q) X.xe s
/-- a call of a value that is known (a builtin, a type) with values -/
def CallR (X : Cx) (f : Value) (r : List V → Hp → VK → Prop) : Prop :=
  ∀ (pins : List (Addr × Obj)) (s : Shared) (σ : St) (H : Hp) (xs : List V) (us : List Value) (Q : VK), Inv X pins σ H s → Vals xs us → r xs H Q →
    wpAny (model X.prog X.w) X.A (call f us) (EP X pins σ Q) X.xe s
/-- a value's truth -/
def TruR (X : Cx) (r : V → Hp → (Bool → Hp → Prop) → Prop) : Prop :=
  ∀ (pins : List (Addr × Obj)) (s : Shared) (σ : St) (H : Hp) (x : V) (v : Value) (Q : Bool → Hp → Prop), Inv X pins σ H s → RelV x v → r x H Q →
    wpAny (model X.prog X.w) X.A (truthy v) (TP X pins σ Q) X.xe s

def tOp (r : R2) (ta tb : TE) : TE := fun σ H Q => ta σ H fun x H1 => tb σ H1 fun y H2 => r x y H2 Q
def tUn (r : V → Hp → VK → Prop) (ta : TE) : TE := fun σ H Q => ta σ H fun x H1 => r x H1 Q
/-- ints in, under C, and a value out -/
def rI (C : Int → Int → Prop) (g : Int → Int → V) : R2 := fun x y H Q => ∃ i j, x = .int i ∧ y = .int j ∧ C i j ∧ Q (g i j) H
def rI0 (g : Int → Int → V) : R2 := fun x y H Q => ∃ i j, x = .int i ∧ y = .int j ∧ Q (g i j) H
def rU (g : Int → V) : V → Hp → VK → Prop := fun x H Q => ∃ i, x = .int i ∧ Q (g i) H

section
variable {X : Cx} {a b c : Expr} {ta tb tc : TE} {pos : Pos}

theorem binT (ha : PE X a ta) (hb : PE X b tb) {pins : List (Addr × Obj)} {s : Shared} {σ : St} {H : Hp} {R : V → V → Hp → Prop} (I : Inv X pins σ H s)
    (h : ta σ H fun x H1 => tb σ H1 fun y H2 => R x y H2) {Q : Value → Shared → Prop} {f : Value → Value → Sem Value}
    (hf : ∀ v u s2 x y H2, Inv X pins σ H2 s2 → RelV x v → RelV y u → R x y H2 → wpAny (model X.prog X.w) X.A (f v u) Q X.xe s2) :
    wpAny (model X.prog X.w) X.A (eval a X.env) (fun v s₁ => wpAny (model X.prog X.w) X.A (eval b X.env) (fun u s₂ => wpAny (model X.prog X.w) X.A (f v u) Q X.xe s₂) X.xe s₁) X.xe s := by
  refine thn (ha pins s σ H _ I h) fun v s1 ⟨x, H1, I1, r1, q1⟩ => ?_
  refine thn (hb pins s1 σ H1 _ I1 q1) fun u s2 ⟨y, H2, I2, r2, q2⟩ => ?_
  exact hf v u s2 x y H2 I2 r1 r2 q2

theorem pe_op {op : Operator} {r : R2} (ho : OpR X (binaryOp op) r) (ha : PE X a ta) (hb : PE X b tb) : PE X (.BinOp a op b pos) (tOp r ta tb) := by
  intro pins s σ H Q I h
  exact wpAny_BinOp (binT ha hb I h fun v u s2 x y H2 I2 rx ry q => ho pins s2 σ H2 x y v u Q I2 rx ry q)
theorem pe_un {op : UnaryOp} {r : V → Hp → VK → Prop} (ho : UnR X (unaryOp op) r) (ha : PE X a ta) : PE X (.UnaryOp op a pos) (tUn r ta) := by
  intro pins s σ H Q I h
  exact UnaryOp_ (thn (ha pins s σ H _ I h) fun v s1 ⟨x, H1, I1, r1, q1⟩ => ho pins s1 σ H1 x v Q I1 r1 q1)
/-- a op= e at a name: the name's slot i -/
theorem augR {op : Operator} {r : R2} (ho : OpR X (inplaceOp op) r) {pins : List (Addr × Obj)} {s : Shared} {σ : St} {H : Hp} {x y : V} {v u : Value} {Q : VK} (I : Inv X pins σ H s)
    (rx : RelV x v) (ry : RelV y u) (q : r x y H Q) : wpAny (model X.prog X.w) X.A (inplaceOp op v u) (EP X pins σ Q) X.xe s := ho pins s σ H x y v u Q I rx ry q

/-! ### ints -/
theorem opI {f : Value → Value → Sem Value} {C : Int → Int → Prop} {g : Int → Int → Int}
    (rule : ∀ (i j : Int) (t u : Tok) (s : Shared) (Q : Value → Shared → Prop) (E : Value → Shared → Prop), C i j → Q (.int (g i j) s.toks) { s with toks := s.toks + 1 } → wpAny (model X.prog X.w) X.A (f (.int i t) (.int j u)) Q E s) :
    OpR X f (rI C fun i j => .int (g i j)) := by
  intro pins s σ H x y v u Q I rx ry h
  obtain ⟨i, j, rfl, rfl, hc, q⟩ := h
  obtain ⟨t, rfl⟩ := rx
  obtain ⟨t', rfl⟩ := ry
  exact rule i j t t' s _ _ hc ⟨.int (g i j), H, I.tok _, ⟨_, rfl⟩, q⟩
theorem opI0 {f : Value → Value → Sem Value} {g : Int → Int → Int}
    (rule : ∀ (i j : Int) (t u : Tok) (s : Shared) (Q : Value → Shared → Prop) (E : Value → Shared → Prop), Q (.int (g i j) s.toks) { s with toks := s.toks + 1 } → wpAny (model X.prog X.w) X.A (f (.int i t) (.int j u)) Q E s) :
    OpR X f (rI0 fun i j => .int (g i j)) := by
  intro pins s σ H x y v u Q I rx ry h
  obtain ⟨i, j, rfl, rfl, q⟩ := h
  obtain ⟨t, rfl⟩ := rx
  obtain ⟨t', rfl⟩ := ry
  exact rule i j t t' s _ _ ⟨.int (g i j), H, I.tok _, ⟨_, rfl⟩, q⟩
theorem opB0 {f : Value → Value → Sem Value} {g : Int → Int → Bool}
    (rule : ∀ (i j : Int) (t u : Tok) (s : Shared) (Q : Value → Shared → Prop) (E : Value → Shared → Prop), Q (.bool (g i j)) s → wpAny (model X.prog X.w) X.A (f (.int i t) (.int j u)) Q E s) :
    OpR X f (rI0 fun i j => .bl (g i j)) := by
  intro pins s σ H x y v u Q I rx ry h
  obtain ⟨i, j, rfl, rfl, q⟩ := h
  obtain ⟨t, rfl⟩ := rx
  obtain ⟨t', rfl⟩ := ry
  exact rule i j t t' s _ _ ⟨.bl (g i j), H, I, rfl, q⟩

def CDiv (i j : Int) : Prop := 0 < j ∧ j < 1073741824
def CDivN (i j : Int) : Prop := j ≠ 0 ∧ j.natAbs < 1073741824
def CPow (i j : Int) : Prop := 0 ≤ j ∧ j ≤ 1000000 ∧ i.natAbs < 2 ^ 64
def CMul (i j : Int) : Prop := (-(2 ^ 64) < i ∧ i < 2 ^ 64) ∨ (-(2 ^ 64) < j ∧ j < 2 ^ 64)
theorem CMul.ok {i j : Int} (h : CMul i j) : IntMulOk i j := by
  rcases h with ⟨h1, h2⟩ | ⟨h1, h2⟩
  · exact .of_left (intBits_le_64 h1 h2)
  · exact .of_right (intBits_le_64 h1 h2)
theorem two_pow_nn (k : Nat) : (0 : Int) ≤ 2 ^ k := by
  rw [two_pow_cast]
  exact Int.natCast_nonneg _

theorem op_add : OpR X (binaryOp .Add) (rI0 fun i j => .int (i + j)) := opI0 fun _ _ _ _ _ _ _ q => add_int q
theorem op_sub : OpR X (binaryOp .Sub) (rI0 fun i j => .int (i - j)) := opI0 fun _ _ _ _ _ _ _ q => sub_int q
theorem op_mul : OpR X (binaryOp .Mult) (rI CMul fun i j => .int (i * j)) := opI fun _ _ _ _ _ _ _ hc q => mul_int q hc.ok
/-- // by a positive divisor -/
theorem op_fdiv : OpR X (binaryOp .FloorDiv) (rI CDiv fun i j => .int (i / j)) := opI fun i j _ _ _ _ _ hc q => by
  have h1 : (0 : Int) < j := hc.1
  have h2 : j < 1073741824 := hc.2
  exact floordiv_int (by omega) (by rw [Int.fdiv_eq_ediv_of_nonneg i (by omega)]; exact q) (.inl (PyProof.noPylong_small (by omega)))
theorem op_fdivN : OpR X (binaryOp .FloorDiv) (rI CDivN fun i j => .int (i.fdiv j)) := opI fun _ _ _ _ _ _ _ hc q => floordiv_int hc.1 q (.inl (PyProof.noPylong_small hc.2))
/-- % by a positive divisor of any size -/
theorem op_mod : OpR X (binaryOp .Mod) (rI (fun _ j => 0 < j) fun i j => .int (i % j)) := opI fun i j _ _ _ _ _ hc q => by
  have h1 : (0 : Int) < j := hc
  exact mod_int' (by omega) (by rw [Int.fmod_eq_emod_of_nonneg i (by omega)]; exact q)
theorem op_modN : OpR X (binaryOp .Mod) (rI (fun _ j => j ≠ 0) fun i j => .int (i.fmod j)) := opI fun _ _ _ _ _ _ _ hc q => mod_int' hc q
theorem op_pow : OpR X (binaryOp .Pow) (rI CPow fun i j => .int (i ^ j.toNat)) := opI fun _ _ _ _ _ _ _ hc q => pow_int_small hc.1 hc.2.1 hc.2.2 q
theorem op_shl : OpR X (binaryOp .LShift) (rI CPow fun i j => .int (i * 2 ^ j.toNat)) := opI fun _ _ _ _ _ _ _ hc q => lshift_int_small hc.1 hc.2.1 hc.2.2 q
theorem op_shr : OpR X (binaryOp .RShift) (rI (fun _ j => 0 ≤ j) fun i j => .int (i / 2 ^ j.toNat)) := opI fun i j _ _ _ _ _ hc q =>
  rshift_int hc (by rw [Int.fdiv_eq_ediv_of_nonneg i (two_pow_nn _)]; exact q)
theorem op_and : OpR X (binaryOp .BitAnd) (rI0 fun i j => .int (Builtin.bitAnd i j)) := opI0 fun _ _ _ _ _ _ _ q => and_int q
theorem op_or : OpR X (binaryOp .BitOr) (rI0 fun i j => .int (Builtin.bitOr i j)) := opI0 fun _ _ _ _ _ _ _ q => or_int q
theorem op_xor : OpR X (binaryOp .BitXor) (rI0 fun i j => .int (Builtin.bitXor i j)) := opI0 fun _ _ _ _ _ _ _ q => xor_int q

theorem iop_add : OpR X (inplaceOp .Add) (rI0 fun i j => .int (i + j)) := opI0 fun _ _ _ _ _ _ _ q => iadd_int q
theorem iop_sub : OpR X (inplaceOp .Sub) (rI0 fun i j => .int (i - j)) := opI0 fun _ _ _ _ _ _ _ q => isub_int q
theorem iop_mul : OpR X (inplaceOp .Mult) (rI CMul fun i j => .int (i * j)) := opI fun _ _ _ _ _ _ _ hc q => imul_int q hc.ok
theorem iop_fdiv : OpR X (inplaceOp .FloorDiv) (rI CDiv fun i j => .int (i / j)) := opI fun i j _ _ _ _ _ hc q => by
  have h1 : (0 : Int) < j := hc.1
  have h2 : j < 1073741824 := hc.2
  exact ifloordiv_int (by omega) (by rw [Int.fdiv_eq_ediv_of_nonneg i (by omega)]; exact q) (.inl (PyProof.noPylong_small (by omega)))
theorem iop_mod : OpR X (inplaceOp .Mod) (rI (fun _ j => 0 < j) fun i j => .int (i % j)) := opI fun i j _ _ _ _ _ hc q => by
  have h1 : (0 : Int) < j := hc
  exact imod_int (by omega) (by rw [Int.fmod_eq_emod_of_nonneg i (by omega)]; exact q)
theorem iop_shl : OpR X (inplaceOp .LShift) (rI CPow fun i j => .int (i * 2 ^ j.toNat)) := opI fun _ _ _ _ _ _ _ hc q => ilshift_int_small hc.1 hc.2.1 hc.2.2 q
theorem iop_shr : OpR X (inplaceOp .RShift) (rI (fun _ j => 0 ≤ j) fun i j => .int (i / 2 ^ j.toNat)) := opI fun i j _ _ _ _ _ hc q =>
  irshift_int hc (by rw [Int.fdiv_eq_ediv_of_nonneg i (two_pow_nn _)]; exact q)
theorem iop_and : OpR X (inplaceOp .BitAnd) (rI0 fun i j => .int (Builtin.bitAnd i j)) := opI0 fun _ _ _ _ _ _ _ q => iand_int q
theorem iop_or : OpR X (inplaceOp .BitOr) (rI0 fun i j => .int (Builtin.bitOr i j)) := opI0 fun _ _ _ _ _ _ _ q => ior_int q
theorem iop_xor : OpR X (inplaceOp .BitXor) (rI0 fun i j => .int (Builtin.bitXor i j)) := opI0 fun _ _ _ _ _ _ _ q => ixor_int q

theorem unI {f : Value → Sem Value} {g : Int → Int}
    (rule : ∀ (i : Int) (t : Tok) (s : Shared) (Q : Value → Shared → Prop) (E : Value → Shared → Prop), Q (.int (g i) s.toks) { s with toks := s.toks + 1 } → wpAny (model X.prog X.w) X.A (f (.int i t)) Q E s) :
    UnR X f (rU fun i => .int (g i)) := by
  intro pins s σ H x v Q I rx h
  obtain ⟨i, rfl, q⟩ := h
  obtain ⟨t, rfl⟩ := rx
  exact rule i t s _ _ ⟨.int (g i), H, I.tok _, ⟨_, rfl⟩, q⟩
theorem un_neg : UnR X (unaryOp .USub) (rU fun i => .int (-i)) := unI fun _ _ _ _ _ q => neg_int q
theorem un_inv : UnR X (unaryOp .Invert) (rU fun i => .int (Builtin.bitNot i)) := unI fun _ _ _ _ _ q => invert_int q

/-! ### bools among ints: n += (a < b) -/
theorem op_add_ib : OpR X (binaryOp .Add) (fun x y H Q => ∃ i k, x = .int i ∧ y = .bl k ∧ Q (.int (i + b2i k)) H) := by
  intro pins s σ H x y v u Q I rx ry h
  obtain ⟨i, k, rfl, rfl, q⟩ := h
  obtain ⟨t, rfl⟩ := rx
  cases ry
  exact add_int_bool ⟨.int (i + b2i k), H, I.tok _, ⟨_, rfl⟩, q⟩
end

/-! ### comparisons -/
/-- the scalars that == tells apart as data does -/
def scal : V → V → Bool
  | .non, .non => true | .non, .int _ => true | .int _, .non => true | .non, .bl _ => true | .bl _, .non => true | .non, .str _ => true | .str _, .non => true
  | .int _, .int _ => true | .bl _, .bl _ => true | .str _, .str _ => true | .byt _, .byt _ => true
  | .int _, .str _ => true | .str _, .int _ => true | .bl _, .str _ => true | .str _, .bl _ => true
  | _, _ => false
def rEq : R2 := fun x y H Q => scal x y = true ∧ Q (.bl (decide (x = y))) H
def rNe : R2 := fun x y H Q => scal x y = true ∧ Q (.bl (!decide (x = y))) H

theorem dec_int {i j : Int} : decide (V.int i = V.int j) = (i == j) := by
  rw [Bool.eq_iff_iff]
  simp
theorem dec_bl {i j : Bool} : decide (V.bl i = V.bl j) = (i == j) := by
  rw [Bool.eq_iff_iff]
  simp
theorem dec_str {i j : Str} : decide (V.str i = V.str j) = (i == j) := by
  rw [Bool.eq_iff_iff]
  simp
theorem dec_byt {i j : Array UInt8} : decide (V.byt i = V.byt j) = (i.toList == j.toList) := by
  rw [Bool.eq_iff_iff]
  cases i
  cases j
  simp

section
variable {X : Cx} {a b c : Expr} {ta tb tc : TE} {pos : Pos}
theorem fin_bl {pins : List (Addr × Obj)} {σ : St} {H : Hp} {s : Shared} {Q : VK} {k k' : Bool} (I : Inv X pins σ H s) (q : Q (.bl k) H) (e : k = k') : EP X pins σ Q (.bool k') s := by
  subst e
  exact ⟨.bl k, H, I, rfl, q⟩
theorem op_eq : OpR X (compareOp .Eq) rEq := by
  intro pins s σ H x y v u Q I rx ry h
  obtain ⟨hs, q⟩ := h
  cases x with
  | non =>
    cases rx
    cases y with
    | non => cases ry; exact PySem.EqNone.eq_none_none (fin_bl I q (by simp))
    | bl j => cases ry; exact PySem.EqNone.eq_none_bool (fin_bl I q (by simp))
    | int j => obtain ⟨t', rfl⟩ := ry; exact PySem.EqNone.eq_none_int (fin_bl I q (by simp))
    | str j => obtain ⟨t', rfl⟩ := ry; exact PySem.EqNone.eq_none_str (fin_bl I q (by simp))
    | _ => exact absurd (show false = true from hs) Bool.false_ne_true
  | bl i =>
    cases rx
    cases y with
    | non => cases ry; exact PySem.EqNone.eq_bool_none (fin_bl I q (by simp))
    | bl j => cases ry; exact eq_bool (fin_bl I q dec_bl)
    | str j => obtain ⟨t', rfl⟩ := ry; exact PySem.EqMixed.eq_bool_str (fin_bl I q (by simp))
    | _ => exact absurd (show false = true from hs) Bool.false_ne_true
  | int i =>
    obtain ⟨t, rfl⟩ := rx
    cases y with
    | non => cases ry; exact PySem.EqNone.eq_int_none (fin_bl I q (by simp))
    | int j => obtain ⟨t', rfl⟩ := ry; exact eq_int (fin_bl I q dec_int)
    | str j => obtain ⟨t', rfl⟩ := ry; exact PySem.EqMixed.eq_int_str (fin_bl I q (by simp))
    | _ => exact absurd (show false = true from hs) Bool.false_ne_true
  | str i =>
    obtain ⟨t, rfl⟩ := rx
    cases y with
    | non => cases ry; exact PySem.EqNone.eq_str_none (fin_bl I q (by simp))
    | bl j => cases ry; exact PySem.EqMixed.eq_str_bool (fin_bl I q (by simp))
    | int j => obtain ⟨t', rfl⟩ := ry; exact PySem.EqMixed.eq_str_int (fin_bl I q (by simp))
    | str j => obtain ⟨t', rfl⟩ := ry; exact eq_str (fin_bl I q dec_str)
    | _ => exact absurd (show false = true from hs) Bool.false_ne_true
  | byt i =>
    obtain ⟨t, rfl⟩ := rx
    cases y with
    | byt j => obtain ⟨t', rfl⟩ := ry; exact PySem.W.eq_bytes (fin_bl I q dec_byt)
    | _ => exact absurd (show false = true from hs) Bool.false_ne_true
  | _ => cases y <;> exact absurd (show false = true from hs) Bool.false_ne_true
theorem op_ne : OpR X (compareOp .NotEq) rNe := by
  intro pins s σ H x y v u Q I rx ry h
  obtain ⟨hs, q⟩ := h
  cases x with
  | non =>
    cases rx
    cases y with
    | non => cases ry; exact PySem.EqNone.ne_none_none (fin_bl I q (by simp))
    | bl j => cases ry; exact PySem.EqNone.ne_none_bool (fin_bl I q (by simp))
    | int j => obtain ⟨t', rfl⟩ := ry; exact PySem.EqNone.ne_none_int (fin_bl I q (by simp))
    | str j => obtain ⟨t', rfl⟩ := ry; exact PySem.EqNone.ne_none_str (fin_bl I q (by simp))
    | _ => exact absurd (show false = true from hs) Bool.false_ne_true
  | bl i =>
    cases rx
    cases y with
    | non => cases ry; exact PySem.EqNone.ne_bool_none (fin_bl I q (by simp))
    | bl j => cases ry; exact ne_bool (fin_bl I q (congrArg not dec_bl))
    | str j => obtain ⟨t', rfl⟩ := ry; exact PySem.EqMixed.ne_bool_str (fin_bl I q (by simp))
    | _ => exact absurd (show false = true from hs) Bool.false_ne_true
  | int i =>
    obtain ⟨t, rfl⟩ := rx
    cases y with
    | non => cases ry; exact PySem.EqNone.ne_int_none (fin_bl I q (by simp))
    | int j => obtain ⟨t', rfl⟩ := ry; exact ne_int (fin_bl I q (congrArg not dec_int))
    | str j => obtain ⟨t', rfl⟩ := ry; exact PySem.EqMixed.ne_int_str (fin_bl I q (by simp))
    | _ => exact absurd (show false = true from hs) Bool.false_ne_true
  | str i =>
    obtain ⟨t, rfl⟩ := rx
    cases y with
    | non => cases ry; exact PySem.EqNone.ne_str_none (fin_bl I q (by simp))
    | bl j => cases ry; exact PySem.EqMixed.ne_str_bool (fin_bl I q (by simp))
    | int j => obtain ⟨t', rfl⟩ := ry; exact PySem.EqMixed.ne_str_int (fin_bl I q (by simp))
    | str j => obtain ⟨t', rfl⟩ := ry; exact ne_str (fin_bl I q (congrArg not dec_str))
    | _ => exact absurd (show false = true from hs) Bool.false_ne_true
  | byt i =>
    obtain ⟨t, rfl⟩ := rx
    cases y with
    | byt j => obtain ⟨t', rfl⟩ := ry; exact PySem.W.ne_bytes (fin_bl I q (congrArg not dec_byt))
    | _ => exact absurd (show false = true from hs) Bool.false_ne_true
  | _ => cases y <;> exact absurd (show false = true from hs) Bool.false_ne_true

theorem op_lt : OpR X (compareOp .Lt) (rI0 fun i j => .bl (decide (i < j))) := opB0 fun _ _ _ _ _ _ _ q => lt_int q
theorem op_le : OpR X (compareOp .LtE) (rI0 fun i j => .bl (decide (i ≤ j))) := opB0 fun _ _ _ _ _ _ _ q => le_int q
theorem op_gt : OpR X (compareOp .Gt) (rI0 fun i j => .bl (decide (j < i))) := opB0 fun _ _ _ _ _ _ _ q => gt_int q
theorem op_ge : OpR X (compareOp .GtE) (rI0 fun i j => .bl (decide (j ≤ i))) := opB0 fun _ _ _ _ _ _ _ q => ge_int q
theorem op_lt_str : OpR X (compareOp .Lt) (fun x y H Q => ∃ i j, x = .str i ∧ y = .str j ∧ Q (.bl (decide (i.cps.toList < j.cps.toList))) H) := by
  intro pins s σ H x y v u Q I rx ry h
  obtain ⟨i, j, rfl, rfl, q⟩ := h
  obtain ⟨t, rfl⟩ := rx
  obtain ⟨t', rfl⟩ := ry
  exact lt_str (fin_bl I q rfl)
/-- the one string within the other -/
theorem op_in_str : OpR X (compareOp .In) (fun x y H Q => ∃ i j, x = .str i ∧ y = .str j ∧ Q (.bl (!(Builtin.Str.occurrences j i 0 j.length 1).isEmpty)) H) := by
  intro pins s σ H x y v u Q I rx ry h
  obtain ⟨i, j, rfl, rfl, q⟩ := h
  obtain ⟨t, rfl⟩ := rx
  obtain ⟨t', rfl⟩ := ry
  exact in_str (fin_bl I q rfl)

/-- is None, is not None: the right side a value none -/
theorem op_isN : OpR X (compareOp .Is) (fun x y H Q => y = .non ∧ Q (.bl (decide (x = .non))) H) := by
  intro pins s σ H x y v u Q I rx ry h
  obtain ⟨rfl, q⟩ := h
  cases ry
  refine is_none_gen (fin_bl I q ?_)
  cases x <;> first
    | (cases rx; rfl)
    | (obtain ⟨t, rfl⟩ := rx; rfl)
theorem op_notN : OpR X (compareOp .IsNot) (fun x y H Q => y = .non ∧ Q (.bl (!decide (x = .non))) H) := by
  intro pins s σ H x y v u Q I rx ry h
  obtain ⟨rfl, q⟩ := h
  cases ry
  refine isnot_none_gen (fin_bl I q ?_)
  cases x <;> first
    | (cases rx; rfl)
    | (obtain ⟨t, rfl⟩ := rx; rfl)

theorem op_notin_str : OpR X (compareOp .NotIn) (fun x y H Q => ∃ i j, x = .str i ∧ y = .str j ∧ Q (.bl (!(!(Builtin.Str.occurrences j i 0 j.length 1).isEmpty))) H) := by
  intro pins s σ H x y v u Q I rx ry h
  obtain ⟨i, j, rfl, rfl, q⟩ := h
  obtain ⟨t, rfl⟩ := rx
  obtain ⟨t', rfl⟩ := ry
  exact notIn_str (fin_bl I q rfl)
/-- is, is not of two objects that are tracked lists or instances -/
def isObj : HO → Bool
  | .lst _ => true
  | .ins _ _ _ => true
  | _ => false
theorem obj_there {pins : List (Addr × Obj)} {s : Shared} {σ : St} {H : Hp} {a : Addr} {o : HO} (I : Inv X pins σ H s) (h : H a = some o) (p : isObj o = true) : ∃ ob, s.heap.get? a = some ob ∧ ob.cls ≠ .type "tuple" := by
  cases o with
  | lst xs =>
    obtain ⟨_, its, n, _, e⟩ : xs.length ≤ sizeLine ∧ ∃ (its : List Value) (n : Nat), Vals xs its ∧ s.heap.get? a = some { cls := .type "list", data := .seq its.toArray n } := I.hok a _ h
    exact ⟨_, e, (by show Value.type "list" ≠ .type "tuple"; decide +kernel)⟩
  | ins C dx fs =>
    have x := I.hok a _ h
    obtain ⟨_, _, _, e, _⟩ := x
    exact ⟨_, e, (by show Value.ref C ≠ .type "tuple"; exact fun z => by cases z)⟩
  | _ => exact absurd (show false = true from p) Bool.false_ne_true
theorem op_is_ref : OpR X (compareOp .Is) (fun x y H Q => ∃ a b oa ob, x = .ref a ∧ y = .ref b ∧ H a = some oa ∧ isObj oa = true ∧ H b = some ob ∧ isObj ob = true ∧ Q (.bl (decide (a = b))) H) := by
  intro pins s σ H x y v u Q I rx ry h
  obtain ⟨a, b, oa, ob, rfl, rfl, ha, pa, hb, pb, q⟩ := h
  cases rx
  cases ry
  obtain ⟨o1, e1, n1⟩ := obj_there I ha pa
  obtain ⟨o2, e2, _⟩ := obj_there I hb pb
  by_cases z : a = b
  · subst z
    exact wpAny_is_ref_self (fin_bl I q (by simp))
  · exact wpAny_is_ref_other z e1 e2 n1 (fin_bl I q (by simp [z]))
theorem op_isnot_ref : OpR X (compareOp .IsNot) (fun x y H Q => ∃ a b oa ob, x = .ref a ∧ y = .ref b ∧ H a = some oa ∧ isObj oa = true ∧ H b = some ob ∧ isObj ob = true ∧ Q (.bl (!decide (a = b))) H) := by
  intro pins s σ H x y v u Q I rx ry h
  obtain ⟨a, b, oa, ob, rfl, rfl, ha, pa, hb, pb, q⟩ := h
  cases rx
  cases ry
  obtain ⟨o1, e1, n1⟩ := obj_there I ha pa
  obtain ⟨o2, e2, _⟩ := obj_there I hb pb
  by_cases z : a = b
  · subst z
    exact wpAny_isNot_ref_self (fin_bl I q (by simp))
  · exact wpAny_isNot_ref_other z e1 e2 n1 (fin_bl I q (by simp [z]))

/-- two rules for one operation: by cases -/
theorem OpR.or {f : Value → Value → Sem Value} {r r' : R2} (h : OpR X f r) (h' : OpR X f r') : OpR X f (fun x y H Q => r x y H Q ∨ r' x y H Q) := by
  intro pins s σ H x y v u Q I rx ry q
  rcases q with q | q
  · exact h pins s σ H x y v u Q I rx ry q
  · exact h' pins s σ H x y v u Q I rx ry q

theorem nomark (b : Expr) {op : CmpOp} (h : op ≠ .In := by decide) (h2 : op ≠ .NotIn := by decide) : behindInMarks op b = false := by
  have e1 : (op == CmpOp.In) = false := by cases op <;> first | rfl | exact absurd rfl h
  have e2 : (op == CmpOp.NotIn) = false := by cases op <;> first | rfl | exact absurd rfl h2
  cases b <;> simp [behindInMarks, e1, e2]
/-- a comparison as a value; hm: nomark b, or (for in, not in) by with_unfolding_all rfl -/
theorem pe_cmpR {op : CmpOp} {r : R2} (ho : OpR X (compareOp op) r) (ha : PE X a ta) (hb : PE X b tb) (hm : behindInMarks op b = false) : PE X (.Compare a [op] [b] pos) (tOp r ta tb) := by
  intro pins s σ H Q I h
  exact wpAny_Compare1 (binT ha hb I h fun v u s2 x y H2 I2 rx ry q => ho pins s2 σ H2 x y v u Q I2 rx ry q) hm
/-- a reading of a value as a test -/
def tTest (t : TE) : TT := fun σ H Q => t σ H fun x H' => ∃ k, x = .bl k ∧ Q k H'
theorem pt_cmpR {op : CmpOp} {r : R2} (ho : OpR X (compareOp op) r) (ha : PE X a ta) (hb : PE X b tb) (hm : behindInMarks op b = false) : PT X (.Compare a [op] [b] pos) (tTest (tOp r ta tb)) := by
  intro pins s σ H Q I h
  refine wpAny_isTrue_Compare1 (thn (ha pins s σ H _ I h) fun v s1 ⟨x, H1, I1, r1, q1⟩ => thn (hb pins s1 σ H1 _ I1 q1) fun u s2 ⟨y, H2, I2, r2, q2⟩ =>
    thn (ho pins s2 σ H2 x y v u _ I2 r1 r2 q2) fun c s3 ⟨z, H3, I3, r3, k, e, q3⟩ => ?_) hm
  subst e
  cases r3
  exact wpAny_truthy_bool ⟨H3, I3, q3⟩
/-- a op1 b op2 c -/
def tChain (r r' : R2) (ta tb tc : TE) : TE := fun σ H Q => ta σ H fun x H1 => tb σ H1 fun y H2 => r x y H2 fun z H3 => ∃ k, z = .bl k ∧
  (if k = true then tc σ H3 fun w' H4 => r' y w' H4 Q else Q (.bl false) H3)
theorem pe_chain {op op' : CmpOp} {r r' : R2} (ho : OpR X (compareOp op) r) (ho' : OpR X (compareOp op') r') (ha : PE X a ta) (hb : PE X b tb) (hc : PE X c tc)
    (hm : lastMarks [op, op'] [b, c] = false := by with_unfolding_all rfl) : PE X (.Compare a [op, op'] [b, c] pos) (tChain r r' ta tb tc) := by
  intro pins s σ H Q I h
  refine Compare_chain (thn (ha pins s σ H _ I h) fun v s1 ⟨x, H1, I1, r1, q1⟩ => chain_link (thn (hb pins s1 σ H1 _ I1 q1) fun u s2 ⟨y, H2, I2, r2, q2⟩ =>
    thn (ho pins s2 σ H2 x y v u _ I2 r1 r2 q2) fun d s3 ⟨z, H3, I3, r3, k, e, q3⟩ => ?_)) hm
  subst e
  cases r3
  refine wpAny_truthy_bool ?_
  cases k with
  | false => exact ite_ff ⟨.bl false, H3, I3, rfl, q3⟩
  | true => exact ite_tt (chain_last (thn (hc pins s3 σ H3 _ I3 q3) fun w' s4 ⟨z', H4, I4, r4, q4⟩ => ho' pins s4 σ H4 y z' u w' Q I4 r2 r4 q4))
theorem pt_chain {op op' : CmpOp} {r r' : R2} (ho : OpR X (compareOp op) r) (ho' : OpR X (compareOp op') r') (ha : PE X a ta) (hb : PE X b tb) (hc : PE X c tc)
    (hm : lastMarks [op, op'] [b, c] = false := by with_unfolding_all rfl) : PT X (.Compare a [op, op'] [b, c] pos) (tTest (tChain r r' ta tb tc)) := by
  intro pins s σ H Q I h
  refine isTrue_chain (thn (ha pins s σ H _ I h) fun v s1 ⟨x, H1, I1, r1, q1⟩ => test_link (thn (hb pins s1 σ H1 _ I1 q1) fun u s2 ⟨y, H2, I2, r2, q2⟩ =>
    thn (ho pins s2 σ H2 x y v u _ I2 r1 r2 q2) fun d s3 ⟨z, H3, I3, r3, k, e, q3⟩ => ?_)) hm
  subst e
  cases r3
  refine wpAny_truthy_bool ?_
  cases k with
  | false =>
    obtain ⟨k', e', q'⟩ := q3
    cases e'
    exact ite_ff ⟨H3, I3, q'⟩
  | true =>
    refine ite_tt (test_last (thn (hc pins s3 σ H3 _ I3 q3) fun w' s4 ⟨z', H4, I4, r4, q4⟩ => thn (ho' pins s4 σ H4 y z' u w' _ I4 r2 r4 q4) fun d' s5 ⟨z2, H5, I5, r5, k2, e2, q5⟩ => ?_))
    subst e2
    cases r5
    exact wpAny_truthy_bool ⟨H5, I5, q5⟩

/-! ### truth -/
/-- a value's truth by the abstract heap -/
def TruV (K : PySem.W.Frag) (x : V) (H : Hp) (k : Bool) : Prop :=
  match x with
  | .non => k = false
  | .bl b => k = b
  | .int i => k = (i != 0)
  | .str y => y.length ≤ sizeLine ∧ k = ((y.length : Int) != 0)
  | .byt y => y.size ≤ sizeLine ∧ k = ((y.size : Int) != 0)
  | .ref p => (∃ xs, SqL K H p xs ∧ k = !xs.isEmpty) ∨ (∃ xs, SqT K H p xs ∧ k = !xs.isEmpty) ∨ ∃ kvs, H p = some (.dK kvs) ∧ k = !kvs.isEmpty
  | _ => False
theorem isEmpty_kv {κ : Type} {kvs : List (κ × V)} {vs : List (κ × Value)} (r : KV kvs vs) : (!vs.isEmpty) = !kvs.isEmpty := by
  cases r <;> rfl
theorem isEmpty_of {xs : List V} {its : List Value} (r : Vals xs its) : (!its.toArray.isEmpty) = !xs.isEmpty := by
  cases r <;> simp
theorem line63 : (sizeLine : Nat) < 2 ^ 63 := by rw [sizeLine_eq]; decide
theorem tru_ok : TruR X (fun x H Q => ∃ k, TruV X.K x H k ∧ Q k H) := by
  intro pins s σ H x v Q I rx h
  obtain ⟨k, e, q⟩ := h
  have hl := line63
  have hs : sizeLine = 16777216 := sizeLine_eq
  cases x with
  | non =>
    cases rx
    have e' : k = false := e
    subst e'
    exact truthy_none ⟨H, I, q⟩
  | bl b =>
    cases rx
    have e' : k = b := e
    subst e'
    exact wpAny_truthy_bool ⟨H, I, q⟩
  | int i =>
    obtain ⟨t, rfl⟩ := rx
    have e' : k = (i != 0) := e
    subst e'
    exact PySem.P.truthy_int ⟨H, I, q⟩
  | str y =>
    obtain ⟨t, rfl⟩ := rx
    obtain ⟨hy, e'⟩ : y.length ≤ sizeLine ∧ k = ((y.length : Int) != 0) := e
    subst e'
    exact PySem.P.truthy_str (by omega) ⟨H, I.tok _, q⟩
  | byt y =>
    obtain ⟨t, rfl⟩ := rx
    obtain ⟨hy, e'⟩ : y.size ≤ sizeLine ∧ k = ((y.size : Int) != 0) := e
    subst e'
    exact PySem.W.truthy_bytes (by omega) ⟨H, I.tok _, q⟩
  | ref p =>
    cases rx
    have e' : (∃ xs, SqL X.K H p xs ∧ k = !xs.isEmpty) ∨ (∃ xs, SqT X.K H p xs ∧ k = !xs.isEmpty) ∨ ∃ kvs, H p = some (.dK kvs) ∧ k = !kvs.isEmpty := e
    rcases e' with ⟨xs, hx, e'⟩ | ⟨xs, hx, e'⟩ | ⟨kvs, hx, e'⟩
    · subst e'
      obtain ⟨its, r, pl, hz⟩ := I.list hx
      have hlen := r.length
      exact wpAny_truthy_list pl.isList (by simp only [List.size_toArray]; omega) ⟨H, I.tok _, by rw [isEmpty_of r]; exact q⟩
    · subst e'
      obtain ⟨its, r, pl, hz⟩ := I.tuple hx
      have hlen := r.length
      exact truthy_tuple pl (by simp only [List.size_toArray]; omega) ⟨H, I.tok _, by rw [isEmpty_of r]; exact q⟩
    · subst e'
      obtain ⟨hz, hS, vs, r, m⟩ : kvs.length ≤ sizeLine ∧ (p == sysModules) = false ∧ ∃ vs, KV kvs vs ∧ s.heap.DictOf (mixKind X.prog X.w) p vs := I.hok p _ hx
      have hlen : kvs.length = vs.length := Paired.length r
      exact wpAny_truthy_dict hS m (by omega) ⟨H, I.tok _, by rw [isEmpty_kv r]; exact q⟩
  | _ => exact (show False from e).elim
/-- any expression whose test is its value's truth (a name, a call, a subscript, a field ..: he by fun _ => rfl) -/
theorem pt_truth (ha : PE X a ta) (he : ∀ whole, isTrue a X.env whole = (do let v ← whole; standAt a.pos; holding [v] (truthy v))) :
    PT X a (fun σ H Q => ta σ H fun x H' => ∃ k, TruV X.K x H' k ∧ Q k H') := by
  intro pins s σ H Q I h
  exact isTrue_plain (thn (ha pins s σ H _ I h) fun v s1 ⟨x, H1, I1, r1, q1⟩ => tru_ok pins s1 σ H1 x v Q I1 r1 q1) (he _)

/-! ### strs and bytes -/
theorem pe_byt {x : List UInt8} {k : Nat} : PE X (.Constant (.bytes x) k pos) (fun _ H Q => Q (.byt x.toArray) H) := fun _ _ _ H _ I h => PySem.W.Constant_bytes ⟨.byt x.toArray, H, I.tok _, ⟨_, rfl⟩, h⟩
theorem op_add_str : OpR X (binaryOp .Add) (fun x y H Q => ∃ i j, x = .str i ∧ y = .str j ∧ i.length + j.length ≤ sizeLine ∧ Q (.str (i ++ j)) H) := by
  intro pins s σ H x y v u Q I rx ry h
  obtain ⟨i, j, rfl, rfl, hz, q⟩ := h
  obtain ⟨t, rfl⟩ := rx
  obtain ⟨t', rfl⟩ := ry
  exact add_str (fun t' tk => ⟨.str (i ++ j), H, I.tok _, ⟨_, rfl⟩, q⟩) hz
theorem iop_add_str : OpR X (inplaceOp .Add) (fun x y H Q => ∃ i j, x = .str i ∧ y = .str j ∧ i.length + j.length ≤ sizeLine ∧ Q (.str (i ++ j)) H) := by
  intro pins s σ H x y v u Q I rx ry h
  obtain ⟨i, j, rfl, rfl, hz, q⟩ := h
  obtain ⟨t, rfl⟩ := rx
  obtain ⟨t', rfl⟩ := ry
  exact iadd_str (fun t' tk => ⟨.str (i ++ j), H, I.tok _, ⟨_, rfl⟩, q⟩) hz
theorem op_add_byt : OpR X (binaryOp .Add) (fun x y H Q => ∃ i j, x = .byt i ∧ y = .byt j ∧ i.size + j.size ≤ 16777216 ∧ Q (.byt (i ++ j)) H) := by
  intro pins s σ H x y v u Q I rx ry h
  obtain ⟨i, j, rfl, rfl, hz, q⟩ := h
  obtain ⟨t, rfl⟩ := rx
  obtain ⟨t', rfl⟩ := ry
  exact PySem.W.KBy.add_bytes hz (fun t' tk => ⟨.byt (i ++ j), H, I.tok _, ⟨_, rfl⟩, q⟩)

def PlainIxT (b : Expr) : Prop := ∀ o i, subscripted b false o i = operate [o, i] (getItem o i)
/-- s[i], 0 ≤ i < len -/
theorem pe_item_str (ha : PE X a ta) (hb : PE X b tb) (hs : PlainIxT b) :
    PE X (.Subscript a b pos) (tOp (fun x y H Q => ∃ z i c, x = .str z ∧ y = .int i ∧ 0 ≤ i ∧ i < 2 ^ 63 ∧ i < z.length ∧ z.cps[i.toNat]? = some c ∧ Q (.str ⟨#[c]⟩) H) ta tb) := by
  intro pins s σ H Q I h
  refine Subscript_ (binT ha hb I h fun v u s2 x y H2 I2 rx ry q => ?_)
  obtain ⟨z, i, c, rfl, rfl, h0, h63, h1, hc, q⟩ := q
  obtain ⟨t, rfl⟩ := rx
  obtain ⟨t', rfl⟩ := ry
  have e : seqIndex? i z.length = some i.toNat := PySem.StrLaws.seqIndex_nonneg h0 h1
  exact tail_any (typeIs_str s2 z t) slot_str_getitem.lookup (getItem_str (c := c) (by
    have e1 : decide (i < -(2 ^ 63 : Int)) = false := decide_eq_false (by omega)
    have e2 : decide (i ≥ 2 ^ 63) = false := decide_eq_false (by omega)
    rw [e1, e2] <;> rfl) (by rw [e]; exact hc) ⟨.str ⟨#[c]⟩, H2, I2.tok _, ⟨_, rfl⟩, q⟩) (hs _ _)
/-- b[i], 0 ≤ i < len -/
theorem pe_item_byt (ha : PE X a ta) (hb : PE X b tb) (hs : PlainIxT b) :
    PE X (.Subscript a b pos) (tOp (fun x y H Q => ∃ (z : List UInt8) (i : Int), x = .byt z.toArray ∧ y = .int i ∧ z.length ≤ sizeLine ∧ 0 ≤ i ∧ i < z.length ∧ Q (.int ((z.getD i.toNat 0).toNat : Nat)) H) ta tb) := by
  intro pins s σ H Q I h
  refine Subscript_ (binT ha hb I h fun v u s2 x y H2 I2 rx ry q => ?_)
  obtain ⟨z, i, rfl, rfl, hz, h0, h1, q⟩ := q
  obtain ⟨t, rfl⟩ := rx
  obtain ⟨t', rfl⟩ := ry
  have hl : sizeLine = 16777216 := sizeLine_eq
  exact tail_any (PySem.W.typeIs_bytes s2 z.toArray t) PySem.W.FB.slot_bytes_getitem.lookup (PySem.W.getItem_bytes (by omega) h0 h1 ⟨.int ((z.getD i.toNat 0).toNat : Nat), H2, I2.tok _, ⟨_, rfl⟩, q⟩) (hs _ _)

/-! ### scalar builtins, by CallR -/
theorem vals1 {x : V} {us : List Value} (r : Vals [x] us) : ∃ u, us = [u] ∧ RelV x u := by
  cases r with
  | cons r1 r2 => cases r2; exact ⟨_, rfl, r1⟩
theorem vals2 {x y : V} {us : List Value} (r : Vals [x, y] us) : ∃ u w', us = [u, w'] ∧ RelV x u ∧ RelV y w' := by
  cases r with
  | cons r1 r2 =>
    cases r2 with
    | cons r3 r4 => cases r4; exact ⟨_, _, rfl, r1, r3⟩
theorem call_abs : CallR X (.builtin "abs") (fun xs H Q => ∃ i, xs = [.int i] ∧ Q (.int (if i < 0 then -i else i)) H) := by
  intro pins s σ H xs us Q I r h
  obtain ⟨i, rfl, q⟩ := h
  obtain ⟨u, rfl, t, rfl⟩ := vals1 r
  exact call_abs_int fun u tk => ⟨.int (if i < 0 then -i else i), H, I.tok _, ⟨_, rfl⟩, q⟩
theorem call_max2 (hc : X.calm = true) : CallR X (.builtin "max") (fun xs H Q => ∃ i j, xs = [.int i, .int j] ∧ Q (.int (if j > i then j else i)) H) := by
  intro pins s σ H xs us Q I r h
  obtain ⟨i, j, rfl, q⟩ := h
  obtain ⟨u, w', rfl, ⟨t, rfl⟩, ⟨t', rfl⟩⟩ := vals2 r
  refine max_two_ints (I.ok.hd hc) fun h' tk k => ⟨_, H, I.kept k, ?_, q⟩
  by_cases hj : j > i
  · rw [if_pos hj, if_pos hj]; exact ⟨_, rfl⟩
  · rw [if_neg hj, if_neg hj]; exact ⟨_, rfl⟩
theorem call_min2 (hc : X.calm = true) : CallR X (.builtin "min") (fun xs H Q => ∃ i j, xs = [.int i, .int j] ∧ Q (.int (if j < i then j else i)) H) := by
  intro pins s σ H xs us Q I r h
  obtain ⟨i, j, rfl, q⟩ := h
  obtain ⟨u, w', rfl, ⟨t, rfl⟩, ⟨t', rfl⟩⟩ := vals2 r
  refine min_two_ints (I.ok.hd hc) fun h' tk k => ⟨_, H, I.kept k, ?_, q⟩
  by_cases hj : j < i
  · rw [if_pos hj, if_pos hj]; exact ⟨_, rfl⟩
  · rw [if_neg hj, if_neg hj]; exact ⟨_, rfl⟩
theorem call_int1 : CallR X (.type "int") (fun xs H Q => (∃ i, xs = [.int i] ∧ Q (.int i) H) ∨ ∃ k, xs = [.bl k] ∧ Q (.int (if k then 1 else 0)) H) := by
  intro pins s σ H xs us Q I r h
  rcases h with ⟨i, rfl, q⟩ | ⟨k, rfl, q⟩
  · obtain ⟨u, rfl, t, rfl⟩ := vals1 r
    exact call_int_int ⟨.int i, H, I, ⟨_, rfl⟩, q⟩
  · obtain ⟨u, rfl, r1⟩ := vals1 r
    cases r1
    exact call_int_bool ⟨.int (if k then 1 else 0), H, I.tok _, ⟨_, rfl⟩, q⟩
theorem call_bool1 : CallR X (.type "bool") (fun xs H Q => (∃ i, xs = [.int i] ∧ Q (.bl (i != 0)) H) ∨ ∃ k, xs = [.bl k] ∧ Q (.bl k) H) := by
  intro pins s σ H xs us Q I r h
  rcases h with ⟨i, rfl, q⟩ | ⟨k, rfl, q⟩
  · obtain ⟨u, rfl, t, rfl⟩ := vals1 r
    exact call_bool_int ⟨.bl (i != 0), H, I, rfl, q⟩
  · obtain ⟨u, rfl, r1⟩ := vals1 r
    cases r1
    exact call_bool_bool ⟨.bl k, H, I, rfl, q⟩
theorem call_str_int : CallR X (.type "str") (fun xs H Q => ∃ i, xs = [.int i] ∧ i.natAbs.log2 < 1920 ∧ Q (.str (toString i)) H) := by
  intro pins s σ H xs us Q I r h
  obtain ⟨i, rfl, hz, q⟩ := h
  obtain ⟨u, rfl, t, rfl⟩ := vals1 r
  exact PySem.P.str_of_int hz ⟨.str _, H, I.tok _, ⟨_, rfl⟩, q⟩
theorem call_ord : CallR X (.builtin "ord") (fun xs H Q => ∃ x, xs = [.str x] ∧ x.length = 1 ∧ Q (.int (x.cps.getD 0 0 : Nat)) H) := by
  intro pins s σ H xs us Q I r h
  obtain ⟨x, rfl, hz, q⟩ := h
  obtain ⟨u, rfl, t, rfl⟩ := vals1 r
  exact ord_of_one hz ⟨.int _, H, I.tok _, ⟨_, rfl⟩, q⟩
theorem call_chr : CallR X (.builtin "chr") (fun xs H Q => ∃ i, xs = [.int i] ∧ 0 ≤ i ∧ i ≤ 1114111 ∧ Q (.str ⟨#[i.toNat]⟩) H) := by
  intro pins s σ H xs us Q I r h
  obtain ⟨i, rfl, h0, h1, q⟩ := h
  obtain ⟨u, rfl, t, rfl⟩ := vals1 r
  exact chr_of_range h0 h1 ⟨.str _, H, I.tok _, ⟨_, rfl⟩, q⟩
/-- len of a str, a bytes, a list, a tuple -/
def LenV (K : PySem.W.Frag) (x : V) (H : Hp) (n : Nat) : Prop :=
  match x with
  | .str y => y.length ≤ sizeLine ∧ n = y.length
  | .byt y => y.size ≤ sizeLine ∧ n = y.size
  | .ref p => (∃ xs, SqL K H p xs ∧ n = xs.length) ∨ ∃ xs, SqT K H p xs ∧ n = xs.length
  | _ => False
theorem call_len : CallR X (.builtin "len") (fun xs H Q => ∃ x n, xs = [x] ∧ LenV X.K x H n ∧ Q (.int n) H) := by
  intro pins s σ H xs us Q I r h
  obtain ⟨x, n, rfl, e, q⟩ := h
  obtain ⟨u, rfl, rx⟩ := vals1 r
  have hl := line63
  have hs : sizeLine = 16777216 := sizeLine_eq
  cases x with
  | str y =>
    obtain ⟨t, rfl⟩ := rx
    obtain ⟨hy, e'⟩ : y.length ≤ sizeLine ∧ n = y.length := e
    subst e'
    exact len_str (by omega) ⟨.int _, H, I.tok _, ⟨_, rfl⟩, q⟩
  | byt y =>
    obtain ⟨t, rfl⟩ := rx
    obtain ⟨hy, e'⟩ : y.size ≤ sizeLine ∧ n = y.size := e
    subst e'
    exact PySem.W.len_bytes (by omega) ⟨.int _, H, I.tok _, ⟨_, rfl⟩, q⟩
  | ref p =>
    cases rx
    have e' : (∃ xs, SqL X.K H p xs ∧ n = xs.length) ∨ ∃ xs, SqT X.K H p xs ∧ n = xs.length := e
    rcases e' with ⟨xs, hx, e'⟩ | ⟨xs, hx, e'⟩
    · subst e'
      obtain ⟨its, r', pl, hz⟩ := I.list hx
      have hlen := r'.length
      exact Calls.call_len_list pl.isList (by simp only [List.size_toArray]; omega) ⟨.int xs.length, H, I.tok _, ⟨_, by simp only [List.size_toArray]; rw [hlen]⟩, q⟩
    · subst e'
      obtain ⟨its, r', pl, hz⟩ := I.tuple hx
      have hlen := r'.length
      exact len_tuple pl (by simp only [List.size_toArray]; omega) ⟨.int xs.length, H, I.tok _, ⟨_, by simp only [List.size_toArray]; rw [hlen]⟩, q⟩
  | _ => exact (show False from e).elim
/-- divmod: a new tuple -/
theorem call_divmod : CallR X (.builtin "divmod") (fun xs H Q => ∃ i j, xs = [.int i, .int j] ∧ CDiv i j ∧ ∀ p, H p = none → Q (.ref p) (upd H p (.tup [.int (i / j), .int (i % j)]))) := by
  intro pins s σ H xs us Q I r h
  obtain ⟨i, j, rfl, ⟨h1, h2⟩, q⟩ := h
  obtain ⟨u, w', rfl, ⟨t, rfl⟩, ⟨t', rfl⟩⟩ := vals2 r
  refine divmod_int (by omega) ?_ (.inl (PyProof.noPylong_small (by omega)))
  rw [Int.fdiv_eq_ediv_of_nonneg i (by omega), Int.fmod_eq_emod_of_nonneg i (by omega)]
  have hn : H s.heap.objs.size = none := I.hok.fresh (Nat.le_refl _)
  refine ⟨.ref s.heap.objs.size, _, ?_, rfl, q _ hn⟩
  refine I.laid (fun b o e => Heap.get?_push_of_some _ e) (Nat.le_refl _) ⟨by simp only [List.length_cons, List.length_nil]; rw [sizeLine_eq]; decide, [.int (i / j) s.toks, .int (i % j) (s.toks + 1)], .cons ⟨_, rfl⟩ (.cons ⟨_, rfl⟩ .nil), ?_⟩
  exact ⟨_, Heap.get?_push_size s.heap rfl, rfl, 0, rfl⟩
end
end L2

namespace L2
open PySem PySem.Spec PyProof.Rows

/-! ### an instance, its attributes a map -/
structure ObjM (h : Heap) (x dx C : Addr) (mA : Str → Option Value) : Prop where
  obj : h.get? x = some (PySem.W.instObj C dx)
  ns : h.Ns1 dx mA
  ne : dx ≠ x

theorem lookIn_ns {h : Heap} {dx : Addr} {mA : Str → Option Value} (n : h.Ns1 dx mA) : ∃ od, h.get? dx = some od ∧ ∀ name, PySem.W.lookIn name od = some (mA name) := by
  obtain ⟨o, es, ep, ho, hd, hk, _, hm⟩ := n
  refine ⟨o, ho, fun name => ?_⟩
  have e := hm name
  unfold nsFind findBy at e
  rw [← Array.find?_toList] at e
  unfold PySem.W.lookIn
  rw [hd]
  dsimp only
  split
  · rename_i y q
    rw [q] at e
    exact congrArg some e
  · rename_i q
    rw [q] at e
    have a : es.toList.any (·.refKey) = false := by
      rw [List.any_eq_false]
      intro y hy
      obtain ⟨z, t, hkey⟩ := hk y (Array.mem_toList_iff.mp hy)
      simp [DictEntry.refKey, hkey]
    have a' : ¬ es.toList.any (·.refKey) = true := by rw [a]; exact Bool.false_ne_true
    rw [if_neg a']
    exact congrArg some e

theorem ObjM.look {h : Heap} {x dx C : Addr} {mA : Str → Option Value} (I : ObjM h x dx C mA) : ∃ od, PySem.W.InstAt h x (PySem.W.instObj C dx) C (some od) ∧ ∀ name, PySem.W.lookIn name od = some (mA name) :=
  let ⟨od, ho, hl⟩ := lookIn_ns I.ns
  ⟨od, ⟨I.obj, rfl, rfl, ho⟩, hl⟩

section
variable {prog : Program} {w : World} {A : Around} {E : Value → Shared → Prop} {s : Shared} {K : PySem.W.Frag} {x dx C f : Addr} {mA : Str → Option Value} {name : Str} {v : Value}

theorem get_map {expr : Bool} {Q : Value → Shared → Prop} (X : K.In s.heap) (I : ObjM s.heap x dx C mA) (hg : PySem.W.plainGet K C name = true) (hh : PySem.W.hasDictIn K C = true)
    (ha : PySem.W.findIn K (.ref C) name = some none) (hv : mA name = some v) (hv' : PySem.W.handedIn v = true) (h : Q v { s with toks := s.toks + 1 }) :
    wpAny (model prog w) A (getAttr (.ref x) name expr) Q E s := by
  obtain ⟨od, J, hl⟩ := I.look
  exact PySem.W.get_value X J (PySem.W.plainGet_of hg).1 (PySem.W.findObj_own hh ha rfl (by rw [hl, hv])) hv' h

theorem get_const {expr : Bool} {a : Value} {Q : Value → Shared → Prop} (X : K.In s.heap) (I : ObjM s.heap x dx C mA) (hg : PySem.W.plainGet K C name = true) (hh : PySem.W.hasDictIn K C = true)
    (ha : PySem.W.findIn K (.ref C) name = some (some a)) (hn : PySem.W.specialIn K a "__get__" = some none) (hc : PySem.W.copiedNames.contains name = false) (hv : mA name = none) (hv' : PySem.W.handedIn a = true)
    (h : Q a { s with toks := s.toks + 1 }) : wpAny (model prog w) A (getAttr (.ref x) name expr) Q E s := by
  obtain ⟨od, J, hl⟩ := I.look
  exact PySem.W.get_value X J (PySem.W.plainGet_of hg).1 (PySem.W.findObj_cls hh ha hn hv' hc (by rw [hl, hv])) hv' h

theorem get_meth {pl : Sem Bool} {Q : Value × List Value → Shared → Prop} (X : K.In s.heap) (I : ObjM s.heap x dx C mA) (hg : PySem.W.plainGet K C name = true)
    (hf : PySem.W.findIn K (.ref C) name = some (some (.ref f))) (ht : PySem.W.isFn K (.ref f) = true) (hv : mA name = none) (h : Q (.ref f, [.ref x]) s) :
    wpAny (model prog w) A (getMethod (.ref x) name pl) Q E s := by
  obtain ⟨od, J, hl⟩ := I.look
  exact PySem.W.method_fn X J (PySem.W.plainGet_of hg).1 (PySem.W.plainGet_of hg).2 hf (beq_iff_eq.mp ht) (by show (PySem.W.lookIn name od).map (·.isSome) = some false; rw [hl, hv]; rfl) h

theorem set_map {ns : List Str} {Q : Unit → Shared → Prop} (X : K.In s.heap) (I : ObjM s.heap x dx C mA)
    (hs : PySem.W.findIn K (.ref C) "__setattr__" = some (some (.builtin "object.__setattr__"))) (hp : PySem.W.plainOver K C = true) (ht : PySem.W.takerIn K C name = some none) (hh : PySem.W.hasDictIn K C = true)
    (hw : PySem.Within mA ns) (hsz : ns.length ≤ sizeLine)
    (h : ∀ h', ObjM h' x dx C (fun y => if y = name then some v else mA y) → Heap.SameBut dx s.heap h' → Q () { s with heap := h', toks := s.toks + 2 }) :
    wpAny (model prog w) A (setAttr (.ref x) name v) Q E s := by
  obtain ⟨od, J, hl⟩ := I.look
  refine PySem.W.set_plain X J hs (PySem.W.osa_open (s := { s with toks := s.toks + 1 }) (r := none) X J hp ht fun b => ?_)
  obtain ⟨cd, hc, hd'⟩ := PySem.W.any_some hh
  have hx : s.heap.get? x = some ⟨.ref C, some dx, .plain, #[]⟩ := I.obj
  refine wpAny_bind (wpAny_pure (wpAny_bind (wpAny_bind (wpAny_loadPart hx (wpAny_bind (PySem.W.Looks.here (s := { s with toks := s.toks + 1 }) (PySem.W.looks_clsIn X hc) ?_))))))
  rw [hd']
  refine wpAny_pure (a := some dx) (wpAny_bind (wpAny_pure (wpAny_bind ?_)))
  refine wpAny_nsSet1 (s := { s with toks := s.toks + 1 }) I.ns fun h' hn2 hs2 => ?_
  obtain ⟨oD, esD, epD, hoD, hdD, hcD⟩ := hn2.count (PySem.Within.cons name v hw)
  refine wpAny_bind (wpAny_lookBehind hoD (by rw [hdD]; exact pastItsLine_dict (Nat.le_trans hcD (by rw [List.length_cons]; omega))) ?_)
  exact wpAny_pure (h _ ⟨(hs2.2 _ (Ne.symm I.ne)).trans I.obj, hn2, I.ne⟩ hs2)

/-- C(..): the dict at the heap's end, the instance behind it; then its __init__ -/
theorem make_map {R : Result → Shared → Prop} {vs : List Value} {kw : List (Str × Value)} (X : K.In s.heap) (hm : PySem.W.makesIn K C = true)
    (hi : PySem.W.findIn K (.ref C) "__init__" = some (some (.ref f))) (hf : PySem.W.typeIn K (.ref f) = some (.type "function"))
    (h : codeAny (model prog w) (A.under (.builtin "type.__call__" ⟨.ref C :: vs, kw⟩)) (.call (.ref f) ⟨.ref (s.heap.objs.size + 1) :: vs, kw⟩) (PySem.W.InitBack (s.heap.objs.size + 1) R)
      { s with heap := (s.heap.push PySem.W.emptyDict).push (PySem.W.instObj C s.heap.objs.size) }) :
    codeAny (model prog w) A (.call (.ref C) ⟨vs, kw⟩) R s := by
  obtain ⟨hh, g, d, t, os⟩ := s
  exact PySem.W.make_core (PySem.W.makes_of X hm) (PySem.W.looks_findIn X hi) (fun self => PySem.W.bind_fn X self hf) (.inl rfl) h
/-- C() where there is no __init__ but object's -/
theorem make_map0 {R : Result → Shared → Prop} (X : K.In s.heap) (hm : PySem.W.makesIn K C = true)
    (hi : PySem.W.findIn K (.ref C) "__init__" = some (some (.builtin "object.__init__")))
    (hb : ∀ self, PySem.W.Looks (model prog w) s.heap (bindSpecial (.builtin "object.__init__") self) (.builtin "object.__init__", [self]))
    (h : codeAny (model prog w) (A.under (.builtin "type.__call__" ⟨[.ref C], []⟩)) (.call (.builtin "object.__init__") ⟨[.ref (s.heap.objs.size + 1)], []⟩) (PySem.W.InitBack (s.heap.objs.size + 1) R)
      { s with heap := (s.heap.push PySem.W.emptyDict).push (PySem.W.instObj C s.heap.objs.size) }) :
    codeAny (model prog w) A (.call (.ref C) ⟨[], []⟩) R s := by
  obtain ⟨hh, g, d, t, os⟩ := s
  exact PySem.W.make_core (PySem.W.makes_of X hm) (PySem.W.looks_findIn X hi) hb (.inr ⟨rfl, rfl⟩) h
end

/-! ### the attributes as a list of pairs -/
def putF (f : Str) (v : V) : List (Str × V) → List (Str × V)
  | [] => [(f, v)]
  | (g, x) :: r => if g = f then (g, v) :: r else (g, x) :: putF f v r
theorem lookup_putF (f g : Str) (v : V) : ∀ fs : List (Str × V), (putF f v fs).lookup g = if g = f then some v else fs.lookup g
  | [] => by
    show List.lookup g [(f, v)] = _
    by_cases h : g = f
    · have hb : (g == f) = true := beq_iff_eq.mpr h
      simp only [List.lookup, hb, if_pos h]
    · have hb : (g == f) = false := beq_eq_false_iff_ne.mpr h
      simp only [List.lookup, hb, if_neg h]
  | (k, x) :: r => by
    have ih := lookup_putF f g v r
    rw [show putF f v ((k, x) :: r) = (if k = f then (k, v) :: r else (k, x) :: putF f v r) from rfl]
    by_cases hk : k = f
    · rw [if_pos hk]
      by_cases h : g = k
      · have hb : (g == k) = true := beq_iff_eq.mpr h
        simp only [List.lookup, hb, if_pos (h.trans hk)]
      · have hb : (g == k) = false := beq_eq_false_iff_ne.mpr h
        simp only [List.lookup, hb, if_neg (fun e : g = f => h (e.trans hk.symm))]
    · rw [if_neg hk]
      by_cases h : g = k
      · have hb : (g == k) = true := beq_iff_eq.mpr h
        simp only [List.lookup, hb, if_neg (fun e : g = f => hk (h.symm.trans e))]
      · have hb : (g == k) = false := beq_eq_false_iff_ne.mpr h
        simp only [List.lookup, hb]
        exact ih
theorem keys_putF (f : Str) (v : V) : ∀ fs : List (Str × V), f ∈ (putF f v fs).map (·.1) ∧ ∀ g, g ∈ fs.map (·.1) → g ∈ (putF f v fs).map (·.1)
  | [] => ⟨by simp [putF], fun g h => by simp at h⟩
  | (k, x) :: r => by
    obtain ⟨i1, i2⟩ := keys_putF f v r
    rw [show putF f v ((k, x) :: r) = (if k = f then (k, v) :: r else (k, x) :: putF f v r) from rfl]
    by_cases hk : k = f
    · rw [if_pos hk]
      subst hk
      exact ⟨by simp, fun g h => by simpa using h⟩
    · rw [if_neg hk]
      refine ⟨?_, fun g h => ?_⟩
      · rw [List.map_cons]
        exact List.mem_cons_of_mem _ i1
      · rw [List.map_cons] at h ⊢
        rcases List.mem_cons.mp h with e | e
        · exact List.mem_cons.mpr (.inl e)
        · exact List.mem_cons_of_mem _ (i2 g e)
theorem length_putF (f : Str) (v : V) : ∀ fs : List (Str × V), (putF f v fs).length ≤ fs.length + 1
  | [] => by simp [putF]
  | (k, x) :: r => by
    have ih := length_putF f v r
    rw [show putF f v ((k, x) :: r) = (if k = f then (k, v) :: r else (k, x) :: putF f v r) from rfl]
    by_cases hk : k = f
    · rw [if_pos hk, List.length_cons, List.length_cons]; omega
    · rw [if_neg hk, List.length_cons, List.length_cons]; omega

theorem RelO.some_of {v : V} {o : Option Value} (r : RelO (some v) o) : ∃ u, o = some u ∧ RelV v u := by
  cases o with
  | none => exact (show False from r).elim
  | some u => exact ⟨u, rfl, r⟩
theorem RelO.none_of {o : Option Value} (r : RelO none o) : o = none := by
  cases o with
  | none => rfl
  | some u => exact (show False from r).elim
theorem handed_of {v : V} {u : Value} (r : RelV v u) : PySem.W.handedIn u = true := by
  cases v with
  | non => cases (show u = Value.none from r); rfl
  | bl b => cases (show u = Value.bool b from r); rfl
  | int i => obtain ⟨t, e⟩ := (show ∃ t, u = Value.int i t from r); cases e; rfl
  | str x => obtain ⟨t, e⟩ := (show ∃ t, u = Value.str x t from r); cases e; rfl
  | byt b => obtain ⟨t, e⟩ := (show ∃ t, u = Value.bytes b t from r); cases e; rfl
  | flt b => obtain ⟨t, e⟩ := (show ∃ t, u = Value.float b t from r); cases e; rfl
  | ref a => cases (show u = Value.ref a from r); rfl
  | ty n => cases (show u = Value.type n from r); rfl

section
variable {P : Program} {w : World} {H H' : Hp} {h h' : Heap} {a C dx : Addr} {fs fs' : List (Str × V)}
theorem ins_get (hok : HOk P w H h) (e : H a = some (.ins C dx fs)) : ∃ mA, ObjM h a dx C mA ∧ (∀ f, RelO (fs.lookup f) (mA f)) ∧ PySem.Within mA (fs.map (·.1)) ∧ fs.length ≤ 1000 ∧ H dx = some (.own a) := by
  obtain ⟨d, z, ne, ob, mA, n, r, q⟩ := (show ObjOk P w H h a (.ins C dx fs) from hok a _ e)
  exact ⟨mA, ⟨ob, n, ne⟩, r, q, z, d⟩
end

/-! ### what of the text a class must have -/
structure Cls (K : PySem.W.Frag) (C : Addr) : Prop where
  pg : PySem.W.plainGet K C Str.empty = true
  hd : PySem.W.hasDictIn K C = true
  po : PySem.W.plainOver K C = true
  sa : PySem.W.findIn K (.ref C) "__setattr__" = some (some (.builtin "object.__setattr__"))
theorem Cls.get {K : PySem.W.Frag} {C : Addr} (c : Cls K C) (f : Str) : PySem.W.plainGet K C f = true := c.pg
/-- no class of it has the name -/
def NoAttr (K : PySem.W.Frag) (C : Addr) (f : Str) : Prop := PySem.W.findIn K (.ref C) f = some none
theorem NoAttr.taker {K : PySem.W.Frag} {C : Addr} {f : Str} (n : NoAttr K C f) : PySem.W.takerIn K C f = some none := by
  unfold PySem.W.takerIn
  rw [show PySem.W.findIn K (.ref C) f = some none from n]
  rfl
/-- a constant of the class -/
structure Con (K : PySem.W.Frag) (C : Addr) (f : Str) (v : V) (u : Value) : Prop where
  at_ : PySem.W.findIn K (.ref C) f = some (some u)
  rel : RelV v u
  get : PySem.W.specialIn K u "__get__" = some none
  cp : PySem.W.copiedNames.contains f = false
/-- a method: a plain def of the class or of one above it -/
structure Meth (K : PySem.W.Frag) (C : Addr) (m : Str) (f : Addr) : Prop where
  at_ : PySem.W.findIn K (.ref C) m = some (some (.ref f))
  fn : PySem.W.isFn K (.ref f) = true
  kp : PySem.W.keepIn K (.ref f) = true

section
variable {X : Cx} {pins : List (Addr × Obj)} {σ : St} {H : Hp} {s : Shared} {a C dx : Addr} {fs : List (Str × V)} {f : Str} {v : V} {A : Around} {E : Value → Shared → Prop}

theorem getattr_ok {b : Bool} {Q : Value → Shared → Prop} (I : Inv X pins σ H s) (e : H a = some (.ins C dx fs)) (c : Cls X.K C) (n : NoAttr X.K C f) (l : fs.lookup f = some v)
    (h : ∀ u s', Inv X pins σ H s' → RelV v u → Q u s') : wpAny (model X.prog X.w) A (getAttr (.ref a) f b) Q E s := by
  obtain ⟨mA, O, r, _, _, _⟩ := ins_get I.hok e
  obtain ⟨u, hu, ru⟩ := RelO.some_of (v := v) (o := mA f) (by rw [← l]; exact r f)
  exact get_map I.kIn O (c.get f) c.hd n hu (handed_of ru) (h u _ (I.tok _) ru)

theorem getcon_ok {b : Bool} {u : Value} {Q : Value → Shared → Prop} (I : Inv X pins σ H s) (e : H a = some (.ins C dx fs)) (c : Cls X.K C) (k : Con X.K C f v u) (l : fs.lookup f = none)
    (h : ∀ s', Inv X pins σ H s' → Q u s') : wpAny (model X.prog X.w) A (getAttr (.ref a) f b) Q E s := by
  obtain ⟨mA, O, r, _, _, _⟩ := ins_get I.hok e
  have hn : mA f = none := RelO.none_of (by rw [← l]; exact r f)
  exact get_const I.kIn O (c.get f) c.hd k.at_ k.get k.cp hn (handed_of k.rel) (h _ (I.tok _))

theorem getmeth_ok {m : Str} {g : Addr} {pl : Sem Bool} {Q : Value × List Value → Shared → Prop} (I : Inv X pins σ H s) (e : H a = some (.ins C dx fs)) (c : Cls X.K C) (k : Meth X.K C m g) (l : fs.lookup m = none)
    (h : Q (.ref g, [.ref a]) s) : wpAny (model X.prog X.w) A (getMethod (.ref a) m pl) Q E s := by
  obtain ⟨mA, O, r, _, _, _⟩ := ins_get I.hok e
  have hn : mA m = none := RelO.none_of (by rw [← l]; exact r m)
  exact get_meth I.kIn O (c.get m) k.at_ k.fn hn h

theorem setattr_ok {y : V} {u : Value} {Q : Unit → Shared → Prop} (I : Inv X pins σ H s) (e : H a = some (.ins C dx fs)) (c : Cls X.K C) (n : NoAttr X.K C f) (hl : fs.length < 1000) (ry : RelV y u)
    (h : ∀ s', Inv X pins σ (upd H a (.ins C dx (putF f y fs))) s' → Q () s') : wpAny (model X.prog X.w) A (setAttr (.ref a) f u) Q E s := by
  obtain ⟨mA, O, r, wi, _, ho⟩ := ins_get I.hok e
  have hz : (fs.map (·.1)).length ≤ sizeLine := by rw [List.length_map, sizeLine_eq]; omega
  refine set_map I.kIn O c.sa c.po n.taker c.hd wi hz fun h' O' sb => h _ ?_
  have hd : ∃ o, h'.get? dx = some o := let ⟨o, _, _, e', _⟩ := O'.ns; ⟨o, e'⟩
  refine I.write (x := a) (e := dx) (by rw [e]; exact True.intro) (.inr ho) (fun b q hb z => (sb.2 b hb).trans z) hd ?_
  refine ⟨by rw [upd_ne O.ne]; exact ho, ?_, O.ne, O'.obj, _, O'.ns, fun g => ?_, fun g hg => ?_⟩
  · have := length_putF f y fs; omega
  · show RelO ((putF f y fs).lookup g) (if g = f then some u else mA g)
    rw [lookup_putF]
    by_cases q : g = f
    · rw [if_pos q, if_pos q]; exact ry
    · rw [if_neg q, if_neg q]; exact r g
  · by_cases q : g = f
    · rw [q]; exact (keys_putF f y fs).1
    · refine (keys_putF f y fs).2 g (wi g fun z => hg ?_)
      show (if g = f then some u else mA g) = none
      rw [if_neg q]; exact z

/-- a new instance, tracked, without attributes -/
theorem Inv.made (I : Inv X pins σ H s) : Inv X pins σ (upd (upd H s.heap.objs.size (.own (s.heap.objs.size + 1))) (s.heap.objs.size + 1) (.ins C s.heap.objs.size []))
    { s with heap := (s.heap.push PySem.W.emptyDict).push (PySem.W.instObj C s.heap.objs.size) } := by
  have e1 : (s.heap.push PySem.W.emptyDict).get? s.heap.objs.size = some PySem.W.emptyDict := Heap.get?_push_size s.heap rfl
  have e2 : ((s.heap.push PySem.W.emptyDict).push (PySem.W.instObj C s.heap.objs.size)).get? (s.heap.objs.size + 1) = some (PySem.W.instObj C s.heap.objs.size) := by
    have := Heap.get?_push_size (s.heap.push PySem.W.emptyDict) (o := PySem.W.instObj C s.heap.objs.size) rfl
    rwa [Heap.size_push] at this
  have e3 : (s.heap.push PySem.W.emptyDict).Ns s.heap.objs.size (fun _ => none) := ⟨PySem.W.emptyDict, #[], _, e1, rfl, (fun e he => absurd he (by simp)), fun _ => rfl⟩
  have I1 := I.laid (a := s.heap.objs.size) (o := .own (s.heap.objs.size + 1)) (h' := s.heap.push PySem.W.emptyDict) (t' := s.toks) (fun b u q => Heap.get?_push_of_some _ q) (Nat.le_refl _) ⟨_, e1⟩
  refine I1.laid (a := s.heap.objs.size + 1) (o := .ins C s.heap.objs.size []) (t' := s.toks) (fun b u q => Heap.get?_push_of_some _ q) (Nat.le_of_eq (Heap.size_push _ _)) ?_
  have ne : s.heap.objs.size ≠ s.heap.objs.size + 1 := Nat.ne_of_lt (Nat.lt_succ_self _)
  refine ⟨by rw [upd_ne ne, upd_same], Nat.zero_le _, ne, e2, fun _ => none, (Heap.Ns1.of_empty e3).at fun o q => Heap.get?_push_of_some _ q, fun _ => True.intro, fun y hy => absurd rfl hy⟩

/-- e.f where nothing but the object is asked: through attributeBase (super) and the last hold -/
theorem attr_of {prog : Program} {w : World} {env : Env} {e : Expr} {f : Str} {pos : Pos} {s : Shared} {Q : Value → Shared → Prop} (hb : attributeBase e f env (eval e env) = eval e env)
    (h : wpAny (model prog w) A (eval e env) (fun o s₁ => wpAny (model prog w) A (getAttr o f true) Q E s₁) E s) : wpAny (model prog w) A (eval (.Attribute e f pos) env) Q E s :=
  Attribute_any_ h (by rw [arm_eval_Attribute, hb])
end

/-! ### readings and rules -/
/-- e.f, an attribute of the instance -/
def tFld (K : PySem.W.Frag) (ta : TE) (f : Str) : TE := fun σ H Q => ta σ H fun x H1 => ∃ a C dx fs v, x = .ref a ∧ H1 a = some (.ins C dx fs) ∧ Cls K C ∧ NoAttr K C f ∧ fs.lookup f = some v ∧ Q v H1
/-- e.f, a constant of the class -/
def tCon (K : PySem.W.Frag) (ta : TE) (f : Str) : TE := fun σ H Q => ta σ H fun x H1 => ∃ a C dx fs v u, x = .ref a ∧ H1 a = some (.ins C dx fs) ∧ Cls K C ∧ Con K C f v u ∧ fs.lookup f = none ∧ Q v H1
/-- e.f = value -/
def sFld (K : PySem.W.Frag) (ta tv : TE) (f : Str) : TS := fun D σ H => tv σ H fun y H1 => ta σ H1 fun x H2 => ∃ a C dx fs, x = .ref a ∧ H2 a = some (.ins C dx fs) ∧ Cls K C ∧ NoAttr K C f ∧ fs.length < 1000 ∧
  D.nx σ (upd H2 a (.ins C dx (putF f y fs)))
/-- an augmented operator on two values -/
def InOp (X : Cx) (op : Operator) (rd : V → V → Hp → VK → Prop) : Prop :=
  ∀ (pins : List (Addr × Obj)) (s : Shared) (σ : St) (H : Hp) (x y : V) (u v : Value) (Q : VK), Inv X pins σ H s → RelV x u → RelV y v → rd x y H Q → wpAny (model X.prog X.w) X.A (inplaceOp op u v) (EP X pins σ Q) X.xe s
/-- e.f op= value -/
def sFldAug (K : PySem.W.Frag) (ta tv : TE) (rd : V → V → Hp → VK → Prop) (f : Str) : TS := fun D σ H => ta σ H fun x H1 => ∃ a C dx fs v, x = .ref a ∧ H1 a = some (.ins C dx fs) ∧ Cls K C ∧ NoAttr K C f ∧ fs.lookup f = some v ∧
  tv σ H1 fun y H2 => rd v y H2 fun z H3 => ∃ dx' fs', H3 a = some (.ins C dx' fs') ∧ fs'.length < 1000 ∧ D.nx σ (upd H3 a (.ins C dx' (putF f z fs')))

section
variable {X : Cx} {o e value : Expr} {f : Str} {pos pos' tpos : Pos} {ta tv : TE}
theorem pe_fld (he : PE X e ta) (hb : attributeBase e f X.env (eval e X.env) = eval e X.env) : PE X (.Attribute e f pos) (tFld X.K ta f) := by
  intro pins s σ H Q I h
  refine attr_of hb (thn (he pins s σ H _ I h) fun u s1 ⟨x, H1, I1, rx, a, C, dx, fs, v, ex, ea, c, n, l, q⟩ => ?_)
  subst ex
  obtain rfl : u = Value.ref a := rx
  exact getattr_ok I1 ea c n l fun u' s2 I2 ru => ⟨v, H1, I2, ru, q⟩
theorem pe_con (he : PE X e ta) (hb : attributeBase e f X.env (eval e X.env) = eval e X.env) : PE X (.Attribute e f pos) (tCon X.K ta f) := by
  intro pins s σ H Q I h
  refine attr_of hb (thn (he pins s σ H _ I h) fun u s1 ⟨x, H1, I1, rx, a, C, dx, fs, v, u0, ex, ea, c, k, l, q⟩ => ?_)
  subst ex
  obtain rfl : u = Value.ref a := rx
  exact getcon_ok I1 ea c k l fun s2 I2 => ⟨v, H1, I2, k.rel, q⟩
theorem ps_fld (ha : PE X o ta) (hv : PE X value tv) (hs : swapsWith value (some (.Attribute o f pos')) pos.line X.env = pure false) : PS X (.Assign [.Attribute o f pos'] value pos) (sFld X.K ta tv f) := by
  intro pins s σ H D I h
  refine plainObj_wpAny_Assign_Attribute (thn (hv pins s σ H _ I h) fun u s1 ⟨y, H1, I1, ry, q⟩ => thn (ha pins s1 σ H1 _ I1 q) fun ov s2 ⟨x, H2, I2, rx, a, C, dx, fs, ex, ea, c, n, l, q2⟩ => ?_) hs
  subst ex
  obtain rfl : ov = Value.ref a := rx
  exact setattr_ok I2 ea c n l ry fun s3 I3 => ⟨σ, _, I3, q2⟩
theorem ps_fldaug {op : Operator} {rd : V → V → Hp → VK → Prop} (ha : PE X o ta) (hv : PE X value tv) (hop : InOp X op rd) : PS X (.AugAssign (.Attribute o f tpos) op value pos) (sFldAug X.K ta tv rd f) := by
  intro pins s σ H D I h
  refine wpAny_AugAssign_AttributeAny (thn (ha pins s σ H _ I h) fun ov s1 ⟨x, H1, I1, rx, a, C, dx, fs, v, ex, ea, c, n, l, q⟩ => ?_)
  subst ex
  obtain rfl : ov = Value.ref a := rx
  refine getattr_ok I1 ea c n l fun u s2 I2 ru => thn (hv pins s2 σ H1 _ I2 q) fun w3 s3 ⟨y, H2, I3, ry, q3⟩ => thn (hop pins s3 σ H2 v y u w3 _ I3 ru ry q3) fun w4 s4 ⟨z, H3, I4, rz, dx', fs', ea', l', q4⟩ => ?_
  exact setattr_ok I4 ea' c n l' rz fun s5 I5 => ⟨σ, _, I5, q4⟩
def rAdd : V → V → Hp → VK → Prop := fun x y H Q => ∃ i j, x = .int i ∧ y = .int j ∧ Q (.int (i + j)) H
def rSub : V → V → Hp → VK → Prop := fun x y H Q => ∃ i j, x = .int i ∧ y = .int j ∧ Q (.int (i - j)) H
theorem in_add : InOp X .Add rAdd := by
  rintro pins s σ H x y u v Q I rx ry ⟨i, j, rfl, rfl, q⟩
  obtain ⟨t, rfl⟩ := (show ∃ t, u = Value.int i t from rx)
  obtain ⟨t', rfl⟩ := (show ∃ t', v = Value.int j t' from ry)
  exact PyProof.Rows.iadd_int ⟨.int (i + j), H, I.tok _, ⟨_, rfl⟩, q⟩
theorem in_sub : InOp X .Sub rSub := by
  rintro pins s σ H x y u v Q I rx ry ⟨i, j, rfl, rfl, q⟩
  obtain ⟨t, rfl⟩ := (show ∃ t, u = Value.int i t from rx)
  obtain ⟨t', rfl⟩ := (show ∃ t', v = Value.int j t' from ry)
  exact PyProof.Rows.isub_int ⟨.int (i - j), H, I.tok _, ⟨_, rfl⟩, q⟩

/-- what is between an instance and its method: the tree of a method call -/
theorem methcall_of {pl : Sem Bool} {m : Str} {apos : Pos} {args : List Expr} {pins : List (Addr × Obj)} {s : Shared} {σ : St} {H : Hp} {Q : Value → Shared → Prop} {te : TE} (he : PE X e te) (I : Inv X pins σ H s)
    (h : te σ H fun x H1 => ∃ a C dx fs g, x = .ref a ∧ H1 a = some (.ins C dx fs) ∧ Cls X.K C ∧ Meth X.K C m g ∧ fs.lookup m = none ∧
      ∀ s1, Inv X pins σ H1 s1 → wpAny (model X.prog X.w) X.A (callWith pos (.ref g) [.ref a] (backTo pos (starEach args X.env)) (backToKw pos (keywordEach [] X.env))) Q X.xe s1)
    (ht : eval (.Call (.Attribute e m apos) args [] pos) X.env = (do
      let ov ← eval e X.env
      standAt apos.atName
      let (f, first) ← holding [ov] (getMethod ov m pl)
      callWith pos f first (backTo pos (starEach args X.env)) (backToKw pos (keywordEach [] X.env)))) :
    wpAny (model X.prog X.w) X.A (eval (.Call (.Attribute e m apos) args [] pos) X.env) Q X.xe s := by
  refine PySem.W.methodCall_KW (pl := pl) (thn (he pins s σ H _ I h) fun u s1 ⟨x, H1, I1, rx, a, C, dx, fs, g, ex, ea, c, k, l, q⟩ => ?_) ht
  subst ex
  obtain rfl : u = Value.ref a := rx
  exact getmeth_ok I1 ea c k l (q s1 I1)
end

/-! ### isinstance -/
section
variable {X : Cx} {pins : List (Addr × Obj)} {σ : St} {H : Hp} {s : Shared} {A : Around} {E : Value → Shared → Prop} {Q : Value → Shared → Prop} {c : Value} {b : Bool}
/-- the type of a value, as the fragment's deciders take it; for an instance its class -/
inductive TyOf (K : PySem.W.Frag) (H : Hp) : V → Value → Prop where
  | non : TyOf K H .non (.type "NoneType")
  | bl (x : Bool) : TyOf K H (.bl x) (.type "bool")
  | int (i : Int) : TyOf K H (.int i) (.type "int")
  | str (x : Str) : TyOf K H (.str x) (.type "str")
  | flt (x : UInt64) : TyOf K H (.flt x) (.type "float")
  | lst {a : Addr} {xs : List V} (e : H a = some (.lst xs)) : TyOf K H (.ref a) (.type "list")
  | frz {a : Addr} {o : Obj} {xs : List V} (e : H a = some (.frz o (.lst xs))) : TyOf K H (.ref a) (.type "list")
  | tup {a : Addr} {xs : List V} (e : H a = some (.tup xs)) : TyOf K H (.ref a) (.type "tuple")
  | dK {a : Addr} {kvs : List (Key × V)} (e : H a = some (.dK kvs)) : TyOf K H (.ref a) (.type "dict")
  | dT {a : Addr} {kvs : List (List Key × V)} (e : H a = some (.dT kvs)) : TyOf K H (.ref a) (.type "dict")
  | ins {a C dx : Addr} {fs : List (Str × V)} (e : H a = some (.ins C dx fs)) (cl : Cls K C) (ha : PySem.W.findIn K (.ref C) "__class__" = some (some (.builtin "object.__class__")))
      (hn : PySem.W.specialIn K (.builtin "object.__class__") "__get__" = some (some (.builtin "getset_descriptor.__get__"))) (htk : PySem.W.takesIn K (.builtin "object.__class__") = some true)
      (hm : PySem.W.mroIn K C (.type "object") = some true) : TyOf K H (.ref a) (.ref C)
/-- isinstance(x, c) for one class c, a built-in or an own one: kitOne's answer -/
theorem isinst_ok {x : V} {u t : Value} (I : Inv X pins σ H s) (rx : RelV x u) (ty : TyOf X.K H x t) (e : PySem.W.kitOne X.K t c = some b) (h : ∀ tk, Q (.bool b) { s with toks := tk }) :
    wpAny (model X.prog X.w) A (call (.builtin "isinstance") [u, c]) Q E s := by
  cases ty with
  | non => cases (show u = Value.none from rx); exact PySem.W.kia_one PySem.W.kitx_none I.kIn True.intro e (fun z => nomatch z) h
  | bl y => cases (show u = Value.bool y from rx); exact PySem.W.kia_one PySem.W.kitx_bool I.kIn True.intro e (fun z => nomatch z) h
  | int i => obtain ⟨t, q⟩ := (show ∃ t, u = Value.int i t from rx); cases q; exact PySem.W.kia_one PySem.W.kitx_int I.kIn True.intro e (fun z => nomatch z) h
  | str y => obtain ⟨t, q⟩ := (show ∃ t, u = Value.str y t from rx); cases q; exact PySem.W.kia_one PySem.W.kitx_str I.kIn True.intro e (fun z => nomatch z) h
  | flt y => obtain ⟨t, q⟩ := (show ∃ t, u = Value.float y t from rx); cases q; exact PySem.W.kia_one PySem.W.kitx_float I.kIn True.intro e (fun z => nomatch z) h
  | @lst a xs ea =>
    cases (show u = Value.ref a from rx)
    obtain ⟨_, _, n, _, h1⟩ := (show ObjOk X.prog X.w H s.heap a (.lst xs) from I.hok a _ ea)
    exact PySem.W.kia_one PySem.W.kitx_list I.kIn ⟨_, h1, rfl⟩ e (fun z => nomatch z) h
  | @frz a ob xs ea =>
    cases (show u = Value.ref a from rx)
    obtain ⟨_, _, _, n, _, h1⟩ := (show ObjOk X.prog X.w H s.heap a (.frz ob (.lst xs)) from I.hok a _ ea)
    exact PySem.W.kia_one PySem.W.kitx_list I.kIn ⟨_, h1, rfl⟩ e (fun z => nomatch z) h
  | @tup a xs ea =>
    cases (show u = Value.ref a from rx)
    obtain ⟨_, _, _, p⟩ := (show ObjOk X.prog X.w H s.heap a (.tup xs) from I.hok a _ ea)
    obtain ⟨o, h1, h2, _⟩ := p
    exact PySem.W.kia_one PySem.W.kitx_tuple I.kIn ⟨o, h1, h2⟩ e (fun z => nomatch z) h
  | @dK a kvs ea =>
    cases (show u = Value.ref a from rx)
    obtain ⟨_, _, vs, _, p⟩ := (show ObjOk X.prog X.w H s.heap a (.dK kvs) from I.hok a _ ea)
    obtain ⟨o, es, ep, h1, h2, _⟩ := p
    exact PySem.W.kia_one PySem.W.kitx_dict I.kIn ⟨o, h1, h2.1⟩ e (fun z => nomatch z) h
  | @dT a kvs ea =>
    cases (show u = Value.ref a from rx)
    obtain ⟨_, _, xs, _, o, es, ep, h1, h2, _⟩ := (show ObjOk X.prog X.w H s.heap a (.dT kvs) from I.hok a _ ea)
    exact PySem.W.kia_one PySem.W.kitx_dict I.kIn ⟨o, h1, h2.1⟩ e (fun z => nomatch z) h
  | @ins a C dx fs ea cl ha hn htk hm =>
    cases (show u = Value.ref a from rx)
    obtain ⟨mA, O, _⟩ := ins_get I.hok ea
    obtain ⟨od, J, _⟩ := O.look
    exact PySem.W.kia_one (PySem.W.kitx_own (cl.get _) cl.hd ha hn htk hm) I.kIn J e (fun z => nomatch z) h
end
end L2

namespace L2
open PySem PySem.Spec PyProof.Rows

/-! ### room -/
structure Room (k : Nat) (A : Around) : Prop where
  hd : A.handled = none
  dp : A.depth + 3 * k + 5 < recursionLimit
  un : A.units + 16 * k + 200 < cLine
theorem Room.mono {j k : Nat} {A : Around} (r : Room k A) (h : j ≤ k) : Room j A := ⟨r.hd, by have := r.dp; omega, by have := r.un; omega⟩
theorem Room.deeper {k : Nat} {A : Around} (r : Room (k + 1) A) (env : Env) : Room k (A.deeper env) :=
  ⟨r.hd, by have := r.dp; show A.depth + 1 + 3 * k + 5 < _; omega, by have := r.un; show A.units + 3 + 16 * k + 200 < _; omega⟩
theorem Room.in1 {k : Nat} {A : Around} (r : Room (k + 1) A) : Room k A.in1 :=
  ⟨r.hd, by have := r.dp; show A.depth + 3 * k + 5 < _; omega, by have := r.un; show A.units + 1 + 16 * k + 200 < _; omega⟩
theorem make_depth {A : Around} {C : Addr} {us : List Value} {kw : List (Str × Value)} : (A.under (.builtin "type.__call__" ⟨.ref C :: us, kw⟩)).depth = A.depth + 1 := by
  first | rfl | simp [Around.under, Code.weight, Code.isCreation, Code.isGuard, Code.isCaller, Code.frames, Code.isFrame, guardIds]
theorem make_units {A : Around} {C : Addr} {us : List Value} {kw : List (Str × Value)} : (A.under (.builtin "type.__call__" ⟨.ref C :: us, kw⟩)).units = A.units + 1 := by
  first | rfl | simp [Around.under, Code.cUnits, Code.frames, Code.isFrame]
theorem Room.make {k : Nat} {A : Around} (r : Room (k + 1) A) (C : Addr) (us : List Value) (kw : List (Str × Value)) : Room k (A.under (.builtin "type.__call__" ⟨.ref C :: us, kw⟩)) :=
  ⟨r.hd, by have := r.dp; rw [make_depth]; omega, by have := r.un; rw [make_units]; omega⟩
theorem Room.depth {k : Nat} {A : Around} (r : Room k A) : A.depth < recursionLimit := by have := r.dp; omega
theorem Room.units {k : Nat} {A : Around} (r : Room k A) : A.units + 64 < cLine := by have := r.un; omega
theorem Room.units0 {k : Nat} {A : Around} (r : Room k A) : A.units < cLine := by have := r.un; omega

/-! ### argument lists and displays -/
def tNil : TA := fun _ H Q => Q [] H
def tCons (ta : TE) (tr : TA) : TA := fun σ H Q => ta σ H fun x H1 => tr σ H1 fun xs H2 => Q (x :: xs) H2
section
variable {X : Cx} {e : Expr} {es : List Expr} {te : TE} {t : TA} {pos : Pos}
theorem pa_nil : PA X [] tNil := fun _ _ _ _ H Q I h => Calls.spliced_nil ⟨[], H, I, .nil, h⟩
theorem pa_cons (ha : PE X e te) (hr : PA X es t) (hs : starEach (e :: es) X.env = (false, eval e X.env) :: starEach es X.env := by rfl) : PA X (e :: es) (tCons te t) := by
  intro pos pins s σ H Q I h
  rw [hs]
  show wpAny _ _ (spliced ((false, eval e X.env) :: backTo pos (starEach es X.env))) _ _ s
  refine Calls.spliced_cons (thn (ha pins s σ H _ I h) fun u s1 ⟨x, H1, I1, r1, q1⟩ => ?_)
  exact thn (hr pos pins s1 σ H1 _ I1 q1) fun us s2 ⟨xs, H2, I2, r2, q2⟩ => ⟨x :: xs, H2, I2, .cons r1 r2, q2⟩

/-- a tuple, a list of written items -/
def tTup (t : TA) : TE := fun σ H Q => t σ H fun xs H1 => xs.length ≤ sizeLine ∧ ∀ p, H1 p = none → Q (.ref p) (upd H1 p (.tup xs))
def tLst (t : TA) : TE := fun σ H Q => t σ H fun xs H1 => xs.length ≤ sizeLine ∧ ∀ p, H1 p = none → Q (.ref p) (upd H1 p (.lst xs))
theorem pe_tup {x1} (h : PA X es t) : PE X (.Tuple es x1 pos) (tTup t) := by
  intro pins s σ H Q I hq
  refine wpAny_Tuple_spliced (thn (h pos pins s σ H _ I hq) fun us s1 ⟨xs, H1, I1, r, z, q⟩ => ⟨by rw [← r.length]; exact z, ?_⟩)
  have hf : H1 s1.heap.objs.size = none := I1.hok.fresh (Nat.le_refl _)
  refine ⟨.ref s1.heap.objs.size, upd H1 s1.heap.objs.size (.tup xs), I1.laid (t' := s1.toks) (fun b u e => Heap.get?_push_of_some _ e) (Nat.le_refl _) ?_, rfl, q _ hf⟩
  exact ⟨z, us, r, ⟨_, Heap.get?_push_size _ rfl, rfl, _, rfl⟩⟩
theorem pe_lst (h : PA X es t) : PE X (.List es pos) (tLst t) := by
  intro pins s σ H Q I hq
  refine wpAny_List_spliced (thn (h pos pins s σ H _ I hq) fun us s1 ⟨xs, H1, I1, r, z, q⟩ => ⟨by rw [← r.length]; exact z, ?_⟩)
  have hf : H1 s1.heap.objs.size = none := I1.hok.fresh (Nat.le_refl _)
  refine ⟨.ref s1.heap.objs.size, upd H1 s1.heap.objs.size (.lst xs), I1.laid (t' := s1.toks) (fun b u e => Heap.get?_push_of_some _ e) (Nat.le_refl _) ?_, rfl, q _ hf⟩
  exact ⟨z, us, 0, r, Heap.get?_push_size _ rfl⟩
end

/-! ### what a def promises -/
/-- a def's promise: the bound arguments in the parameters' order, the heap, the wanted end, the wanted exception -/
abbrev Sp := List V → Hp → VK → XK → Prop
/-- how an exception lies behind a call (file 08 gives it): the callers' frames, abstract heap and state ahead of the call, the wish, the exception, the state -/
abbrev CXT := List Env → Hp → Shared → XK → Value → Shared → Prop

/-- the state at a call -/
structure Env0 (P : Program) (w : World) (K : PySem.W.Frag) (mg : Str → Option Value) (base : Heap) (A : Around) (outer : List Env) (s : Shared) (H : Hp) : Prop where
  frames : A.frames = some outer
  mod : Mod K mg base
  bs : ∀ b o, base.get? b = some o → s.heap.get? b = some o ∧ H b = none
  bsz : base.objs.size ≤ s.heap.objs.size
  funs : s.heap.FunFrames base outer
  frf : ∀ b ∈ frs outer, H b = none
  hok : HOk P w H s.heap
  bare : AllBare s.gens
/-- a call's end -/
def CE (outer : List Env) (P : Program) (w : World) (H : Hp) (s : Shared) (Q : VK) (u : Value) (s' : Shared) : Prop :=
  ∃ v H', s'.os = s.os ∧ AllBare s'.gens ∧ Un (frs outer) [] H H' s.heap s'.heap ∧ HOk P w H' s'.heap ∧ RelV v u ∧ Q v H'
def CR (CX : CXT) (outer : List Env) (P : Program) (w : World) (H : Hp) (s : Shared) (Q : VK) (E : XK) (r : Result) (s' : Shared) : Prop :=
  match r with
  | .ok (.ret u) => CE outer P w H s Q u s'
  | .ok _ => False
  | .error e => CX outer H s E e s'
structure FnOk (P : Program) (w : World) (K : PySem.W.Frag) (mg : Str → Option Value) (base : Heap) (CX : CXT) (k : Nat) (f : Addr) (fd : FuncData) (ps : List Str) (sp : Sp) : Prop where
  len : ∀ vs H Q E, sp vs H Q E → vs.length = ps.length
  run : ∀ (A : Around) (outer : List Env) (s : Shared) (H : Hp) (args : Args) (us : List Value) (vs : List V) (Q : VK) (E : XK), Room k A → Env0 P w K mg base A outer s H → BindsTo s fd args (ps.zip us) → Vals vs us → sp vs H Q E →
    codeAny (model P w) A (.call (.ref f) args) (CR CX outer P w H s Q E) s
theorem FnOk.mono {P : Program} {w : World} {K : PySem.W.Frag} {mg : Str → Option Value} {base : Heap} {CX : CXT} {j k : Nat} {f : Addr} {fd : FuncData} {ps : List Str} {sp : Sp} (F : FnOk P w K mg base CX j f fd ps sp) (h : j ≤ k) :
    FnOk P w K mg base CX k f fd ps sp := ⟨F.len, fun A outer s H args us vs Q E hr => F.run A outer s H args us vs Q E (hr.mono h)⟩
/-- a weaker promise -/
theorem FnOk.imp {P : Program} {w : World} {K : PySem.W.Frag} {mg : Str → Option Value} {base : Heap} {CX : CXT} {k : Nat} {f : Addr} {fd : FuncData} {ps : List Str} {sp sp' : Sp} (F : FnOk P w K mg base CX k f fd ps sp)
    (h : ∀ vs H Q E, sp' vs H Q E → sp vs H Q E) : FnOk P w K mg base CX k f fd ps sp' :=
  ⟨fun vs H Q E q => F.len vs H Q E (h _ _ _ _ q), fun A outer s H args us vs Q E hr he hb hv hs => F.run A outer s H args us vs Q E hr he hb hv (h _ _ _ _ hs)⟩

theorem Env0.make {P : Program} {w : World} {K : PySem.W.Frag} {mg : Str → Option Value} {base : Heap} {A : Around} {outer : List Env} {s : Shared} {H : Hp} (e : Env0 P w K mg base A outer s H) (C : Addr) (us : List Value) (kw : List (Str × Value)) :
    Env0 P w K mg base (A.under (.builtin "type.__call__" ⟨.ref C :: us, kw⟩)) outer s H := ⟨by first | exact e.frames | (simpa [Around.under, Code.envs, Code.isFrame, pushEnvs] using e.frames), e.mod, e.bs, e.bsz, e.funs, e.frf, e.hok, e.bare⟩
theorem Env0.in1 {P : Program} {w : World} {K : PySem.W.Frag} {mg : Str → Option Value} {base : Heap} {A : Around} {outer : List Env} {s : Shared} {H : Hp} (e : Env0 P w K mg base A outer s H) :
    Env0 P w K mg base A.in1 outer s H := ⟨e.frames, e.mod, e.bs, e.bsz, e.funs, e.frf, e.hok, e.bare⟩

section
variable {X : Cx} {pins : List (Addr × Obj)} {σ : St} {H : Hp} {s s' : Shared}
/-- from a body: what a callee wants -/
theorem Inv.env0 (I : Inv X pins σ H s) : Env0 X.prog X.w X.K X.mg X.base X.A X.stack s H :=
  ⟨I.ok.frames, I.ok.mod, I.bs, Nat.le_trans I.ok.bsz I.sz, I.stack, I.stkFree, I.hok, I.bare⟩
/-- behind a call -/
theorem Inv.after {Q : VK} {u : Value} (I : Inv X pins σ H s) (h : CE X.stack X.prog X.w H s Q u s') : EP X pins σ Q u s' := by
  obtain ⟨v, H', os, bare, un, hok, r, q⟩ := h
  obtain ⟨hh, g, d, t, os'⟩ := s'
  obtain rfl : os' = s.os := os
  exact ⟨v, H', I.call (h' := hh) (g' := g) (d' := d) (t' := t) (ch := []) un hok bare (fun b z => absurd z (by simp)), r, q⟩
end

/-! ### calls -/
/-- f(..): the written arguments, then the defaults dvs; E: what is wanted of an exception -/
def tCall (sp : Sp) (dvs : List V) (E : XK) (t : TA) : TE := fun σ H Q => t σ H fun vs H1 => sp (vs ++ dvs) H1 Q E
/-- o.m(..) of an instance of the class at C -/
def tMeth (C : Addr) (m : Str) (sp : Sp) (dvs : List V) (E : XK) (ta : TE) (t : TA) : TE := fun σ H Q => ta σ H fun x H1 => ∃ a dx fs, x = .ref a ∧ H1 a = some (.ins C dx fs) ∧ fs.lookup m = none ∧
  t σ H1 fun vs H2 => sp (x :: (vs ++ dvs)) H2 Q E
/-- C(..): a new instance and its dict, then __init__ -/
def tMake (C : Addr) (sp : Sp) (dvs : List V) (E : XK) (t : TA) : TE := fun σ H Q => t σ H fun vs H1 => ∀ x dx, H1 x = none → H1 dx = none → dx ≠ x →
  sp (.ref x :: (vs ++ dvs)) (upd (upd H1 dx (.own x)) x (.ins C dx [])) (fun v H2 => v = .non ∧ Q (.ref x) H2) E

/-- how the parameters are bound: us the positional arguments, kw the keywords' values by name, ds the defaults that fill up -/
def Binds (K : PySem.W.Frag) (fd : FuncData) (ps : List Str) (ds : List Value) : Prop :=
  ∀ (s : Shared) (us : List Value), K.In s.heap → (us ++ ds).length = ps.length → BindsTo s fd ⟨us, []⟩ (ps.zip (us ++ ds))
/-- every parameter is given -/
theorem Binds.all {K : PySem.W.Frag} {fd : FuncData} {ps : List Str} (h : ∀ us : List Value, us.length = ps.length → bindArgs fd ⟨us, []⟩ = pure (ps.zip us)) : Binds K fd ps [] := fun s us _ hl => by
  rw [List.append_nil] at hl ⊢
  exact .of_eq (h us hl)

/-- an exception of a callee reaches what this body wants of exceptions -/
def Passes (CX : CXT) (X : Cx) (E : XK) : Prop := ∀ (pins : List (Addr × Obj)) (σ : St) (H : Hp) (s : Shared) (e : Value) (s' : Shared), Inv X pins σ H s → CX X.stack H s E e s' → X.xe e s'

section
variable {X : Cx} {CX : CXT} {k : Nat} {f C : Addr} {fd : FuncData} {ps : List Str} {sp : Sp} {dvs : List V} {ds : List Value} {E : XK} {x m : Str} {p pos apos : Pos} {e o : Expr} {es : List Expr} {ta : TE} {t : TA}

/-- the callee runs -/
theorem run_fn {pins : List (Addr × Obj)} {σ : St} {H : Hp} {s : Shared} {Q : VK} {us : List Value} {vs : List V} (F : FnOk X.prog X.w X.K X.mg X.base CX k f fd ps sp) (hr : Room k X.A) (hb : Binds X.K fd ps ds) (hd : Vals dvs ds) (hx : Passes CX X E)
    (I : Inv X pins σ H s) (r : Vals vs us) (h : sp (vs ++ dvs) H Q E) : wpAny (model X.prog X.w) X.A (call (.ref f) us) (EP X pins σ Q) X.xe s := by
  have r2 : Vals (vs ++ dvs) (us ++ ds) := r.append hd
  have hl : (us ++ ds).length = ps.length := by rw [← r2.length]; exact F.len _ _ _ _ h
  refine wpAny_call (codeAny_mono (F.run X.A X.stack s H ⟨us, []⟩ (us ++ ds) (vs ++ dvs) Q E hr I.env0 (hb s us I.kIn hl) r2 h) fun r s' hq => ?_)
  cases r with
  | error e => exact hx pins σ H s e s' I hq
  | ok fl =>
    cases fl with
    | ret u => exact I.after hq
    | next => exact False.elim hq
    | brk => exact False.elim hq
    | cont => exact False.elim hq

theorem pe_call (F : FnOk X.prog X.w X.K X.mg X.base CX k f fd ps sp) (hr : Room k X.A) (hg : Gl X x) (hm : X.mg x = some (.ref f)) (hk : PySem.W.keepIn X.K (.ref f) = true) (hb : Binds X.K fd ps ds) (hd : Vals dvs ds) (hx : Passes CX X E)
    (ha : PA X (e :: es) t) (hdb : (x == ("__debug__" : Str)) = false := by decide) (he : starEach (e :: es) X.env = (false, eval e X.env) :: starEach es X.env := by rfl) (hpl : (backTo pos (starEach es X.env)).any (·.1) = false := by rfl) :
    PE X (.Call (.Name x p) (e :: es) [] pos) (tCall sp dvs E t) := by
  intro pins s σ H Q I h
  refine wpAny_Call_Name_kw (ld_glob I hg hm ?_ hdb)
  refine PySem.W.callWith_K (h₀ := X.base) I.ok.mod.kin hk (thn (ha pos pins s σ H _ I h) fun us s1 ⟨vs, H1, I1, r, q⟩ => ⟨I1.kIn, ?_⟩) he hpl
  exact run_fn F hr hb hd hx I1 r q
theorem pe_call0 (F : FnOk X.prog X.w X.K X.mg X.base CX k f fd ps sp) (hr : Room k X.A) (hg : Gl X x) (hm : X.mg x = some (.ref f)) (hk : PySem.W.keepIn X.K (.ref f) = true) (hb : Binds X.K fd ps ds) (hd : Vals dvs ds) (hx : Passes CX X E)
    (hdb : (x == ("__debug__" : Str)) = false := by decide) : PE X (.Call (.Name x p) [] [] pos) (tCall sp dvs E tNil) := by
  intro pins s σ H Q I h
  refine wpAny_Call_Name_kw (ld_glob I hg hm ?_ hdb)
  exact PySem.W.callWith_K0 I.kIn hk (run_fn (us := []) F hr hb hd hx I .nil h)

/-- o.m(e, ..) -/
theorem pe_meth {pl : Sem Bool} (he : PE X o ta) (c : Cls X.K C) (hm : Meth X.K C m f) (F : FnOk X.prog X.w X.K X.mg X.base CX k f fd ps sp) (hr : Room k X.A) (hb : Binds X.K fd ps ds) (hd : Vals dvs ds) (hx : Passes CX X E) (ha : PA X (e :: es) t)
    (hst : starEach (e :: es) X.env = (false, eval e X.env) :: starEach es X.env := by rfl) (hpl : (backTo pos (starEach es X.env)).any (·.1) = false := by rfl)
    (ht : eval (.Call (.Attribute o m apos) (e :: es) [] pos) X.env = (do
      let ov ← eval o X.env
      standAt apos.atName
      let (f, first) ← holding [ov] (getMethod ov m pl)
      callWith pos f first (backTo pos (starEach (e :: es) X.env)) (backToKw pos (keywordEach [] X.env))) := by rfl) :
    PE X (.Call (.Attribute o m apos) (e :: es) [] pos) (tMeth C m sp dvs E ta t) := by
  intro pins s σ H Q I h
  refine PySem.W.methodCall_KW (pl := pl) (thn (he pins s σ H _ I h) fun u s1 ⟨x, H1, I1, rx, a, dx, fs, ex, ea, l, q⟩ => ?_) ht
  subst ex
  obtain rfl : u = Value.ref a := rx
  refine getmeth_ok I1 ea c hm l ?_
  refine PySem.W.callWith_K (first := [.ref a]) (h₀ := X.base) I.ok.mod.kin hm.kp (thn (ha pos pins s1 σ H1 _ I1 q) fun us s2 ⟨vs, H2, I2, r, q2⟩ => ⟨I2.kIn, ?_⟩) hst hpl
  exact run_fn (us := .ref a :: us) (vs := .ref a :: vs) F hr hb hd hx I2 (.cons rfl r) q2
/-- o.m() -/
theorem pe_meth0 {pl : Sem Bool} (he : PE X o ta) (c : Cls X.K C) (hm : Meth X.K C m f) (F : FnOk X.prog X.w X.K X.mg X.base CX k f fd ps sp) (hr : Room k X.A) (hb : Binds X.K fd ps ds) (hd : Vals dvs ds) (hx : Passes CX X E)
    (ht : eval (.Call (.Attribute o m apos) [] [] pos) X.env = (do
      let ov ← eval o X.env
      standAt apos.atName
      let (f, first) ← holding [ov] (getMethod ov m pl)
      callWith pos f first (backTo pos (starEach [] X.env)) (backToKw pos (keywordEach [] X.env))) := by rfl) :
    PE X (.Call (.Attribute o m apos) [] [] pos) (tMeth C m sp dvs E ta tNil) := by
  intro pins s σ H Q I h
  refine PySem.W.methodCall_KW (pl := pl) (thn (he pins s σ H _ I h) fun u s1 ⟨x, H1, I1, rx, a, dx, fs, ex, ea, l, q⟩ => ?_) ht
  subst ex
  obtain rfl : u = Value.ref a := rx
  refine getmeth_ok I1 ea c hm l ?_
  exact PySem.W.callWith_K0 (first := [.ref a]) I1.kIn hm.kp (run_fn (us := [.ref a]) (vs := [.ref a]) F hr hb hd hx I1 (.cons rfl .nil) q)

/-- what a class must have to be made -/
structure Mk (K : PySem.W.Frag) (C f : Addr) : Prop where
  makes : PySem.W.makesIn K C = true
  init : PySem.W.findIn K (.ref C) "__init__" = some (some (.ref f))
  fn : PySem.W.isFn K (.ref f) = true
  kp : PySem.W.keepIn K (.ref C) = true

theorem run_make {pins : List (Addr × Obj)} {σ : St} {H : Hp} {s : Shared} {Q : VK} {us : List Value} {vs : List V} (M : Mk X.K C f) (F : FnOk X.prog X.w X.K X.mg X.base CX k f fd ps sp) (hr : Room (k + 1) X.A) (hb : Binds X.K fd ps ds) (hd : Vals dvs ds)
    (hx : Passes CX X E) (I : Inv X pins σ H s) (r : Vals vs us)
    (h : ∀ x dx, H x = none → H dx = none → dx ≠ x → sp (.ref x :: (vs ++ dvs)) (upd (upd H dx (.own x)) x (.ins C dx [])) (fun v H2 => v = .non ∧ Q (.ref x) H2) E) :
    wpAny (model X.prog X.w) X.A (call (.ref C) us) (EP X pins σ Q) X.xe s := by
  have hq := h (s.heap.objs.size + 1) s.heap.objs.size (I.hok.fresh (Nat.le_succ _)) (I.hok.fresh (Nat.le_refl _)) (Nat.ne_of_lt (Nat.lt_succ_self _))
  have I2 := Inv.made (C := C) I
  have r2 : Vals (V.ref (s.heap.objs.size + 1) :: (vs ++ dvs)) (Value.ref (s.heap.objs.size + 1) :: (us ++ ds)) := .cons rfl (r.append hd)
  have hl : (Value.ref (s.heap.objs.size + 1) :: us ++ ds).length = ps.length := by
    have e := r2.length
    rw [F.len _ _ _ _ hq] at e
    exact e.symm
  refine wpAny_call (make_map (f := f) I.kIn M.makes M.init (beq_iff_eq.mp M.fn) (codeAny_mono (F.run _ X.stack _ _ ⟨Value.ref (s.heap.objs.size + 1) :: us, []⟩ (Value.ref (s.heap.objs.size + 1) :: (us ++ ds)) _ _ E (hr.make C us [])
    (I2.env0.make C us []) (hb _ (Value.ref (s.heap.objs.size + 1) :: us) I2.kIn hl) r2 hq) fun r s' hq' => ?_))
  cases r with
  | error e => exact hx pins σ _ _ e s' I2 hq'
  | ok fl =>
    cases fl with
    | ret u =>
      obtain ⟨v, H', I3, rv, ev, q3⟩ := I2.after hq'
      subst ev
      exact ⟨rv, ⟨V.ref (s.heap.objs.size + 1), H', I3, rfl, q3⟩⟩
    | next => exact False.elim hq'
    | brk => exact False.elim hq'
    | cont => exact False.elim hq'
theorem pe_make (M : Mk X.K C f) (F : FnOk X.prog X.w X.K X.mg X.base CX k f fd ps sp) (hr : Room (k + 1) X.A) (hg : Gl X x) (hm : X.mg x = some (.ref C)) (hb : Binds X.K fd ps ds) (hd : Vals dvs ds) (hx : Passes CX X E)
    (ha : PA X (e :: es) t) (hdb : (x == ("__debug__" : Str)) = false := by decide) (he : starEach (e :: es) X.env = (false, eval e X.env) :: starEach es X.env := by rfl) (hpl : (backTo pos (starEach es X.env)).any (·.1) = false := by rfl) :
    PE X (.Call (.Name x p) (e :: es) [] pos) (tMake C sp dvs E t) := by
  intro pins s σ H Q I h
  refine wpAny_Call_Name_kw (ld_glob I hg hm ?_ hdb)
  refine PySem.W.callWith_K (h₀ := X.base) I.ok.mod.kin M.kp (thn (ha pos pins s σ H _ I h) fun us s1 ⟨vs, H1, I1, r, q⟩ => ⟨I1.kIn, ?_⟩) he hpl
  exact run_make M F hr hb hd hx I1 r q
theorem pe_make0 (M : Mk X.K C f) (F : FnOk X.prog X.w X.K X.mg X.base CX k f fd ps sp) (hr : Room (k + 1) X.A) (hg : Gl X x) (hm : X.mg x = some (.ref C)) (hb : Binds X.K fd ps ds) (hd : Vals dvs ds) (hx : Passes CX X E)
    (hdb : (x == ("__debug__" : Str)) = false := by decide) : PE X (.Call (.Name x p) [] [] pos) (tMake C sp dvs E tNil) := by
  intro pins s σ H Q I h
  refine wpAny_Call_Name_kw (ld_glob I hg hm ?_ hdb)
  exact PySem.W.callWith_K0 I.kIn M.kp (run_make (us := []) M F hr hb hd hx I .nil h)
end

/-! ### keywords -/
/-- the values of the keywords, from the left -/
def PK (X : Cx) (kws : List Keyword) (t : TA) : Prop :=
  ∀ (pos : Pos) (pins : List (Addr × Obj)) (s : Shared) (σ : St) (H : Hp) (Q : List V → Hp → Prop), Inv X pins σ H s → t σ H Q → wpAny (model X.prog X.w) X.A (evalAll ((backToKw pos (keywordEach kws X.env)).map (·.2))) (AP X pins σ Q) X.xe s
section
variable {X : Cx} {CX : CXT} {k : Nat} {f C : Addr} {fd : FuncData} {ps ks : List Str} {sp : Sp} {E : XK} {x m : Str} {p pos apos kpos : Pos} {e o : Expr} {es : List Expr} {kws : List Keyword} {te ta : TE} {t tk : TA} {nm : Option Str}
theorem pk_nil : PK X [] tNil := fun _ _ _ _ H Q I h => wpAny_evalAll_nil ⟨[], H, I, .nil, h⟩
theorem pk_cons (ha : PE X e te) (hr : PK X kws t) : PK X (⟨nm, e, kpos⟩ :: kws) (tCons te t) := by
  intro pos pins s σ H Q I h
  show wpAny _ _ (evalAll ((do let v ← eval e X.env; standAt pos; pure v) :: (backToKw pos (keywordEach kws X.env)).map (·.2))) _ _ s
  refine wpAny_evalAll_cons (wpAny_bind (thn (ha pins s σ H _ I h) fun u s1 ⟨x, H1, I1, r1, q1⟩ => wpAny_bind (wpAny_standAt (wpAny_pure ?_))))
  exact thn (hr pos pins s1 σ H1 _ I1 q1) fun us s2 ⟨xs, H2, I2, r2, q2⟩ => ⟨x :: xs, H2, I2, .cons r1 r2, q2⟩

/-- how a call with keywords binds: g puts the positional values us and the keywords' values ws (names ks) in the parameters' order, defaults among them -/
structure KBinds (K : PySem.W.Frag) (fd : FuncData) (ps ks : List Str) (g : List Value → List Value → List Value) (gV : List V → List V → List V) : Prop where
  to : ∀ (s : Shared) (us ws : List Value), K.In s.heap → (g us ws).length = ps.length → BindsTo s fd ⟨us, ks.zip ws⟩ (ps.zip (g us ws))
  rel : ∀ {vs : List V} {us : List Value} {zs : List V} {ws : List Value}, Vals vs us → Vals zs ws → Vals (gV vs zs) (g us ws)
def tCallK (sp : Sp) (gV : List V → List V → List V) (E : XK) (t tk : TA) : TE := fun σ H Q => t σ H fun vs H1 => tk σ H1 fun zs H2 => sp (gV vs zs) H2 Q E
variable {g : List Value → List Value → List Value} {gV : List V → List V → List V}
theorem run_fnk {pins : List (Addr × Obj)} {σ : St} {H : Hp} {s : Shared} {Q : VK} {us ws : List Value} {vs zs : List V} (F : FnOk X.prog X.w X.K X.mg X.base CX k f fd ps sp) (hr : Room k X.A) (hb : KBinds X.K fd ps ks g gV) (hx : Passes CX X E)
    (I : Inv X pins σ H s) (r : Vals vs us) (rz : Vals zs ws) (h : sp (gV vs zs) H Q E) : wpAny (model X.prog X.w) X.A (call (.ref f) us (ks.zip ws)) (EP X pins σ Q) X.xe s := by
  have r2 := hb.rel r rz
  have hl : (g us ws).length = ps.length := by rw [← r2.length]; exact F.len _ _ _ _ h
  refine wpAny_call (codeAny_mono (F.run X.A X.stack s H ⟨us, ks.zip ws⟩ (g us ws) (gV vs zs) Q E hr I.env0 (hb.to s us ws I.kIn hl) r2 h) fun r s' hq => ?_)
  cases r with
  | error e => exact hx pins σ H s e s' I hq
  | ok fl =>
    cases fl with
    | ret u => exact I.after hq
    | next => exact False.elim hq
    | brk => exact False.elim hq
    | cont => exact False.elim hq
/-- f(e, .., k = v, ..) -/
theorem pe_callK (F : FnOk X.prog X.w X.K X.mg X.base CX k f fd ps sp) (hr : Room k X.A) (hg : Gl X x) (hm : X.mg x = some (.ref f)) (hk : PySem.W.keepIn X.K (.ref f) = true) (hb : KBinds X.K fd ps ks g gV) (hx : Passes CX X E)
    (ha : PA X (e :: es) t) (hkw : PK X kws tk) (hall : (backToKw pos (keywordEach kws X.env)).all (·.1.isSome) = true := by rfl) (hks : (backToKw pos (keywordEach kws X.env)).filterMap (·.1) = ks := by rfl)
    (hdb : (x == ("__debug__" : Str)) = false := by decide) (he : starEach (e :: es) X.env = (false, eval e X.env) :: starEach es X.env := by rfl)
    (hpl : ((backTo pos (starEach (e :: es) X.env)).any (·.1) || (backToKw pos (keywordEach kws X.env)).any (·.1.isNone)) = false := by rfl) :
    PE X (.Call (.Name x p) (e :: es) kws pos) (tCallK sp gV E t tk) := by
  intro pins s σ H Q I h
  refine wpAny_Call_Name_kw (ld_glob I hg hm ?_ hdb)
  refine PySem.W.callWith_KW (h₀ := X.base) I.ok.mod.kin hk hall (thn (ha pos pins s σ H _ I h) fun us s1 ⟨vs, H1, I1, r, q⟩ => ?_) hpl he
  refine thn (hkw pos pins s1 σ H1 _ I1 q) fun ws s2 ⟨zs, H2, I2, rz, q2⟩ => ⟨I2.kIn, ?_⟩
  rw [hks]
  exact run_fnk F hr hb hx I2 r rz q2
end

/-! ### a def's body keeps its promise -/
/-- names: the parameters first -/
structure FnScope (N P : List Str) (sc : Scope) : Prop where
  kind : sc.kind = .function
  co : sc.isCoroutine = false
  gen : sc.isGenerator = false
  nd : N.Nodup
  pre : N.take P.length = P
  par : ∀ x ∈ P, sc.names.lookup x = some .local ∨ sc.names.lookup x = some .cell
  nofree : ∀ y ∈ sc.names, y.2 ≠ .free

theorem bindL_out {kindOf : Str → Option NameKind} {x : Str} : ∀ {binds : List (Str × Value)} {m : Str → Option Value}, (∀ v, (x, v) ∉ binds) → bindL kindOf binds m x = m x
  | [], _, _ => rfl
  | (n, v) :: r, m, h => by
    unfold bindL
    rw [bindL_out fun w hw => h w (List.mem_cons_of_mem _ hw)]
    split
    · have : x ≠ n := by rintro rfl; exact h v List.mem_cons_self
      simp [this]
    · rfl
theorem bindC_out {kindOf : Str → Option NameKind} {x : Str} : ∀ {binds : List (Str × Value)} {m : Str → Option Value}, (∀ v, (x, v) ∉ binds) → bindC kindOf binds m x = m x
  | [], _, _ => rfl
  | (n, v) :: r, m, h => by
    unfold bindC
    rw [bindC_out fun w hw => h w (List.mem_cons_of_mem _ hw)]
    split
    · rfl
    · have : x ≠ n := by rintro rfl; exact h v List.mem_cons_self
      simp [this]
theorem bindL_get {kindOf : Str → Option NameKind} {x : Str} {v : Value} : ∀ {P : List Str} {vs : List Value} {i : Nat} {m : Str → Option Value}, P.Nodup → P[i]? = some x → vs[i]? = some v → kindOf x = some .local →
    bindL kindOf (P.zip vs) m x = some v
  | [], _, _, _, _, h, _, _ => by simp at h
  | _ :: _, [], _, _, _, _, h, _ => by simp at h
  | p :: P, w :: vs, 0, m, nd, h1, h2, hk => by
    simp at h1 h2; subst h1; subst h2
    show bindL kindOf ((p, w) :: P.zip vs) m p = _
    unfold bindL
    rw [bindL_out fun v hv => (List.nodup_cons.mp nd).1 (List.of_mem_zip hv).1, if_pos hk]
    simp
  | p :: P, w :: vs, i + 1, m, nd, h1, h2, hk => by
    show bindL kindOf ((p, w) :: P.zip vs) m x = _
    unfold bindL
    exact bindL_get (i := i) (List.nodup_cons.mp nd).2 (by simpa using h1) (by simpa using h2) hk
theorem bindC_get {kindOf : Str → Option NameKind} {x : Str} {v : Value} : ∀ {P : List Str} {vs : List Value} {i : Nat} {m : Str → Option Value}, P.Nodup → P[i]? = some x → vs[i]? = some v → kindOf x ≠ some .local →
    bindC kindOf (P.zip vs) m x = some v
  | [], _, _, _, _, h, _, _ => by simp at h
  | _ :: _, [], _, _, _, _, h, _ => by simp at h
  | p :: P, w :: vs, 0, m, nd, h1, h2, hk => by
    simp at h1 h2; subst h1; subst h2
    show bindC kindOf ((p, w) :: P.zip vs) m p = _
    unfold bindC
    rw [bindC_out fun v hv => (List.nodup_cons.mp nd).1 (List.of_mem_zip hv).1, if_neg hk]
    simp
  | p :: P, w :: vs, i + 1, m, nd, h1, h2, hk => by
    show bindC kindOf ((p, w) :: P.zip vs) m x = _
    unfold bindC
    exact bindC_get (i := i) (List.nodup_cons.mp nd).2 (by simpa using h1) (by simpa using h2) hk

/-- the names' values at the entry -/
def start (N : List Str) (vs : List V) : St := vs.map some ++ List.replicate (N.length - vs.length) none

/-- the context of a def's body, at its entry; an exception leaves the frame, then lies as CX says -/
def cxOf (CX : CXT) (P : Program) (w : World) (K : PySem.W.Frag) (mg : Str → Option Value) (base : Heap) (N : List Str) (qual : Str) (scope : Scope) (f : Addr) (cd : Value) (A : Around) (outer : List Env) (s : Shared) (H : Hp) (E : XK) : Cx where
  prog := P
  w := w
  K := K
  mg := mg
  base := base
  A := A.deeper (envOfC qual scope s.heap.objs.size f cd)
  N := N
  s₀ := s
  H₀ := H
  env := envOfC qual scope s.heap.objs.size f cd
  outer := outer
  stack := envOfC qual scope s.heap.objs.size f cd :: outer
  ex := []
  calm := true
  fn := fun _ => true
  pn := []
  xe := fun e s' => wpAny (model P w) (A.deeper (envOfC qual scope s.heap.objs.size f cd)) (leaving (envOfC qual scope s.heap.objs.size f cd) e) (fun _ s'' => CX outer H s E e s'') (fun e' s'' => CX outer H s E e' s'') s'

theorem cell_has {sc : Scope} {n : Nat} {x : Str} (h : sc.names.lookup x = some .cell) : ∃ c, (cellsFrom n sc.names []).lookup x = some c := by
  have q := PySem.W.cellsFrom_some sc.names n [] (.inl h)
  exact Option.isSome_iff_exists.mp q

theorem inv_start {CX : CXT} {P : Program} {w : World} {K : PySem.W.Frag} {mg : Str → Option Value} {base : Heap} {N ps : List Str} {qual : Str} {scope : Scope} {f : Addr} {cd : Value} {A : Around} {outer : List Env} {s s1 : Shared} {H : Hp} {E : XK} {us : List Value} {vs : List V}
    (S : FnScope N ps scope) (hd : A.handled = none) (e0 : Env0 P w K mg base A outer s H) (hl : vs.length = ps.length) (r : Vals vs us)
    (x : InCallC s s.heap.objs.size (bindL (envOfC qual scope s.heap.objs.size f cd).kindOf (ps.zip us) fun _ => none) (cellsFrom (s.heap.objs.size + 1) scope.names []) (bindC (envOfC qual scope s.heap.objs.size f cd).kindOf (ps.zip us) fun _ => none) s1) :
    Inv (cxOf CX P w K mg base N qual scope f cd A outer s H E) [] (start N vs) H s1 := by
  have hpl : ps.length ≤ N.length := by have := congrArg List.length S.pre; rw [List.length_take] at this; omega
  obtain ⟨h1, tk, rfl, hk⟩ := x.done
  have noA : ∀ b : Addr, b ∉ (cxOf CX P w K mg base N qual scope f cd A outer s H E).ex := fun b z => absurd (show b ∈ ([] : List Addr) from z) (by simp)
  refine ⟨⟨e0.mod, S.kind, rfl, rfl, Nat.le_refl _, fun y z c h1 h2 => ?_, fun y hy => ?_, fun y c _ h => ?_, fun _ => hd, Around.frames_deeper e0.frames, .inr ⟨rfl, rfl⟩, fun b z => absurd z (noA b), e0.bs, e0.bsz, fun b _ _ => noA b, fun b z => absurd z (noA b), e0.funs, e0.frf⟩,
    rfl, e0.bare, Un.kept hk, ⟨_, x.toInCall.ns, fun i y v h1 h2 h3 => ?_⟩, fun y c h => ⟨_, x.cell y c h⟩, e0.hok.fresh (Nat.le_refl _), fun y c h => ?_, fun p hp => absurd (show p ∈ ([] : List (Addr × Obj)) from hp) (by simp), e0.hok.kept hk, ?_⟩
  · exact name_of_addr x.apart (PySem.mem_of_lookup h1) (PySem.mem_of_lookup h2)
  · have hy : scope.names.lookup y = some .cell ∨ scope.names.lookup y = some .free := hy
    rcases hy with hy | hy
    · exact cell_has hy
    · exact absurd rfl (S.nofree _ (PySem.mem_of_lookup hy))
  · exact Nat.le_of_lt (x.above y c (PySem.mem_of_lookup h))
  · have hi : i < vs.length := by
      unfold start at h2
      by_cases hi : i < vs.length
      · exact hi
      · rw [List.getElem?_append_right (by simpa using hi)] at h2
        rw [List.getElem?_replicate] at h2
        split at h2 <;> cases h2
    have ha : vs[i]? = some v := by
      unfold start at h2
      rw [List.getElem?_append_left (by simpa using hi), List.getElem?_map] at h2
      cases e : vs[i]? with
      | none => rw [e] at h2; cases h2
      | some a => rw [e] at h2; cases h2; rfl
    obtain ⟨u, hu, rv⟩ := r.get ha
    have hp : ps[i]? = some y := by
      rw [← S.pre, List.getElem?_take_of_lt (by omega)]; exact h1
    have ndP : ps.Nodup := by rw [← S.pre]; exact S.nd.sublist (List.take_sublist _ _)
    refine ⟨u, rv, ?_⟩
    rcases S.par y (List.mem_of_getElem? hp) with k | k
    · exact .inl ⟨k, bindL_get ndP hp hu k⟩
    · obtain ⟨c, e⟩ := cell_has (n := s.heap.objs.size + 1) k
      refine .inr ⟨.inl k, c, e, ?_⟩
      have q := x.cell y c e
      rw [bindC_get ndP hp hu (by show scope.names.lookup y ≠ _; rw [k]; decide)] at q
      exact q
  · exact e0.hok.fresh (Nat.le_of_lt (x.above y c (PySem.mem_of_lookup h)))
  · unfold start
    show _ = N.length
    rw [List.length_append, List.length_map, List.length_replicate]
    omega

/-- THE RULE: a def (or a method) of the text, by its body. The body's reading t is chosen for each entry; it is run at the parameters' values -/
theorem fn_of {CX : CXT} {P : Program} {w : World} {K : PySem.W.Frag} {mg : Str → Option Value} {base : Heap} {k : Nat} {f : Addr} {name qual : Str} {params : Arguments} {body : List Stmt} {scope : Scope} {dV kV doc pm cdv ct oc : Value} {an od : Option Addr}
    {osl : Array (Option Value)} {N ps : List Str} {sp : Sp} (lk : K.lookup f = some ⟨oc, od, .func (PySem.W.fnOf name qual params body scope dV kV doc pm an cdv ct), osl⟩) (hcd : PySem.W.codeIn K cdv qual = true) (S : FnScope N ps scope)
    (len : ∀ vs H Q E, sp vs H Q E → vs.length = ps.length)
    (hbody : ∀ (A : Around) (outer : List Env) (s : Shared) (H : Hp) (vs : List V) (Q : VK) (E : XK), Room k (A.deeper (envOfC qual scope s.heap.objs.size f cdv)) → sp vs H Q E →
      ∃ t, PSs (cxOf CX P w K mg base N qual scope f cdv A outer s H E) body t ∧ t { nx := fun _ H' => Q .non H', rt := Q } (start N vs) H) :
    FnOk P w K mg base CX (k + 1) f (PySem.W.fnOf name qual params body scope dV kV doc pm an cdv ct) ps sp := by
  refine ⟨len, fun A outer s H args us vs Q E hr e0 hb r hsp => ?_⟩
  have hl := len _ _ _ _ hsp
  have KX : K.In s.heap := e0.mod.kin.keeps fun b o e => (e0.bs b o e).1
  have lim : s.heap.NoLimit := e0.mod.nolimit.keeps fun b o e => (e0.bs b o e).1
  have hkind : ∀ y ∈ ps.zip us, scope.names.lookup y.1 = some .local ∨ (scope.names.lookup y.1 = some .cell ∧ ((cellsFrom (s.heap.objs.size + 1) scope.names []).lookup y.1).isSome = true) := fun ⟨n, v⟩ hy => by
    rcases S.par n (List.of_mem_zip hy).1 with q | q
    · exact .inl q
    · exact .inr ⟨q, PySem.W.cellsFrom_some _ _ _ (.inl q)⟩
  refine codeAny_call_function hr.depth (KX _ _ lk) rfl S.co S.gen rfl (PySem.W.codeRec_of KX hcd) (hb _ _ _ _ ?_)
  refine wpAny_newFunctionEnv_cells S.kind hkind fun env he s1 x => ?_
  subst he
  refine ⟨lim.keeps x.toInCall.keep, codeAny_func ?_⟩
  obtain ⟨t, ht, hq⟩ := hbody A outer s H vs Q E (hr.deeper _) hsp
  have I : Inv (cxOf CX P w K mg base N qual scope f cdv A outer s H E) [] (start N vs) H s1 := inv_start S hr.hd e0 hl r x
  refine wpAny_mono (ht [] s1 (start N vs) H _ I hq) (fun fl s' hs => ?_) fun e s' hs => hs
  have fin : ∀ {σ' : St} {H' : Hp} {v : V} {u : Value}, Inv (cxOf CX P w K mg base N qual scope f cdv A outer s H E) [] σ' H' s' → RelV v u → Q v H' → CE outer P w H s Q u s' :=
    fun {σ' H' v u} J rv q => ⟨v, H', J.os, J.bare, J.base, J.hok, rv, q⟩
  cases fl with
  | ret u =>
    obtain ⟨v, σ', H', J, rv, q⟩ := hs
    exact fin J rv q
  | next =>
    obtain ⟨σ', H', J, q⟩ := hs
    exact fin (v := V.non) (u := Value.none) J rfl q
  | brk =>
    obtain ⟨_, _, _, q⟩ := hs
    exact False.elim q
  | cont =>
    obtain ⟨_, _, _, q⟩ := hs
    exact False.elim q
end L2

namespace L2
open PySem PySem.Spec PyProof.Rows
section
variable {X : Cx} {x : Str} {p pos : Pos} {e : Expr} {es : List Expr} {t : TA} {id T : String} {r : List V → Hp → VK → Prop}

def tCB (r : List V → Hp → VK → Prop) (t : TA) : TE := fun σ H Q => t σ H fun vs H1 => r vs H1 Q
/-- f(e, ..), f a built-in function -/
theorem pe_callB (hc : CallR X (.builtin id) r) (hg : Gl X x) (hm : X.mg x = none) (hv : bootBuiltins x = some (.builtin id)) (ha : PA X (e :: es) t) (hn : x ≠ "__name__" := by decide) (hdb : (x == ("__debug__" : Str)) = false := by decide)
    (he : starEach (e :: es) X.env = (false, eval e X.env) :: starEach es X.env := by rfl) (hpl : (backTo pos (starEach es X.env)).any (·.1) = false := by rfl) : PE X (.Call (.Name x p) (e :: es) [] pos) (tCB r t) := by
  intro pins s σ H Q I h
  refine wpAny_Call_Name_kw (ld_blt I hg hm hv ?_ hn hdb)
  exact PyProof.Rows.callWith_builtin1 (thn (ha pos pins s σ H _ I h) fun us s1 ⟨vs, H1, I1, r1, q1⟩ => hc pins s1 σ H1 vs us Q I1 r1 q1) he hpl
/-- T(e, ..), T a built-in type -/
theorem pe_callTy (hc : CallR X (.type T) r) (hg : Gl X x) (hm : X.mg x = none) (hv : bootBuiltins x = some (.type T)) (ha : PA X (e :: es) t) (hn : x ≠ "__name__" := by decide) (hdb : (x == ("__debug__" : Str)) = false := by decide)
    (he : starEach (e :: es) X.env = (false, eval e X.env) :: starEach es X.env := by rfl) (hpl : (backTo pos (starEach es X.env)).any (·.1) = false := by rfl) : PE X (.Call (.Name x p) (e :: es) [] pos) (tCB r t) := by
  intro pins s σ H Q I h
  refine wpAny_Call_Name_kw (ld_blt I hg hm hv ?_ hn hdb)
  exact PyProof.Rows.callWith_type1 (thn (ha pos pins s σ H _ I h) fun us s1 ⟨vs, H1, I1, r1, q1⟩ => hc pins s1 σ H1 vs us Q I1 r1 q1) he hpl
/-- T() -/
theorem pe_callTy0 (hc : CallR X (.type T) r) (hg : Gl X x) (hm : X.mg x = none) (hv : bootBuiltins x = some (.type T)) (hn : x ≠ "__name__" := by decide) (hdb : (x == ("__debug__" : Str)) = false := by decide) :
    PE X (.Call (.Name x p) [] [] pos) (tCB r tNil) := by
  intro pins s σ H Q I h
  refine wpAny_Call_Name_kw (ld_blt I hg hm hv ?_ hn hdb)
  exact PyProof.Rows.callWith_type0 (hc pins s σ H [] [] Q I .nil h)
end
end L2

namespace HT
open PySem PyProof.Rows

/-- t < u of tuples of ints -/
def lexLt : List Int → List Int → Bool
  | [], [] => false
  | [], _ :: _ => true
  | _ :: _, [] => false
  | x :: xs, y :: ys => if x = y then lexLt xs ys else decide (x < y)
theorem lexLt_cons (x y : Int) (xs ys : List Int) : lexLt (x :: xs) (y :: ys) = if x = y then lexLt xs ys else decide (x < y) := rfl
theorem lexLt_nil_nil : lexLt [] [] = false := rfl
theorem lexLt_nil_cons (y : Int) (ys : List Int) : lexLt [] (y :: ys) = true := rfl
theorem lexLt_cons_nil (x : Int) (xs : List Int) : lexLt (x :: xs) [] = false := rfl

theorem eqAt_int (A : Around) (s : Shared) (a : Int) (t : Tok) (c : Int) (u : Tok) : ∃ e, SeqAt.EqAt A s (.int a t) (.int c u) e ∧ (e = true ↔ a = c) :=
  ⟨(a == c), SeqAt.EqAt.int_int a t c u, by simp⟩
theorem rcLt_int (A : Around) (s : Shared) (a : Int) (t : Tok) (c : Int) (u : Tok) (prog : Program) (w : World) (E : Value → Shared → Prop) (Q : Value → Shared → Prop) (h : Q (.bool (decide (a < c))) s) :
    wpAny (model prog w) A (richCompare .Lt (.int a t) (.int c u)) Q E s :=
  (PyProof.Rows.lt_int h : wpAny (model prog w) A (compareOp .Lt (.int a t) (.int c u)) Q E s)

section
open PySem.SeqAt
open PySem.AutoSeq1 (wpAny_loadPart')
open PySem.MeetsSeq PySem.MeetsSeq2 PySem.MeetsSeq3

theorem tuple_lt_ints (l b : Addr) (items items2 : Array Value) (n n2 : Nat) (dd dd2 : Option Addr) (sl sl2 : Array (Option Value)) (ns ms : List Int) (hi : IntsAre items.toList ns) (hj : IntsAre items2.toList ms) :
    Meets (Builtin.«tuple.__lt__» ⟨[.ref l, .ref b], []⟩)
      (fun _ R s => s.heap.get? l = some { cls := .type "tuple", dict := dd, data := .seq items n, slots := sl } ∧ s.heap.get? b = some { cls := .type "tuple", dict := dd2, data := .seq items2 n2, slots := sl2 } ∧
        R (.ok (.ret (.bool (lexLt ns ms)))) s) :=
  .of_wp fun prog w A R s h => by
    obtain ⟨hp, g, d, tk, os⟩ := s; obtain ⟨hl, hb, h⟩ := h
    have f2 := AutoSeq1.sub_tuple_tuple
    have z1 : items.size = ns.length := by rw [← hi.length]; simp
    have z2 : items2.size = ms.length := by rw [← hj.length]; simp
    wp_walk using wpAny_loadPart' hl, wpAny_loadPart' hb, wpAny_forIn_list _ (fun rest b s' => b.1 = none ∧ s' = ⟨hp, g, d, tk, os⟩ ∧ ∃ (vs ws : List Value) (ns' ms' : List Int), rest = vs.zip ws ∧
      IntsAre vs ns' ∧ IntsAre ws ms' ∧ ns'.length + items2.size = ms'.length + items.size ∧ R (.ok (.ret (.bool (lexLt ns' ms')))) ⟨hp, g, d, tk, os⟩) _
    case turn =>
      rintro ⟨y, x⟩ rest b s' ⟨hb', rfl, vs, ws, ns', ms', hz, hvi, hwi, hlen, hR⟩
      cases hvi with
      | nil => rw [List.zip_nil_left] at hz; cases hz
      | cons a t hvi' =>
        cases hwi with
        | nil => rw [List.zip_nil_right] at hz; cases hz
        | cons c u hwi' =>
          rw [List.zip_cons_cons] at hz
          injection hz with hyx hrest
          injection hyx with hy hx
          subst hy hx
          rw [lexLt_cons] at hR
          simp only [List.length_cons] at hlen
          obtain ⟨e, he, hiff⟩ := eqAt_int A.in1 ⟨hp, g, d, tk, os⟩ a t c u
          refine wpAny_bind (he prog w _ _ ?_)
          cases e with
          | true =>
            rw [if_pos (hiff.mp rfl)] at hR
            wp_walk
            exact ⟨rfl, rfl, _, _, _, _, hrest, hvi', hwi', by omega, hR⟩
          | false =>
            rw [if_neg (fun q => absurd (hiff.mpr q) Bool.false_ne_true)] at hR
            have hri := rcLt_int A.in1 ⟨hp, g, d, tk, os⟩ a t c u prog w
            wp_walk using hri
            exact ⟨_, rfl, by simpa using hR⟩
    case fin =>
      rintro ⟨b1, b2⟩ s' ⟨hb', rfl, vs, ws, ns', ms', hz, hvi, hwi, hlen, hR⟩
      simp only at hb'
      subst hb'
      have hv : lexLt ns' ms' = decide (items.size < items2.size) := by
        cases hvi with
        | nil =>
          cases hwi with
          | nil =>
            simp only [List.length_nil] at hlen
            rw [lexLt_nil_nil]
            exact (decide_eq_false (by omega)).symm
          | cons c u hw =>
            simp only [List.length_nil, List.length_cons] at hlen
            rw [lexLt_nil_cons]
            exact (decide_eq_true (by omega)).symm
        | cons a t hv =>
          cases hwi with
          | nil =>
            simp only [List.length_nil, List.length_cons] at hlen
            rw [lexLt_cons_nil]
            exact (decide_eq_false (by omega)).symm
          | cons c u hw =>
            rw [List.zip_cons_cons] at hz
            cases hz
      rw [hv] at hR
      wp_walk
      exact ⟨_, rfl, by simpa [Builtin.Tuple.tupleCompareSizes] using hR⟩
    case h =>
      exact ⟨rfl, rfl, items.toList, items2.toList, ns, ms, rfl, hi, hj, by omega, h⟩
end

section
variable {prog : Program} {w : World} {A : Around} {E : Value → Shared → Prop} {s : Shared}

theorem lt_tupInts {l b : Addr} {items items2 : Array Value} {ns ms : List Int} {Q : Value → Shared → Prop} (hl : IsTup s.heap l items) (hb : IsTup s.heap b items2) (hi : IntsAre items.toList ns) (hj : IntsAre items2.toList ms)
    (hu : A.units < cLine) (h : Q (.bool (lexLt ns ms)) s) : wpAny (model prog w) A (compareOp .Lt (.ref l) (.ref b)) Q E s := by
  obtain ⟨⟨cls, dd, data, sl⟩, ho, hc, n, hd⟩ := id hl
  obtain ⟨⟨cls2, dd2, data2, sl2⟩, ho2, hc2, n2, hd2⟩ := id hb
  simp only at hc hd hc2 hd2
  subst hc hd hc2 hd2
  exact richCompare_meets_room (op := .Lt) ⟨_, ho, rfl⟩ ⟨_, ho2, rfl⟩ PySem.F.slot_tuple_lt PySem.F.entry_tuple_lt (PySem.F.args_tuple_lt_2 _ _) (tuple_lt_ints l b items items2 n n2 dd dd2 sl sl2 ns ms hi hj)
    ⟨ho, ho2, show Value.bool (lexLt ns ms) ≠ Value.notImplemented ∧ Q (.bool (lexLt ns ms)) s from ⟨(fun x => nomatch x), h⟩⟩ hu

/-- t + u, t not empty -/
theorem cat_tup {t b : Addr} {vs ws : List Value} {Q : Value → Shared → Prop} (ht : IsTup s.heap t vs.toArray) (hb : IsTup s.heap b ws.toArray) (hv : vs ≠ [])
    (h1 : ws = [] → Q (.ref t) s) (h2 : ws ≠ [] → Q (.ref s.heap.objs.size) { s with heap := s.heap.push { cls := .type "tuple", data := .seq (vs ++ ws).toArray } })
    (hsz : vs.length + ws.length ≤ sizeLine) : wpAny (model prog w) A (binaryOp .Add (.ref t) (.ref b)) Q E s := by
  obtain ⟨⟨cls, dd, data, sl⟩, ho, hc, n, hd⟩ := id ht
  obtain ⟨⟨cls2, dd2, data2, sl2⟩, ho2, hc2, n2, hd2⟩ := id hb
  simp only at hc hd hc2 hd2
  subst hc hd hc2 hd2
  have e : vs.toArray ++ ws.toArray = (vs ++ ws).toArray := by simp
  by_cases hw : ws = []
  · exact concat_meets ⟨_, ho, rfl⟩ ⟨_, ho2, rfl⟩ noFill_tuple_add seq_tuple_add PySem.F.slot_tuple_add PySem.F.entry_tuple_add (PySem.F.args_tuple_add_2 _ _)
      (tuple_addW1 t b vs.toArray ws.toArray n n2 dd dd2 sl sl2 (by simpa using hv) (by simp [hw])) ⟨ho, ho2, h1 hw⟩
  · refine concat_meets ⟨_, ho, rfl⟩ ⟨_, ho2, rfl⟩ noFill_tuple_add seq_tuple_add PySem.F.slot_tuple_add PySem.F.entry_tuple_add (PySem.F.args_tuple_add_2 _ _)
      (tuple_addW2 t b vs.toArray ws.toArray n n2 dd dd2 sl sl2 (by simpa using hv) (by simpa using hw) (by rw [List.size_toArray, List.size_toArray]; exact hsz)) ⟨ho, ho2, ?_⟩
    rw [e]
    exact h2 hw

/-! ### t[a:b], not the whole -/
/-- a slice's bound as a place among n (d where it is left out) -/
def sIx (n d : Nat) : Option Int → Nat
  | none => d
  | some v => if v < 0 then (v + (n : Int)).toNat else min v.toNat n
theorem sIx_none (n d : Nat) : sIx n d none = d := rfl
theorem sIx_nat (n d k : Nat) : sIx n d (some (k : Int)) = min k n := by
  show (if (k : Int) < 0 then ((k : Int) + (n : Int)).toNat else min (k : Int).toNat n) = min k n
  rw [if_neg (by omega), Int.toNat_natCast]
theorem sIx_le (n d : Nat) (hd : d ≤ n) (o : Option Int) : sIx n d o ≤ n := by
  cases o with
  | none => exact hd
  | some v =>
    show (if v < 0 then (v + (n : Int)).toNat else min v.toNat n) ≤ n
    by_cases hv : v < 0
    · rw [if_pos hv]; omega
    · rw [if_neg hv]; exact Nat.min_le_right _ _
theorem clip_eq (v : Int) (n d : Nat) : (if v < 0 then max (v + (n : Int)) 0 else min v (n : Int)) = ((sIx n d (some v) : Nat) : Int) := by
  show (if v < 0 then max (v + (n : Int)) 0 else min v (n : Int)) = (((if v < 0 then (v + (n : Int)).toNat else min v.toNat n) : Nat) : Int)
  by_cases hv : v < 0
  · simp only [if_pos hv]; omega
  · simp only [if_neg hv]; omega
theorem adjust_gen (lo hi : Option Int) (n : Nat) : Builtin.Slice.sliceAdjust lo hi 1 (n : Int) = (((sIx n 0 lo : Nat) : Int), ((sIx n n hi : Nat) : Int)) := by
  have h1 : ¬ ((1 : Int) < 0) := by omega
  unfold Builtin.Slice.sliceAdjust
  simp only [h1, if_false]
  refine Prod.ext ?_ ?_
  · cases lo with
    | none => rfl
    | some v => exact clip_eq v n 0
  · cases hi with
    | none => rfl
    | some v => exact clip_eq v n n
theorem places_gen (i j : Nat) : Builtin.Slice.slicePlaces (i : Int) (j : Int) 1 = j - i := by
  unfold Builtin.Slice.slicePlaces
  have h1 : (1 : Int) > 0 := by omega
  simp only [h1, if_true, Int.ediv_one]
  split <;> omega
theorem slicePart_ {v : Value} {o : Option Int} {Q : Option Int → Shared → Prop} (p : IsPart v o) (h : Q o s) : wpAny (model prog w) A (Builtin.Slice.slicePartIndex v) Q E s := by
  cases p with
  | none => exact slicePart_none h
  | int i t => exact slicePart_int h
theorem sliceApplied_gen {sl : Addr} {vl vu : Value} {lo hi : Option Int} {n : Nat} {Q : Int × Int × Nat → Shared → Prop} (hs : s.heap.IsSliceOf sl vl vu .none) (pl : IsPart vl lo) (pu : IsPart vu hi)
    (h : Q (((sIx n 0 lo : Nat) : Int), 1, sIx n n hi - sIx n 0 lo) s) : wpAny (model prog w) A (Builtin.Slice.sliceApplied (.ref sl) (pure (n : Int))) Q E s := by
  obtain ⟨os, hos, hcs, hds⟩ := id hs
  unfold Builtin.Slice.sliceApplied Builtin.Slice.sliceFields
  refine wpAny_bind (wpAny_bind (wpAny_field hos hds (x := vl) rfl (wpAny_bind (wpAny_field hos hds (x := vu) rfl (wpAny_bind (wpAny_field hos hds (x := .none) rfl (wpAny_pure ?_)))))))
  refine wpAny_bind (slicePart_none ?_)
  show wpAny _ _ (if ((1 : Int) == 0) = true then _ else _) _ _ s
  rw [if_neg (by decide)]
  refine wpAny_bind (slicePart_ pl (wpAny_bind (slicePart_ pu (wpAny_bind (wpAny_pure ?_)))))
  show wpAny _ _ (match Builtin.Slice.sliceAdjust lo hi 1 (n : Int) with | (lo, hi) => pure (lo, (1 : Int), Builtin.Slice.slicePlaces lo hi 1)) _ _ s
  rw [adjust_gen lo hi n]
  show wpAny _ _ (pure (((sIx n 0 lo : Nat) : Int), (1 : Int), Builtin.Slice.slicePlaces ((sIx n 0 lo : Nat) : Int) ((sIx n n hi : Nat) : Int) 1)) _ _ s
  rw [places_gen]
  exact wpAny_pure h
theorem pick_gen (xs : Array Value) (i k : Nat) : ((List.range k).filterMap fun (m : Nat) => xs[((i : Int) + (m : Int) * 1).toNat]?).toArray = ((xs.toList.drop i).take k).toArray := by
  have e : (fun (m : Nat) => xs[((i : Int) + (m : Int) * 1).toNat]?) = fun m => xs[i + m]? := by
    funext m
    have : ((i : Int) + (m : Int) * 1).toNat = i + m := by omega
    rw [this]
  rw [e]
  have := pick_run xs i k
  rw [List.filterMap_map] at this
  have e2 : ((fun x => xs[x]?) ∘ fun x => i + x) = fun m => xs[i + m]? := rfl
  rw [e2] at this
  rw [this]

theorem getItem_tuple_cut {t sl : Addr} {items : Array Value} {vl vu : Value} {lo hi : Option Int} {Q : Value → Shared → Prop} (ht : IsTup s.heap t items) (hs : s.heap.IsSliceOf sl vl vu .none) (pl : IsPart vl lo) (pu : IsPart vu hi)
    (hw : ¬ (sIx items.size 0 lo = 0 ∧ sIx items.size items.size hi = items.size))
    (h : Q (.ref s.heap.objs.size) { s with heap := s.heap.push { cls := .type "tuple", data := .seq ((items.toList.drop (sIx items.size 0 lo)).take (sIx items.size items.size hi - sIx items.size 0 lo)).toArray } })
    (hsz : items.size ≤ sizeLine) : wpAny (model prog w) A (getItem (.ref t) (.ref sl)) Q E s := by
  have htake : sizeOk (.seq ((items.toList.drop (sIx items.size 0 lo)).take (sIx items.size items.size hi - sIx items.size 0 lo)).toArray) := by
    show ((items.toList.drop (sIx items.size 0 lo)).take (sIx items.size items.size hi - sIx items.size 0 lo)).toArray.size ≤ sizeLine
    rw [List.size_toArray, List.length_take, List.length_drop, Array.length_toList]
    omega
  have hj : sIx items.size items.size hi ≤ items.size := sIx_le _ _ (Nat.le_refl _) hi
  obtain ⟨os, hos, hcs, hds⟩ := id hs
  have hTs : s.TypeIs (.ref sl) "slice" := ⟨os, hos, hcs⟩
  unfold getItem
  try with_reducible refine wpAny_holding ?_
  first | refine wpAny_bind (wpAny_pure ?_) | skip
  refine wpAny_bind (wpAny_sequenceKey ht.typeIs (by decide) ?_)
  refine wpAny_bind (wpAny_callSpecial?_slot (name := Str.ofString "__getitem__") ht.typeIs PyProof.Rows.slot_tuple_getitem
    (wpAny_call_entry PyProof.Rows.slot_tuple_getitem ht.typeIs entry_tuple_getitem ?_ (args_tuple_getitem _ _)))
  show wpAny _ _ (Builtin.Tuple.tupleItemsOf (.ref t) >>= _) _ _ s
  refine wpAny_bind (tupleItemsOf_ ht ?_)
  refine wpAny_bind (wpAny_typeOf hTs ?_)
  rw [if_pos (by decide)]
  refine wpAny_bind (sliceApplied_gen hs pl pu ?_)
  have hno : ¬ ((((sIx items.size 0 lo : Nat) : Int) == 0 && (1 : Int) == 1 && (sIx items.size items.size hi - sIx items.size 0 lo) == items.size) = true) := by
    intro q
    rw [Bool.and_eq_true, Bool.and_eq_true] at q
    have q1 : ((sIx items.size 0 lo : Nat) : Int) = 0 := eq_of_beq q.1.1
    have q2 : sIx items.size items.size hi - sIx items.size 0 lo = items.size := eq_of_beq q.2
    exact hw ⟨by omega, by omega⟩
  show wpAny _ _ (if (((sIx items.size 0 lo : Nat) : Int) == 0 && (1 : Int) == 1 && (sIx items.size items.size hi - sIx items.size 0 lo) == items.size) = true then _ else _) _ _ s
  rw [if_neg hno, pick_gen]
  first
    | exact wpAny_bind (m := Builtin.Tuple.tupleExact _) (wpAny_newObj_type (wpAny_pure ⟨_, rfl, wpAny_pure h⟩) htake)
    | exact wpAny_bind (m := Builtin.Tuple.tupleExact _) (wpAny_newObj_type (wpAny_bind (wpAny_pure (wpAny_pure ⟨_, rfl, wpAny_pure h⟩))) htake)
    | exact wpAny_bind (wpAny_bind (m := Builtin.Tuple.tupleExact _) (wpAny_newObj_type (wpAny_pure (wpAny_pure ⟨_, rfl, wpAny_pure h⟩)) htake))
    | exact wpAny_bind (wpAny_bind (m := Builtin.Tuple.tupleExact _) (wpAny_newObj_type (wpAny_pure ⟨_, rfl, wpAny_pure h⟩) htake))
end
end HT

namespace L2
open PySem PySem.Spec PyProof.Rows

/-! ### the parts of a slice -/
abbrev TO := St → Hp → (Option Int → Hp → Prop) → Prop
/-- a slice's part (left out, or an int) -/
def PO (X : Cx) (e : Option Expr) (t : TO) : Prop :=
  ∀ (pins : List (Addr × Obj)) (s : Shared) (σ : St) (H : Hp) (Q : Option Int → Hp → Prop), Inv X pins σ H s → t σ H Q →
    wpAny (model X.prog X.w) X.A (evalPart e X.env) (fun u s' => ∃ o H', Inv X pins σ H' s' ∧ IsPart u o ∧ Q o H') X.xe s
def tNoPart : TO := fun _ H Q => Q none H
def tPart (t : TE) : TO := fun σ H Q => t σ H fun x H1 => ∃ i, x = .int i ∧ Q (some i) H1

theorem intsAre_of {ns : List Int} : ∀ {us : List Value}, Vals (ns.map V.int) us → IntsAre us ns := by
  induction ns with
  | nil => intro us r; rw [List.map_nil] at r; cases r; exact .nil
  | cons n ns ih =>
    intro us r
    rw [List.map_cons] at r
    cases r with
    | cons r1 r2 =>
      obtain ⟨t, e⟩ := r1
      subst e
      exact .cons n t (ih r2)

section
variable {X : Cx} {e : Expr} {te : TE} {lo hi : Option Expr} {tl th : TO} {pos p2 : Pos}

theorem po_none : PO X none tNoPart := by
  intro pins s σ H Q I h
  rw [evalPart_none]
  exact wpAny_pure ⟨none, H, I, .none, h⟩
theorem po_some (h : PE X e te) : PO X (some e) (tPart te) := by
  intro pins s σ H Q I hw
  rw [evalPart_some]
  refine thn (h pins s σ H _ I hw) fun u s1 ⟨x, H1, I1, r1, q1⟩ => ?_
  obtain ⟨i, rfl, q⟩ := q1
  obtain ⟨t, rfl⟩ := r1
  exact ⟨some i, H1, I1, .int i t, q⟩

/-- what a slice of a value is, by values: the slice object stands at sl -/
def SlR (X : Cx) (r : V → Option Int → Option Int → Hp → VK → Prop) : Prop :=
  ∀ (pins : List (Addr × Obj)) (s : Shared) (σ : St) (H : Hp) (x : V) (v vl vu : Value) (lo hi : Option Int) (sl : Addr) (Q : VK), Inv X pins σ H s → RelV x v → s.heap.IsSliceOf sl vl vu .none → IsPart vl lo → IsPart vu hi → r x lo hi H Q →
    ∃ T id, typeLookup (.type T) "__getitem__" = pure (some (.builtin id)) ∧ s.TypeIs v T ∧ wpAny (model X.prog X.w) X.A (getItem v (.ref sl)) (EP X pins σ Q) X.xe s
theorem SlR.or {r r' : V → Option Int → Option Int → Hp → VK → Prop} (h : SlR X r) (h' : SlR X r') : SlR X (fun x lo hi H Q => r x lo hi H Q ∨ r' x lo hi H Q) := by
  intro pins s σ H x v vl vu lo hi sl Q I rx hs pl pu q
  rcases q with q | q
  · exact h pins s σ H x v vl vu lo hi sl Q I rx hs pl pu q
  · exact h' pins s σ H x v vl vu lo hi sl Q I rx hs pl pu q
def tSl (r : V → Option Int → Option Int → Hp → VK → Prop) (te : TE) (tl th : TO) : TE := fun σ H Q => te σ H fun x H1 => tl σ H1 fun l H2 => th σ H2 fun u H3 => r x l u H3 Q
/-- a[lo:hi], any a -/
theorem pe_slice {r : V → Option Int → Option Int → Hp → VK → Prop} (hr : SlR X r) (he : PE X e te) (hl : PO X lo tl) (hu : PO X hi th) : PE X (.Subscript e (.Slice lo hi none p2) pos) (tSl r te tl th) := by
  intro pins s σ H Q I h
  refine Subscript_ (thn (he pins s σ H _ I h) fun v s1 ⟨x, H1, I1, r1, q1⟩ => ?_)
  refine wpAny_Slice (thn (hl pins s1 σ H1 _ I1 q1) fun vl s2 ⟨l, H2, I2, pl, q2⟩ => thn (hu pins s2 σ H2 _ I2 q2) fun vu s3 ⟨u, H3, I3, pu, q3⟩ => ?_)
  rw [evalPart_none]
  refine wpAny_pure ?_
  have I4 : Inv X pins σ H3 { s3 with heap := s3.heap.push { cls := .type "slice", data := .fields #[vl, vu, .none] } } := I3.kept (t' := s3.toks) fun b ob q => Heap.get?_push_of_some _ q
  obtain ⟨T, id, hT, ht, hg⟩ := hr pins { s3 with heap := s3.heap.push { cls := .type "slice", data := .fields #[vl, vu, .none] } } σ H3 x v vl vu l u s3.heap.objs.size Q I4 r1 (Heap.IsSliceOf.new ..) pl pu q3
  show wpAny (model X.prog X.w) X.A (subscriptTail e (.Slice lo hi none p2) v (.ref s3.heap.objs.size)) (EP X pins σ Q) X.xe { s3 with heap := s3.heap.push { cls := .type "slice", data := .fields #[vl, vu, .none] } }
  exact tail_any (ops := [.ref s3.heap.objs.size, v]) ht hT hg (by with_unfolding_all rfl)

/-- the items of xs[lo:hi] -/
def cutV (xs : List V) (lo hi : Option Int) : List V := (xs.drop (HT.sIx xs.length 0 lo)).take (HT.sIx xs.length xs.length hi - HT.sIx xs.length 0 lo)
theorem cutV_length (xs : List V) (lo hi : Option Int) : (cutV xs lo hi).length ≤ xs.length := by
  unfold cutV
  rw [List.length_take, List.length_drop]
  omega
/-- t[lo:hi], not the whole of it (the whole would be t itself) -/
def rSlT (K : PySem.W.Frag) : V → Option Int → Option Int → Hp → VK → Prop := fun x lo hi H Q => ∃ a xs, x = .ref a ∧ SqT K H a xs ∧
  ¬ (HT.sIx xs.length 0 lo = 0 ∧ HT.sIx xs.length xs.length hi = xs.length) ∧ ∀ p, H p = none → Q (.ref p) (upd H p (.tup (cutV xs lo hi)))
theorem sl_tup : SlR X (rSlT X.K) := by
  intro pins s σ H x v vl vu lo hi sl Q I rx hs pl pu h
  obtain ⟨a, xs, rfl, hx, hw, q⟩ := h
  cases rx
  obtain ⟨its, r, ht, hz⟩ := I.tuple hx
  have hlen : its.toArray.size = xs.length := by rw [List.size_toArray]; exact r.length.symm
  refine ⟨"tuple", _, PyProof.Rows.slot_tuple_getitem.lookup, ht.typeIs, ?_⟩
  refine HT.getItem_tuple_cut ht hs pl pu (by rw [hlen]; exact hw) ?_ (by rw [hlen]; exact hz)
  rw [hlen]
  refine ⟨.ref s.heap.objs.size, _, I.laid (t' := s.toks) (o := .tup (cutV xs lo hi)) (fun b ob q => Heap.get?_push_of_some _ q) (Nat.le_refl _) ?_, rfl, q _ (I.hok.fresh (Nat.le_refl _))⟩
  exact ⟨Nat.le_trans (cutV_length xs lo hi) hz, _, (r.drop (HT.sIx xs.length 0 lo)).take (HT.sIx xs.length xs.length hi - HT.sIx xs.length 0 lo), IsTup.new _ _⟩

/-! ### t < u, t + u -/
def rLtT (K : PySem.W.Frag) : R2 := fun x y H Q => ∃ a b ns ms, x = .ref a ∧ y = .ref b ∧ SqT K H a (ns.map V.int) ∧ SqT K H b (ms.map V.int) ∧ Q (.bl (HT.lexLt ns ms)) H
theorem op_ltT (hu : X.A.units < cLine) : OpR X (compareOp .Lt) (rLtT X.K) := by
  intro pins s σ H x y v u Q I rx ry h
  obtain ⟨a, b, ns, ms, rfl, rfl, ha, hb, q⟩ := h
  cases rx
  cases ry
  obtain ⟨its, r1, p1, _⟩ := I.tuple ha
  obtain ⟨its2, r2, p2, _⟩ := I.tuple hb
  have i1 : IntsAre its.toArray.toList ns := intsAre_of r1
  have i2 : IntsAre its2.toArray.toList ms := intsAre_of r2
  exact HT.lt_tupInts p1 p2 i1 i2 hu ⟨.bl (HT.lexLt ns ms), H, I, rfl, q⟩
/-- t + u, t not empty: u empty gives t itself -/
def rCatT (K : PySem.W.Frag) : R2 := fun x y H Q => ∃ a b xs ys, x = .ref a ∧ y = .ref b ∧ SqT K H a xs ∧ SqT K H b ys ∧ xs ≠ [] ∧ xs.length + ys.length ≤ sizeLine ∧
  (ys = [] → Q (.ref a) H) ∧ (ys ≠ [] → ∀ p, H p = none → Q (.ref p) (upd H p (.tup (xs ++ ys))))
theorem Vals.nil_iff {xs : List V} {us : List Value} (r : Vals xs us) : us = [] ↔ xs = [] := by
  cases r with
  | nil => simp
  | cons _ _ => simp
theorem op_catT : OpR X (binaryOp .Add) (rCatT X.K) := by
  intro pins s σ H x y v u Q I rx ry h
  obtain ⟨a, b, xs, ys, rfl, rfl, ha, hb, hx, hz, q1, q2⟩ := h
  cases rx
  cases ry
  obtain ⟨its, r1, p1, _⟩ := I.tuple ha
  obtain ⟨its2, r2, p2, _⟩ := I.tuple hb
  refine HT.cat_tup p1 p2 (fun z => hx (r1.nil_iff.mp z)) (fun z => ⟨.ref a, H, I, rfl, q1 (r2.nil_iff.mp z)⟩) (fun z => ?_) (by rw [← r1.length, ← r2.length]; exact hz)
  refine ⟨.ref s.heap.objs.size, _, I.laid (t' := s.toks) (o := .tup (xs ++ ys)) (fun b ob q => Heap.get?_push_of_some _ q) (Nat.le_refl _) ?_, rfl, q2 (fun w => z (r2.nil_iff.mpr w)) _ (I.hok.fresh (Nat.le_refl _))⟩
  exact ⟨by rw [List.length_append]; exact hz, _, r1.append r2, IsTup.new _ _⟩
/-- tuple(t) -/
theorem call_tupleT : CallR X (.type "tuple") (fun xs H Q => ∃ a ys, xs = [.ref a] ∧ SqT X.K H a ys ∧ Q (.ref a) H) := by
  intro pins s σ H xs us Q I r h
  obtain ⟨a, ys, rfl, ha, q⟩ := h
  obtain ⟨u, rfl, ru⟩ := vals1 r
  cases ru
  obtain ⟨its, _, p1, _⟩ := I.tuple ha
  exact call_tuple_same (items := its.toArray) p1 ⟨.ref a, H, I, rfl, q⟩
end
end L2

namespace L2
open PySem PySem.Spec PyProof.Rows

/-! ### places -/
/-- the place that an index of any sign means -/
def ixN (n : Nat) (i : Int) : Option Nat := if 0 ≤ i then (if i < n then some i.toNat else none) else if -(n : Int) ≤ i then some (i + n).toNat else none
def atI {α : Type} (xs : List α) (i : Int) : Option α := (ixN xs.length i).bind fun j => xs[j]?
theorem ixN_seq {n : Nat} {i : Int} {j : Nat} (h : ixN n i = some j) : seqIndex? i n = some j ∧ j < n ∧ -(n : Int) ≤ i ∧ i < n := by
  unfold ixN at h
  by_cases h0 : 0 ≤ i
  · rw [if_pos h0] at h
    by_cases h1 : i < n
    · rw [if_pos h1] at h
      have e : i.toNat = j := Option.some.inj h
      exact ⟨by rw [seqIndex_of h0 h1, e], by omega, by omega, h1⟩
    · rw [if_neg h1] at h; cases h
  · rw [if_neg h0] at h
    by_cases h1 : -(n : Int) ≤ i
    · rw [if_pos h1] at h
      have e : (i + n).toNat = j := Option.some.inj h
      exact ⟨by rw [seqIndex_neg (by omega) h1, e], by omega, h1, by omega⟩
    · rw [if_neg h1] at h; cases h
theorem atI_get {α : Type} {xs : List α} {i : Int} {v : α} (h : atI xs i = some v) : ∃ j, seqIndex? i xs.length = some j ∧ xs[j]? = some v ∧ j < xs.length ∧ -(xs.length : Int) ≤ i ∧ i < xs.length := by
  unfold atI at h
  cases e : ixN xs.length i with
  | none => rw [e] at h; cases h
  | some j =>
    rw [e] at h
    obtain ⟨h1, h2, h3, h4⟩ := ixN_seq e
    exact ⟨j, h1, h, h2, h3, h4⟩
theorem atI_nat {α : Type} {xs : List α} {j : Nat} {v : α} (h : xs[j]? = some v) : atI xs (j : Int) = some v := by
  have hj : j < xs.length := (List.getElem?_eq_some_iff.mp h).1
  have e : ixN xs.length (j : Int) = some j := by
    unfold ixN
    rw [if_pos (by omega), if_pos (by omega)]; simp
  unfold atI; rw [e]; exact h
theorem atI_last {α : Type} (xs : List α) (v : α) : atI (xs ++ [v]) (-1) = some v := by
  have hl : (xs ++ [v]).length = xs.length + 1 := by simp
  have e : ixN (xs ++ [v]).length (-1) = some xs.length := by
    unfold ixN
    rw [hl, if_neg (by decide), if_pos (by omega)]
    congr 1
    omega
  unfold atI
  rw [e]
  show (xs ++ [v])[xs.length]? = some v
  simp

/-! ### what may be subscripted -/
/-- what stands as an index of a plain subscript -/
def PlainIx (b : Expr) : Prop := ∀ o i, subscripted b false o i = operate [o, i] (getItem o i)
/-- a subscript by values -/
def IxR (X : Cx) (r : R2) : Prop :=
  ∀ (value slice : Expr) (pins : List (Addr × Obj)) (s : Shared) (σ : St) (H : Hp) (x y : V) (v u : Value) (Q : VK), Inv X pins σ H s → RelV x v → RelV y u → r x y H Q →
    subscripted slice false v u = operate [v, u] (getItem v u) → wpAny (model X.prog X.w) X.A (subscriptTail value slice v u) (EP X pins σ Q) X.xe s
/-- a call of a builtin's method by values: the receiver, the arguments -/
def MtR (X : Cx) (id : String) (r : V → List V → Hp → VK → Prop) : Prop :=
  ∀ (pins : List (Addr × Obj)) (s : Shared) (σ : St) (H : Hp) (x : V) (xs : List V) (v : Value) (us : List Value) (Q : VK), Inv X pins σ H s → RelV x v → Vals xs us → r x xs H Q →
    wpAny (model X.prog X.w) X.A (call (.builtin id) (v :: us)) (EP X pins σ Q) X.xe s
section
variable {X : Cx} {a b : Expr} {ta tb : TE} {pos : Pos}
theorem IxR.or {r r' : R2} (h : IxR X r) (h' : IxR X r') : IxR X (fun x y H Q => r x y H Q ∨ r' x y H Q) := by
  intro value slice pins s σ H x y v u Q I rx ry q hs
  rcases q with q | q
  · exact h value slice pins s σ H x y v u Q I rx ry q hs
  · exact h' value slice pins s σ H x y v u Q I rx ry q hs
theorem MtR.or {id : String} {r r' : V → List V → Hp → VK → Prop} (h : MtR X id r) (h' : MtR X id r') : MtR X id (fun x xs H Q => r x xs H Q ∨ r' x xs H Q) := by
  intro pins s σ H x xs v us Q I rx rs q
  rcases q with q | q
  · exact h pins s σ H x xs v us Q I rx rs q
  · exact h' pins s σ H x xs v us Q I rx rs q
/-- a[b] -/
theorem pe_ix {r : R2} (hr : IxR X r) (ha : PE X a ta) (hb : PE X b tb) (hs : PlainIx b) : PE X (.Subscript a b pos) (tOp r ta tb) := by
  intro pins s σ H Q I h
  exact Subscript_ (binT ha hb I h fun v u s2 x y H2 I2 rx ry q => hr a b pins s2 σ H2 x y v u Q I2 rx ry q (hs _ _))

def rIxL (K : PySem.W.Frag) : R2 := fun x y H Q => ∃ p xs i v, x = .ref p ∧ y = .int i ∧ SqL K H p xs ∧ atI xs i = some v ∧ Q v H
def rIxT (K : PySem.W.Frag) : R2 := fun x y H Q => ∃ p xs i v, x = .ref p ∧ y = .int i ∧ SqT K H p xs ∧ atI xs i = some v ∧ Q v H
def rIxS : R2 := fun x y H Q => ∃ z i c, x = .str z ∧ y = .int i ∧ z.length ≤ sizeLine ∧ atI z.cps.toList i = some c ∧ Q (.str ⟨#[c]⟩) H
theorem ix_list : IxR X (rIxL X.K) := by
  intro value slice pins s σ H x y v u Q I rx ry h hs
  obtain ⟨p, xs, i, z, rfl, rfl, hq, he, q⟩ := h
  cases rx
  obtain ⟨t, rfl⟩ := ry
  obtain ⟨its, r, pl, hz⟩ := I.list hq
  obtain ⟨j, h1, h2, h3, h4, h5⟩ := atI_get he
  obtain ⟨w, ew, rw'⟩ := r.get h2
  have hl := r.length
  have hn := line63
  have fin : EP X pins σ Q w s := ⟨z, H, I, rw', q⟩
  by_cases h0 : 0 ≤ i
  · have hj : i.toNat = j := by
      rw [seqIndex_of h0 h5] at h1
      exact Option.some.inj h1
    exact item_listR pl.isList h0 (by omega) (by rw [hj]; simpa using ew) fin hs
  · have hj : (i + (its.toArray.size : Int)).toNat = j := by
      rw [seqIndex_neg (by omega) h4] at h1
      rw [List.size_toArray, ← hl]
      exact Option.some.inj h1
    exact subscriptTail_builtinR (x := w) pl.isList.typeIs slot_list_getitem.lookup
      (wpAny_getItem_list_neg (Q := fun r s' => r = w ∧ EP X pins σ Q r s') pl.isList (by omega) (by rw [List.size_toArray] <;> omega) (by omega) (by rw [hj]; simpa using ew) ⟨rfl, fin⟩) hs
theorem ix_tup : IxR X (rIxT X.K) := by
  intro value slice pins s σ H x y v u Q I rx ry h hs
  obtain ⟨p, xs, i, z, rfl, rfl, hq, he, q⟩ := h
  cases rx
  obtain ⟨t, rfl⟩ := ry
  obtain ⟨its, r, pl, hz⟩ := I.tuple hq
  obtain ⟨j, h1, h2, h3, h4, h5⟩ := atI_get he
  obtain ⟨w, ew, rw'⟩ := r.get h2
  have hl := r.length
  have hn := line63
  have fin : EP X pins σ Q w s := ⟨z, H, I, rw', q⟩
  exact subscriptTail_builtinR (x := w) pl.typeIs slot_tuple_getitem.lookup
    (getItem_tuple (j := j) (Q := fun r s' => r = w ∧ EP X pins σ Q r s') pl (by omega) (by omega) (by rw [List.size_toArray, ← hl]; exact h1) (by simpa using ew) ⟨rfl, fin⟩) hs
theorem ix_str : IxR X rIxS := by
  intro value slice pins s σ H x y v u Q I rx ry h hs
  obtain ⟨z, i, c, rfl, rfl, hz, he, q⟩ := h
  obtain ⟨t, rfl⟩ := rx
  obtain ⟨t', rfl⟩ := ry
  obtain ⟨j, h1, h2, h3, h4, h5⟩ := atI_get he
  have hl : z.cps.toList.length = z.length := by simp [Str.length]
  rw [hl] at h1 h4 h5
  have hn := line63
  exact tail_any (typeIs_str s z t) slot_str_getitem.lookup (getItem_str (c := c) (by
    have e1 : decide (i < -(2 ^ 63 : Int)) = false := decide_eq_false (by omega)
    have e2 : decide (i ≥ 2 ^ 63) = false := decide_eq_false (by omega)
    rw [e1, e2, Bool.or_false]) (by rw [h1]; simpa using h2) ⟨.str ⟨#[c]⟩, H, I.tok _, ⟨_, rfl⟩, q⟩) hs
/-- list, tuple or str -/
def rIx (K : PySem.W.Frag) : R2 := fun x y H Q => rIxL K x y H Q ∨ rIxT K x y H Q ∨ rIxS x y H Q
theorem ix_seq : IxR X (rIx X.K) := ix_list.or (ix_tup.or ix_str)

/-! ### xs[i] = v, any sign -/
/-- the list's object behind a store -/
theorem mapSeq_set (its : List Value) (n j : Nat) (u : Value) : Obj.mapSeq (·.setIfInBounds j u) { cls := .type "list", data := .seq its.toArray n } = { cls := .type "list", data := .seq (its.set j u).toArray n } := by
  simp [Obj.mapSeq]
theorem Inv.lst {pins : List (Addr × Obj)} {σ : St} {H : Hp} {s : Shared} {p : Addr} {xs : List V} (I : Inv X pins σ H s) (h : H p = some (.lst xs)) :
    ∃ (its : List Value) (n : Nat), Vals xs its ∧ s.heap.get? p = some { cls := .type "list", data := .seq its.toArray n } ∧ xs.length ≤ sizeLine := by
  obtain ⟨z, its, n, r, e⟩ := I.hok p _ h
  exact ⟨its, n, r, e, z⟩
/-- the list at p is written by an update of its object -/
theorem Inv.lstUpd {pins : List (Addr × Obj)} {σ : St} {H : Hp} {s : Shared} {p : Addr} {xs ys : List V} {its its' : List Value} {n n' : Nat} {f : Obj → Obj} (I : Inv X pins σ H s) (h : H p = some (.lst xs))
    (ho : s.heap.get? p = some { cls := .type "list", data := .seq its.toArray n }) (hf : f { cls := .type "list", data := .seq its.toArray n } = { cls := .type "list", data := .seq its'.toArray n' }) (r : Vals ys its') (hz : ys.length ≤ sizeLine) (t : Nat) :
    Inv X pins σ (upd H p (.lst ys)) { s with heap := s.heap.update p f, toks := t } := by
  have e : (s.heap.update p f).get? p = some { cls := .type "list", data := .seq its'.toArray n' } := by
    rw [Heap.get?_update_self f ho (by rw [hf] <;> rfl), hf]
  refine I.write (x := p) (e := p) (by rw [h]; trivial) (.inl rfl) (fun b u hb q => (Heap.get?_update_other _ _ (Ne.symm hb)).trans q) ⟨_, e⟩ ?_
  exact ⟨hz, its', n', r, e⟩
def rSetL : V → V → V → Hp → (Hp → Prop) → Prop := fun o i v H Q => ∃ p xs k j, o = .ref p ∧ i = .int k ∧ H p = some (.lst xs) ∧ ixN xs.length k = some j ∧ Q (upd H p (.lst (xs.set j v)))
theorem set_list : PSet X rSetL := by
  intro pins s σ H o i v ov iv u Q I ro ri rv h
  obtain ⟨p, xs, k, j, rfl, rfl, hp, hj, q⟩ := h
  cases ro
  obtain ⟨t, rfl⟩ := ri
  obtain ⟨its, n, r, ho, hz⟩ := I.lst hp
  obtain ⟨h1, h2, h3, h4⟩ := ixN_seq hj
  have hl := r.length
  have hn := line63
  have I' : Inv X pins σ (upd H p (.lst (xs.set j v))) { s with heap := s.heap.update p (Obj.mapSeq (·.setIfInBounds j u)) } :=
    I.lstUpd hp ho (mapSeq_set its n j u) (r.set rv j) (by rw [List.length_set]; exact hz) s.toks
  by_cases h0 : 0 ≤ k
  · have hk : k.toNat = j := by
      rw [seqIndex_of h0 h4] at h1
      exact Option.some.inj h1
    exact PySem.W.ki_setAt ho h0 (by omega) (by rw [List.size_toArray, ← hl]; exact h4) (by rw [hk]; exact ⟨_, I', q⟩)
  · have hk : (k + (its.toArray.size : Int)).toNat = j := by
      rw [seqIndex_neg (by omega) h3] at h1
      rw [List.size_toArray, ← hl]
      exact Option.some.inj h1
    exact PySem.W.ki_setBack ho (by omega) (by rw [List.size_toArray, ← hl]; exact h3) (by omega) (by rw [hk]; exact ⟨_, I', q⟩)

/-! ### slices -/
theorem slice_bounds (lo hi : Option Int) (n : Nat) : (sliceBounds lo hi none n).1 = ((HT.sIx n 0 lo : Nat) : Int) ∧ (sliceBounds lo hi none n).2.1 = ((HT.sIx n n hi : Nat) : Int) ∧ (sliceBounds lo hi none n).2.2 = 1 := by
  refine ⟨?_, ?_, rfl⟩
  · cases lo with
    | none => simp [sliceBounds, HT.sIx]
    | some i =>
      simp only [sliceBounds, HT.sIx, Option.getD_none, show (1 : Int) > 0 by decide, if_true]
      by_cases h : i < 0
      · simp only [h, if_true] <;> omega
      · simp only [h, if_false] <;> omega
  · cases hi with
    | none => simp [sliceBounds, HT.sIx]
    | some i =>
      simp only [sliceBounds, HT.sIx, Option.getD_none, show (1 : Int) > 0 by decide, if_true]
      by_cases h : i < 0
      · simp only [h, if_true] <;> omega
      · simp only [h, if_false] <;> omega
theorem slicePick_cut (its : List Value) (lo hi : Option Int) : slicePick its.toArray lo hi none = ((its.drop (HT.sIx its.length 0 lo)).take (HT.sIx its.length its.length hi - HT.sIx its.length 0 lo)).toArray := by
  obtain ⟨h1, h2, h3⟩ := slice_bounds lo hi its.toArray.size
  unfold slicePick
  rw [h1, h2, h3]
  simp only [sliceRange_one, pick_run, List.size_toArray] <;> rfl
/-- xs[lo:hi] of a list: a new list -/
def rSlL (K : PySem.W.Frag) : V → Option Int → Option Int → Hp → VK → Prop := fun x lo hi H Q => ∃ a xs, x = .ref a ∧ SqL K H a xs ∧ ∀ p, H p = none → Q (.ref p) (upd H p (.lst (cutV xs lo hi)))
theorem sl_list : SlR X (rSlL X.K) := by
  intro pins s σ H x v vl vu lo hi sl Q I rx hs pl pu h
  obtain ⟨a, xs, rfl, hx, q⟩ := h
  cases rx
  obtain ⟨its, r, ht, hz⟩ := I.list hx
  have hlen := r.length
  refine ⟨"list", _, slot_list_getitem.lookup, ht.isList.typeIs, ?_⟩
  refine wpAny_getItem_list_slice ht.isList hs pl pu .none (by simp) ?_ (by rw [List.size_toArray] <;> omega)
  rw [slicePick_cut, ← hlen]
  refine ⟨.ref s.heap.objs.size, _, I.laid (t' := s.toks) (o := .lst (cutV xs lo hi)) (fun b ob q => Heap.get?_push_of_some _ q) (Nat.le_refl _) ?_, rfl, q _ (I.hok.fresh (Nat.le_refl _))⟩
  exact ⟨Nat.le_trans (cutV_length xs lo hi) hz, _, 0, (r.drop (HT.sIx xs.length 0 lo)).take (HT.sIx xs.length xs.length hi - HT.sIx xs.length 0 lo), Heap.get?_push_size _ rfl⟩

/-! ### in, not in: flat items -/
def flatV : V → Bool
  | .non => true
  | .bl _ => true
  | .int _ => true
  | .str _ => true
  | _ => false
/-- == of flat values -/
def eqV : V → V → Bool
  | .non, .non => true
  | .bl a, .bl b => a == b
  | .bl a, .int b => (if a then 1 else 0) == b
  | .int a, .bl b => a == (if b then 1 else 0)
  | .int a, .int b => a == b
  | .str a, .str b => a == b
  | _, _ => false
theorem eqAt_V {A : Around} {s : Shared} {y x : V} {u v : Value} (ry : RelV y u) (rx : RelV x v) (fy : flatV y = true) (fx : flatV x = true) : SeqAt.EqAt A s u v (eqV y x) := by
  cases y with
  | non =>
    cases ry
    cases x with
    | non => cases rx; exact SeqAt.EqAt.same _
    | bl b => cases rx; exact SeqAt.EqAt.none_bool b
    | int b => obtain ⟨t, rfl⟩ := rx; exact SeqAt.EqAt.none_int b t
    | str b => obtain ⟨t, rfl⟩ := rx; exact SeqAt.EqAt.none_str b t
    | _ => exact absurd (show false = true from fx) Bool.false_ne_true
  | bl a =>
    cases ry
    cases x with
    | non => cases rx; exact SeqAt.EqAt.bool_none a
    | bl b => cases rx; exact SeqAt.EqAt.bool_bool a b
    | int b => obtain ⟨t, rfl⟩ := rx; exact SeqAt.EqAt.bool_int a b t
    | str b => obtain ⟨t, rfl⟩ := rx; exact SeqAt.EqAt.bool_str a b t
    | _ => exact absurd (show false = true from fx) Bool.false_ne_true
  | int a =>
    obtain ⟨t', rfl⟩ := ry
    cases x with
    | non => cases rx; exact SeqAt.EqAt.int_none a t'
    | bl b => cases rx; exact SeqAt.EqAt.int_bool a t' b
    | int b => obtain ⟨t, rfl⟩ := rx; exact SeqAt.EqAt.int_int a t' b t
    | str b => obtain ⟨t, rfl⟩ := rx; exact SeqAt.EqAt.int_str a t' b t
    | _ => exact absurd (show false = true from fx) Bool.false_ne_true
  | str a =>
    obtain ⟨t', rfl⟩ := ry
    cases x with
    | non => cases rx; exact SeqAt.EqAt.str_none a t'
    | bl b => cases rx; exact SeqAt.EqAt.str_bool a t' b
    | int b => obtain ⟨t, rfl⟩ := rx; exact SeqAt.EqAt.str_int a t' b t
    | str b => obtain ⟨t, rfl⟩ := rx; exact SeqAt.EqAt.str_str a t' b t
    | _ => exact absurd (show false = true from fx) Bool.false_ne_true
  | _ => exact absurd (show false = true from fy) Bool.false_ne_true
/-- the items' answers, read off the values (a value's own answer does not lean on its token) -/
def eqU (x : V) (u : Value) : Bool := match u with
  | .none => eqV .non x
  | .bool b => eqV (.bl b) x
  | .int i _ => eqV (.int i) x
  | .str z _ => eqV (.str z) x
  | _ => false
theorem eqU_of {x y : V} {u : Value} (r : RelV y u) (f : flatV y = true) : eqU x u = eqV y x := by
  cases y with
  | non => cases r; rfl
  | bl b => cases r; rfl
  | int i => obtain ⟨t, rfl⟩ := r; rfl
  | str z => obtain ⟨t, rfl⟩ := r; rfl
  | _ => exact absurd (show false = true from f) Bool.false_ne_true
theorem any_eqU {x : V} : ∀ {xs : List V} {us : List Value}, Vals xs us → xs.all flatV = true → us.any (eqU x) = xs.any fun y => eqV y x
  | _, _, .nil, _ => rfl
  | y :: xs, u :: us, .cons r t, f => by
    rw [List.all_cons, Bool.and_eq_true] at f
    rw [List.any_cons, List.any_cons, eqU_of r f.1, any_eqU t f.2]
theorem mem_eqAt {A : Around} {s : Shared} {x : V} {v : Value} (rx : RelV x v) (fx : flatV x = true) : ∀ {xs : List V} {us : List Value}, Vals xs us → xs.all flatV = true → ∀ u ∈ us, SeqAt.EqAt A s u v (eqU x u)
  | _, _, .nil, _ => fun u hu => by cases hu
  | y :: xs, u :: us, .cons r t, f => fun u' hu => by
    rw [List.all_cons, Bool.and_eq_true] at f
    rcases List.mem_cons.mp hu with rfl | hu
    · rw [eqU_of r f.1]; exact eqAt_V r rx f.1 fx
    · exact mem_eqAt rx fx t f.2 u' hu
def inV (x : V) (xs : List V) : Bool := xs.any fun y => eqV y x
/-- x in a list or tuple of flat items -/
def rIn (K : PySem.W.Frag) (neg : Bool) : R2 := fun x y H Q => ∃ p xs, y = .ref p ∧ (SqL K H p xs ∨ SqT K H p xs) ∧ flatV x = true ∧ xs.all flatV = true ∧ Q (.bl (if neg then !inV x xs else inV x xs)) H
theorem op_in_seq : OpR X (compareOp .In) (rIn X.K false) := by
  intro pins s σ H x y v u Q I rx ry h
  obtain ⟨p, xs, rfl, hq, fx, fs, q⟩ := h
  cases ry
  rcases hq with hq | hq
  · obtain ⟨its, r, pl, hz⟩ := I.list hq
    refine SeqAt.in_listAt (eqU x) pl.isList (fun w hw => mem_eqAt rx fx r fs w (by simpa using hw)) ⟨.bl _, H, I, rfl, ?_⟩
    rw [show its.toArray.any (eqU x) = its.any (eqU x) by simp, any_eqU r fs]
    exact q
  · obtain ⟨its, r, pl, hz⟩ := I.tuple hq
    refine SeqAt.in_tupleAt (eqU x) pl (fun w hw => mem_eqAt rx fx r fs w (by simpa using hw)) ⟨.bl _, H, I, rfl, ?_⟩
    rw [show its.toArray.any (eqU x) = its.any (eqU x) by simp, any_eqU r fs]
    exact q
theorem op_notIn_seq : OpR X (compareOp .NotIn) (rIn X.K true) := by
  intro pins s σ H x y v u Q I rx ry h
  obtain ⟨p, xs, rfl, hq, fx, fs, q⟩ := h
  cases ry
  rcases hq with hq | hq
  · obtain ⟨its, r, pl, hz⟩ := I.list hq
    refine SeqAt.notIn_listAt (eqU x) pl.isList (fun w hw => mem_eqAt rx fx r fs w (by simpa using hw)) ⟨.bl _, H, I, rfl, ?_⟩
    rw [show its.toArray.any (eqU x) = its.any (eqU x) by simp, any_eqU r fs]
    exact q
  · obtain ⟨its, r, pl, hz⟩ := I.tuple hq
    refine SeqAt.notIn_tupleAt (eqU x) pl (fun w hw => mem_eqAt rx fx r fs w (by simpa using hw)) ⟨.bl _, H, I, rfl, ?_⟩
    rw [show its.toArray.any (eqU x) = its.any (eqU x) by simp, any_eqU r fs]
    exact q
theorem op_notIn_str : OpR X (compareOp .NotIn) (fun x y H Q => ∃ i j, x = .str i ∧ y = .str j ∧ Q (.bl (!(!(Builtin.Str.occurrences j i 0 j.length 1).isEmpty))) H) := by
  intro pins s σ H x y v u Q I rx ry h
  obtain ⟨i, j, rfl, rfl, q⟩ := h
  obtain ⟨t, rfl⟩ := rx
  obtain ⟨t', rfl⟩ := ry
  exact notIn_str ⟨.bl _, H, I, rfl, q⟩

/-! ### len, list(x), tuple(x) of any list or tuple that is read -/
theorem call_len_seq : CallR X (.builtin "len") (fun xs H Q => ∃ p ys, xs = [.ref p] ∧ (SqL X.K H p ys ∨ SqT X.K H p ys) ∧ Q (.int ys.length) H) := by
  intro pins s σ H xs us Q I r h
  obtain ⟨p, ys, rfl, hq, q⟩ := h
  obtain ⟨u, rfl, rx⟩ := vals1 r
  cases rx
  have hn := line63
  rcases hq with hq | hq
  · obtain ⟨its, r', pl, hz⟩ := I.list hq
    have hlen := r'.length
    exact Calls.call_len_list pl.isList (by simp only [List.size_toArray] <;> omega) ⟨.int ys.length, H, I.tok _, ⟨s.toks + 1, by rw [List.size_toArray, hlen]⟩, q⟩
  · obtain ⟨its, r', pl, hz⟩ := I.tuple hq
    have hlen := r'.length
    exact len_tuple pl (by simp only [List.size_toArray] <;> omega) ⟨.int ys.length, H, I.tok _, ⟨s.toks + 1, by rw [List.size_toArray, hlen]⟩, q⟩
theorem call_len_str : CallR X (.builtin "len") (fun xs H Q => ∃ z, xs = [.str z] ∧ z.length ≤ sizeLine ∧ Q (.int z.length) H) := by
  intro pins s σ H xs us Q I r h
  obtain ⟨z, rfl, hz, q⟩ := h
  obtain ⟨u, rfl, t, rfl⟩ := vals1 r
  have hn := line63
  exact len_str (by omega) ⟨.int z.length, H, I.tok _, ⟨_, rfl⟩, q⟩
theorem CallR.or {f : Value} {r r' : List V → Hp → VK → Prop} (h : CallR X f r) (h' : CallR X f r') : CallR X f (fun xs H Q => r xs H Q ∨ r' xs H Q) := by
  intro pins s σ H xs us Q I rs q
  rcases q with q | q
  · exact h pins s σ H xs us Q I rs q
  · exact h' pins s σ H xs us Q I rs q
theorem call_list_of : CallR X (.type "list") (fun xs H Q => ∃ p ys, xs = [.ref p] ∧ (SqL X.K H p ys ∨ SqT X.K H p ys) ∧ ∀ l, H l = none → Q (.ref l) (upd H l (.lst ys))) := by
  intro pins s σ H xs us Q I r h
  obtain ⟨p, ys, rfl, hq, q⟩ := h
  obtain ⟨u, rfl, rx⟩ := vals1 r
  cases rx
  have fin : ∀ (its : List Value), Vals ys its → ys.length ≤ sizeLine → ∀ (h' : Heap) (c' : Nat), (∀ b o', s.heap.get? b = some o' → h'.get? b = some o') →
      h'.get? s.heap.objs.size = some { cls := .type "list", dict := none, data := .seq its.toArray c', slots := #[] } → EP X pins σ Q (.ref s.heap.objs.size) { s with heap := h' } := fun its r' hz h' c' kp e =>
    ⟨.ref s.heap.objs.size, _, I.laid (t' := s.toks) kp (Nat.le_refl _) (show ObjOk X.prog X.w _ h' _ (.lst ys) from ⟨hz, its, c', r', e⟩), rfl, q _ (I.hok.fresh (Nat.le_refl _))⟩
  rcases hq with hq | hq
  · obtain ⟨its, r', pl, hz⟩ := I.list hq
    have hlen := r'.length
    obtain ⟨o, ho, hc, n, hd⟩ := pl.isList
    exact call_list_seq p (.inl rfl) ho hc hd (fun h' c' kp e => fin its r' hz h' c' kp e) (by simp only [List.size_toArray] <;> omega)
  · obtain ⟨its, r', pl, hz⟩ := I.tuple hq
    have hlen := r'.length
    obtain ⟨o, ho, hc, n, hd⟩ := pl
    exact call_list_seq p (.inr rfl) ho hc hd (fun h' c' kp e => fin its r' hz h' c' kp e) (by simp only [List.size_toArray] <;> omega)
theorem call_tuple_of : CallR X (.type "tuple") (fun xs H Q => ∃ p ys, xs = [.ref p] ∧ ((SqL X.K H p ys ∧ ∀ l, H l = none → Q (.ref l) (upd H l (.tup ys))) ∨ (SqT X.K H p ys ∧ Q (.ref p) H))) := by
  intro pins s σ H xs us Q I r h
  obtain ⟨p, ys, rfl, h⟩ := h
  obtain ⟨u, rfl, rx⟩ := vals1 r
  cases rx
  rcases h with ⟨hq, q⟩ | ⟨hq, q⟩
  · obtain ⟨its, r', pl, hz⟩ := I.list hq
    have hlen := r'.length
    refine call_tuple_list pl.isList (fun h' kp => ?_) (by simp only [List.size_toArray] <;> omega)
    have I1 : Inv X pins σ H { s with heap := h' } := I.kept (t' := s.toks) kp
    have I2 : Inv X pins σ (upd H h'.objs.size (.tup ys)) { s with heap := h'.push { cls := .type "tuple", data := .seq its.toArray } } :=
      I1.laid (t' := s.toks) (fun b o e => Heap.get?_push_of_some _ e) (Nat.le_refl _) (show ObjOk X.prog X.w _ _ _ (.tup ys) from ⟨hz, its, r', IsTup.new _ _⟩)
    exact ⟨.ref h'.objs.size, _, I2, rfl, q _ (I1.hok.fresh (Nat.le_refl _))⟩
  · obtain ⟨its, r', pl, hz⟩ := I.tuple hq
    exact call_tuple_same pl ⟨.ref p, H, I, rfl, q⟩

/-! ### the call of a builtin's method: o.m(..) -/
/-- the value is of that builtin type -/
def tyV (K : PySem.W.Frag) (T : String) (x : V) (H : Hp) : Prop := match x with
  | .str _ => T = "str"
  | .int _ => T = "int"
  | .ref p => (T = "list" ∧ ∃ xs, SqL K H p xs) ∨ (T = "tuple" ∧ ∃ o, K.lookup p = some o ∧ o.cls = .type "tuple" ∧ o.dict = none) ∨
      (T = "dict" ∧ ((∃ kvs, H p = some (.dK kvs)) ∨ ∃ kvs, H p = some (.dT kvs))) ∨ (T = "set" ∧ ∃ S n, H p = some (.set S n))
  | _ => False
theorem tyV_is {pins : List (Addr × Obj)} {σ : St} {H : Hp} {s : Shared} {T : String} {x : V} {v : Value} (I : Inv X pins σ H s) (r : RelV x v) (ty : tyV X.K T x H) :
    s.TypeIs v T ∧ ∀ a, v = .ref a → ∃ ob, s.heap.get? a = some ob ∧ ob.dict = none := by
  cases x with
  | str z =>
    obtain ⟨t, rfl⟩ := r
    cases (show T = "str" from ty)
    exact ⟨typeIs_str s z t, fun _ e => nomatch e⟩
  | int i =>
    obtain ⟨t, rfl⟩ := r
    cases (show T = "int" from ty)
    exact ⟨typeIs_int s i t, fun _ e => nomatch e⟩
  | ref p =>
    cases r
    rcases ty with ⟨rfl, xs, hq⟩ | ⟨rfl, o, hk, hc, hd⟩ | ⟨rfl, hk⟩ | ⟨rfl, S, n, hk⟩
    · obtain ⟨its, _, pl, _⟩ := I.list hq
      refine ⟨pl.isList.typeIs, fun a e => ?_⟩
      cases e
      obtain ⟨o, n, e, c, hd, _⟩ := pl
      exact ⟨o, e, hd⟩
    · refine ⟨⟨o, I.kIn p o hk, hc⟩, fun a e => ?_⟩
      cases e
      exact ⟨o, I.kIn _ o hk, hd⟩
    · have z : ∃ o, s.heap.get? p = some o ∧ o.ExactDict := by
        rcases hk with ⟨kvs, hk⟩ | ⟨kvs, hk⟩
        · obtain ⟨_, _, _, _, o, _, _, e, ex, _⟩ := I.hok p _ hk
          exact ⟨o, e, ex⟩
        · obtain ⟨_, _, _, _, o, _, _, e, ex, _⟩ := I.hok p _ hk
          exact ⟨o, e, ex⟩
      obtain ⟨o, e, ex⟩ := z
      refine ⟨⟨o, e, ex.1⟩, fun a e2 => ?_⟩
      cases e2
      exact ⟨o, e, ex.2.1⟩
    · obtain ⟨o, _, _, _, e, ex, _⟩ := I.hok p _ hk
      refine ⟨⟨o, e, ex.1⟩, fun a e2 => ?_⟩
      cases e2
      exact ⟨o, e, ex.2.1⟩
  | _ => exact False.elim ty
def tBM0 (K : PySem.W.Frag) (T : String) (r : V → List V → Hp → VK → Prop) (to : TE) : TE := fun σ H Q => to σ H fun x H1 => tyV K T x H1 ∧ r x [] H1 Q
def tBM (K : PySem.W.Frag) (T : String) (r : V → List V → Hp → VK → Prop) (to : TE) (t : TA) : TE := fun σ H Q => to σ H fun x H1 => tyV K T x H1 ∧ t σ H1 fun xs H2 => r x xs H2 Q
variable {o e : Expr} {es : List Expr} {to : TE} {t : TA} {name : Str} {apos cpos : Pos} {T id : String} {r : V → List V → Hp → VK → Prop}
theorem pe_bm0 (pa : PlainAttrs T) (slot : Slot T name id) (hty : typeOf (.builtin id) = pure (.type "method_descriptor")) (hm : MtR X id r) (ho : PE X o to)
    (hbase : attributeBase o name X.env (eval o X.env) = eval o X.env := by rfl) (hline : (apos.endLine == cpos.line) = true := by rfl) : PE X (.Call (.Attribute o name apos) [] [] cpos) (tBM0 X.K T r to) := by
  intro pins s σ H Q I h
  refine wpAny_Call_method0_late hbase hline (thn (ho pins s σ H _ I h) fun v s1 ⟨x, H1, I1, r1, ty, q1⟩ => ?_)
  obtain ⟨h1, h2⟩ := tyV_is I1 r1 ty
  exact ⟨T, id, pa, slot, hty, h1, h2, Calls.callWith_builtin rfl (PySem.evalArgs_none (hm pins s1 σ H1 x [] v [] Q I1 r1 .nil q1))⟩
theorem pe_bm (pa : PlainAttrs T) (slot : Slot T name id) (hty : typeOf (.builtin id) = pure (.type "method_descriptor")) (hm : MtR X id r) (ho : PE X o to) (ha : PA X (e :: es) t)
    (hbase : attributeBase o name X.env (eval o X.env) = eval o X.env := by rfl)
    (hfew : ((backTo cpos (starEach (e :: es) X.env)).all (fun x => !x.1) && (backToKw cpos (keywordEach [] X.env)).all (fun x => x.1.isSome)
      && decide ((e :: es).length + ([] : List Keyword).length + (if ([] : List Keyword).isEmpty then 0 else 1) < 30)) = true := by rfl)
    (hline : (apos.endLine == cpos.line) = true := by rfl) (hs : starEach (e :: es) X.env = (false, eval e X.env) :: starEach es X.env := by rfl) (hplain : (backTo cpos (starEach es X.env)).any (·.1) = false := by rfl) :
    PE X (.Call (.Attribute o name apos) (e :: es) [] cpos) (tBM X.K T r to t) := by
  intro pins s σ H Q I h
  refine wpAny_Call_method_late hbase hfew hline rfl (thn (ho pins s σ H _ I h) fun v s1 ⟨x, H1, I1, r1, ty, q1⟩ => ?_)
  obtain ⟨h1, h2⟩ := tyV_is I1 r1 ty
  refine ⟨T, id, pa, slot, hty, h1, h2, ?_⟩
  have hA := ha cpos pins s1 σ H1 _ I1 q1
  rw [hs] at hA ⊢
  refine Calls.callWith_builtin (by show (false || (backTo cpos (starEach es X.env)).any (·.1)) = false; rw [hplain] <;> rfl) (Calls.evalArgs_plain ?_)
  exact thn hA fun us s2 ⟨vs, H2, I2, r2, q2⟩ => hm pins s2 σ H2 x vs v us Q I2 r1 r2 q2
/- xs.append(e), list.index on a module's tuple .. are MtR facts of 06m -/
end
end L2

namespace L2
open PySem PySem.Spec PyProof.Rows

def MtM (X : Cx) (id : String) (r : V → List V → Hp → VK → Prop) : Prop :=
  ∀ (pins : List (Addr × Obj)) (s : Shared) (σ : St) (H : Hp) (x : V) (xs : List V) (v : Value) (us : List Value) (Q : VK), Inv X pins σ H s → RelV x v → Vals xs us → r x xs H Q →
    wpAny (model X.prog X.w) X.A (call (.builtin id) (v :: us)) (EP X pins σ Q) X.xe s

/-! ### lists of values -/
theorem Vals.one : ∀ {x : V} {us : List Value}, Vals [x] us → ∃ u, us = [u] ∧ RelV x u
  | _, _, .cons r .nil => ⟨_, rfl, r⟩
theorem Vals.two : ∀ {x y : V} {us : List Value}, Vals [x, y] us → ∃ u v, us = [u, v] ∧ RelV x u ∧ RelV y v
  | _, _, _, .cons r (.cons q .nil) => ⟨_, _, rfl, r, q⟩
theorem Vals.zero : ∀ {us : List Value}, Vals [] us → us = []
  | _, .nil => rfl
theorem Vals.dropLast {xs : List V} {us : List Value} (h : Vals xs us) : Vals xs.dropLast us.dropLast := by
  induction h with
  | nil => exact .nil
  | cons r t ih =>
    cases t with
    | nil => exact .nil
    | cons q t' => exact .cons r ih
theorem Vals.eraseIdx : ∀ {xs : List V} {us : List Value} (i : Nat), Vals xs us → Vals (xs.eraseIdx i) (us.eraseIdx i)
  | _, _, _, .nil => .nil
  | _, _, 0, .cons _ t => t
  | _, _, i + 1, .cons r t => .cons r (Vals.eraseIdx i t)
theorem Vals.reverse {xs : List V} {us : List Value} (h : Vals xs us) : Vals xs.reverse us.reverse := by
  induction h with
  | nil => exact .nil
  | cons r t ih => rw [List.reverse_cons, List.reverse_cons]; exact Vals.append ih (.cons r .nil)
theorem Vals.rep {xs : List V} {us : List Value} (h : Vals xs us) : ∀ k : Nat, Vals (List.replicate k xs).flatten (List.replicate k us).flatten
  | 0 => .nil
  | k + 1 => by
    rw [List.replicate_succ, List.replicate_succ, List.flatten_cons, List.flatten_cons]
    exact Vals.append h (Vals.rep h k)
theorem erase_last {α : Type} (l : List α) : l.eraseIdx (l.length - 1) = l.dropLast := by
  induction l with
  | nil => rfl
  | cons a r ih =>
    cases r with
    | nil => rfl
    | cons b r =>
      have e : (a :: b :: r).length - 1 = ((b :: r).length - 1) + 1 := by
        have h1 : (a :: b :: r).length = r.length + 2 := rfl
        have h2 : (b :: r).length = r.length + 1 := rfl
        omega
      rw [e, List.eraseIdx_cons_succ, ih]
      all_goals rfl
theorem len_erase {α : Type} : ∀ (l : List α) (i : Nat), (l.eraseIdx i).length ≤ l.length
  | [], _ => Nat.le_refl _
  | _ :: _, 0 => Nat.le_succ _
  | _ :: r, i + 1 => Nat.succ_le_succ (len_erase r i)
theorem foldl_rep (its : List Value) : ∀ (k : Nat) (acc : List Value),
    List.foldl (fun x1 x2 => x1 ++ x2) acc.toArray (List.replicate k its.toArray) = (acc ++ (List.replicate k its).flatten).toArray
  | 0, acc => by simp
  | k + 1, acc => by
    have e : acc.toArray ++ its.toArray = (acc ++ its).toArray := by simp
    have e2 : (acc ++ its) ++ (List.replicate k its).flatten = acc ++ (List.replicate (k + 1) its).flatten := by
      rw [List.replicate_succ, List.flatten_cons, List.append_assoc]
    rw [← e2, ← foldl_rep its k (acc ++ its), ← e, List.replicate_succ, List.foldl_cons]

section
variable {X : Cx} {pins : List (Addr × Obj)} {σ : St} {H : Hp} {s : Shared} {l b : Addr} {xs ys zs : List V}

/-! ### the two steps: a tracked list is rewritten, a new list is laid -/
theorem Inv.lset {its its' : List Value} {n : Nat} {f : Array Value → Array Value} {t' : Nat} (I : Inv X pins σ H s) (hH : H l = some (.lst xs))
    (e : s.heap.get? l = some { cls := .type "list", data := .seq its.toArray n }) (hf : f its.toArray = its'.toArray) (hv : Vals ys its') (hz : ys.length ≤ sizeLine) :
    Inv X pins σ (upd H l (.lst ys)) { s with heap := s.heap.update l (Obj.mapSeq f), toks := t' } := by
  have q := PySem.IsL.update e f
  rw [hf] at q
  refine I.write (x := l) (e := l) (by rw [hH]; exact trivial) (.inl rfl) (fun b' u hb hu => (Heap.get?_update_other s.heap (Obj.mapSeq f) (Ne.symm hb)).trans hu) ⟨_, q⟩ ?_
  exact ⟨hz, its', _, hv, q⟩
theorem Inv.lnew {its : List Value} {t' : Nat} (I : Inv X pins σ H s) (hv : Vals ys its) (hz : ys.length ≤ sizeLine) :
    Inv X pins σ (upd H s.heap.objs.size (.lst ys)) { s with heap := s.heap.push { cls := .type "list", data := .seq its.toArray }, toks := t' } :=
  I.laid (fun _ _ q => Heap.get?_push_of_some _ q) (Nat.le_refl _) ⟨hz, its, 0, hv, Heap.get?_push_size _ rfl⟩
theorem Inv.fresh (I : Inv X pins σ H s) : H s.heap.objs.size = none := I.hok.fresh (Nat.le_refl _)
theorem Inv.lstM (I : Inv X pins σ H s) (hH : H l = some (.lst xs)) : xs.length ≤ sizeLine ∧ ∃ (its : List Value) (n : Nat), Vals xs its ∧ xs.length = its.length ∧ s.heap.get? l = some { cls := .type "list", data := .seq its.toArray n } := by
  obtain ⟨z, its, n, r, e⟩ := I.hok l _ hH
  exact ⟨z, its, n, r, r.length, e⟩

theorem notLongL {n : Nat} (h : n ≤ sizeLine) : Builtin.List.listTooLong n = false := by
  unfold Builtin.List.listTooLong
  exact decide_eq_false (by omega)
end

section
variable {X : Cx}

/-! ### methods -/
def rAppend : V → List V → Hp → VK → Prop := fun x vs H Q => ∃ l xs y, x = .ref l ∧ vs = [y] ∧ H l = some (.lst xs) ∧ xs.length < sizeLine ∧ Q .non (upd H l (.lst (xs ++ [y])))
theorem mt_append : MtM X "list.append" rAppend := by
  intro pins s σ H x vs v us Q I rx rv h
  obtain ⟨l, xs, y, rfl, rfl, hH, hz, q⟩ := h
  cases rx
  obtain ⟨u, rfl, ru⟩ := rv.one
  obtain ⟨z, its, n, r, hl, e⟩ := I.lstM hH
  refine call_meets F.slot_list_append ⟨_, e, rfl⟩ F.entry_list_append (F.args_list_append_2 _ _) (PySem.list_append l its.toArray n u (by rw [List.size_toArray]; omega)) ⟨e, ?_⟩
  refine ⟨.non, _, I.lset (its' := its ++ [u]) hH e (by simp) (r.append (.cons ru .nil)) ?_, rfl, q⟩
  rw [List.length_append, List.length_singleton]
  omega

def rExtend : V → List V → Hp → VK → Prop := fun x vs H Q => ∃ l b xs zs, x = .ref l ∧ vs = [.ref b] ∧ H l = some (.lst xs) ∧ H b = some (.lst zs) ∧ xs.length + zs.length ≤ sizeLine ∧ Q .non (upd H l (.lst (xs ++ zs)))
theorem mt_extend : MtM X "list.extend" rExtend := by
  intro pins s σ H x vs v us Q I rx rv h
  obtain ⟨l, b, xs, zs, rfl, rfl, hH, hB, hz, q⟩ := h
  cases rx
  obtain ⟨u, rfl, ru⟩ := rv.one
  cases ru
  obtain ⟨z, its, n, r, hl, e⟩ := I.lstM hH
  obtain ⟨z2, its2, n2, r2, hl2, e2⟩ := I.lstM hB
  have hsz : its.toArray.size + its2.toArray.size ≤ sizeLine := by rw [List.size_toArray, List.size_toArray]; omega
  have hlong : ¬ (!its.toArray.isEmpty && Builtin.List.listTooLong (its.toArray.size + its2.toArray.size)) = true := by
    rw [notLongL hsz, Bool.and_false]
    exact Bool.false_ne_true
  refine call_meets F.slot_list_extend ⟨_, e, rfl⟩ F.entry_list_extend (F.args_list_extend_2 _ _)
    (AutoSeq1.list_extend_list_list_0 l its.toArray n b its2.toArray n2 hlong (by rw [List.size_toArray]; omega) (by omega)) ⟨e, e2, ?_⟩
  refine ⟨.non, _, I.lset (its' := its ++ its2) hH e (by simp) (r.append r2) ?_, rfl, q⟩
  rw [List.length_append]
  omega

def rPop : V → List V → Hp → VK → Prop := fun x vs H Q => ∃ l xs y, x = .ref l ∧ vs = [] ∧ H l = some (.lst xs) ∧ xs[xs.length - 1]? = some y ∧ Q y (upd H l (.lst xs.dropLast))
theorem mt_pop : MtM X "list.pop" rPop := by
  intro pins s σ H x vs v us Q I rx rv h
  obtain ⟨l, xs, y, rfl, rfl, hH, hy, q⟩ := h
  cases rx
  have hus := rv.zero
  subst hus
  obtain ⟨z, its, n, r, hl, e⟩ := I.lstM hH
  obtain ⟨u, hu, ru⟩ := r.get hy
  have hy' : its.toArray[its.toArray.size - 1]? = some u := by
    show its.toArray[its.length - 1]? = some u
    rw [← Array.getElem?_toList, ← hl]
    exact hu
  refine call_meets F.slot_list_pop ⟨_, e, rfl⟩ F.entry_list_pop (F.args_list_pop_1 _) (MeetsSeq.list_pop_last l its.toArray n u hy' (by rw [List.size_toArray]; omega)) ⟨e, ?_⟩
  refine ⟨y, _, I.lset (its' := its.dropLast) hH e ?_ r.dropLast ?_, ru, q⟩
  · show its.toArray.eraseIdxIfInBounds (its.toArray.size - 1) = its.dropLast.toArray
    rw [List.size_toArray, List.eraseIdxIfInBounds_toArray, erase_last]
  · rw [List.length_dropLast]
    omega

def rPopAt : V → List V → Hp → VK → Prop := fun x vs H Q => ∃ l xs i k y, x = .ref l ∧ vs = [.int i] ∧ H l = some (.lst xs) ∧ -(2 ^ 63) ≤ i ∧ i < 2 ^ 63 ∧ seqIndex? i xs.length = some k ∧ xs[k]? = some y ∧ Q y (upd H l (.lst (xs.eraseIdx k)))
theorem mt_popAt : MtM X "list.pop" rPopAt := by
  intro pins s σ H x vs v us Q I rx rv h
  obtain ⟨l, xs, i, k, y, rfl, rfl, hH, h1, h2, hk, hy, q⟩ := h
  cases rx
  obtain ⟨u, rfl, ru⟩ := rv.one
  obtain ⟨t, rfl⟩ := ru
  obtain ⟨z, its, n, r, hl, e⟩ := I.lstM hH
  obtain ⟨w, hw, rw'⟩ := r.get hy
  refine call_meets F.slot_list_pop ⟨_, e, rfl⟩ F.entry_list_pop (F.args_list_pop_2 _ _)
    (MeetsSeq.list_pop_at l its.toArray n i t k w (fitsIndex_both h1 h2) (by rw [List.size_toArray, ← hl]; exact hk) (by rw [← Array.getElem?_toList]; exact hw) (by rw [List.size_toArray]; omega)) ⟨e, ?_⟩
  refine ⟨y, _, I.lset (its' := its.eraseIdx k) hH e ?_ (r.eraseIdx k) ?_, rw', q⟩
  · show its.toArray.eraseIdxIfInBounds k = (its.eraseIdx k).toArray
    rw [List.eraseIdxIfInBounds_toArray]
  · have := len_erase xs k
    omega

def rReverse : V → List V → Hp → VK → Prop := fun x vs H Q => ∃ l xs, x = .ref l ∧ vs = [] ∧ H l = some (.lst xs) ∧ Q .non (upd H l (.lst xs.reverse))
theorem mt_reverse : MtM X "list.reverse" rReverse := by
  intro pins s σ H x vs v us Q I rx rv h
  obtain ⟨l, xs, rfl, rfl, hH, q⟩ := h
  cases rx
  have hus := rv.zero
  subst hus
  obtain ⟨z, its, n, r, hl, e⟩ := I.lstM hH
  refine call_meets F.slot_list_reverse ⟨_, e, rfl⟩ F.entry_list_reverse (F.args_list_reverse_1 _) (AutoSeq1.list_reverse_list_0 l its.toArray n (by rw [List.size_toArray]; omega)) ⟨e, ?_⟩
  refine ⟨.non, _, I.lset (its' := its.reverse) hH e (by simp) r.reverse ?_, rfl, q⟩
  rw [List.length_reverse]
  omega

def rClear : V → List V → Hp → VK → Prop := fun x vs H Q => ∃ l xs, x = .ref l ∧ vs = [] ∧ H l = some (.lst xs) ∧ Q .non (upd H l (.lst []))
theorem mt_clear : MtM X "list.clear" rClear := by
  intro pins s σ H x vs v us Q I rx rv h
  obtain ⟨l, xs, rfl, rfl, hH, q⟩ := h
  cases rx
  have hus := rv.zero
  subst hus
  obtain ⟨z, its, n, r, hl, e⟩ := I.lstM hH
  refine call_meets F.slot_list_clear ⟨_, e, rfl⟩ F.entry_list_clear (F.args_list_clear_1 _) (AutoSeq1.list_clear_list_0 l its.toArray n (by rw [List.size_toArray]; omega)) ⟨e, ?_⟩
  exact ⟨.non, _, I.lset (its' := []) (ys := []) hH e rfl .nil (Nat.zero_le _), rfl, q⟩

/-! ### list + list, list += list, list * int -/
def rCat : R2 := fun x y H Q => ∃ l b xs zs, x = .ref l ∧ y = .ref b ∧ H l = some (.lst xs) ∧ H b = some (.lst zs) ∧ xs.length + zs.length ≤ sizeLine ∧ ∀ p, H p = none → Q (.ref p) (upd H p (.lst (xs ++ zs)))
theorem op_cat : OpR X (binaryOp .Add) rCat := by
  intro pins s σ H x y v u Q I rx ry h
  obtain ⟨l, b, xs, zs, rfl, rfl, hH, hB, hz, q⟩ := h
  cases rx
  cases ry
  obtain ⟨z, its, n, r, hl, e⟩ := I.lstM hH
  obtain ⟨z2, its2, n2, r2, hl2, e2⟩ := I.lstM hB
  refine PySem.P.add_list e e2 ?_ (by rw [List.size_toArray, List.size_toArray]; omega)
  have ea : its.toArray ++ its2.toArray = (its ++ its2).toArray := by simp
  rw [ea]
  exact ⟨.ref _, _, I.lnew (t' := s.toks) (r.append r2) (by rw [List.length_append]; omega), rfl, q _ I.fresh⟩
/-- a list times an int (a negative one is nothing) -/
def rRep : R2 := fun x y H Q => ∃ l k xs, x = .ref l ∧ y = .int k ∧ H l = some (.lst xs) ∧ -(2 ^ 63) ≤ k ∧ k < 2 ^ 63 ∧ xs.length * k.toNat ≤ sizeLine ∧
  ∀ p, H p = none → Q (.ref p) (upd H p (.lst (List.replicate k.toNat xs).flatten))
theorem len_rep {α : Type} (xs : List α) (k : Nat) : (List.replicate k xs).flatten.length = k * xs.length := by
  induction k with
  | zero => simp
  | succ k ih => rw [List.replicate_succ, List.flatten_cons, List.length_append, ih, Nat.succ_mul, Nat.add_comm]
theorem op_rep : OpR X (binaryOp .Mult) rRep := by
  intro pins s σ H x y v u Q I rx ry h
  obtain ⟨l, k, xs, rfl, rfl, hH, h1, h2, hz, q⟩ := h
  cases rx
  obtain ⟨t, rfl⟩ := ry
  obtain ⟨z, its, n, r, hl, e⟩ := I.lstM hH
  have hlen : its.toArray.size * k.toNat ≤ sizeLine := by rw [List.size_toArray, ← hl]; exact hz
  have hcap : ¬ its.toArray.size * k.toNat > (2 ^ 63 - 1) / 8 := by
    have : (sizeLine : Nat) ≤ (2 ^ 63 - 1) / 8 := by decide
    omega
  have hfit : ¬ (!Builtin.List.listFitsIndex k) = true := by
    rw [fitsIndex_both h1 h2]
    exact Bool.false_ne_true
  have hlong : ¬ Builtin.List.listTooLong (its.toArray.size * k.toNat) = true := by
    rw [notLongL hlen]
    exact Bool.false_ne_true
  have hnew : List.foldl (fun x1 x2 => x1 ++ x2) #[] (List.replicate (if its.toArray.isEmpty = true then 0 else k.toNat) its.toArray) = (List.replicate k.toNat its).flatten.toArray := by
    have f0 : ∀ m : Nat, List.foldl (fun x1 x2 => x1 ++ x2) #[] (List.replicate m its.toArray) = (List.replicate m its).flatten.toArray := fun m => by
      have := foldl_rep its m []
      rw [List.nil_append] at this
      exact this
    rw [f0]
    cases its with
    | nil => simp
    | cons a r' => rw [if_neg (by simp)]
  refine wpAny_binaryOp_repeat_ref (T := "list") (U := "int") (by decide) ⟨_, e, rfl⟩ (fun s' => typeIs_int s' k t) noFill_list_mul F.fills_int_mul F.slot_int_rmul repeat_list F.slot_int_index.lookup
    (call_meets F.slot_int_rmul (typeIs_int s k t) F.entry_int_rmul (F.args_int_rmul_2 _ _) (int___rmul___int_list k t l its.toArray n)
      ⟨e, rfl, ⟨_, e, rfl⟩, call_meets F.slot_list_mul ⟨_, e, rfl⟩ F.entry_list_mul (F.args_list_mul_2 _ _) (AutoListH.list___mul___list_int_3 l its.toArray n k t hfit hcap hlong) ⟨e, ?_⟩⟩)
  rw [hnew]
  exact ⟨.ref _, _, I.lnew (t' := s.toks) (r.rep k.toNat) (by rw [len_rep, Nat.mul_comm]; exact hz), rfl, q _ I.fresh⟩

/-! ### del xs[i] -/
theorem del_list {pins : List (Addr × Obj)} {s : Shared} {σ : St} {H : Hp} {l : Addr} {xs : List V} {i : Int} {t : Tok} {k : Nat} {Q : Unit → Shared → Prop} (I : Inv X pins σ H s) (hH : H l = some (.lst xs))
    (h1 : -(2 ^ 63) ≤ i) (h2 : i < 2 ^ 63) (hk : seqIndex? i xs.length = some k) (h : ∀ s', Inv X pins σ (upd H l (.lst (xs.eraseIdx k))) s' → Q () s') :
    wpAny (model X.prog X.w) X.A (delItem (.ref l) (.int i t)) Q X.xe s := by
  obtain ⟨z, its, n, r, hl, e⟩ := I.lstM hH
  refine PySem.P.delItem_list (k := k) e (fitsIndex_both h1 h2) (by rw [List.size_toArray, ← hl]; exact hk) (h _ ?_) (by rw [List.size_toArray]; omega)
  refine I.lset (its' := its.eraseIdx k) (t' := s.toks) hH e ?_ (r.eraseIdx k) ?_
  · show its.toArray.eraseIdxIfInBounds k = (its.eraseIdx k).toArray
    rw [List.eraseIdxIfInBounds_toArray]
  · have := len_erase xs k
    omega
end

/-! ### xs[a:b] = ys -/
section
variable {prog : Program} {w : World} {A : Around} {E : Value → Shared → Prop} {s : Shared}
theorem splice_eq (its its2 : List Value) (a c : Nat) : its.toArray.extract 0 a ++ its2.toArray ++ its.toArray.extract c its.toArray.size = (its.take a ++ its2 ++ its.drop c).toArray := by
  apply Array.toList_inj.mp
  first
    | (simp
       exact List.take_of_length_le (by simp))
    | simp [List.take_of_length_le]
    | simp
theorem bounds_run {a c n : Nat} (hac : a ≤ c) (hc : c ≤ n) : sliceBounds (some (a : Int)) (some (c : Int)) none n = ((a : Int), (c : Int), 1) := by
  simp only [sliceBounds, Option.getD_none]
  have h1 : ¬ ((a : Int) < 0) := by omega
  have h2 : ¬ ((c : Int) < 0) := by omega
  simp only [h1, h2, if_false, show (1 : Int) > 0 by decide, if_true]
  congr 1
  · omega
  · congr 1; omega
set_option maxRecDepth 100000 in
/-- list.__setitem__ with a slice of step one and another list -/
theorem setItem_slice {l b sl : Addr} {items new : Array Value} {n n2 : Nat} {vl vu : Value} {a c : Nat} {Q : Unit → Shared → Prop}
    (e : s.heap.get? l = some { cls := .type "list", data := .seq items n }) (e2 : s.heap.get? b = some { cls := .type "list", data := .seq new n2 }) (hne : l ≠ b)
    (hs : s.heap.IsSliceOf sl vl vu .none) (pl : IsPart vl (some (a : Int))) (pu : IsPart vu (some (c : Int))) (hac : a ≤ c) (hc : c ≤ items.size)
    (hsz : items.size + new.size ≤ sizeLine) (h : Q () { s with heap := s.heap.update l (Obj.mapSeq fun xs => xs.extract 0 a ++ new ++ xs.extract c xs.size) }) :
    wpAny (model prog w) A (setItem (.ref l) (.ref sl) (.ref b)) Q E s := by
  have hl : s.heap.IsList l items := PySem.IsL.isList e
  have hb : s.heap.IsList b new := PySem.IsL.isList e2
  obtain ⟨os, hos, hcs, hds⟩ := id hs
  have hTs : s.TypeIs (.ref sl) "slice" := ⟨os, hos, hcs⟩
  have hstep : ¬ ((rawPart none == rawInt 0) = true) := Bool.false_ne_true
  have hsame : Builtin.List.listSameRef (.ref l) (.ref b) = false := by
    unfold Builtin.List.listSameRef
    exact beq_eq_false_iff_ne.mpr hne
  have hmax : (max (a : Int) (c : Int)).toNat = c := by omega
  have hz' : ((fun xs : Array Value => xs.extract 0 a ++ new ++ xs.extract c xs.size) items).size ≤ sizeLine + 1 := by
    simp only [Array.size_append, Array.size_extract]
    omega
  unfold setItem
  try with_reducible refine wpAny_holding ?_
  first | refine wpAny_bind (wpAny_pure ?_) | skip
  refine wpAny_bind (wpAny_sequenceKey hl.typeIs (by decide) ?_)
  refine wpAny_bind (wpAny_callSpecial?_slot (name := Str.ofString "__setitem__") hl.typeIs slot_list_setitem
    (wpAny_call_entry slot_list_setitem hl.typeIs entry_list_setitem ?_ (args_list_setitem _ _ _)))
  show wpAny _ _ (Builtin.List.listSubscript? (.ref sl) >>= _) _ _ s
  refine wpAny_bind ?_
  unfold Builtin.List.listSubscript?
  refine wpAny_bind (wpAny_specialOf hTs slice_no_index ?_)
  simp only [Option.isNone_none, if_true]
  refine wpAny_pure ?_
  show wpAny _ _ (typeOf (.ref sl) >>= _) _ _ s
  refine wpAny_bind (wpAny_typeOf hTs ?_)
  first
    | rw [if_neg (by decide)]
    | refine PySem.W.KFB.if_not (by decide) ?_
  rw [listSliceParts_eq]
  refine wpAny_bind (wpAny_bind (wpAny_field hos hds (x := .none) rfl (wpAny_bind (wpAny_listPart .none ?_))))
  rw [if_neg hstep]
  refine wpAny_bind (wpAny_field hos hds (x := vl) rfl (wpAny_bind (wpAny_listPart pl ?_)))
  refine wpAny_bind (wpAny_field hos hds (x := vu) rfl (wpAny_bind (wpAny_listPart pu (wpAny_pure ?_))))
  first
    | simp only [hsame, Bool.false_eq_true, if_false]
    | refine PySem.W.KFB.if_not hsame ?_
    | (dsimp only
       rw [if_neg (by rw [hsame]; exact Bool.false_ne_true)])
  refine wpAny_bind (m := Builtin.List.listAllItems (.ref b) "must assign iterable to extended slice") ?_
  unfold Builtin.List.listAllItems
  refine wpAny_bind (wpAny_typeOf hb.typeIs ?_)
  first
    | refine PySem.W.KFB.if_so (by decide) ?_
    | rw [if_pos (by decide)]
    | simp only [beq_self_eq_true, Bool.true_or, if_true]
  unfold Builtin.List.listItems
  refine wpAny_bind (wpAny_seqItems e2 rfl (wpAny_pure ?_))
  refine wpAny_bind (wpAny_bind (wpAny_seqItems e rfl (wpAny_pure ?_)))
  refine wpAny_bind (wpAny_of_eq ((sliceIndices_raw (some (a : Int)) (some (c : Int)) none items.size (by simp)).trans (congrArg (pure : Int × Int × Int → Sem (Int × Int × Int)) (bounds_run hac hc))) ?_)
  show wpAny _ _ (if ((1 : Int) == 1) = true then _ else _) _ _ s
  rw [if_pos (by decide)]
  refine wpAny_bind (wpAny_rule ?_)
  first
    | simp only [notLongL hsz, Bool.false_eq_true, if_false]
    | refine PySem.W.KFB.if_not (notLongL hsz) ?_
  first | refine wpAny_bind (wpAny_pure ?_) | skip
  show wpAny _ _ (updateSeq l (fun xs => xs.extract 0 ((a : Int)).toNat ++ new ++ xs.extract (max (a : Int) (c : Int)).toNat xs.size) >>= _) _ _ s
  rw [hmax, Int.toNat_natCast]
  refine wpAny_bind (wpAny_updateSeq (hz := Nat.le_trans (Nat.le_add_right _ _) hsz) (_hz' := hz') e rfl ?_)
  refine wpAny_bind (wpAny_letGo ?_)
  first
    | exact wpAny_bind (wpAny_pure (wpAny_pure ⟨.none, rfl, wpAny_pure h⟩))
    | exact wpAny_pure ⟨.none, rfl, wpAny_pure h⟩
end

section
variable {X : Cx}
/-- xs[a:c] = ys of another list, at the value level: sl is the slice object that was just made -/
theorem set_slice {pins : List (Addr × Obj)} {s : Shared} {σ : St} {H : Hp} {l b sl : Addr} {xs ys : List V} {a c : Int} {vl vu : Value} {Q : Unit → Shared → Prop} (I : Inv X pins σ H s)
    (hH : H l = some (.lst xs)) (hB : H b = some (.lst ys)) (hne : l ≠ b) (hs : s.heap.IsSliceOf sl vl vu .none) (ra : RelV (.int a) vl) (rc : RelV (.int c) vu) (h0 : 0 ≤ a) (hac : a ≤ c) (hc : c ≤ xs.length)
    (hz : xs.length + ys.length ≤ sizeLine) (h : ∀ s', Inv X pins σ (upd H l (.lst (xs.take a.toNat ++ ys ++ xs.drop c.toNat))) s' → Q () s') :
    wpAny (model X.prog X.w) X.A (setItem (.ref l) (.ref sl) (.ref b)) Q X.xe s := by
  obtain ⟨ta, rfl⟩ := ra
  obtain ⟨tc, rfl⟩ := rc
  obtain ⟨z, its, n, r, hl, e⟩ := I.lstM hH
  obtain ⟨z2, its2, n2, r2, hl2, e2⟩ := I.lstM hB
  obtain ⟨a', rfl⟩ := Int.eq_ofNat_of_zero_le h0
  obtain ⟨c', rfl⟩ := Int.eq_ofNat_of_zero_le (Int.le_trans h0 hac)
  simp only [Int.toNat_natCast] at h
  refine setItem_slice (a := a') (c := c') e e2 hne hs (.int _ _) (.int _ _) (by omega) (by rw [List.size_toArray]; omega) (by rw [List.size_toArray, List.size_toArray]; omega) (h _ ?_)
  refine I.lset (its' := its.take a' ++ its2 ++ its.drop c') (t' := s.toks) hH e ?_ (Vals.append (Vals.append (r.take _) r2) (r.drop _)) ?_
  · exact splice_eq its its2 a' c'
  · rw [List.length_append, List.length_append, List.length_take, List.length_drop]
    omega
end
end L2

namespace Att
open PySem PySem.W PySem.Calls PyProof.Rows

/-! ### the script -/
theorem ints_of_wellAll {P : Params} {h : Heap} : ∀ (ns : List Int) (vs : List Value), WellAll P h vs (ns.map WData.int) → IntsAre vs ns := by
  intro ns
  induction ns with
  | nil =>
    intro vs w
    rw [List.map_nil] at w
    cases w
    exact .nil
  | cons n ns ih =>
    intro vs w
    rw [List.map_cons] at w
    cases w with
    | cons a b =>
      cases a
      exact .cons _ _ (ih _ b)

theorem script_of {l : OpenLaw} {n : Nat} (hn : l.most = some n) {P : Params} {h : Heap} {args : List WData} {vals : List Value}
    (hpre : l.row.toRowW.claim.pre args = true) (hwl : WellAll P h vals args) :
    ∃ a vs ns, vals = [Value.ref a] ∧ args = [WData.list (ns.map WData.int)] ∧ h.get? a = some { cls := .type "list", data := .seq vs.toArray } ∧ IntsAre vs ns ∧ ns.length ≤ n := by
  have hsh : WShape.hasAll [] args [.list .int] = true := (pre_splitW hpre).1
  have hc : l.pre.holds [] { args := args } = true := (pre_splitW hpre).2
  obtain ⟨d, r, rfl, h1, h2⟩ := hasAllW_cons hsh
  obtain rfl := hasAllW_nil h2
  obtain ⟨xs, rfl, h3⟩ := hasW_list h1
  obtain ⟨ns, rfl⟩ := items_int h3
  have hlen : ns.length ≤ n := by
    unfold OpenLaw.pre at hc
    have h4 : (WTm.not (.lt (.lit (.int (n : Int))) (.len (.arg 0)))).holds [] { args := [.list (ns.map .int)] } = true := by
      have h4 := (holds_andW hc).1
      rw [hn] at h4
      exact h4
    have h5 := condW_of h4 (w_not (w_lt w_lit (w_len_list (w_arg rfl))))
    rw [List.length_map] at h5
    refine Nat.le_of_not_lt fun q => ?_
    have q' : (n : Int) < ((ns.length : Nat) : Int) := by omega
    first
      | (rw [decide_eq_true q'] at h5; exact absurd h5 (by decide))
      | (simp at h5; omega)
  cases hwl with
  | cons w1 w2 =>
    cases w2
    cases w1 with
    | list ho hall => exact ⟨_, _, ns, rfl, rfl, ho, ints_of_wellAll ns _ hall, hlen⟩

theorem post_true (l : OpenLaw) (args : List WData) : l.row.toRowW.claim.post args (.bool true) args = true :=
  postW_of (r := l.row.toRowW) (X := (true == true))
    (show WShape.has [] (.bool true) .bool = true by first | rfl | decide | simp [WShape.has, WShape.arms, WShape.armsAll])
    (show (WTm.eq .res (.lit (.bool true))).value [] { args := args, res := some (.bool true), after := args } = some (.bool (true == true)) from w_eq_bool (w_res rfl) w_lit) rfl

/-! ### the attachment: holds_open's last premise (the goal 'hc' behind k_head) from a wpAny of the law's body -/
theorem attach {l : OpenLaw} {n : Nat} {q : Program} {loose : List Str} {XP : (Str → Option Value) → Heap → Prop} {YP : World → Heap → Prop} {d : DefRec} {x : Str}
    (hn : l.most = some n) (hdf : d.params.defaults = [])
    (hbind : ∀ pm cd doc v : Value, bindArgs (docDef d.name d.params d.body d.scope pm cd doc) ⟨[v], []⟩ = pure [(x, v)])
    (hx : d.scope.names.lookup x = some .local ∨ d.scope.names.lookup x = some .cell)
    (hk : d.scope.kind = .function) (hco : d.scope.isCoroutine = false) (hgen : d.scope.isGenerator = false)
    (body : ∀ (w : World) (s₀ s₁ s : Shared) (mg mb : Str → Option Value) (fa : Addr) (o : Obj) (pm cd doc : Value) (a : Addr) (vs : List Value) (ns : List Int),
      Ground q loose [] XP w s₀ mg mb s₁.heap → YP w s₁.heap →
      s₁.heap.get? fa = some o → o.data = .func (docDef d.name d.params d.body d.scope pm cd doc) → s₁.heap.CodeRec cd d.name → mg d.name = some (.ref fa) →
      s₁.heap.get? a = some { cls := .type "list", data := .seq vs.toArray } → IntsAre vs ns → ns.length ≤ n →
      s.gens = #[] → s.os = s₁.os →
      Fr s₁.heap s₁.heap.objs.size s.heap (bindL (envOfC d.name d.scope s₁.heap.objs.size fa cd).kindOf [(x, .ref a)] fun _ => none) →
      Cl s₁.heap.objs.size (cellsFrom (s₁.heap.objs.size + 1) d.scope.names []) s.heap (bindC (envOfC d.name d.scope s₁.heap.objs.size fa cd).kindOf [(x, .ref a)] fun _ => none) →
      wpAny (model l.prog w) (callerA.deeper (envOfC d.name d.scope s₁.heap.objs.size fa cd)) (execs d.body (envOfC d.name d.scope s₁.heap.objs.size fa cd))
        (fun f s' => f = .ret (.bool true) ∧ OldK s₁.heap s'.heap ∧ s'.os = s₁.os ∧ AllBare s'.gens) (fun _ _ => False) s) :
    WalkO q loose XP YP l.row.toRowW d [] (fun f vs => PySem.call f vs) := by
  intro w s₀ s₁ mg mb G Y fa o pm cd doc dV kV ho hd hcd hD hmg hg args vals as hpre hlay hrd hwl hlo
  obtain rfl : dV = .none := Dflts.none hD hdf
  obtain rfl : kV = .none := Dflts.noKw hD
  obtain ⟨a, vs, ns, rfl, rfl, hobj, hints, hlen⟩ := script_of hn hpre hwl
  refine enter_call ?_
  refine call_cells_ret (o := o) (by rw [depth_caller]; decide) ho (fd_plain hd) G.T.nolimit hcd (hbind pm cd doc (.ref a)) (fun y hy => ?_) (fun h₁ tk F X => ?_) hco hgen hk
  · obtain rfl : y = (x, Value.ref a) := List.mem_singleton.mp hy
    rcases hx with e | e
    · exact .inl e
    · exact .inr ⟨e, cellsFrom_some _ _ _ (.inl e)⟩
  · refine wpAny_mono (body w s₀ s₁ { s₁ with heap := h₁, toks := tk } mg mb fa o pm cd doc a vs ns G Y ho (fd_plain hd) hcd hmg hobj hints hlen hg rfl F X) (fun f s' hq => ?_) (fun _ _ hq => hq)
    obtain ⟨rfl, h2, h3, h4⟩ := hq
    exact ⟨.inl ⟨.bool true, .bool true, [], rfl, fun _ => rfl, .bool true, post_true l _, fun _ => ⟨List.Pairwise.nil, fun _ hm => (nomatch hm)⟩⟩, h2, h3, h4⟩

/-- the same from a codeAny of the CALL (for a layer whose function contracts speak of calls) -/
theorem attach_call {l : OpenLaw} {n : Nat} {q : Program} {loose : List Str} {XP : (Str → Option Value) → Heap → Prop} {YP : World → Heap → Prop} {d : DefRec}
    (hn : l.most = some n) (hdf : d.params.defaults = [])
    (call : ∀ (w : World) (s₀ s₁ : Shared) (mg mb : Str → Option Value) (fa : Addr) (o : Obj) (pm cd doc : Value) (a : Addr) (vs : List Value) (ns : List Int),
      Ground q loose [] XP w s₀ mg mb s₁.heap → YP w s₁.heap →
      s₁.heap.get? fa = some o → o.data = .func (docDef d.name d.params d.body d.scope pm cd doc) → s₁.heap.CodeRec cd d.name → mg d.name = some (.ref fa) →
      s₁.heap.get? a = some { cls := .type "list", data := .seq vs.toArray } → IntsAre vs ns → ns.length ≤ n → s₁.gens = #[] →
      codeAny (model l.prog w) callerA (.call (.ref fa) ⟨[.ref a], []⟩) (fun r s' => r = .ok (.ret (.bool true)) ∧ OldK s₁.heap s'.heap ∧ s'.os = s₁.os ∧ AllBare s'.gens) s₁) :
    WalkO q loose XP YP l.row.toRowW d [] (fun f vs => PySem.call f vs) := by
  intro w s₀ s₁ mg mb G Y fa o pm cd doc dV kV ho hd hcd hD hmg hg args vals as hpre hlay hrd hwl hlo
  obtain rfl : dV = .none := Dflts.none hD hdf
  obtain rfl : kV = .none := Dflts.noKw hD
  obtain ⟨a, vs, ns, rfl, rfl, hobj, hints, hlen⟩ := script_of hn hpre hwl
  refine enter_call (codeAny_mono (call w s₀ s₁ mg mb fa o pm cd doc a vs ns G Y ho (fd_plain hd) hcd hmg hobj hints hlen hg) fun r s' hq => ?_)
  obtain ⟨rfl, h2, h3, h4⟩ := hq
  exact ⟨.inl ⟨.bool true, .bool true, [], rfl, fun _ => rfl, .bool true, post_true l _, fun _ => ⟨List.Pairwise.nil, fun _ hm => (nomatch hm)⟩⟩, h2, h3, h4⟩

/-- the same where the top left finished generators (o_head chose holds_openN): nothing may have changed at all and no generator may be left -/
theorem attachN {l : OpenLaw} {n : Nat} {q : Program} {loose : List Str} {XP : (Str → Option Value) → Heap → Prop} {YP : World → Heap → Prop} {d : DefRec} {x : Str}
    (hn : l.most = some n) (hdf : d.params.defaults = [])
    (hbind : ∀ pm cd doc v : Value, bindArgs (docDef d.name d.params d.body d.scope pm cd doc) ⟨[v], []⟩ = pure [(x, v)])
    (hx : d.scope.names.lookup x = some .local ∨ d.scope.names.lookup x = some .cell)
    (hk : d.scope.kind = .function) (hco : d.scope.isCoroutine = false) (hgen : d.scope.isGenerator = false)
    (body : ∀ (w : World) (s₀ s₁ s : Shared) (mg mb : Str → Option Value) (fa : Addr) (o : Obj) (pm cd doc : Value) (a : Addr) (vs : List Value) (ns : List Int),
      Ground q loose [] XP w s₀ mg mb s₁.heap → YP w s₁.heap →
      s₁.heap.get? fa = some o → o.data = .func (docDef d.name d.params d.body d.scope pm cd doc) → s₁.heap.CodeRec cd d.name → mg d.name = some (.ref fa) →
      s₁.heap.get? a = some { cls := .type "list", data := .seq vs.toArray } → IntsAre vs ns → ns.length ≤ n →
      s.gens = #[] → s.os = s₁.os →
      Fr s₁.heap s₁.heap.objs.size s.heap (bindL (envOfC d.name d.scope s₁.heap.objs.size fa cd).kindOf [(x, .ref a)] fun _ => none) →
      Cl s₁.heap.objs.size (cellsFrom (s₁.heap.objs.size + 1) d.scope.names []) s.heap (bindC (envOfC d.name d.scope s₁.heap.objs.size fa cd).kindOf [(x, .ref a)] fun _ => none) →
      wpAny (model l.prog w) (callerA.deeper (envOfC d.name d.scope s₁.heap.objs.size fa cd)) (execs d.body (envOfC d.name d.scope s₁.heap.objs.size fa cd))
        (fun f s' => f = .ret (.bool true) ∧ (∀ b o, s₁.heap.get? b = some o → s'.heap.get? b = some o) ∧ s'.os = s₁.os ∧ s'.gens = #[]) (fun _ _ => False) s) :
    WalkN q loose XP YP l.row.toRowW d [] (fun f vs => PySem.call f vs) := by
  intro w s₀ s₁ mg mb G Y fa o pm cd doc dV kV ho hd hcd hD hmg hg args vals as hpre hlay hrd hwl hlo
  obtain rfl : dV = .none := Dflts.none hD hdf
  obtain rfl : kV = .none := Dflts.noKw hD
  obtain ⟨a, vs, ns, rfl, rfl, hobj, hints, hlen⟩ := script_of hn hpre hwl
  refine enter_callW ?_
  refine call_cells_ret (o := o) (by rw [depth_caller]; decide) ho (fd_plain hd) G.T.nolimit hcd (hbind pm cd doc (.ref a)) (fun y hy => ?_) (fun h₁ tk F X => ?_) hco hgen hk
  · obtain rfl : y = (x, Value.ref a) := List.mem_singleton.mp hy
    rcases hx with e | e
    · exact .inl e
    · exact .inr ⟨e, cellsFrom_some _ _ _ (.inl e)⟩
  · refine wpAny_mono (body w s₀ s₁ { s₁ with heap := h₁, toks := tk } mg mb fa o pm cd doc a vs ns G Y ho (fd_plain hd) hcd hmg hobj hints hlen hg rfl F X) (fun f s' hq => ?_) (fun _ _ hq => hq)
    obtain ⟨rfl, h2, h3, h4⟩ := hq
    exact ⟨.inl ⟨.bool true, .bool true, [], rfl, fun _ => rfl, .bool true, post_true l _, fun _ => ⟨List.Pairwise.nil, fun _ hm => (nomatch hm)⟩⟩, h2, h3, h4⟩

/-! ### rules over ANY heap (no ledger) from facts about the written part K: the library's own take a ledger (News) for what they write -/
section
variable {prog : Program} {w : World} {A : Around} {E : Value → Shared → Prop} {s : Shared} {K : Frag}

/-- a def of the module, or a method (qual 'C.m'), entered: the frame is the next address; cells behind it -/
theorem call_fn {R : Result → Shared → Prop} {name qual : Str} {params : Arguments} {body : List Stmt} {scope : Scope} {dV kV doc pm cdv ct oc : Value} {an od : Option Addr} {osl : Array (Option Value)} {f : Addr} {args : Args} {binds : List (Str × Value)}
    (X : K.In s.heap) (hlim : s.heap.NoLimit) (ho : K.lookup f = some ⟨oc, od, .func (fnOf name qual params body scope dV kV doc pm an cdv ct), osl⟩) (hcd : codeIn K cdv qual = true) (hroom : A.depth < recursionLimit)
    (hbind : BindsTo s (fnOf name qual params body scope dV kV doc pm an cdv ct) args binds)
    (hkind : (binds.all fun y => scope.names.lookup y.1 == some .local || scope.names.lookup y.1 == some .cell) = true)
    (h : ∀ s₁, InCallC s s.heap.objs.size (bindL (envOfC qual scope s.heap.objs.size f cdv).kindOf binds fun _ => none) (cellsFrom (s.heap.objs.size + 1) scope.names [])
        (bindC (envOfC qual scope s.heap.objs.size f cdv).kindOf binds fun _ => none) s₁ →
      wpAny (model prog w) (A.deeper (envOfC qual scope s.heap.objs.size f cdv)) (execs body (envOfC qual scope s.heap.objs.size f cdv))
        (fun fl s' => R (.ok (.ret (match fl with | .ret v => v | _ => .none))) s')
        (fun e s' => wpAny (model prog w) (A.deeper (envOfC qual scope s.heap.objs.size f cdv)) (leaving (envOfC qual scope s.heap.objs.size f cdv) e) (fun _ s'' => R (.error e) s'') (fun e' s'' => R (.error e') s'') s') s₁)
    (hco : scope.isCoroutine = false) (hgen : scope.isGenerator = false) (hk : scope.kind = .function) : codeAny (model prog w) A (.call (.ref f) args) R s := by
  refine codeAny_call_function hroom (X _ _ ho) rfl hco hgen rfl (codeRec_of X hcd) (hbind _ _ _ _ ?_)
  refine wpAny_newFunctionEnv_cells hk (kindsX hkind _) fun env he s₁ x => ?_
  subst he
  exact ⟨hlim.keeps x.toInCall.keep, codeAny_func (h s₁ x)⟩

/-- C(..): dict at size, instance at size + 1, then __init__ -/
theorem make_obj {R : Result → Shared → Prop} {C fI : Addr} {rest : List Value} {kw : List (Str × Value)}
    (X : K.In s.heap) (hm : makesIn K C = true) (hi : findIn K (.ref C) "__init__" = some (some (.ref fI))) (hf : isFn K (.ref fI) = true)
    (h : codeAny (model prog w) (A.under (.builtin "type.__call__" ⟨.ref C :: rest, kw⟩)) (.call (.ref fI) ⟨.ref (s.heap.objs.size + 1) :: rest, kw⟩) (InitBack (s.heap.objs.size + 1) R)
      { s with heap := (s.heap.push emptyDict).push (instObj C s.heap.objs.size) }) : codeAny (model prog w) A (.call (.ref C) ⟨rest, kw⟩) R s := by
  obtain ⟨hh, g, d, t, os⟩ := s
  exact make_core (makes_of X hm) (looks_findIn X hi) (fun self => bind_fn X self (beq_iff_eq.mp hf)) (.inl rfl) h

/-- x.name where the instance's dict holds the name and the class does not -/
theorem get_field {x C : Addr} {ox : Obj} {es : List DictEntry} {n : Nat} {name : Str} {expr : Bool} {v : Value} {Q : Value → Shared → Prop}
    (X : K.In s.heap) (I : PySem.W.InstAt s.heap x ox C (some (dictOf es n))) (hg : plainGet K C name = true) (hh : hasDictIn K C = true) (ha : findIn K (.ref C) name = some none)
    (hl : getL name es = some (some v)) (hv : handedIn v = true) (h : Q v { s with toks := s.toks + 1 }) : wpAny (model prog w) A (getAttr (.ref x) name expr) Q E s :=
  get_value X I (plainGet_of hg).1 (findObj_own hh ha rfl hl) hv h

/-- x.m(..): the method found in the class -/
theorem get_method {x C f : Addr} {ox : Obj} {es : List DictEntry} {n : Nat} {name : Str} {pl : Sem Bool} {Q : Value × List Value → Shared → Prop}
    (X : K.In s.heap) (I : PySem.W.InstAt s.heap x ox C (some (dictOf es n))) (hg : plainGet K C name = true) (hf : findIn K (.ref C) name = some (some (.ref f))) (ht : isFn K (.ref f) = true)
    (hl : getL name es = some none) (h : Q (.ref f, [.ref x]) s) : wpAny (model prog w) A (getMethod (.ref x) name pl) Q E s :=
  method_fn X I (plainGet_of hg).1 (plainGet_of hg).2 hf (beq_iff_eq.mp ht) (by show (lookIn name (dictOf es n)).map _ = _; rw [lookIn_dict, hl]; rfl) h

/-! the whole heap as the ledger: makes every rule that writes through a ledger a rule over any heap -/
def noObjs (h : Heap) : Heap := { h with objs := #[] }
theorem noObjs_get (h : Heap) (b : Addr) : (noObjs h).get? b = none := by
  cases e : (noObjs h).get? b with
  | none => rfl
  | some o => exact absurd (Heap.lt_size e) (Nat.not_lt_zero _)
def ledger (h : Heap) (L d : Addr) : List (Addr × Obj) := (List.range h.objs.size).filterMap fun a => if a = L ∨ a = d then none else (h.get? a).map fun o => (a, o)
theorem mem_ledger {h : Heap} {L d a : Addr} {o : Obj} : (a, o) ∈ ledger h L d ↔ a ≠ L ∧ a ≠ d ∧ h.get? a = some o := by
  unfold ledger
  rw [List.mem_filterMap]
  constructor
  · rintro ⟨b, _, e⟩
    split at e
    · cases e
    · rename_i hb
      obtain ⟨o', ho, e'⟩ := Option.map_eq_some_iff.mp e
      cases e'
      exact ⟨fun q => hb (.inl q), fun q => hb (.inr q), ho⟩
  · rintro ⟨n1, n2, ho⟩
    refine ⟨a, List.mem_range.mpr (Heap.lt_size ho), ?_⟩
    rw [if_neg (show ¬ (a = L ∨ a = d) from fun q => q.elim n1 n2), ho] <;> rfl
theorem news_ledger {h : Heap} {L d : Addr} {od : Obj} (hne : d ≠ L) (ho : h.get? d = some od) : News (noObjs h) L h ([] ++ (d, od) :: ledger h L d) := by
  rintro ⟨a, o⟩ hp
  rcases List.mem_cons.mp hp with e | hp
  · cases e
    exact ⟨ho, hne, noObjs_get _ _⟩
  · obtain ⟨n1, n2, e⟩ := mem_ledger.mp hp
    exact ⟨e, n1, noObjs_get _ _⟩
theorem fr_all {h : Heap} {L : Addr} {m : Str → Option Value} (n : h.Ns L m) : Fr (noObjs h) L h m :=
  ⟨n, fun b o e => (by rw [noObjs_get] at e; cases e), Nat.zero_le _⟩
/-- Upd of the head entry (for append_K, setItem_K ..) -/
theorem upd_ledger {h : Heap} {L d : Addr} {o o' : Obj} : Upd d o o' ((d, o) :: ledger h L d) ((d, o') :: ledger h L d) :=
  .head fun ⟨_, _⟩ hp => (mem_ledger.mp hp).2.1

/-- x.name = v over any heap: L is any namespace of the heap (the frame's, say): its map stays, its object is not told; all else but the dict stays -/
theorem set_field {x C dx L : Addr} {ox : Obj} {m : Str → Option Value} {es es' : List DictEntry} {n n' : Nat} {name : Str} {v : Value} {Q : Unit → Shared → Prop}
    (X : K.In s.heap) (I : PySem.W.InstAt s.heap x ox C (some (dictOf es n))) (hd : ox.dict = some dx) (hL : s.heap.Ns L m) (hne : dx ≠ L)
    (hs : findIn K (.ref C) "__setattr__" = some (some (.builtin "object.__setattr__"))) (hp : plainOver K C = true) (ht : takerIn K C name = some none) (hh : hasDictIn K C = true) (hl : (getL name es).isSome = true)
    (e : (putL name (PyData.keyHash w.params name) (.str name (s.toks + 1)) v es, putN name es n) = (es', n')) (hz : es'.length ≤ 1000)
    (h : ∀ h' : Heap, h'.Ns L m → h'.get? dx = some (dictOf es' n') → (∀ b o, b ≠ dx → b ≠ L → s.heap.get? b = some o → h'.get? b = some o) → Q () { s with heap := h', toks := s.toks + 2 }) :
    wpAny (model prog w) A (setAttr (.ref x) name v) Q E s := by
  obtain ⟨e1, e2⟩ := Prod.mk.inj e
  have hdx : s.heap.get? dx = some (dictOf es n) := by
    have := I.dict
    rw [hd] at this
    exact this
  refine set_plain X I hs (osa_dict (s := { s with toks := s.toks + 1 }) (h₀ := noObjs s.heap) (L := L) (m := m) (od := dictOf es n) (od' := dictOf es' n') (es := es') (n := n') (pre := []) (post := ledger s.heap L dx)
    (fr_all hL) (news_ledger hne hdx) X I hd hp ht hh hl (fun _ q => nomatch q) (fun ⟨_, _⟩ q => (mem_ledger.mp q).2.1) (by rw [putName_dict, e1, e2]) rfl hz fun h' F' N' => ?_)
  exact h h' F'.ns (N'.get (List.Mem.head _)) fun b o n1 n2 ho => N'.get (List.Mem.tail _ (mem_ledger.mpr ⟨n2, n1, ho⟩))
end
end Att

namespace L2
open PySem PySem.Spec PyProof.Rows

theorem vals_ints : ∀ {vs : List Value} {ns : List Int}, IntsAre vs ns → Vals (ns.map V.int) vs
  | _, _, .nil => .nil
  | _, _, .cons n t h => .cons ⟨t, rfl⟩ (vals_ints h)

/-- nothing is tracked but the script, known to the object (or it is an object of the module) -/
def Only (H : Hp) : Prop := ∀ b, H b = none ∨ ∃ o xs, H b = some (.frz o (.lst xs))

/-- THE HEAD: the law's promise, at the heap behind the top. F, the promise of the law's def, may use that base is part of the heap (so K.In base, base.Ns mainGlobals mg stand in Mod) -/
theorem law_call {P : Program} {w : World} {K : PySem.W.Frag} {mg mb : Str → Option Value} {CX : CXT} {k : Nat} {fa a : Addr} {fd : FuncData} {x : Str} {sp : Sp} {s₁ : Shared} {vs : List Value} {ns : List Int}
    (KX : K.In s₁.heap) (hns : s₁.heap.Ns mainGlobals mg) (hb : s₁.heap.Ns builtinsNs mb) (hbb : ∀ x : Str, x ≠ "__name__" → mb x = bootBuiltins x) (hlim : s₁.heap.NoLimit) (hg : s₁.gens = #[])
    (ha : s₁.heap.get? a = some { cls := .type "list", data := .seq vs.toArray }) (hi : IntsAre vs ns) (hl : ns.length ≤ sizeLine) (hr : Room k callerA)
    (F : ∀ base : Heap, K.In base → base.Ns mainGlobals mg → FnOk P w K mg base CX k fa fd [x] sp) (hbind : ∀ (s : Shared) (u : Value), BindsTo s fd ⟨[u], []⟩ [(x, u)])
    (hsp : ∀ H : Hp, Only H → SqL K H a (ns.map V.int) → sp [.ref a] H (fun v _ => v = .bl true) fun _ _ _ => False)
    (hCX : ∀ H e s', CX [] H s₁ (fun _ _ _ => False) e s' → False) :
    codeAny (model P w) callerA (.call (.ref fa) ⟨[.ref a], []⟩) (fun r s' => r = .ok (.ret (.bool true)) ∧ OldK s₁.heap s'.heap ∧ s'.os = s₁.os ∧ AllBare s'.gens) s₁ := by
  have rv := vals_ints hi
  have lenV := hi.length
  -- from an abstract heap in which nothing but the script may be tracked
  have core : ∀ H : Hp, Only H → SqL K H a (ns.map V.int) → HOk P w H s₁.heap → (∀ b, H b ≠ none → b = a) → (H a ≠ none → K.lookup a = none) →
      codeAny (model P w) callerA (.call (.ref fa) ⟨[.ref a], []⟩) (fun r s' => r = .ok (.ret (.bool true)) ∧ OldK s₁.heap s'.heap ∧ s'.os = s₁.os ∧ AllBare s'.gens) s₁ := by
    intro H hO hS hok hA hK
    have base_of : ∀ {b : Addr} {o : Obj}, s₁.heap.get? b = some o → H b = none → (hidT s₁.heap H).get? b = some o := fun e n => hidT_get e n
    have noA : ∀ {b : Addr} {o : Obj} {es : Array DictEntry} {ep : Nat}, s₁.heap.get? b = some o → o.data = .dict es ep → H b = none := fun {b o es ep} e d => by
      cases q : H b with
      | none => rfl
      | some u =>
        have e' : b = a := hA b (by rw [q]; simp)
        subst e'
        rw [ha] at e; cases e
        have d' : Data.seq vs.toArray _ = Data.dict es ep := d
        cases d'
    have nsK : ∀ {b : Addr} {m : Str → Option Value}, s₁.heap.Ns b m → (hidT s₁.heap H).Ns b m := fun {b m} ⟨o, es, ep, e, d, r⟩ => ⟨o, es, ep, base_of e (noA e d), d, r⟩
    have hKb : K.In (hidT s₁.heap H) := fun b o e => base_of (KX b o e) (by
      cases q : H b with
      | none => rfl
      | some u =>
        have e' : b = a := hA b (by rw [q]; simp)
        subst e'
        rw [hK (by rw [q]; simp)] at e; cases e)
    have hM : Mod K mg (hidT s₁.heap H) := ⟨hKb, nsK hns, ⟨mb, nsK hb, hbb⟩, let ⟨mc, h1, h2⟩ := hlim; ⟨mc, nsK h1, h2⟩⟩
    have e0 : Env0 P w K mg (hidT s₁.heap H) callerA [] s₁ H := ⟨rfl, hM, fun b o e => of_hidT e, Nat.le_of_eq (hidT_size _ _), trivial, fun b hb => absurd (show b ∈ ([] : List Addr) from hb) (by simp), hok, .of_eq hg⟩
    refine codeAny_mono ((F _ hKb (nsK hns)).run callerA [] s₁ H ⟨[.ref a], []⟩ [.ref a] [.ref a] _ _ hr e0 (hbind s₁ (.ref a)) (.cons rfl .nil) (hsp H hO hS)) fun r s' h => ?_
    cases r with
    | error e => exact (hCX H e s' h).elim
    | ok fl =>
      cases fl with
      | next => exact False.elim h
      | brk => exact False.elim h
      | cont => exact False.elim h
      | ret u =>
        obtain ⟨v, H', os, bare, un, hok', r', q⟩ := h
        have q' : v = .bl true := q
        subst q'
        obtain rfl : u = Value.bool true := r'
        refine ⟨rfl, OldK.of_keep fun b o e => ?_, os, bare⟩
        cases q : H b with
        | none => exact un.keep b o e q (by intro z; exact absurd (show b ∈ ([] : List Addr) from z) (by simp)) (by simp)
        | some u =>
          rcases hO b with z | ⟨ob, xs, z⟩
          · rw [q] at z; cases z
          · have z2 := un.frzs b ob _ z
            obtain ⟨e1, _⟩ := hok b _ z
            obtain ⟨e2, _⟩ := hok' b _ z2
            rw [e] at e1; cases e1
            exact e2
  cases hk : K.lookup a with
  | some o =>
    -- the script is one of the module's own objects
    have e := KX a o hk
    rw [ha] at e
    cases e
    refine core (fun _ => none) (fun _ => .inl rfl) (.inr ⟨_, vs.toArray, _, hk, rfl, rfl, rfl, by rw [List.size_toArray, lenV]; exact hl, by simpa using rv⟩) (fun b u z => by have z' : (none : Option HO) = some u := z; cases z') (fun b z => absurd rfl z) fun z => absurd rfl z
  | none =>
    refine core (fun b => if b = a then some (.frz { cls := .type "list", data := .seq vs.toArray } (.lst (ns.map V.int))) else none) (fun b => ?_) (.inl (.inr ⟨{ cls := .type "list", data := .seq vs.toArray }, if_pos rfl⟩)) (fun b u z => ?_) (fun b z => ?_) fun _ => hk
    · by_cases hb : b = a
      · exact .inr ⟨_, _, if_pos hb⟩
      · exact .inl (if_neg hb)
    · by_cases hb : b = a
      · have z' := (if_pos hb).symm.trans z
        cases z'
        subst hb
        exact ⟨ha, by rw [List.length_map]; exact hl, vs, _, rv, ha⟩
      · have z' := (if_neg hb).symm.trans z
        cases z'
    · by_cases hb : b = a
      · exact hb
      · exact absurd (if_neg hb) z
end L2

namespace L2
open PySem PySem.Spec PyProof.Rows

abbrev KOf {K : PySem.W.Frag} {h : Heap} (_ : K.In h) : PySem.W.Frag := K

/-- the goal that k_head leaves (case hc), from the law's promise. F gives the function object fd (K's own) once, then the promise over every base -/
theorem walk_of {l : PySem.W.OpenLaw} {n k : Nat} {q : Program} {loose : List Str} {XP : (Str → Option Value) → Heap → Prop} {YP : World → Heap → Prop} {d : DefRec} {K : Params → PySem.W.Frag} {CX : World → CXT} {sp : World → Sp} {x : Str}
    (hn : l.most = some n) (hn2 : n ≤ sizeLine) (hdf : d.params.defaults = []) (hr : Room k callerA)
    (hY : ∀ (w : World) (h : Heap), YP w h → (K w.params).In h)
    (F : ∀ (w : World) (mg : Str → Option Value) (fa : Addr) (h : Heap), (K w.params).In h → h.Ns mainGlobals mg → mg d.name = some (.ref fa) →
      ∃ fd : FuncData, (∀ (s : Shared) (u : Value), BindsTo s fd ⟨[u], []⟩ [(x, u)]) ∧
        ∀ base : Heap, (K w.params).In base → base.Ns mainGlobals mg → FnOk l.prog w (K w.params) mg base (CX w) k fa fd [x] (sp w))
    (hsp : ∀ (w : World) (H : Hp) (a : Addr) (ns : List Int), ns.length ≤ n → Only H → SqL (K w.params) H a (ns.map V.int) → sp w [.ref a] H (fun v _ => v = .bl true) fun _ _ _ => False)
    (hCX : ∀ (w : World) (H : Hp) (s : Shared) (e : Value) (s' : Shared), CX w [] H s (fun _ _ _ => False) e s' → False) :
    PySem.W.WalkO q loose XP YP l.row.toRowW d [] (fun f vs => PySem.call f vs) := by
  refine Att.attach_call hn hdf fun w s₀ s₁ mg mb fa o pm cd doc a vs ns G Y ho hd hcd hmg hobj hints hlen hg => ?_
  have KX := hY w _ Y
  obtain ⟨fd, hb, hF⟩ := F w mg fa _ KX G.T.g hmg
  exact law_call KX G.T.g G.T.b G.T.builtins G.T.nolimit hg hobj hints (Nat.le_trans hlen hn2) hr hF hb (fun H hO hS => hsp w H a ns hlen hO hS) fun H e s' => hCX w H s₁ e s'
/-- the same where the promise hangs on the written part alone: (sp := My.sp_law), no hole under a binder -/
theorem walk_ofK {l : PySem.W.OpenLaw} {n k : Nat} {q : Program} {loose : List Str} {XP : (Str → Option Value) → Heap → Prop} {YP : World → Heap → Prop} {d : DefRec} {K : Params → PySem.W.Frag} {CX : CXT} {sp : PySem.W.Frag → Sp} {x : Str}
    (hn : l.most = some n) (hn2 : n ≤ sizeLine) (hdf : d.params.defaults = []) (hr : Room k callerA)
    (hY : ∀ (w : World) (h : Heap), YP w h → (K w.params).In h)
    (F : ∀ (w : World) (mg : Str → Option Value) (fa : Addr) (h : Heap), (K w.params).In h → h.Ns mainGlobals mg → mg d.name = some (.ref fa) →
      ∃ fd : FuncData, (∀ (s : Shared) (u : Value), BindsTo s fd ⟨[u], []⟩ [(x, u)]) ∧
        ∀ base : Heap, (K w.params).In base → base.Ns mainGlobals mg → FnOk l.prog w (K w.params) mg base CX k fa fd [x] (sp (K w.params)))
    (hsp : ∀ (K : PySem.W.Frag) (H : Hp) (a : Addr) (ns : List Int), ns.length ≤ n → Only H → SqL K H a (ns.map V.int) → sp K [.ref a] H (fun v _ => v = .bl true) fun _ _ _ => False)
    (hCX : ∀ (H : Hp) (s : Shared) (e : Value) (s' : Shared), CX [] H s (fun _ _ _ => False) e s' → False) :
    PySem.W.WalkO q loose XP YP l.row.toRowW d [] (fun f vs => PySem.call f vs) :=
  walk_of (K := K) (CX := fun _ => CX) (sp := fun w => sp (K w.params)) hn hn2 hdf hr hY F (fun w H a ns h1 h2 h3 => hsp (K w.params) H a ns h1 h2 h3) fun _ H s e s' => hCX H s e s'
end L2

/- THE LAST THEOREM (shape; LID, My.* are yours):
   My.Adr: a structure of the addresses that your layer names (classes, functions); My.Txt K t: a structure (Prop) of the equations over K;
   My.txt_mk : {K} {implicit addresses ..} (e1 : nsIn K mainGlobals "law" = some (some (.ref f))) (e2 : K.lookup f = some ⟨oc, od, .func (fnOf "law" "law" params body scope dV kV doc pm an cdv ct), sl⟩) (e3 : codeIn K cdv "law" = true) .. : ∃ t, My.Txt K t

set_option maxRecDepth 100000 in
set_option maxHeartbeats 0 in
theorem PySem.Challenge.cw_LID_holds : PySem.Challenge.rw_LID.Holds := by
  w_on; o_law; k_head; (case hw => w_witness2)
  k_fill
  refine L2.walk_of (l := PySem.Challenge.rw_LID) (n := 63) (k := 40) (x := "script") (CX := fun w => ..) (sp := fun _ => My.sp_law) rfl (by decide) rfl ⟨rfl, by decide, by decide⟩ (fun w h Y => PySem.W.kIn_of Y) ?F ?S ?C
  case F =>
    intro w mg fa h KX G hmg
    have T : ∃ t, My.Txt (L2.KOf KX) t := by
      dsimp only [L2.KOf]                          -- K must stand as «<heap const> w.params» for k_is
      refine' My.txt_mk ?e1 ?e2 ?e3 ..
      (case e1 => PySem.W.k_is)                    -- in the order: a name -> its address -> its object -> its parts
      (case e2 => PySem.W.k_is)
      ..
    obtain ⟨t, T⟩ := T
    have e0 := hmg.symm.trans (PySem.W.mg_of KX G T.law)
    cases e0                                       -- fa is the law's own address
    exact ⟨_, fun s u => .of_eq rfl, fun base kb nb => My.law_fn T kb nb⟩     -- if «.of_eq rfl» comes too early: refine' ⟨_, ?b, fun base kb nb => My.law_fn T kb nb⟩; exact fun s u => .of_eq rfl
  case S => exact fun w H a ns hl hO hS => ..
  case C => exact ..
(the tactic k_is has no namespace: write k_is) -/

/-! SHORT WORDS over the layer: a def of the text, its body, what a loop and a test want. -/
namespace L2
open PySem PySem.Spec PyProof.Rows

/-! ### the text by places -/
/-- the j-th statement of a class's body -/
def inClass (s : Stmt) (j : Nat) : Stmt := match s with
  | .ClassDef _ _ _ body _ _ _ _ _ _ _ => body.getD j (.Pass ⟨0, 0, 0, 0⟩)
  | _ => .Pass ⟨0, 0, 0, 0⟩
def defArgs (s : Stmt) : Arguments := match s with
  | .FunctionDef _ a _ _ _ _ _ _ _ _ => a
  | _ => { posonlyargs := [], args := [], vararg := none, kwonlyargs := [], kw_defaults := [], kwarg := none, defaults := [] }
def defBody (s : Stmt) : List Stmt := match s with
  | .FunctionDef _ _ b _ _ _ _ _ _ _ => b
  | _ => []
def defScope (s : Stmt) : Scope := match s with
  | .FunctionDef _ _ _ _ _ _ sc _ _ _ => sc
  | _ => { kind := .function, names := [], isGenerator := false, isCoroutine := false }

/-! ### no exception leaves a def -/
abbrev CX0 : CXT := fun _ _ _ _ _ _ => False
abbrev E0 : XK := fun _ _ _ => False
theorem pass0 {X : Cx} : Passes CX0 X E0 := fun _ _ _ _ _ _ _ h => h.elim

/-! ### a def (or method) of the text as it stands behind the top -/
structure Fun (K : PySem.W.Frag) (x qual : Str) (st : Stmt) (f : Addr) (fd : FuncData) : Prop where
  ex : ∃ (oc : Value) (od : Option Addr) (kV doc pm : Value) (an : Option Addr) (cdv ct : Value) (osl : Array (Option Value)),
    fd = PySem.W.fnOf x qual (defArgs st) (defBody st) (defScope st) .none kV doc pm an cdv ct ∧ K.lookup f = some ⟨oc, od, .func fd, osl⟩ ∧ PySem.W.codeIn K cdv qual = true
  kp : PySem.W.keepIn K (.ref f) = true
section
variable {P : Program} {w : World} {K : PySem.W.Frag} {mg : Str → Option Value} {base : Heap}
/-- THE RULE for a def: its body as a term of rules, and the reading of that term -/
theorem Fun.ok {x qual : Str} {st : Stmt} {f : Addr} {fd : FuncData} {N ps : List Str} {k : Nat} {sp : Sp} (F : Fun K x qual st f fd) (S : FnScope N ps (defScope st)) (len : ∀ vs H Q E, sp vs H Q E → vs.length = ps.length)
    (hbody : ∀ (cdv : Value) (A : Around) (outer : List Env) (s : Shared) (H : Hp) (vs : List V) (Q : VK) (E : XK), Room k (A.deeper (envOfC qual (defScope st) s.heap.objs.size f cdv)) → sp vs H Q E →
      ∃ t, PSs (cxOf CX0 P w K mg base N qual (defScope st) f cdv A outer s H E).nox (defBody st) t ∧ t { nx := fun _ H' => Q .non H', rt := Q } (start N vs) H) : FnOk P w K mg base CX0 (k + 1) f fd ps sp := by
  obtain ⟨oc, od, kV, doc, pm, an, cdv, ct, osl, rfl, lk, hcd⟩ := F.ex
  refine fn_of lk hcd S len fun A outer s H vs Q E hr hsp => ?_
  obtain ⟨t, h, q⟩ := hbody cdv A outer s H vs Q E hr hsp
  exact ⟨t, h.nox, q⟩
/-- how its arguments bind (no defaults): h is «fun _ _ _ _ _ _ us hl => match us, hl with | [_, _], _ => rfl», one _ a parameter -/
theorem Fun.binds {x qual : Str} {st : Stmt} {f : Addr} {fd : FuncData} {ps : List Str} (F : Fun K x qual st f fd)
    (h : ∀ (kV doc pm : Value) (an : Option Addr) (cdv ct : Value) (us : List Value), us.length = ps.length → bindArgs (PySem.W.fnOf x qual (defArgs st) (defBody st) (defScope st) .none kV doc pm an cdv ct) ⟨us, []⟩ = pure (ps.zip us)) : Binds K fd ps [] := by
  obtain ⟨oc, od, kV, doc, pm, an, cdv, ct, osl, rfl, lk, hcd⟩ := F.ex
  exact .all (h kV doc pm an cdv ct)
theorem fun_mk {x qual : Str} {st : Stmt} {f : Addr} {oc : Value} {od an : Option Addr} {osl : Array (Option Value)} {kV doc pm cdv ct : Value} (l : K.lookup f = some ⟨oc, od, .func (PySem.W.fnOf x qual (defArgs st) (defBody st) (defScope st) .none kV doc pm an cdv ct), osl⟩)
    (c : PySem.W.codeIn K cdv qual = true) (k : PySem.W.keepIn K (.ref f) = true) : Fun K x qual st f (PySem.W.fnOf x qual (defArgs st) (defBody st) (defScope st) .none kV doc pm an cdv ct) := ⟨⟨oc, od, kV, doc, pm, an, cdv, ct, osl, rfl, l, c⟩, k⟩
end
theorem hu_of {A : Around} {k : Nat} (hr : Room k A) : A.units + 1 < cLine := Nat.lt_of_le_of_lt (Nat.add_le_add_left (by decide : 1 ≤ 64) _) hr.units
theorem small1000 {n : Nat} (h : n ≤ 1000) : n < sizeLine := Nat.lt_of_le_of_lt h (by decide)

/-! ### expressions in short: the name that stands in the i-th slot -/
section
variable {X : Cx}
theorem pv (i : Nat) {x : Str} {pos : Pos} (hN : X.N[i]? = some x := by rfl) (hv : Vis X.env.scope x := by first | exact Or.inl rfl | exact Or.inr (Or.inl rfl) | exact Or.inr (Or.inr rfl)) (hd : (x == ("__debug__" : Str)) = false := by decide)
    (hcd : (x == ("__classdict__" : Str)) = false := by decide) : PE X (.Name x pos) (tVar i) := pe_var hN hv hd hcd
end

/-! ### tests -/
theorem iteF {A B : Prop} (h : B) : if false = true then A else B := by
  rw [if_neg Bool.false_ne_true]
  exact h
theorem iteT {A B : Prop} (h : A) : if true = true then A else B := by
  rw [if_pos rfl]
  exact h
theorem ite2 {c A B : Prop} [Decidable c] (h1 : c → A) (h2 : ¬ c → B) : if c then A else B := by
  by_cases h : c
  · rw [if_pos h]
    exact h1 h
  · rw [if_neg h]
    exact h2 h
theorem iteNS {c A B : Prop} [Decidable c] (hc : c) (h : B) : if (!decide c) = true then A else B := by
  rw [decide_eq_true hc]
  exact iteF h

/-! ### heaps -/
/-- all that was tracked is as it was -/
def Same (H H' : Hp) : Prop := ∀ b o, H b = some o → H' b = some o
theorem Same.refl (H : Hp) : Same H H := fun _ _ h => h
theorem Same.trans {H H1 H2 : Hp} (a : Same H H1) (b : Same H1 H2) : Same H H2 := fun c o h => b c o (a c o h)
theorem Same.free {H H' : Hp} (e : Same H H') {l : Addr} (h : H' l = Option.none) : H l = Option.none := by
  cases q : H l with
  | none => rfl
  | some o =>
    rw [e l o q] at h
    cases h
theorem Same.seq {K : PySem.W.Frag} {H H' : Hp} {a : Addr} {xs : List V} (e : Same H H') (h : SqL K H a xs) : SqL K H' a xs := by
  rcases h with (h | ⟨o, h⟩) | h
  · exact .inl (.inl (e _ _ h))
  · exact .inl (.inr ⟨o, e _ _ h⟩)
  · exact .inr h

end L2

set_option maxHeartbeats 4000000
namespace L2
open PySem PySem.Spec PyProof.Rows

/-! ### lists of pairs as tables -/
section
variable {κ : Type} [DecidableEq κ]
def valV (kvs : List (κ × V)) (k : κ) : Option V := (kvs.find? fun kv => decide (kv.1 = k)).map (·.2)
/-- in its place, or at the end -/
def putK (kvs : List (κ × V)) (k : κ) (v : V) : List (κ × V) :=
  if (kvs.any fun kv => decide (kv.1 = k)) = true then kvs.map (fun kv => if kv.1 = k then (kv.1, v) else kv) else kvs ++ [(k, v)]
def dropK (kvs : List (κ × V)) (k : κ) : List (κ × V) := kvs.filter fun kv => decide (kv.1 ≠ k)

theorem valV_nil {k : κ} : valV ([] : List (κ × V)) k = none := rfl
theorem valV_pos {p : κ × V} {r : List (κ × V)} {k : κ} (e : p.1 = k) : valV (p :: r) k = some p.2 := by simp [valV, List.find?_cons, e]
theorem valV_neg {p : κ × V} {r : List (κ × V)} {k : κ} (e : ¬ p.1 = k) : valV (p :: r) k = valV r k := by simp [valV, List.find?_cons, e]
theorem valV_any (k : κ) : ∀ kvs : List (κ × V), (kvs.any fun kv => decide (kv.1 = k)) = (valV kvs k).isSome
  | [] => rfl
  | p :: r => by
    rw [List.any_cons]
    by_cases e : p.1 = k
    · simp only [valV_pos e, decide_eq_true e, Bool.true_or, Option.isSome_some]
    · rw [valV_neg e, decide_eq_false e, Bool.false_or]; exact valV_any k r
theorem valV_map (k j : κ) (y : V) : ∀ kvs : List (κ × V), valV (kvs.map fun kv => if kv.1 = k then (kv.1, y) else kv) j = (valV kvs j).map fun x => if j = k then y else x
  | [] => rfl
  | p :: r => by
    have ih := valV_map k j y r
    rw [List.map_cons]
    by_cases h : p.1 = k
    · rw [if_pos h]
      by_cases e : p.1 = j
      · rw [valV_pos (p := (p.1, y)) e, valV_pos e, Option.map_some, if_pos (e.symm.trans h)]
      · rw [valV_neg (p := (p.1, y)) e, valV_neg e, ih]
    · rw [if_neg h]
      by_cases e : p.1 = j
      · rw [valV_pos (p := p) e, valV_pos e, Option.map_some, if_neg (fun z => h (e.trans z))]
      · rw [valV_neg (p := p) e, valV_neg e, ih]
theorem valV_snoc (k j : κ) (y : V) : ∀ kvs : List (κ × V), valV kvs k = none → valV (kvs ++ [(k, y)]) j = if j = k then some y else valV kvs j
  | [], _ => by
    by_cases e : k = j
    · rw [if_pos e.symm]; exact valV_pos (p := (k, y)) e
    · rw [if_neg (fun z => e z.symm)]; exact valV_neg (p := (k, y)) e
  | p :: r, hn => by
    rw [List.cons_append]
    have hk : ¬ p.1 = k := fun z => by rw [valV_pos z] at hn; cases hn
    rw [valV_neg hk] at hn
    have ih := valV_snoc k j y r hn
    by_cases e : p.1 = j
    · rw [valV_pos e, valV_pos e, if_neg (fun z => hk (e.trans z))]
    · rw [valV_neg e, valV_neg e, ih]
theorem valV_put (kvs : List (κ × V)) (k j : κ) (y : V) : valV (putK kvs k y) j = if j = k then some y else valV kvs j := by
  unfold putK
  by_cases a : (kvs.any fun kv => decide (kv.1 = k)) = true
  · rw [if_pos a, valV_map]
    rw [valV_any] at a
    by_cases e : j = k
    · obtain ⟨x, hx⟩ := Option.isSome_iff_exists.mp a
      rw [if_pos e, e, hx, Option.map_some, if_pos rfl]
    · rw [if_neg e]
      cases valV kvs j with
      | none => rfl
      | some x => rw [Option.map_some, if_neg e]
  · rw [if_neg a]
    refine valV_snoc k j y kvs ?_
    rw [valV_any] at a
    cases q : valV kvs k with
    | none => rfl
    | some x => rw [q] at a; exact (a rfl).elim
theorem length_putK (kvs : List (κ × V)) (k : κ) (v : V) : (putK kvs k v).length ≤ kvs.length + 1 := by
  unfold putK
  split
  · rw [List.length_map]; omega
  · rw [List.length_append, List.length_cons, List.length_nil]; omega
theorem putK_new {kvs : List (κ × V)} {k : κ} (v : V) (h : valV kvs k = none) : putK kvs k v = kvs ++ [(k, v)] := by
  unfold putK
  rw [valV_any, h]
  exact if_neg (by decide)

theorem RelO.isSome_eq {o : Option V} {u : Option Value} (r : RelO o u) : o.isSome = u.isSome := by
  cases o with
  | none => cases u with
    | none => rfl
    | some _ => exact (show False from r).elim
  | some _ => cases u with
    | none => exact (show False from r).elim
    | some _ => rfl
theorem RelO.getD {o : Option V} {u : Option Value} {d : V} {d' : Value} (r : RelO o u) (rd : RelV d d') : RelV (o.getD d) (u.getD d') := by
  cases o with
  | none => cases u with
    | none => exact rd
    | some _ => exact (show False from r).elim
  | some _ => cases u with
    | none => exact (show False from r).elim
    | some _ => exact r

/-- raw tables of the same keys -/
theorem KV.val {kvs : List (κ × V)} {vs : List (κ × Value)} (r : KV kvs vs) (k : κ) : RelO (valV kvs k) (valueAt vs k) := by
  unfold KV at r
  induction r with
  | nil => exact True.intro
  | @cons p q ps qs h t ih =>
    obtain ⟨h1, h2⟩ := h
    by_cases e : p.1 = k
    · have e' : q.1 = k := h1.symm.trans e
      have b : valueAt (q :: qs) k = some q.2 := by simp [valueAt, List.find?_cons, e']
      rw [valV_pos e, b]; exact h2
    · have e' : ¬ q.1 = k := fun z => e (h1.trans z)
      have b : valueAt (q :: qs) k = valueAt qs k := by simp [valueAt, List.find?_cons, e']
      rw [valV_neg e, b]; exact ih
theorem KV.any {kvs : List (κ × V)} {vs : List (κ × Value)} (r : KV kvs vs) (k : κ) : (kvs.any fun kv => decide (kv.1 = k)) = vs.any fun kv => decide (kv.1 = k) := by
  unfold KV at r
  induction r with
  | nil => rfl
  | cons h t ih => rw [List.any_cons, List.any_cons, ih, h.1]
theorem KV.repl {kvs : List (κ × V)} {vs : List (κ × Value)} (r : KV kvs vs) (k : κ) {y : V} {u : Value} (ry : RelV y u) :
    KV (kvs.map fun kv => if kv.1 = k then (kv.1, y) else kv) (vs.map fun kv => if kv.1 = k then (kv.1, u) else kv) := by
  unfold KV at r ⊢
  induction r with
  | nil => exact .nil
  | @cons p q ps qs h t ih =>
    rw [List.map_cons, List.map_cons]
    refine .cons ?_ ih
    obtain ⟨h1, h2⟩ := h
    by_cases e : p.1 = k
    · rw [if_pos e, if_pos (h1.symm.trans e)]; exact ⟨h1, ry⟩
    · rw [if_neg e, if_neg (fun z => e (h1.trans z))]; exact ⟨h1, h2⟩
theorem KV.put {kvs : List (κ × V)} {vs : List (κ × Value)} (r : KV kvs vs) (k : κ) {y : V} {u : Value} (ry : RelV y u) : KV (putK kvs k y) (stored vs k u) := by
  unfold putK stored
  rw [r.any k]
  by_cases e : (vs.any fun kv => decide (kv.1 = k)) = true
  · rw [if_pos e, if_pos e]; exact r.repl k ry
  · rw [if_neg e, if_neg e]; exact Paired.snoc r ⟨rfl, ry⟩
theorem KV.drop {kvs : List (κ × V)} {vs : List (κ × Value)} (r : KV kvs vs) (k : κ) : KV (dropK kvs k) (without vs k) := by
  unfold KV at r ⊢
  unfold dropK without
  induction r with
  | nil => exact .nil
  | @cons p q ps qs h t ih =>
    obtain ⟨h1, h2⟩ := h
    rw [List.filter_cons, List.filter_cons]
    by_cases e : p.1 = k
    · have a : ¬ decide (p.1 ≠ k) = true := by simp [e]
      have b : ¬ decide (q.1 ≠ k) = true := by simp [h1.symm.trans e]
      rw [if_neg a, if_neg b]; exact ih
    · have e' : ¬ q.1 = k := fun z => e (h1.trans z)
      have a : decide (p.1 ≠ k) = true := by simp [e]
      have b : decide (q.1 ≠ k) = true := by simp [e']
      rw [if_pos a, if_pos b]; exact .cons ⟨h1, h2⟩ ih
theorem KV.keys {kvs : List (κ × V)} {vs : List (κ × Value)} (r : KV kvs vs) : kvs.map (·.1) = vs.map (·.1) := by
  unfold KV at r
  induction r with
  | nil => rfl
  | cons h t ih => rw [List.map_cons, List.map_cons, ih, h.1]
theorem KV.length {kvs : List (κ × V)} {vs : List (κ × Value)} (r : KV kvs vs) : kvs.length = vs.length := Paired.length r
theorem dropK_le (kvs : List (κ × V)) (k : κ) : (dropK kvs k).length ≤ kvs.length := List.length_filter_le _ _
end


/-! ### a tracked dict, its keys ints and texts or tuples of these -/
theorem kV_is {P : Program} {w : World} {k : Key} {u : Value} (r : RelV (kV k) u) : (mixKind P w).is k u = true := by
  cases k with
  | inl i => obtain ⟨t, e⟩ := (show ∃ t, u = Value.int i t from r); subst e; exact mixKind_int P w i t
  | inr x => obtain ⟨t, e⟩ := (show ∃ t, u = Value.str x t from r); subst e; exact mixKind_str P w x t
theorem kV_inj {a b : Key} (e : kV a = kV b) : a = b := by
  cases a with
  | inl i => cases b with
    | inl j => have e' : V.int i = V.int j := e; injection e' with e'; rw [e']
    | inr y => exact nomatch (show V.int i = V.str y from e)
  | inr x => cases b with
    | inl j => exact nomatch (show V.str x = V.int j from e)
    | inr y => have e' : V.str x = V.str y := e; injection e' with e'; rw [e']
theorem kVs_inj : ∀ {a b : List Key}, a.map kV = b.map kV → a = b
  | [], [], _ => rfl
  | [], _ :: _, e => by simp at e
  | _ :: _, [], e => by simp at e
  | x :: xs, y :: ys, e => by
    rw [List.map_cons, List.map_cons] at e
    injection e with e1 e2
    rw [kV_inj e1, kVs_inj e2]
theorem items_are {P : Program} {w : World} : ∀ {ks : List Key} {us : List Value}, Vals (ks.map kV) us → ItemsAre (mixKind P w) ks us
  | [], _, r => by rw [List.map_nil] at r; cases r; exact .nil
  | k :: ks, _, r => by
    rw [List.map_cons] at r
    cases r with
    | cons h t => exact .cons (kV_is h) (items_are t)

/-- raw entries of a dict with tuple keys -/
abbrev KT (H : Hp) : List (List Key × V) → List (List Key × Addr × Value) → Prop := Paired fun p q => p.1 = q.1 ∧ H q.2.1 = some (.tup (p.1.map kV)) ∧ RelV p.2 q.2.2
theorem KT.val {H : Hp} {kvs : List (List Key × V)} {xs : List (List Key × Addr × Value)} (r : KT H kvs xs) (k : List Key) : RelO (valV kvs k) ((atKey xs k).map (·.2)) := by
  induction r with
  | nil => exact True.intro
  | @cons p q ps qs h t ih =>
    obtain ⟨h1, _, h2⟩ := h
    by_cases e : p.1 = k
    · have e' : q.1 = k := h1.symm.trans e
      have b : atKey (q :: qs) k = some q.2 := by simp [atKey, List.find?_cons, e']
      rw [valV_pos e, b]; exact h2
    · have e' : ¬ q.1 = k := fun z => e (h1.trans z)
      have b : atKey (q :: qs) k = atKey qs k := by simp [atKey, List.find?_cons, e']
      rw [valV_neg e, b]; exact ih
theorem KT.repl {H : Hp} {kvs : List (List Key × V)} {xs : List (List Key × Addr × Value)} (r : KT H kvs xs) (k : List Key) {y : V} {u : Value} (ry : RelV y u) :
    KT H (kvs.map fun kv => if kv.1 = k then (kv.1, y) else kv) (xs.map (putAt k u)) := by
  induction r with
  | nil => exact .nil
  | @cons p q ps qs h t ih =>
    rw [List.map_cons, List.map_cons]
    refine .cons ?_ ih
    obtain ⟨h1, h2, h3⟩ := h
    unfold putAt
    by_cases e : p.1 = k
    · rw [if_pos e, if_pos (h1.symm.trans e)]; exact ⟨h1, h2, ry⟩
    · rw [if_neg e, if_neg (fun z => e (h1.trans z))]; exact ⟨h1, h2, h3⟩
theorem KT.put {H : Hp} {kvs : List (List Key × V)} {xs : List (List Key × Addr × Value)} (r : KT H kvs xs) (k : List Key) {b : Addr} {y : V} {u : Value} (hb : H b = some (.tup (k.map kV))) (ry : RelV y u) :
    KT H (putK kvs k y) (storedH xs k b u) := by
  have e : (kvs.any fun kv => decide (kv.1 = k)) = (atKey xs k).isSome := by
    rw [valV_any, (r.val k).isSome_eq, Option.isSome_map]
  unfold putK storedH
  rw [e]
  by_cases q : (atKey xs k).isSome = true
  · rw [if_pos q, if_pos q]; exact r.repl k ry
  · rw [if_neg q, if_neg q]; exact Paired.snoc r ⟨rfl, hb, ry⟩
theorem KT.keeps {H H' : Hp} {kvs : List (List Key × V)} {xs : List (List Key × Addr × Value)} (r : KT H kvs xs) (ht : ∀ b ys, H b = some (.tup ys) → H' b = some (.tup ys)) : KT H' kvs xs :=
  Paired.mapP r fun _ _ z => ⟨z.1, ht _ _ z.2.1, z.2.2⟩

section
variable {P : Program} {w : World} {H : Hp} {h : Heap} {a : Addr}
theorem rd_of {u : HO} (ok : HOk P w H h) (e : Rd H a u) : ObjOk P w H h a u := e.ok ok
theorem dk_rd {kvs : List (Key × V)} (ok : HOk P w H h) (e : Rd H a (.dK kvs)) : kvs.length ≤ sizeLine ∧ (a == sysModules) = false ∧ ∃ vs, KV kvs vs ∧ h.DictOf (mixKind P w) a vs :=
  show ObjOk P w H h a (.dK kvs) from rd_of ok e
theorem dk_of {kvs : List (Key × V)} (ok : HOk P w H h) (e : H a = some (.dK kvs)) : kvs.length ≤ sizeLine ∧ (a == sysModules) = false ∧ ∃ vs, KV kvs vs ∧ h.DictOf (mixKind P w) a vs := dk_rd ok (.inl e)
/-- a tracked tuple of ints and texts is a key -/
theorem key_of {ks : List Key} (ok : HOk P w H h) (e : H a = some (.tup (ks.map kV))) : (tupleKind (mixKind P w)).is h ks a := by
  obtain ⟨_, its, r, o, h1, h2, n, h3⟩ := (show ObjOk P w H h a (.tup (ks.map kV)) from ok a _ e)
  exact ⟨o, its.toArray, n, h1, h2, h3, by simpa using items_are r⟩
theorem dt_rd {kvs : List (List Key × V)} (ok : HOk P w H h) (e : Rd H a (.dT kvs)) : kvs.length ≤ sizeLine ∧ (a == sysModules) = false ∧
    ∃ xs, KT H kvs xs ∧ h.DictOfH (tupleKind (mixKind P w)) a xs := by
  obtain ⟨z, y, xs, r, o, es, ep, h1, h2, h3, h4, h5⟩ := (show ObjOk P w H h a (.dT kvs) from rd_of ok e)
  refine ⟨z, y, xs, r, o, es, ep, h1, h2, h3, h4, fun x hx => ?_, h5⟩
  have all : ∀ {l : List (List Key × V)} {m : List (List Key × Addr × Value)}, KT H l m → ∀ x ∈ m, (tupleKind (mixKind P w)).is h x.1 x.2.1 := by
    intro l m q
    induction q with
    | nil => intro x hx; exact nomatch hx
    | @cons p q ps qs hq t ih =>
      intro x hx
      rcases List.mem_cons.mp hx with e | hx
      · subst e
        exact key_of ok (by rw [← hq.1]; exact hq.2.1)
      · exact ih x hx
  exact all r x hx
theorem dt_of {kvs : List (List Key × V)} (ok : HOk P w H h) (e : H a = some (.dT kvs)) : kvs.length ≤ sizeLine ∧ (a == sysModules) = false ∧
    ∃ xs, KT H kvs xs ∧ h.DictOfH (tupleKind (mixKind P w)) a xs := dt_rd ok (.inl e)
end

/-- what the dict at a holds at the key y -/
def DGet (H : Hp) (a : Addr) (y : V) (r : Option V) : Prop :=
  (∃ kvs k, Rd H a (.dK kvs) ∧ y = kV k ∧ r = valV kvs k) ∨ ∃ kvs k b, Rd H a (.dT kvs) ∧ y = .ref b ∧ H b = some (.tup (k.map kV)) ∧ r = valV kvs k
/-- the heap behind a[y] = v -/
def DPut (H : Hp) (a : Addr) (y v : V) (H' : Hp) : Prop :=
  (∃ kvs k, H a = some (.dK kvs) ∧ y = kV k ∧ kvs.length < sizeLine ∧ H' = upd H a (.dK (putK kvs k v))) ∨
  ∃ kvs k b, H a = some (.dT kvs) ∧ y = .ref b ∧ H b = some (.tup (k.map kV)) ∧ kvs.length < sizeLine ∧ H' = upd H a (.dT (putK kvs k v))
theorem DGet.k {H : Hp} {a : Addr} {kvs : List (Key × V)} {k : Key} (e : H a = some (.dK kvs)) : DGet H a (kV k) (valV kvs k) := .inl ⟨kvs, k, .inl e, rfl, rfl⟩
theorem DGet.t {H : Hp} {a b : Addr} {kvs : List (List Key × V)} {k : List Key} (e : H a = some (.dT kvs)) (eb : H b = some (.tup (k.map kV))) : DGet H a (.ref b) (valV kvs k) := .inr ⟨kvs, k, b, .inl e, rfl, eb, rfl⟩
theorem DPut.k {H : Hp} {a : Addr} {kvs : List (Key × V)} {k : Key} {v : V} (e : H a = some (.dK kvs)) (hl : kvs.length < sizeLine) : DPut H a (kV k) v (upd H a (.dK (putK kvs k v))) := .inl ⟨kvs, k, e, rfl, hl, rfl⟩
theorem DPut.t {H : Hp} {a b : Addr} {kvs : List (List Key × V)} {k : List Key} {v : V} (e : H a = some (.dT kvs)) (eb : H b = some (.tup (k.map kV))) (hl : kvs.length < sizeLine) :
    DPut H a (.ref b) v (upd H a (.dT (putK kvs k v))) := .inr ⟨kvs, k, b, e, rfl, eb, hl, rfl⟩


section
variable {X : Cx} {pins : List (Addr × Obj)} {σ : St} {H : Hp} {s : Shared} {a : Addr} {y v : V} {u r : Value} {o : Option V} {A : Around} {E : Value → Shared → Prop}

theorem Inv.big (I : Inv X pins σ H s) : sysModules < s.heap.objs.size := by
  have h : mainGlobals < s.heap.objs.size := (I.mod.glob.keeps I.bk).lt
  exact Nat.lt_trans (by decide) h

/-- d[y], there -/
theorem d_getItem {Q : Value → Shared → Prop} (hu : A.units + 1 < cLine) (I : Inv X pins σ H s) (g : DGet H a y (some v)) (ry : RelV y u) (h : ∀ w' s', Inv X pins σ H s' → RelV v w' → Q w' s') :
    wpAny (model X.prog X.w) A (getItem (.ref a) u) Q E s := by
  rcases g with ⟨kvs, k, e, ey, l⟩ | ⟨kvs, k, b, e, ey, eb, l⟩
  · subst ey
    obtain ⟨z, hd, vs, rel, dd⟩ := dk_rd I.hok e
    obtain ⟨w', hw, rw'⟩ := RelO.some_of (v := v) (o := valueAt vs k) (by rw [l]; exact rel.val k)
    exact wpAny_getItem_of (kV_is ry) dd.mapOf hw (h w' _ (I.tok _) rw')
  · subst ey
    cases (show u = Value.ref b from ry)
    obtain ⟨z, hd, xs, rel, dd⟩ := dt_rd I.hok e
    obtain ⟨w', hw, rw'⟩ := RelO.some_of (v := v) (o := (atKey xs k).map (·.2)) (by rw [l]; exact rel.val k)
    obtain ⟨p, hp, hp2⟩ := Option.map_eq_some_iff.mp hw
    refine wpAny_getItem_heap (tupleKind_room_in1 hu) (key_of I.hok eb) dd hp ?_
    rw [hp2]
    exact h w' _ (I.tok _) rw'
/-- y in d -/
theorem d_in {Q : Value → Shared → Prop} (hu : A.units + 1 < cLine) (I : Inv X pins σ H s) (g : DGet H a y o) (ry : RelV y u) (h : ∀ s', Inv X pins σ H s' → Q (.bool o.isSome) s') :
    wpAny (model X.prog X.w) A (compareOp .In u (.ref a)) Q E s := by
  rcases g with ⟨kvs, k, e, ey, l⟩ | ⟨kvs, k, b, e, ey, eb, l⟩
  · subst ey
    obtain ⟨z, hd, vs, rel, dd⟩ := dk_rd I.hok e
    refine wpAny_in_of (kV_is ry) hd dd.mapOf ?_
    rw [← (rel.val k).isSome_eq, ← l]
    exact h _ (I.tok _)
  · subst ey
    cases (show u = Value.ref b from ry)
    obtain ⟨z, hd, xs, rel, dd⟩ := dt_rd I.hok e
    refine wpAny_in_heap (tupleKind_room_in1 hu) (key_of I.hok eb) hd dd ?_
    have q := (rel.val k).isSome_eq
    rw [Option.isSome_map] at q
    rw [← q, ← l]
    exact h _ (I.tok _)
theorem d_notIn {Q : Value → Shared → Prop} (hu : A.units + 1 < cLine) (I : Inv X pins σ H s) (g : DGet H a y o) (ry : RelV y u) (h : ∀ s', Inv X pins σ H s' → Q (.bool (!o.isSome)) s') :
    wpAny (model X.prog X.w) A (compareOp .NotIn u (.ref a)) Q E s := by
  rcases g with ⟨kvs, k, e, ey, l⟩ | ⟨kvs, k, b, e, ey, eb, l⟩
  · subst ey
    obtain ⟨z, hd, vs, rel, dd⟩ := dk_rd I.hok e
    refine wpAny_notIn_of (kV_is ry) hd dd.mapOf ?_
    rw [← (rel.val k).isSome_eq, ← l]
    exact h _ (I.tok _)
  · subst ey
    cases (show u = Value.ref b from ry)
    obtain ⟨z, hd, xs, rel, dd⟩ := dt_rd I.hok e
    refine wpAny_notIn_heap (tupleKind_room_in1 hu) (key_of I.hok eb) hd dd ?_
    have q := (rel.val k).isSome_eq
    rw [Option.isSome_map] at q
    rw [← q, ← l]
    exact h _ (I.tok _)
/-- a dict's object is replaced -/
theorem d_write {h' : Heap} {t' : Nat} {ob : HO} (I : Inv X pins σ H s) (mu : Mut (H a)) (hs : Heap.SameBut a s.heap h') (he : ∃ q, h'.get? a = some q) (new : ObjOk X.prog X.w (upd H a ob) h' a ob) :
    Inv X pins σ (upd H a ob) { s with heap := h', toks := t' } :=
  I.write (x := a) (e := a) mu (.inl rfl) (fun b q hb z => (hs.2 b hb).trans z) he new
theorem dk_new {P : Program} {w : World} {H' : Hp} {h' : Heap} {kvs : List (Key × V)} {vs : List (Key × Value)} (z : kvs.length ≤ sizeLine) (hd : (a == sysModules) = false) (rel : KV kvs vs) (dd : h'.DictOf (mixKind P w) a vs) :
    ObjOk P w H' h' a (.dK kvs) := ⟨z, hd, vs, rel, dd⟩
/-- d[y] = v -/
theorem d_setItem {H' : Hp} {Q : Unit → Shared → Prop} (hu : A.units + 1 < cLine) (I : Inv X pins σ H s) (g : DPut H a y v H') (ry : RelV y u) (rv : RelV v r) (h : ∀ s', Inv X pins σ H' s' → Q () s') :
    wpAny (model X.prog X.w) A (setItem (.ref a) u r) Q E s := by
  rcases g with ⟨kvs, k, e, ey, l, eH⟩ | ⟨kvs, k, b, e, ey, eb, l, eH⟩
  · subst ey eH
    obtain ⟨z, hd, vs, rel, dd⟩ := dk_of I.hok e
    have hz : vs.length ≤ sizeLine := by rw [← rel.length]; exact z
    have hl : (putK kvs k v).length ≤ sizeLine := by have := length_putK kvs k v; omega
    refine wpAny_setItem_pairs (hsz := hz) (kV_is ry) dd fun h' dd' hs => h _ ?_
    have he : ∃ q, h'.get? a = some q := let ⟨q, _, _, hq, _⟩ := dd'; ⟨q, hq⟩
    exact d_write I (by rw [e]; exact True.intro) hs he (dk_new hl hd (rel.put k rv) dd')
  · subst ey eH
    cases (show u = Value.ref b from ry)
    obtain ⟨z, hd, xs, rel, dd⟩ := dt_of I.hok e
    have hz : xs.length ≤ sizeLine := by rw [← Paired.length rel]; exact z
    have hl : (putK kvs k v).length ≤ sizeLine := by have := length_putK kvs k v; omega
    refine wpAny_setItem_heap (hsz := hz) (tupleKind_room_in1 hu) (key_of I.hok eb) dd fun h' dd' hs => h _ ?_
    obtain ⟨q, es, ep, hq, h2, h3, h4, _, h5⟩ := dd'
    refine d_write I (by rw [e]; exact True.intro) hs ⟨q, hq⟩ ⟨hl, hd, _, (rel.put k eb rv).keeps fun c ys ec => ?_, q, es, ep, hq, h2, h3, h4, h5⟩
    rw [upd_ne (ne_of ec e (fun z => nomatch z))]
    exact ec
end

section
variable {X : Cx} {pins : List (Addr × Obj)} {σ : St} {H : Hp} {s : Shared} {a : Addr} {kvs : List (Key × V)} {k : Key} {u : Value} {A : Around} {E : Value → Shared → Prop}
/-- del d[k] -/
theorem d_delItem {Q : Unit → Shared → Prop} (I : Inv X pins σ H s) (e : H a = some (.dK kvs)) (ry : RelV (kV k) u) (l : (valV kvs k).isSome = true) (h : ∀ s', Inv X pins σ (upd H a (.dK (dropK kvs k))) s' → Q () s') :
    wpAny (model X.prog X.w) A (delItem (.ref a) u) Q E s := by
  obtain ⟨z, hd, vs, rel, dd⟩ := dk_of I.hok e
  refine wpAny_delItem_slot dd.typeIs (by decide) PySem.F.slot_dict_delitem
    (call_meetsIn PySem.F.slot_dict_delitem dd.typeIs PySem.F.entry_dict_delitem (PySem.F.args_dict_delitem_2 _ _) (meets_dict_delitem_pairs (mixKind X.prog X.w) a (kV_is ry)) ⟨vs, dd, by rw [← rel.length]; exact z, by rw [← (rel.val k).isSome_eq]; exact l, fun h' dd' hs => h _ ?_⟩)
  have he : ∃ q, h'.get? a = some q := let ⟨q, _, _, hq, _⟩ := dd'; ⟨q, hq⟩
  exact d_write I (by rw [e]; exact True.intro) hs he (dk_new (Nat.le_trans (dropK_le kvs k) z) hd (rel.drop k) dd')
/-- d.pop(k[, x]), there -/
theorem d_pop {v : V} {more : List Value} {Q : Value → Shared → Prop} (I : Inv X pins σ H s) (e : H a = some (.dK kvs)) (ry : RelV (kV k) u) (l : valV kvs k = some v) (hm : more = [] ∨ ∃ x, more = [x])
    (h : ∀ w' s', Inv X pins σ (upd H a (.dK (dropK kvs k))) s' → RelV v w' → Q w' s') : wpAny (model X.prog X.w) A (call (.builtin "dict.pop") (.ref a :: u :: more)) Q E s := by
  obtain ⟨z, hd, vs, rel, dd⟩ := dk_of I.hok e
  obtain ⟨w', hw, rw'⟩ := RelO.some_of (v := v) (o := valueAt vs k) (by rw [← l]; exact rel.val k)
  have hp : (keyPart u).isSome = true := by
    cases k with
    | inl i => obtain ⟨t, q⟩ := (show ∃ t, u = Value.int i t from ry); subst q; rfl
    | inr x => obtain ⟨t, q⟩ := (show ∃ t, u = Value.str x t from ry); subst q; rfl
  have ha : argsOk "dict.pop" ⟨.ref a :: u :: more, []⟩ := by
    rcases hm with q | ⟨x, q⟩
    · subst q; exact PySem.F.args_dict_pop_2 _ _
    · subst q; exact PySem.F.args_dict_pop_3 _ _ _
  refine call_meetsIn PySem.F.slot_dict_pop dd.typeIs PySem.F.entry_dict_pop ha (meets_dict_pop_there (mixKind X.prog X.w) a (kV_is ry) more hm hp)
    ⟨vs, w', dd, by rw [← rel.length]; exact z, hw, fun h' dd' hs => h w' _ ?_ rw'⟩
  have he : ∃ q, h'.get? a = some q := let ⟨q, _, _, hq, _⟩ := dd'; ⟨q, hq⟩
  exact d_write I (by rw [e]; exact True.intro) hs he (dk_new (Nat.le_trans (dropK_le kvs k) z) hd (rel.drop k) dd')
/-- d.pop(k, x), not there -/
theorem d_popD {r : Value} {Q : Value → Shared → Prop} (I : Inv X pins σ H s) (e : H a = some (.dK kvs)) (ry : RelV (kV k) u) (l : valV kvs k = none) (h : ∀ s', Inv X pins σ H s' → Q r s') :
    wpAny (model X.prog X.w) A (call (.builtin "dict.pop") [.ref a, u, r]) Q E s := by
  obtain ⟨z, hd, vs, rel, dd⟩ := dk_of I.hok e
  have hn : valueAt vs k = none := RelO.none_of (by rw [← l]; exact rel.val k)
  have hp : (keyPart u).isSome = true := by
    cases k with
    | inl i => obtain ⟨t, q⟩ := (show ∃ t, u = Value.int i t from ry); subst q; rfl
    | inr x => obtain ⟨t, q⟩ := (show ∃ t, u = Value.str x t from ry); subst q; rfl
  exact call_meetsIn PySem.F.slot_dict_pop dd.typeIs PySem.F.entry_dict_pop (PySem.F.args_dict_pop_3 _ _ _) (meets_dict_pop_default (mixKind X.prog X.w) a (kV_is ry) hd hp r) ⟨vs, dd, hn, h _ (I.tok _)⟩
/-- d.clear() -/
theorem d_clear {Q : Value → Shared → Prop} (I : Inv X pins σ H s) (e : H a = some (.dK kvs)) (h : ∀ s', Inv X pins σ (upd H a (.dK [])) s' → Q .none s') : wpAny (model X.prog X.w) A (call (.builtin "dict.clear") [.ref a]) Q E s := by
  obtain ⟨z, hd, vs, rel, dd⟩ := dk_of I.hok e
  refine call_meetsIn PySem.F.slot_dict_clear dd.typeIs PySem.F.entry_dict_clear (PySem.F.args_dict_clear_1 _) (meets_dict_clear (mixKind X.prog X.w) a) ⟨vs, dd, by rw [← rel.length]; exact z, fun h' dd' hs => h _ ?_⟩
  have he : ∃ q, h'.get? a = some q := let ⟨q, _, _, hq, _⟩ := dd'; ⟨q, hq⟩
  exact d_write (t' := s.toks) I (by rw [e]; exact True.intro) hs he (dk_new (Nat.zero_le _) hd .nil dd')
/-- len(d) -/
theorem d_len {Q : Value → Shared → Prop} (I : Inv X pins σ H s) (e : Rd H a (.dK kvs)) (h : ∀ t s', Inv X pins σ H s' → Q (.int kvs.length t) s') : wpAny (model X.prog X.w) A (call (.builtin "len") [.ref a]) Q E s := by
  obtain ⟨z, hd, vs, rel, dd⟩ := dk_rd I.hok e
  refine call_len_dict hd dd (by rw [← rel.length]; rw [sizeLine_eq] at z; omega) ?_
  rw [← rel.length]
  exact h _ _ (I.tok _)
/-- if d -/
theorem d_truth {Q : Bool → Shared → Prop} (I : Inv X pins σ H s) (e : Rd H a (.dK kvs)) (h : ∀ s', Inv X pins σ H s' → Q (!kvs.isEmpty) s') : wpAny (model X.prog X.w) A (truthy (.ref a)) Q E s := by
  obtain ⟨z, hd, vs, rel, dd⟩ := dk_rd I.hok e
  refine wpAny_truthy_dict hd dd (by rw [← rel.length]; rw [sizeLine_eq] at z; omega) ?_
  have q : kvs.isEmpty = vs.isEmpty := by cases rel <;> rfl
  rw [← q]
  exact h _ (I.tok _)
end


/-! ### readings and rules -/
/-- the element of a subscription, not a slice -/
def NoSl (i : Expr) : Prop := ∀ ov iv, subscripted i false ov iv = operate [ov, iv] (getItem ov iv)
theorem subD_of {prog : Program} {w : World} {A : Around} {E : Value → Shared → Prop} {s : Shared} {env : Env} {value slice : Expr} {pos : Pos} {T id : String} {Q : Value → Shared → Prop}
    (hl : typeLookup (.type T) "__getitem__" = pure (some (.builtin id))) (hs : NoSl slice)
    (h : wpAny (model prog w) A (eval value env) (fun o s₁ => wpAny (model prog w) A (eval slice env) (fun i s₂ => s₂.TypeIs o T ∧ wpAny (model prog w) A (getItem o i) Q E s₂) E s₁) E s) :
    wpAny (model prog w) A (eval (.Subscript value slice pos) env) Q E s := by
  refine Subscript_ (wpAny_mono h (fun o s₁ h₁ => wpAny_mono h₁ (fun i s₂ h₂ => ?_) fun _ _ x => x) fun _ _ x => x)
  obtain ⟨hT, h₂⟩ := h₂
  unfold subscriptTail
  refine wpAny_bind ?_
  rw [getitemInPython_of_ne hT.not_modules]
  refine wpAny_bind (wpAny_specialOf hT hl ?_)
  have fin : wpAny (model prog w) A (subscripted slice false o i) (fun r s₃ => wpAny (model prog w) A (letTemporaryGo value o r >>= fun _ => pure r) Q E s₃) E s₂ := by
    rw [hs o i]
    exact wpAny_operating (wpAny_mono h₂ (fun r s₃ h₃ => wpAny_bind (wpAny_letTemporaryGo (wpAny_pure h₃))) fun _ _ x => x)
  first
    | exact wpAny_pure (wpAny_bind fin)
    | exact wpAny_bind (wpAny_pure (wpAny_bind fin))
    | exact wpAny_bind fin

theorem dict_typeIs {X : Cx} {pins : List (Addr × Obj)} {σ : St} {H : Hp} {s : Shared} {a : Addr} {y : V} {o : Option V} (I : Inv X pins σ H s) (g : DGet H a y o) : s.TypeIs (.ref a) "dict" := by
  rcases g with ⟨kvs, k, e, _, _⟩ | ⟨kvs, k, b, e, _, _, _⟩
  · obtain ⟨_, _, vs, _, dd⟩ := dk_rd I.hok e
    exact dd.typeIs
  · obtain ⟨_, _, xs, _, dd⟩ := dt_rd I.hok e
    exact dd.typeIs
theorem dict_noDict {X : Cx} {pins : List (Addr × Obj)} {σ : St} {H : Hp} {s : Shared} {a : Addr} {y : V} {o : Option V} (I : Inv X pins σ H s) (g : DGet H a y o) :
    ∀ b, Value.ref a = .ref b → ∃ ob, s.heap.get? b = some ob ∧ ob.dict = none := fun b q => by
  cases q
  rcases g with ⟨kvs, k, e, _, _⟩ | ⟨kvs, k, b, e, _, _, _⟩
  · obtain ⟨_, _, vs, _, ob, _, _, h1, h2, _⟩ := dk_rd I.hok e
    exact ⟨ob, h1, h2.2.1⟩
  · obtain ⟨_, _, xs, _, ob, _, _, h1, h2, _⟩ := dt_rd I.hok e
    exact ⟨ob, h1, h2.2.1⟩

/-- d[y] -/
def tDGet (td ty : TE) : TE := fun σ H Q => td σ H fun x H1 => ty σ H1 fun y H2 => ∃ a v, x = .ref a ∧ DGet H2 a y (some v) ∧ Q v H2
/-- y in d, y not in d -/
def tDIn (ty td : TE) : TE := fun σ H Q => ty σ H fun y H1 => td σ H1 fun x H2 => ∃ a o, x = .ref a ∧ DGet H2 a y o ∧ Q (.bl o.isSome) H2
def tDNotIn (ty td : TE) : TE := fun σ H Q => ty σ H fun y H1 => td σ H1 fun x H2 => ∃ a o, x = .ref a ∧ DGet H2 a y o ∧ Q (.bl (!o.isSome)) H2
/-- d[y] = v -/
def sDPut (td ty tv : TE) : TS := fun D σ H => tv σ H fun v H1 => td σ H1 fun x H2 => ty σ H2 fun y H3 => ∃ a H4, x = .ref a ∧ DPut H3 a y v H4 ∧ D.nx σ H4
/-- d[y] op= v -/
def sDAug (td ty tv : TE) (rd : V → V → Hp → VK → Prop) : TS := fun D σ H => td σ H fun x H1 => ty σ H1 fun y H2 => ∃ a v, x = .ref a ∧ DGet H2 a y (some v) ∧
  tv σ H2 fun y2 H3 => rd v y2 H3 fun z H4 => ∃ H5, DPut H4 a y z H5 ∧ D.nx σ H5
/-- del d[y] -/
def sDDel (td ty : TE) : TS := fun D σ H => td σ H fun x H1 => ty σ H1 fun y H2 => ∃ a kvs k, x = .ref a ∧ H2 a = some (.dK kvs) ∧ y = kV k ∧ (valV kvs k).isSome = true ∧ D.nx σ (upd H2 a (.dK (dropK kvs k)))

section
variable {X : Cx} {o i e value : Expr} {pos pos' tpos : Pos} {td ty tv : TE}
theorem pe_dget (hu : X.A.units + 1 < cLine) (ho : PE X o td) (hi : PE X i ty) (hs : NoSl i) : PE X (.Subscript o i pos) (tDGet td ty) := by
  intro pins s σ H Q I h
  refine subD_of PySem.F.slot_dict_getitem.lookup hs (thn (ho pins s σ H _ I h) fun u s1 ⟨x, H1, I1, rx, q1⟩ => thn (hi pins s1 σ H1 _ I1 q1) fun iv s2 ⟨y, H2, I2, ry, a, v, ex, g, q2⟩ => ?_)
  subst ex
  obtain rfl : u = Value.ref a := rx
  exact ⟨dict_typeIs I2 g, d_getItem hu I2 g ry fun w' s3 I3 rw' => ⟨v, H2, I3, rw', q2⟩⟩
theorem pc_din (hu : X.A.units + 1 < cLine) (hi : PE X i ty) (ho : PE X o td) : PC X .In i o (tDIn ty td) := by
  intro pins s σ H Q I h
  refine thn (hi pins s σ H _ I h) fun iv s1 ⟨y, H1, I1, ry, q1⟩ => thn (ho pins s1 σ H1 _ I1 q1) fun u s2 ⟨x, H2, I2, rx, a, ov, ex, g, q2⟩ => ?_
  subst ex
  obtain rfl : u = Value.ref a := rx
  exact d_in hu I2 g ry fun s3 I3 => ⟨.bl ov.isSome, H2, I3, rfl, q2⟩
theorem pc_dnotin (hu : X.A.units + 1 < cLine) (hi : PE X i ty) (ho : PE X o td) : PC X .NotIn i o (tDNotIn ty td) := by
  intro pins s σ H Q I h
  refine thn (hi pins s σ H _ I h) fun iv s1 ⟨y, H1, I1, ry, q1⟩ => thn (ho pins s1 σ H1 _ I1 q1) fun u s2 ⟨x, H2, I2, rx, a, ov, ex, g, q2⟩ => ?_
  subst ex
  obtain rfl : u = Value.ref a := rx
  exact d_notIn hu I2 g ry fun s3 I3 => ⟨.bl (!ov.isSome), H2, I3, rfl, q2⟩
theorem ps_dput (hu : X.A.units + 1 < cLine) (ho : PE X o td) (hi : PE X i ty) (hv : PE X value tv) (hs : swapsWith value (some (.Subscript o i pos')) pos.line X.env = pure false) :
    PS X (.Assign [.Subscript o i pos'] value pos) (sDPut td ty tv) := by
  intro pins s σ H D I h
  refine wpAny_Assign_Subscript (thn (hv pins s σ H _ I h) fun r s1 ⟨v, H1, I1, rv, q1⟩ => thn (ho pins s1 σ H1 _ I1 q1) fun u s2 ⟨x, H2, I2, rx, q2⟩ => thn (hi pins s2 σ H2 _ I2 q2) fun iv s3 ⟨y, H3, I3, ry, a, H4, ex, g, q3⟩ => ?_) hs
  subst ex
  obtain rfl : u = Value.ref a := rx
  exact d_setItem hu I3 g ry rv fun s4 I4 => ⟨σ, H4, I4, q3⟩
theorem ps_daug {op : Operator} {rd : V → V → Hp → VK → Prop} (hu : X.A.units + 1 < cLine) (ho : PE X o td) (hi : PE X i ty) (hv : PE X value tv) (hop : InOp X op rd)
    (ha : ∀ ov iv new, augStore i ov iv new = (do holding [new, ov, iv] (setItem ov iv new); release [new, ov, iv] []; pure .next)) : PS X (.AugAssign (.Subscript o i tpos) op value pos) (sDAug td ty tv rd) := by
  intro pins s σ H D I h
  refine wpAny_AugAssign_SubscriptAny (thn (ho pins s σ H _ I h) fun u s1 ⟨x, H1, I1, rx, q1⟩ => thn (hi pins s1 σ H1 _ I1 q1) fun iv s2 ⟨y, H2, I2, ry, a, v, ex, g, q2⟩ => ?_) ha
  subst ex
  obtain rfl : u = Value.ref a := rx
  refine d_getItem hu I2 g ry fun w' s3 I3 rw' => thn (hv pins s3 σ H2 _ I3 q2) fun w2 s4 ⟨y2, H3, I4, ry2, q3⟩ => thn (hop pins s4 σ H3 v y2 w' w2 _ I4 rw' ry2 q3) fun w3 s5 ⟨z, H4, I5, rz, H5, g5, q4⟩ => ?_
  exact d_setItem hu I5 g5 ry rz fun s6 I6 => ⟨σ, H5, I6, q4⟩
theorem ps_ddel (ho : PE X o td) (hi : PE X i ty) : PS X (.Delete [.Subscript o i tpos] pos) (sDDel td ty) := by
  intro pins s σ H D I h
  refine wpAny_Delete (wpAny_deleteEach_cons (wpAny_delete_Subscript (thn (ho pins s σ H _ I h) fun u s1 ⟨x, H1, I1, rx, q1⟩ => thn (hi pins s1 σ H1 _ I1 q1) fun iv s2 ⟨y, H2, I2, ry, a, kvs, k, ex, e, ey, l, q2⟩ => ?_)))
  subst ex ey
  obtain rfl : u = Value.ref a := rx
  exact d_delItem I2 e ry l fun s3 I3 => wpAny_deleteEach_nil ⟨σ, _, I3, q2⟩
end


/-! ### displays -/
theorem dk_empty {P : Program} {w : World} {H : Hp} (h : Heap) (hb : sysModules < h.objs.size) : ObjOk P w H (h.push { cls := .type "dict", data := .dict #[] }) h.objs.size (.dK []) :=
  ⟨Nat.zero_le _, beq_eq_false_iff_ne.mpr (Ne.symm (Nat.ne_of_lt hb)), [], .nil, Heap.DictOf.new h⟩
theorem dt_empty {P : Program} {w : World} {H : Hp} (h : Heap) (hb : sysModules < h.objs.size) : ObjOk P w H (h.push { cls := .type "dict", data := .dict #[] }) h.objs.size (.dT []) :=
  ⟨Nat.zero_le _, beq_eq_false_iff_ne.mpr (Ne.symm (Nat.ne_of_lt hb)), [], .nil, _, #[], 0, Heap.get?_push_size _ rfl, ⟨rfl, rfl, rfl⟩, rfl, rfl, List.nodup_nil⟩
/-- {}, to be a dict of the kind that is wanted -/
def tDNewK : TE := fun _ H Q => ∀ p, H p = none → Q (.ref p) (upd H p (.dK []))
def tDNewT : TE := fun _ H Q => ∀ p, H p = none → Q (.ref p) (upd H p (.dT []))
section
variable {X : Cx} {pos : Pos}
theorem pe_dnewK : PE X (.Dict [] [] pos) tDNewK := fun pins s σ H Q I h =>
  wpAny_Dict_empty ⟨.ref s.heap.objs.size, _, I.laid (a := s.heap.objs.size) (o := .dK []) (t' := s.toks) (fun _ _ q => Heap.get?_push_of_some _ q) (Nat.le_refl _) (dk_empty s.heap I.big), rfl, h _ (I.hok.fresh (Nat.le_refl _))⟩
theorem pe_dnewT : PE X (.Dict [] [] pos) tDNewT := fun pins s σ H Q I h =>
  wpAny_Dict_empty ⟨.ref s.heap.objs.size, _, I.laid (a := s.heap.objs.size) (o := .dT []) (t' := s.toks) (fun _ _ q => Heap.get?_push_of_some _ q) (Nat.le_refl _) (dt_empty s.heap I.big), rfl, h _ (I.hok.fresh (Nat.le_refl _))⟩
end

/-- the pairs of a display, from the left -/
def tPairs : List (TE × TE) → St → Hp → (List (V × V) → Hp → Prop) → Prop
  | [], _, H, Q => Q [] H
  | (tk, tv) :: r, σ, H, Q => tk σ H fun x H1 => tv σ H1 fun y H2 => tPairs r σ H2 fun ps H3 => Q ((x, y) :: ps) H3
abbrev VV : List (V × V) → List (Value × Value) → Prop := Paired fun p q => RelV p.1 q.1 ∧ RelV p.2 q.2
def PPs (X : Cx) (pos : Pos) (keys : List (Option Expr)) (values : List Expr) (trs : List (TE × TE)) : Prop :=
  ∀ (pins : List (Addr × Obj)) (s : Shared) (σ : St) (H : Hp) (Q : List (V × V) → Hp → Prop), Inv X pins σ H s → tPairs trs σ H Q →
    wpAny (model X.prog X.w) X.A (evalPairs (pairTrees keys values X.env pos)) (fun vs s' => ∃ ps H', Inv X pins σ H' s' ∧ VV ps vs ∧ Q ps H') X.xe s
theorem pps_nil {X : Cx} {pos : Pos} : PPs X pos [] [] [] := fun pins s σ H Q I h => pairTrees_nil_walk ⟨[], H, I, .nil, h⟩
theorem pps_cons {X : Cx} {pos : Pos} {k v : Expr} {ks : List (Option Expr)} {vs : List Expr} {tk tv : TE} {trs : List (TE × TE)} (hk : PE X k tk) (hv : PE X v tv) (hr : PPs X pos ks vs trs) :
    PPs X pos (some k :: ks) (v :: vs) ((tk, tv) :: trs) := fun pins s σ H Q I h =>
  pairTrees_cons_walk (thn (hk pins s σ H _ I h) fun u s1 ⟨x, H1, I1, rx, q1⟩ => thn (hv pins s1 σ H1 _ I1 q1) fun w2 s2 ⟨y, H2, I2, ry, q2⟩ =>
    thn (hr pins s2 σ H2 _ I2 q2) fun ws s3 ⟨ps, H3, I3, rel, q3⟩ => ⟨(x, y) :: ps, H3, I3, .cons ⟨rx, ry⟩ rel, q3⟩)

def mergeK (kvs more : List (Key × V)) : List (Key × V) := more.foldl (fun acc kv => putK acc kv.1 kv.2) kvs
theorem KV.merge : ∀ {more : List (Key × V)} {rs : List (Key × Value)} {kvs : List (Key × V)} {vs : List (Key × Value)}, KV more rs → KV kvs vs → KV (mergeK kvs more) (merged vs rs) := by
  intro more rs kvs vs r
  unfold KV at r
  induction r generalizing kvs vs with
  | nil => intro q; exact q
  | @cons p q ps qs h t ih =>
    intro r0
    have e : KV (putK kvs p.1 p.2) (stored vs q.1 q.2) := by
      have := r0.put p.1 h.2
      rw [← h.1]; exact this
    exact ih e
theorem length_mergeK : ∀ (more kvs : List (Key × V)), (mergeK kvs more).length ≤ kvs.length + more.length
  | [], kvs => by show kvs.length ≤ kvs.length + 0; omega
  | p :: r, kvs => by
    have h1 := length_mergeK r (putK kvs p.1 p.2)
    have h2 := length_putK kvs p.1 p.2
    show (mergeK (putK kvs p.1 p.2) r).length ≤ _
    rw [List.length_cons]; omega
theorem carries_of {P : Program} {w : World} : ∀ {kvs : List (Key × V)} {ws : List (Value × Value)}, VV (kvs.map fun kv => (kV kv.1, kv.2)) ws → ∃ rs, Carries (mixKind P w) ws rs ∧ KV kvs rs
  | [], _, r => by rw [List.map_nil] at r; cases r; exact ⟨[], True.intro, .nil⟩
  | p :: kvs, _, r => by
    rw [List.map_cons] at r
    cases r with
    | @cons a b as bs h t =>
      obtain ⟨rs, c, q⟩ := carries_of (P := P) (w := w) t
      obtain ⟨b1, b2⟩ := b
      exact ⟨(p.1, b2) :: rs, ⟨kV_is h.1, rfl, c⟩, .cons ⟨rfl, h.2⟩ q⟩
/-- {k: v, ..} with keys ints and texts; the new dict stands empty while the pairs are made -/
def tDisp (trs : List (TE × TE)) : TE := fun σ H Q => ∀ p, H p = none → tPairs trs σ (upd H p (.dK [])) fun ps H2 => H2 p = some (.dK []) ∧ ∃ kvs : List (Key × V), ps = kvs.map (fun kv => (kV kv.1, kv.2)) ∧ kvs.length ≤ 15 ∧ Q (.ref p) (upd H2 p (.dK (mergeK [] kvs)))
theorem pe_disp {X : Cx} {pos : Pos} {keys : List (Option Expr)} {values : List Expr} {trs : List (TE × TE)} (h : PPs X pos keys values trs) (hall : keys.all (·.isSome) = true) (hl : keys.length = values.length) (h0 : keys ≠ [])
    (h15 : keys.length ≤ 15) : PE X (.Dict keys values pos) (tDisp trs) := by
  intro pins s σ H Q I q
  have hn := I.hok.fresh (Nat.le_refl s.heap.objs.size)
  have I1 := I.laid (a := s.heap.objs.size) (o := .dK []) (h' := s.heap.push { cls := .type "dict", data := .dict #[] }) (t' := s.toks) (fun _ _ q => Heap.get?_push_of_some _ q) (Nat.le_refl _) (dk_empty s.heap I.big)
  refine wpAny_Dict_walk (knd := mixKind X.prog X.w) hall hl h0 h15 (thn (h pins _ σ _ _ I1 (q _ hn)) fun ws s2 ⟨ps, H2, I2, rel, e, kvs, ep, lk, q2⟩ => ?_)
  subst ep
  obtain ⟨rs, c, rk⟩ := carries_of (P := X.prog) (w := X.w) rel
  obtain ⟨z, hd, vs0, r0, dd⟩ := dk_of I2.hok e
  cases r0
  refine ⟨rs, c, dd, fun h' dd' hs => ⟨.ref s.heap.objs.size, _, ?_, rfl, q2⟩⟩
  have hz : (mergeK [] kvs).length ≤ sizeLine := by
    have h1 := length_mergeK kvs []
    rw [List.length_nil] at h1
    rw [sizeLine_eq]; omega
  have he : ∃ q, h'.get? s.heap.objs.size = some q := let ⟨q, _, _, hq, _⟩ := dd'; ⟨q, hq⟩
  exact d_write I2 (by rw [e]; exact True.intro) hs he (dk_new hz hd (rk.merge .nil) dd')


/-! ### methods -/
/-- a method call o.m(e) of a built-in, with one argument: what must be seen of the text -/
structure M1 (X : Cx) (o : Expr) (m : Str) (apos : Pos) (e : Expr) (cpos : Pos) : Prop where
  base : attributeBase o m X.env (eval o X.env) = eval o X.env
  few : ((backTo cpos (starEach [e] X.env)).all (fun x => !x.1) && (backToKw cpos (keywordEach [] X.env)).all (fun x => x.1.isSome)
    && decide (([e] : List Expr).length + ([] : List Keyword).length + (if ([] : List Keyword).isEmpty then 0 else 1) < 30)) = true
  line : (apos.endLine == cpos.line) = true
  trees : backTo cpos (starEach [e] X.env) = [(false, eval e X.env)]
structure M2 (X : Cx) (o : Expr) (m : Str) (apos : Pos) (e f : Expr) (cpos : Pos) : Prop where
  base : attributeBase o m X.env (eval o X.env) = eval o X.env
  few : ((backTo cpos (starEach [e, f] X.env)).all (fun x => !x.1) && (backToKw cpos (keywordEach [] X.env)).all (fun x => x.1.isSome)
    && decide (([e, f] : List Expr).length + ([] : List Keyword).length + (if ([] : List Keyword).isEmpty then 0 else 1) < 30)) = true
  line : (apos.endLine == cpos.line) = true
  trees : backTo cpos (starEach [e, f] X.env) = [(false, eval e X.env), (false, eval f X.env)]

/-- a is a dict, whatever its keys -/
def IsD (H : Hp) (a : Addr) : Prop := (∃ kvs, Rd H a (.dK kvs)) ∨ ∃ kvs, Rd H a (.dT kvs)
theorem isD_at {X : Cx} {pins : List (Addr × Obj)} {σ : St} {H : Hp} {s : Shared} {a : Addr} (I : Inv X pins σ H s) (d : IsD H a) :
    s.TypeIs (.ref a) "dict" ∧ (∀ b, Value.ref a = .ref b → ∃ ob, s.heap.get? b = some ob ∧ ob.dict = none) ∧ (a == sysModules) = false := by
  rcases d with ⟨kvs, e⟩ | ⟨kvs, e⟩
  · obtain ⟨_, hd, vs, _, dd⟩ := dk_rd I.hok e
    refine ⟨dd.typeIs, fun b q => ?_, hd⟩
    cases q
    obtain ⟨ob, _, _, h1, h2, _⟩ := dd
    exact ⟨ob, h1, h2.2.1⟩
  · obtain ⟨_, hd, xs, _, dd⟩ := dt_rd I.hok e
    refine ⟨dd.typeIs, fun b q => ?_, hd⟩
    cases q
    obtain ⟨ob, _, _, h1, h2, _⟩ := dd
    exact ⟨ob, h1, h2.2.1⟩

section
variable {X : Cx} {pins : List (Addr × Obj)} {σ : St} {H : Hp} {s : Shared} {a : Addr} {y d : V} {u r : Value} {o : Option V} {A : Around} {E : Value → Shared → Prop}
/-- d.get(y) -/
theorem d_get1 {Q : Value → Shared → Prop} (hu : A.units + 1 < cLine) (I : Inv X pins σ H s) (g : DGet H a y o) (ry : RelV y u) (h : ∀ w' s', Inv X pins σ H s' → RelV (o.getD .non) w' → Q w' s') :
    wpAny (model X.prog X.w) A (call (.builtin "dict.get") [.ref a, u]) Q E s := by
  rcases g with ⟨kvs, k, e, ey, l⟩ | ⟨kvs, k, b, e, ey, eb, l⟩
  · subst ey
    obtain ⟨z, hd, vs, rel, dd⟩ := dk_rd I.hok e
    refine call_meetsIn PySem.F.slot_dict_get dd.typeIs PySem.F.entry_dict_get (PySem.F.args_dict_get_2 _ _) (meets_dict_get (mixKind X.prog X.w) a (kV_is ry) hd) ⟨_, dd.mapOf, h _ _ (I.tok _) ?_⟩
    rw [l]
    exact (rel.val k).getD rfl
  · subst ey
    cases (show u = Value.ref b from ry)
    obtain ⟨z, hd, xs, rel, dd⟩ := dt_rd I.hok e
    refine call_meetsIn PySem.F.slot_dict_get dd.typeIs PySem.F.entry_dict_get (PySem.F.args_dict_get_2 _ _) (meetsH_dict_get (tupleKind (mixKind X.prog X.w)) a b hd) ⟨tupleKind_room_in1 hu, k, xs, key_of I.hok eb, dd, h _ _ (I.tok _) ?_⟩
    rw [l]
    exact (rel.val k).getD rfl
/-- d.get(y, x) -/
theorem d_get2 {Q : Value → Shared → Prop} (hu : A.units + 1 < cLine) (I : Inv X pins σ H s) (g : DGet H a y o) (ry : RelV y u) (rd : RelV d r) (h : ∀ w' s', Inv X pins σ H s' → RelV (o.getD d) w' → Q w' s') :
    wpAny (model X.prog X.w) A (call (.builtin "dict.get") [.ref a, u, r]) Q E s := by
  rcases g with ⟨kvs, k, e, ey, l⟩ | ⟨kvs, k, b, e, ey, eb, l⟩
  · subst ey
    obtain ⟨z, hd, vs, rel, dd⟩ := dk_rd I.hok e
    refine call_meetsIn PySem.F.slot_dict_get dd.typeIs PySem.F.entry_dict_get (PySem.F.args_dict_get_3 _ _ _) (meets_dict_get_default (mixKind X.prog X.w) a (kV_is ry) hd r) ⟨_, dd.mapOf, h _ _ (I.tok _) ?_⟩
    rw [l]
    exact (rel.val k).getD rd
  · subst ey
    cases (show u = Value.ref b from ry)
    obtain ⟨z, hd, xs, rel, dd⟩ := dt_rd I.hok e
    refine call_meetsIn PySem.F.slot_dict_get dd.typeIs PySem.F.entry_dict_get (PySem.F.args_dict_get_3 _ _ _) (meetsH_dict_get_default (tupleKind (mixKind X.prog X.w)) a b hd r) ⟨tupleKind_room_in1 hu, k, xs, key_of I.hok eb, dd, h _ _ (I.tok _) ?_⟩
    rw [l]
    exact (rel.val k).getD rd
end

def tDGet1 (td ty : TE) : TE := fun σ H Q => td σ H fun x H1 => ∃ a, x = .ref a ∧ IsD H1 a ∧ ty σ H1 fun y H2 => ∃ o, DGet H2 a y o ∧ Q (o.getD .non) H2
def tDGet2 (td ty tx : TE) : TE := fun σ H Q => td σ H fun x H1 => ∃ a, x = .ref a ∧ IsD H1 a ∧ ty σ H1 fun y H2 => tx σ H2 fun z H3 => ∃ o, DGet H3 a y o ∧ Q (o.getD z) H3
/-- d.pop(k): there; d.pop(k, x): there or not -/
def tDPop1 (td ty : TE) : TE := fun σ H Q => td σ H fun x H1 => ∃ a, x = .ref a ∧ IsD H1 a ∧ ty σ H1 fun y H2 => ∃ kvs k v, H2 a = some (.dK kvs) ∧ y = kV k ∧ valV kvs k = some v ∧ Q v (upd H2 a (.dK (dropK kvs k)))
def tDPop2 (td ty tx : TE) : TE := fun σ H Q => td σ H fun x H1 => ∃ a, x = .ref a ∧ IsD H1 a ∧ ty σ H1 fun y H2 => tx σ H2 fun z H3 => ∃ kvs k, H3 a = some (.dK kvs) ∧ y = kV k ∧
  (∀ v, valV kvs k = some v → Q v (upd H3 a (.dK (dropK kvs k)))) ∧ (valV kvs k = none → Q z H3)
section
variable {X : Cx} {o e f : Expr} {apos cpos : Pos} {td ty tx : TE}
theorem pe_dget1 (hu : X.A.units + 1 < cLine) (ho : PE X o td) (he : PE X e ty) (m : M1 X o "get" apos e cpos) : PE X (.Call (.Attribute o "get" apos) [e] [] cpos) (tDGet1 td ty) := by
  intro pins s σ H Q I h
  refine wpAny_Call_method m.base m.few m.line PySem.F.plainAttrs_dict PySem.F.slot_dict_get PySem.F.type_dict_get (thn (ho pins s σ H _ I h) fun u s1 ⟨x, H1, I1, rx, a, ex, d, q1⟩ => ?_)
  subst ex
  obtain rfl : u = Value.ref a := rx
  obtain ⟨t1, t2, _⟩ := isD_at I1 d
  refine ⟨t1, t2, ?_⟩
  rw [m.trees]
  refine Calls.callWith_builtin rfl (Calls.evalArgs_plain (Calls.spliced_cons (thn (he pins s1 σ H1 _ I1 q1) fun iv s2 ⟨y, H2, I2, ry, ov, g, q2⟩ => Calls.spliced_nil ?_)))
  exact d_get1 hu I2 g ry fun w' s3 I3 rw' => ⟨_, H2, I3, rw', q2⟩
theorem pe_dget2 (hu : X.A.units + 1 < cLine) (ho : PE X o td) (he : PE X e ty) (hf : PE X f tx) (m : M2 X o "get" apos e f cpos) : PE X (.Call (.Attribute o "get" apos) [e, f] [] cpos) (tDGet2 td ty tx) := by
  intro pins s σ H Q I h
  refine wpAny_Call_method m.base m.few m.line PySem.F.plainAttrs_dict PySem.F.slot_dict_get PySem.F.type_dict_get (thn (ho pins s σ H _ I h) fun u s1 ⟨x, H1, I1, rx, a, ex, d, q1⟩ => ?_)
  subst ex
  obtain rfl : u = Value.ref a := rx
  obtain ⟨t1, t2, _⟩ := isD_at I1 d
  refine ⟨t1, t2, ?_⟩
  rw [m.trees]
  refine Calls.callWith_builtin rfl (Calls.evalArgs_plain (Calls.spliced_cons (thn (he pins s1 σ H1 _ I1 q1) fun iv s2 ⟨y, H2, I2, ry, q2⟩ =>
    Calls.spliced_cons (thn (hf pins s2 σ H2 _ I2 q2) fun fv s3 ⟨z, H3, I3, rz, ov, g, q3⟩ => Calls.spliced_nil ?_))))
  exact d_get2 hu I3 g ry rz fun w' s4 I4 rw' => ⟨_, H3, I4, rw', q3⟩
theorem pe_dpop1 (ho : PE X o td) (he : PE X e ty) (m : M1 X o "pop" apos e cpos) : PE X (.Call (.Attribute o "pop" apos) [e] [] cpos) (tDPop1 td ty) := by
  intro pins s σ H Q I h
  refine wpAny_Call_method m.base m.few m.line PySem.F.plainAttrs_dict PySem.F.slot_dict_pop PySem.F.type_dict_pop (thn (ho pins s σ H _ I h) fun u s1 ⟨x, H1, I1, rx, a, ex, d, q1⟩ => ?_)
  subst ex
  obtain rfl : u = Value.ref a := rx
  obtain ⟨t1, t2, _⟩ := isD_at I1 d
  refine ⟨t1, t2, ?_⟩
  rw [m.trees]
  refine Calls.callWith_builtin rfl (Calls.evalArgs_plain (Calls.spliced_cons (thn (he pins s1 σ H1 _ I1 q1) fun iv s2 ⟨y, H2, I2, ry, kvs, k, v, ea, ey, l, q2⟩ => Calls.spliced_nil ?_)))
  subst ey
  exact d_pop I2 ea ry l (.inl rfl) fun w' s3 I3 rw' => ⟨v, _, I3, rw', q2⟩
theorem pe_dpop2 (ho : PE X o td) (he : PE X e ty) (hf : PE X f tx) (m : M2 X o "pop" apos e f cpos) : PE X (.Call (.Attribute o "pop" apos) [e, f] [] cpos) (tDPop2 td ty tx) := by
  intro pins s σ H Q I h
  refine wpAny_Call_method m.base m.few m.line PySem.F.plainAttrs_dict PySem.F.slot_dict_pop PySem.F.type_dict_pop (thn (ho pins s σ H _ I h) fun u s1 ⟨x, H1, I1, rx, a, ex, d, q1⟩ => ?_)
  subst ex
  obtain rfl : u = Value.ref a := rx
  obtain ⟨t1, t2, _⟩ := isD_at I1 d
  refine ⟨t1, t2, ?_⟩
  rw [m.trees]
  refine Calls.callWith_builtin rfl (Calls.evalArgs_plain (Calls.spliced_cons (thn (he pins s1 σ H1 _ I1 q1) fun iv s2 ⟨y, H2, I2, ry, q2⟩ =>
    Calls.spliced_cons (thn (hf pins s2 σ H2 _ I2 q2) fun fv s3 ⟨z, H3, I3, rz, kvs, k, ea, ey, q3, q4⟩ => Calls.spliced_nil ?_))))
  subst ey
  cases l : valV kvs k with
  | some v => exact d_pop I3 ea ry l (.inr ⟨fv, rfl⟩) fun w' s4 I4 rw' => ⟨v, _, I4, rw', q3 v l⟩
  | none => exact d_popD I3 ea ry l fun s4 I4 => ⟨z, H3, I4, rz, q4 l⟩
end

/-! ### dict(d): a copy -/
section
variable {X : Cx} {pins : List (Addr × Obj)} {σ : St} {H : Hp} {s : Shared} {a : Addr} {kvs : List (Key × V)} {A : Around} {E : Value → Shared → Prop}
theorem d_copyOf {Q : Value → Shared → Prop} (I : Inv X pins σ H s) (e : Rd H a (.dK kvs)) (h : ∀ p s', H p = none → Inv X pins σ (upd H p (.dK kvs)) s' → Q (.ref p) s') : wpAny (model X.prog X.w) A (call (.type "dict") [.ref a]) Q E s := by
  obtain ⟨z, hd, vs, rel, dd⟩ := dk_rd I.hok e
  refine kt_call_dict hd dd (by rw [← rel.length]; exact z) fun h' dd' hs => ?_
  refine h _ _ (I.hok.fresh (Nat.le_refl _)) (I.laid (a := s.heap.objs.size) (o := .dK kvs) (t' := s.toks) (fun b q hq => ?_) (Nat.le_refl _) (dk_new z (beq_eq_false_iff_ne.mpr (Ne.symm (Nat.ne_of_lt I.big))) rel dd'))
  exact (hs.2 b (Nat.ne_of_lt (Heap.lt_size hq))).trans (Heap.get?_push_of_some _ hq)
end


section
variable {X : Cx} {pins : List (Addr × Obj)} {σ : St} {H : Hp} {s : Shared} {a : Addr} {y : V} {u : Value} {A : Around} {E : Value → Shared → Prop}
/-- d[y], not there: a KeyError -/
theorem d_missing {Q : Value → Shared → Prop} (hu : A.units + 1 < cLine) (hh : A.handled = none) (I : Inv X pins σ H s) (g : DGet H a y none) (ry : RelV y u)
    (h : ∀ h' e t', Heap.NewExc s.heap h' e "KeyError" → E (.ref e) { s with heap := h', toks := t' }) : wpAny (model X.prog X.w) A (getItem (.ref a) u) Q E s := by
  rcases g with ⟨kvs, k, e, ey, l⟩ | ⟨kvs, k, b, e, ey, eb, l⟩
  · subst ey
    obtain ⟨z, hd, vs, rel, dd⟩ := dk_rd I.hok e
    have hn : valueAt vs k = none := RelO.none_of (by rw [l]; exact rel.val k)
    exact wpAny_getItem_missing_of (kV_is ry) hd hh dd.mapOf hn fun h' ex ne => h h' ex _ ne
  · subst ey
    cases (show u = Value.ref b from ry)
    obtain ⟨z, hd, xs, rel, dd⟩ := dt_rd I.hok e
    have hn : (atKey xs k).map (·.2) = none := RelO.none_of (by rw [l]; exact rel.val k)
    exact wpAny_getItem_missing_heap (tupleKind_room_in1 hu) (key_of I.hok eb) hd hh dd (Option.map_eq_none_iff.mp hn) fun h' ex ne => h h' ex _ ne
end
end L2
namespace L2
open PySem PySem.Spec PyProof.Rows
/-! ### a dict's pairs: keys that differ -/
section
variable {κ : Type} [DecidableEq κ]
theorem valV_not {kvs : List (κ × V)} {k : κ} (h : valV kvs k = none) : ¬ k ∈ kvs.map (·.1) := by
  intro m
  obtain ⟨p, hp, e⟩ := List.mem_map.mp m
  have q : (kvs.any fun kv => decide (kv.1 = k)) = true := List.any_eq_true.mpr ⟨p, hp, decide_eq_true e⟩
  rw [valV_any, h] at q
  exact absurd q (by simp)
theorem valV_in {kvs : List (κ × V)} {k : κ} {v : V} (h : valV kvs k = some v) : k ∈ kvs.map (·.1) := by
  have q : (kvs.any fun kv => decide (kv.1 = k)) = true := by
    rw [valV_any, h]
    all_goals rfl
  obtain ⟨p, hp, e⟩ := List.any_eq_true.mp q
  exact List.mem_map.mpr ⟨p, hp, of_decide_eq_true e⟩
theorem nd_snoc : ∀ {l : List κ} {k : κ}, l.Nodup → ¬ k ∈ l → (l ++ [k]).Nodup
  | [], k, _, _ => by simp
  | a :: r, k, h, hk => by
    obtain ⟨h1, h2⟩ := List.nodup_cons.mp h
    show (a :: (r ++ [k])).Nodup
    refine List.nodup_cons.mpr ⟨fun m => ?_, nd_snoc h2 fun m => hk (List.mem_cons.mpr (Or.inr m))⟩
    rcases List.mem_append.mp m with q | q
    · exact h1 q
    · exact hk (List.mem_cons.mpr (Or.inl (List.mem_singleton.mp q).symm))
theorem nd_putK {kvs : List (κ × V)} {k : κ} (v : V) (hn : (kvs.map (·.1)).Nodup) (h : valV kvs k = none) : ((putK kvs k v).map (·.1)).Nodup := by
  rw [putK_new v h, List.map_append]
  exact nd_snoc hn (valV_not h)
theorem dropK_pos {p : κ × V} {r : List (κ × V)} {k : κ} (e : p.1 = k) : dropK (p :: r) k = dropK r k := by
  unfold dropK
  rw [List.filter_cons, if_neg (by simp [e])]
theorem dropK_neg {p : κ × V} {r : List (κ × V)} {k : κ} (e : ¬ p.1 = k) : dropK (p :: r) k = p :: dropK r k := by
  unfold dropK
  rw [List.filter_cons, if_pos (by simp [e])]
theorem dropK_no : ∀ {kvs : List (κ × V)} {k : κ}, ¬ k ∈ kvs.map (·.1) → dropK kvs k = kvs
  | [], _, _ => rfl
  | p :: r, k, h => by
    have h' : ¬ k ∈ r.map (·.1) := fun m => by
      obtain ⟨q, hq, e⟩ := List.mem_map.mp m
      exact h (List.mem_map.mpr ⟨q, List.mem_cons.mpr (Or.inr hq), e⟩)
    rw [dropK_neg fun e => h (List.mem_map.mpr ⟨p, List.mem_cons.mpr (Or.inl rfl), e⟩), dropK_no h']
theorem dropK_mem {kvs : List (κ × V)} {k : κ} {p : κ × V} (h : p ∈ dropK kvs k) : p ∈ kvs := (List.mem_filter.mp h).1
theorem nd_dropK : ∀ {kvs : List (κ × V)} {k : κ}, (kvs.map (·.1)).Nodup → ((dropK kvs k).map (·.1)).Nodup
  | [], _, _ => List.nodup_nil
  | p :: r, k, h => by
    have h : (p.1 :: r.map (·.1)).Nodup := h
    obtain ⟨h1, h2⟩ := List.nodup_cons.mp h
    by_cases e : p.1 = k
    · rw [dropK_pos e]
      exact nd_dropK h2
    · rw [dropK_neg e]
      show (p.1 :: (dropK r k).map (·.1)).Nodup
      refine List.nodup_cons.mpr ⟨fun m => h1 ?_, nd_dropK h2⟩
      obtain ⟨q, hq, eq⟩ := List.mem_map.mp m
      exact List.mem_map.mpr ⟨q, dropK_mem hq, eq⟩
theorem dropK_len : ∀ {kvs : List (κ × V)} {k : κ}, (kvs.map (·.1)).Nodup → k ∈ kvs.map (·.1) → (dropK kvs k).length + 1 = kvs.length
  | [], _, _, m => by simp at m
  | p :: r, k, h, m => by
    have h : (p.1 :: r.map (·.1)).Nodup := h
    have m : k = p.1 ∨ k ∈ r.map (·.1) := List.mem_cons.mp m
    obtain ⟨h1, h2⟩ := List.nodup_cons.mp h
    by_cases e : p.1 = k
    · subst e
      rw [dropK_pos rfl, dropK_no h1]
      all_goals rfl
    · have m' : k ∈ r.map (·.1) := m.resolve_left fun z => e z.symm
      have q := dropK_len h2 m'
      rw [dropK_neg e, List.length_cons, List.length_cons]
      omega
end
end L2

set_option maxHeartbeats 4000000
namespace Wr
open PySem PySem.W PyProof.Rows

/-- the key of the i-th place -/
def Kp (key : Nat → Int) (p : Array Nat) (i : Nat) : Int := key (p.getD i 0)
structure PBase (n : Nat) (p : Array Nat) : Prop where
  perm : p.toList.Perm (List.range n)
theorem PBase.size {n : Nat} {p : Array Nat} (B : PBase n p) : p.size = n := by
  have h := B.perm.length_eq
  rw [List.length_range, Array.length_toList] at h
  exact h
theorem PBase.lt {n : Nat} {p : Array Nat} (B : PBase n p) (hn : 0 < n) (i : Nat) : p.getD i 0 < n := by
  rw [Array.getD_eq_getD_getElem?]
  cases e : p[i]? with
  | none => exact hn
  | some x =>
    have hm : x ∈ p.toList := by
      rw [Array.getElem?_eq_some_iff] at e
      obtain ⟨h, rfl⟩ := e
      exact Array.getElem_mem_toList h
    exact List.mem_range.mp (B.perm.mem_iff.mp hm)
theorem PBase.rev {n : Nat} {p : Array Nat} (B : PBase n p) (i j : Nat) : PBase n (kas_rev p i j) :=
  ⟨(Array.perm_iff_toList_perm.mp (mirror_perm p i j _)).trans B.perm⟩
theorem PBase.bub {n : Nat} {p : Array Nat} (B : PBase n p) (i j : Nat) : PBase n (bubble p i j) :=
  ⟨(Array.perm_iff_toList_perm.mp (bubble_perm p i j)).trans B.perm⟩
def Up (key : Nat → Int) (p : Array Nat) (k : Nat) : Prop := ∀ i j, i ≤ j → j < k → Kp key p i ≤ Kp key p j
def Dn (key : Nat → Int) (p : Array Nat) (k : Nat) : Prop := ∀ i j, i ≤ j → j < k → Kp key p j ≤ Kp key p i

theorem Kp_rev {key : Nat → Int} {p : Array Nat} {i j : Nat} (hj : j ≤ p.size) (k : Nat) : Kp key (kas_rev p i j) k = if i ≤ k ∧ k < j then Kp key p (i + j - 1 - k) else Kp key p k := by
  unfold Kp kas_rev
  rw [Array.getD_eq_getD_getElem?, getElem?_mirror_all hj]
  split <;> rw [Array.getD_eq_getD_getElem?]
theorem Kp_bub {key : Nat → Int} {p : Array Nat} {k l : Nat} (hk : k < p.size) (hl : l ≤ k) (i : Nat) :
    Kp key (bubble p k (k - l)) i = if i = l then Kp key p k else if l < i ∧ i ≤ k then Kp key p (i - 1) else Kp key p i := by
  have g : ∀ (q : Array Nat) (x : Nat), Kp key q x = key (q[x]?.getD 0) := fun q x => by unfold Kp; rw [Array.getD_eq_getD_getElem?]
  have e : k - (k - l) = l := by omega
  rw [g, g, g, g, getElem?_bubble hk (k - l) (by omega), e]
  by_cases h1 : i = l
  · rw [if_pos h1, if_pos h1]
  · rw [if_neg h1, if_neg h1]
    by_cases h2 : l < i ∧ i ≤ k
    · rw [if_pos h2, if_pos h2]
    · rw [if_neg h2, if_neg h2]

section
variable {cmp : Nat → Nat → (Bool → Shared → Prop) → Shared → Prop} {key : Nat → Int} {n : Nat} {s : Shared}
/-- each question is answered by the keys, and the state stays -/
def Says (cmp : Nat → Nat → (Bool → Shared → Prop) → Shared → Prop) (key : Nat → Int) (n : Nat) (s : Shared) : Prop :=
  ∀ i j C, i < n → j < n → C (decide (key i < key j)) s → cmp i j C s

theorem ask_ {α : Type} {i j : Nat} {k : Bool → KasT α} {G : α → Shared → Prop} (hc : Says cmp key n s) (hi : i < n) (hj : j < n)
    (h1 : key i < key j → (k true).kasWp cmp G s) (h2 : key j ≤ key i → (k false).kasWp cmp G s) : (KasT.ask i j k).kasWp cmp G s := by
  refine hc i j _ hi hj ?_
  by_cases h : key i < key j
  · rw [decide_eq_true h]; exact h1 h
  · rw [decide_eq_false h]; exact h2 (Int.not_lt.mp h)

theorem w_asc (hc : Says cmp key n s) (hn : 0 < n) {p : Array Nat} (B : PBase n p) {G : Nat → Shared → Prop} : ∀ (f a : Nat), 1 ≤ a → a + f ≤ n → Up key p a →
    (∀ m, a ≤ m → m ≤ a + f → Up key p m → (m = a + f ∨ Kp key p m < Kp key p (m - 1)) → G m s) → (kas_asc p f a).kasWp cmp G s
  | 0, a, _, _, hu, h => h a (Nat.le_refl _) (Nat.le_refl _) hu (.inl rfl)
  | f + 1, a, h1, hf, hu, h => by
    show (KasT.ask (p.getD a 0) (p.getD (a - 1) 0) fun c => if c = true then KasT.ret a else kas_asc p f (a + 1)).kasWp cmp G s
    refine ask_ hc (B.lt hn _) (B.lt hn _) (fun q => ?_) (fun q => ?_)
    · rw [if_pos rfl]
      exact h a (Nat.le_refl _) (by omega) hu (.inr q)
    · rw [if_neg (by decide)]
      refine w_asc hc hn B f (a + 1) (by omega) (by omega) (fun i j hij hj => ?_) fun m m1 m2 m3 m4 => h m (by omega) (by omega) m3 (by rcases m4 with e | e; exact .inl (by omega); exact .inr e)
      by_cases hja : j < a
      · exact hu i j hij hja
      · obtain rfl : j = a := by omega
        by_cases hi : i = j
        · subst hi; exact Int.le_refl _
        · exact Int.le_trans (hu i (j - 1) (by omega) (by omega)) q

theorem w_desc (hc : Says cmp key n s) (hn : 0 < n) {G : Array Nat × Nat × Nat → Shared → Prop} : ∀ (f : Nat) (p : Array Nat) (a q : Nat), PBase n p → 1 ≤ a → a + f ≤ n → Dn key p a → q + 1 ≤ a →
    (∀ i, a - (q + 1) ≤ i → i < a → Kp key p i = Kp key p (a - 1)) →
    (∀ p' m q', PBase n p' → a ≤ m → m ≤ a + f → Dn key p' m → q' + 1 ≤ m → (∀ i, m - (q' + 1) ≤ i → i < m → Kp key p' i = Kp key p' (m - 1)) → G (p', m, q') s) → (kas_desc f p a q).kasWp cmp G s
  | 0, p, a, q, B, _, _, hd, hq, he, h => h p a q B (Nat.le_refl _) (Nat.le_refl _) hd hq he
  | f + 1, p, a, q, B, h1, hf, hd, hq, he, h => by
    have hs := B.size
    show (KasT.ask (p.getD a 0) (p.getD (a - 1) 0) fun c => if c = true then (if q > 0 then kas_desc f (kas_rev p (a - (q + 1)) a) (a + 1) 0 else kas_desc f p (a + 1) 0)
      else KasT.ask (p.getD (a - 1) 0) (p.getD a 0) fun d => if d = true then KasT.ret (p, a, q) else kas_desc f p (a + 1) (q + 1)).kasWp cmp G s
    refine ask_ hc (B.lt hn _) (B.lt hn _) (fun z => ?_) (fun z => ?_)
    · rw [if_pos rfl]
      have z' : Kp key p a < Kp key p (a - 1) := z
      -- whatever the places are, the same keys one by one
      have go : ∀ p', PBase n p' → (∀ k, Kp key p' k = Kp key p k) → (kas_desc f p' (a + 1) 0).kasWp cmp G s := fun p' B' e => by
        refine w_desc hc hn f p' (a + 1) 0 B' (by omega) (by omega) (fun i j hij hj => ?_) (by omega) (fun i i1 i2 => by congr 1; omega) fun p2 m q2 a1 a2 a3 a4 a5 a6 => h p2 m q2 a1 (by omega) (by omega) a4 a5 a6
        rw [e, e]
        by_cases hja : j < a
        · exact hd i j hij hja
        · obtain rfl : j = a := by omega
          by_cases hi : i = j
          · subst hi; exact Int.le_refl _
          · exact Int.le_trans (Int.le_of_lt z') (hd i (j - 1) (by omega) (by omega))
      by_cases hq0 : q > 0
      · rw [if_pos hq0]
        refine go _ (B.rev _ _) fun k => ?_
        rw [Kp_rev (by omega)]
        split
        · rename_i hk
          rw [he _ (by omega) (by omega), he k (by omega) hk.2]
        · rfl
      · rw [if_neg hq0]
        exact go p B fun _ => rfl
    · rw [if_neg (by decide)]
      refine ask_ hc (B.lt hn _) (B.lt hn _) (fun y => ?_) (fun y => ?_)
      · rw [if_pos rfl]
        exact h p a q B (Nat.le_refl _) (by omega) hd hq he
      · rw [if_neg (by decide)]
        have e : Kp key p a = Kp key p (a - 1) := Int.le_antisymm y z
        refine w_desc hc hn f p (a + 1) (q + 1) B (by omega) (by omega) (fun i j hij hj => ?_) (by omega) (fun i i1 i2 => ?_) fun p2 m q2 a1 a2 a3 a4 a5 a6 => h p2 m q2 a1 (by omega) (by omega) a4 a5 a6
        · by_cases hja : j < a
          · exact hd i j hij hja
          · obtain rfl : j = a := by omega
            by_cases hi : i = j
            · subst hi; exact Int.le_refl _
            · rw [e]; exact hd i (j - 1) (by omega) (by omega)
        · rw [show a + 1 - 1 = a by omega]
          by_cases hi : i = a
          · subst hi; rfl
          · rw [e]; exact he i (by omega) (by omega)

theorem w_tail (hc : Says cmp key n s) (hn : 0 < n) {p : Array Nat} (B : PBase n p) {a : Nat} {G : Nat × Array Nat → Shared → Prop} (h1 : 1 ≤ a) (ha : a ≤ n) (hd : Dn key p a)
    (h : ∀ m p', PBase n p' → 1 ≤ m → m ≤ n → Up key p' m → G (m, p') s) : (kas_tail3 a n p).kasWp cmp G s := by
  have hs := B.size
  unfold kas_tail3
  rw [KasT.kasWp_bind]
  refine w_asc hc hn (B.rev 0 a) (n - a) a h1 (by omega) (fun i j hij hj => ?_) fun m m1 m2 m3 _ => h m _ (B.rev 0 a) (by omega) (by omega) m3
  rw [Kp_rev (by omega), Kp_rev (by omega), if_pos (by omega), if_pos (by omega)]
  exact hd _ _ (by omega) (by omega)
theorem w_part (hc : Says cmp key n s) (hn : 0 < n) {p : Array Nat} (B : PBase n p) {a : Nat} {G : Nat × Array Nat → Shared → Prop} (ha : a + 1 ≤ n) (hd : Dn key p (a + 1))
    (h : ∀ m p', PBase n p' → 1 ≤ m → m ≤ n → Up key p' m → G (m, p') s) : (kas_descPart a n p).kasWp cmp G s := by
  unfold kas_descPart
  rw [KasT.kasWp_bind]
  refine w_desc hc hn (n - (a + 1)) p (a + 1) 0 B (by omega) (by omega) hd (by omega) (fun i i1 i2 => by congr 1; omega) fun p' m q B' m1 m2 hd' hq he => ?_
  have hs := B'.size
  show (if q > 0 then kas_tail3 m n (kas_rev p' (m - (q + 1)) m) else kas_tail3 m n p').kasWp cmp G s
  by_cases hq0 : q > 0
  · rw [if_pos hq0]
    have e : ∀ k, Kp key (kas_rev p' (m - (q + 1)) m) k = Kp key p' k := fun k => by
      rw [Kp_rev (by omega)]
      split
      · rename_i hk
        rw [he _ (by omega) (by omega), he k (by omega) hk.2]
      · rfl
    exact w_tail hc hn (B'.rev _ _) (by omega) (by omega) (fun i j hij hj => by rw [e, e]; exact hd' i j hij hj) h
  · rw [if_neg hq0]
    exact w_tail hc hn B' (by omega) (by omega) hd' h
theorem w_count (hc : Says cmp key n s) (hn : 0 < n) {p : Array Nat} (B : PBase n p) {G : Nat × Array Nat → Shared → Prop}
    (h : ∀ m p', PBase n p' → 1 ≤ m → m ≤ n → Up key p' m → G (m, p') s) : (kas_count n p).kasWp cmp G s := by
  have hs := B.size
  unfold kas_count
  rw [KasT.kasWp_bind]
  have u1 : Up key p 1 := fun i j hij hj => by
    have e : i = j := by omega
    rw [e]
    exact Int.le_refl _
  refine w_asc hc hn B (n - 1) 1 (Nat.le_refl _) (by omega) u1 fun m m1 m2 hu hor => ?_
  by_cases e1 : m = n
  · rw [if_pos (by simpa using e1)]
    exact h m p B m1 (by omega) hu
  · rw [if_neg (by simpa using e1)]
    have hlt : Kp key p m < Kp key p (m - 1) := hor.resolve_left (by omega)
    by_cases e2 : m > 1
    · rw [if_pos e2]
      refine ask_ hc (B.lt hn _) (B.lt hn _) (fun z => ?_) (fun z => ?_)
      · rw [if_pos rfl]
        exact h m p B m1 (by omega) hu
      · rw [if_neg (by decide)]
        have z' : Kp key p (m - 1) ≤ Kp key p 0 := z
        have all : ∀ k, k < m → Kp key p k = Kp key p 0 := fun k hk => Int.le_antisymm (Int.le_trans (hu k (m - 1) (by omega) (by omega)) z') (hu 0 k (by omega) hk)
        have e : ∀ k, Kp key (kas_rev p 0 m) k = Kp key p k := fun k => by
          rw [Kp_rev (by omega)]
          split
          · rename_i hk
            rw [all _ (by omega), all k hk.2]
          · rfl
        refine w_part hc hn (B.rev _ _) (by omega) (fun i j hij hj => ?_) h
        rw [e, e]
        by_cases hjm : j < m
        · rw [all i (by omega), all j hjm]; exact Int.le_refl _
        · obtain rfl : j = m := by omega
          by_cases hi : i = j
          · subst hi; exact Int.le_refl _
          · have := all i (by omega)
            have := all (j - 1) (by omega)
            omega
    · rw [if_neg e2]
      obtain rfl : m = 1 := by omega
      refine w_part hc hn B (by omega) (fun i j hij hj => ?_) h
      by_cases hi : i = j
      · subst hi; exact Int.le_refl _
      · obtain rfl : i = 0 := by omega
        obtain rfl : j = 1 := by omega
        exact Int.le_of_lt hlt
theorem w_place (hc : Says cmp key n s) (hn : 0 < n) {p : Array Nat} (B : PBase n p) {k : Nat} (hk : k < n) (hu : Up key p k) {G : Nat → Shared → Prop}
    (h : ∀ l, l ≤ k → (∀ i, i < l → Kp key p i ≤ Kp key p k) → (∀ i, l ≤ i → i < k → Kp key p k < Kp key p i) → G l s) : ∀ (f l r : Nat), r ≤ l + f → l ≤ r → r ≤ k →
    (∀ i, i < l → Kp key p i ≤ Kp key p k) → (∀ i, r ≤ i → i < k → Kp key p k < Kp key p i) → (kas_place p k f l r).kasWp cmp G s
  | 0, l, r, hf, hlr, hr, h1, h2 => h l (by omega) h1 fun i a b => h2 i (by omega) b
  | f + 1, l, r, hf, hlr, hr, h1, h2 => by
    show (if l ≥ r then KasT.ret l else KasT.ask (p.getD k 0) (p.getD ((l + r) / 2) 0) fun c => if c = true then kas_place p k f l ((l + r) / 2) else kas_place p k f ((l + r) / 2 + 1) r).kasWp cmp G s
    by_cases hge : l ≥ r
    · rw [if_pos hge]
      exact h l (by omega) h1 fun i a b => h2 i (by omega) b
    · rw [if_neg hge]
      refine ask_ hc (B.lt hn _) (B.lt hn _) (fun z => ?_) (fun z => ?_)
      · rw [if_pos rfl]
        have z' : Kp key p k < Kp key p ((l + r) / 2) := z
        refine w_place hc hn B hk hu h f l ((l + r) / 2) (by omega) (by omega) (by omega) h1 fun i a b => ?_
        exact Int.lt_of_lt_of_le z' (hu _ _ a b)
      · rw [if_neg (by decide)]
        have z' : Kp key p ((l + r) / 2) ≤ Kp key p k := z
        refine w_place hc hn B hk hu h f ((l + r) / 2 + 1) r (by omega) (by omega) hr (fun i a => ?_) h2
        exact Int.le_trans (hu i ((l + r) / 2) (by omega) (by omega)) z'
theorem w_bin (hc : Says cmp key n s) (hn : 0 < n) {G : Array Nat → Shared → Prop} (h : ∀ p, PBase n p → Up key p n → G p s) : ∀ (f k : Nat) (p : Array Nat), PBase n p → k + f = n → Up key p k → (kas_bin f p k).kasWp cmp G s
  | 0, k, p, B, hk, hu => h p B (by rw [← hk]; exact hu)
  | f + 1, k, p, B, hk, hu => by
    have hs := B.size
    show ((kas_place p k k 0 k).bind fun l => kas_bin f (bubble p k (k - l)) (k + 1)).kasWp cmp G s
    rw [KasT.kasWp_bind]
    refine w_place hc hn B (by omega) hu (fun l hl a1 a2 => ?_) k 0 k (by omega) (by omega) (Nat.le_refl _) (fun i hi => by omega) fun i a b => by omega
    refine w_bin hc hn h f (k + 1) _ (B.bub _ _) (by omega) fun i j hij hj => ?_
    rw [Kp_bub (by omega) hl, Kp_bub (by omega) hl]
    by_cases hi : i = l
    · rw [if_pos hi]
      by_cases hjl : j = l
      · rw [if_pos hjl]; exact Int.le_refl _
      · rw [if_neg hjl, if_pos (by omega)]
        exact Int.le_of_lt (a2 _ (by omega) (by omega))
    · rw [if_neg hi]
      by_cases hjl : j = l
      · rw [if_pos hjl, if_neg (by omega)]
        exact a1 i (by omega)
      · rw [if_neg hjl]
        by_cases hi2 : l < i ∧ i ≤ k
        · rw [if_pos hi2, if_pos (by omega)]
          exact hu _ _ (by omega) (by omega)
        · rw [if_neg hi2]
          by_cases hj2 : l < j ∧ j ≤ k
          · rw [if_pos hj2]
            exact hu _ _ (by omega) (by omega)
          · rw [if_neg hj2]
            exact hu _ _ hij (by omega)
/-- the sort of n places by their keys -/
theorem w_sort (hc : Says cmp key n s) (hn : 0 < n) {G : Array Nat → Shared → Prop} (h : ∀ p, PBase n p → Up key p n → G p s) : (kas_sort n).kasWp cmp G s := by
  unfold kas_sort
  rw [KasT.kasWp_bind]
  refine w_count hc hn ⟨by simp⟩ fun m p' B m1 m2 hu => ?_
  show (if m < n then kas_bin (n - max m 1) p' (max m 1) else KasT.ret p').kasWp cmp G s
  have e : max m 1 = m := by omega
  by_cases hm : m < n
  · rw [if_pos hm, e]
    exact w_bin hc hn h (n - m) m p' B (by omega) hu
  · rw [if_neg hm]
    obtain rfl : m = n := by omega
    exact h p' B hu
end
end Wr

set_option maxHeartbeats 4000000
namespace L2
open PySem PySem.Spec PyProof.Rows

/-! ### another place of the stack -/
abbrev atA (X : Cx) (A : Around) : Cx := { X with A := A }
section
variable {X : Cx} {pins : List (Addr × Obj)} {σ : St} {H : Hp} {s : Shared} {A : Around}
theorem inv_at (I : Inv X pins σ H s) (h1 : X.calm = true → A.handled = none) (h2 : A.frames = some X.stack) : Inv (atA X A) pins σ H s :=
  have o := I.ok
  ⟨⟨o.mod, o.kind, o.glob, o.blt, o.above, o.inj, o.has, o.cab, h1, h2, o.stk, o.exf, o.bs, o.bsz, o.noex, o.exfs, o.funs, o.frf⟩, I.os, I.bare, I.base, I.loc, I.cell, I.free, I.freeC, I.pin, I.hok, I.len⟩
theorem inv_of (I : Inv (atA X A) pins σ H s) (h1 : X.calm = true → X.A.handled = none) (h2 : X.A.frames = some X.stack) : Inv X pins σ H s :=
  have o := I.ok
  ⟨⟨o.mod, o.kind, o.glob, o.blt, o.above, o.inj, o.has, o.cab, h1, h2, o.stk, o.exf, o.bs, o.bsz, o.noex, o.exfs, o.funs, o.frf⟩, I.os, I.bare, I.base, I.loc, I.cell, I.free, I.freeC, I.pin, I.hok, I.len⟩
theorem inv_in1 (I : Inv X pins σ H s) : Inv (atA X X.A.in1) pins σ H s := inv_at I (fun h => I.ok.hd h) I.ok.frames
theorem inv_in2 (I : Inv X pins σ H s) : Inv (atA X X.A.in1.in1) pins σ H s := inv_at I (fun h => I.ok.hd h) I.ok.frames
/-- an untracked object of ours is tracked from now on -/
theorem Inv.track {b : Addr} {o : HO} {t : Nat} {h' : Heap} (I : Inv X pins σ H s) (hf : FpOk X pins H b) (k : ∀ c u, c ≠ b → s.heap.get? c = some u → h'.get? c = some u) (hb : ∃ u, h'.get? b = some u)
    (new : ObjOk X.prog X.w (upd H b o) h' b o) : Inv X pins σ (upd H b o) { s with heap := h', toks := t } := by
  obtain ⟨f0, f1, f2, f3, f4, f5⟩ := hf
  have nb : ∀ c u, H c = some u → c ≠ b := fun c u e z => by rw [z, f0] at e; cases e
  refine I.step (g' := s.gens) (d' := s.drawn) (ch := [b]) (fun c hc => ?_) (fun c u _ _ hc e _ => k c u (fun z => hc (by simp [z])) e) (fun c u _ _ hc e _ => ⟨u.slots, k c u (fun z => hc (by simp [z])) e⟩)
    (fun c u hc e n => by rw [upd_ne (fun z => hc (by simp [z]))]; exact n) (fun c u hc e => ⟨u, k c u (fun z => hc (by simp [z])) e⟩) (fun c xs e => by rw [upd_ne (nb c _ e)]; exact e) (fun c u v e => by rw [upd_ne (nb c _ e)]; exact e)
    (fun c ps e => ⟨#[], by rw [upd_ne (nb c _ e), e]; simp⟩) (fun m hm => ?_) (fun c u e => ?_) I.bare
  · obtain rfl : c = b := by simpa using hc
    exact ⟨f3, f1, f4, f5⟩
  · obtain ⟨ob, es, ep, ho, r⟩ := hm
    exact ⟨ob, es, ep, k _ _ (Ne.symm f1) ho, r⟩
  · by_cases hc : c = b
    · subst hc; rw [upd_same] at e; cases e; exact new
    · rw [upd_ne hc] at e
      refine (I.hok c u e).stay (fun d v hd q => k d v ?_ q) (fun d q => by rw [upd_ne (nb d _ q)]; exact q) fun d xs q => by rw [upd_ne (nb d _ q)]; exact q
      rcases hd with z | z
      · rw [z]; exact hc
      · exact nb d _ z
end

/-! ### keys that are tuples of ints -/
def lexI : List Int → List Int → Bool
  | [], [] => false
  | [], _ :: _ => true
  | _ :: _, [] => false
  | a :: x, b :: y => if a = b then lexI x y else decide (a < b)
theorem lexI_irr : ∀ x, lexI x x = false
  | [] => rfl
  | a :: x => by show (if a = a then lexI x x else _) = false; rw [if_pos rfl]; exact lexI_irr x
theorem lexI_trans : ∀ {x y z}, lexI x y = true → lexI y z = true → lexI x z = true
  | [], [], _, h, _ => by cases h
  | [], _ :: _, [], _, h => by cases h
  | [], _ :: _, _ :: _, _, _ => rfl
  | _ :: _, [], _, h, _ => by cases h
  | _ :: _, _ :: _, [], _, h => by cases h
  | a :: x, b :: y, c :: z, h1, h2 => by
    simp only [lexI] at h1 h2 ⊢
    by_cases e1 : a = b
    · subst e1
      rw [if_pos rfl] at h1
      by_cases e2 : a = c
      · rw [if_pos e2] at h2 ⊢; exact lexI_trans h1 h2
      · rw [if_neg e2] at h2 ⊢; exact h2
    · rw [if_neg e1] at h1
      have h1 := of_decide_eq_true h1
      by_cases e2 : b = c
      · subst e2; rw [if_neg e1]; exact decide_eq_true h1
      · rw [if_neg e2] at h2
        have h2 := of_decide_eq_true h2
        rw [if_neg (by omega)]; exact decide_eq_true (by omega)
theorem lexI_total : ∀ {x y}, lexI x y = false → lexI y x = false → x = y
  | [], [], _, _ => rfl
  | [], _ :: _, h, _ => by cases h
  | _ :: _, [], _, h => by cases h
  | a :: x, b :: y, h1, h2 => by
    simp only [lexI] at h1 h2
    by_cases e : a = b
    · subst e
      rw [if_pos rfl] at h1 h2
      rw [lexI_total h1 h2]
    · rw [if_neg e] at h1
      rw [if_neg (Ne.symm e)] at h2
      have := of_decide_eq_false h1
      have := of_decide_eq_false h2
      omega
/-- how many of the keys lie below -/
def rankI (ks : List (List Int)) (x : List Int) : Int := ((ks.filter fun k => lexI k x).length : Nat)
theorem filter_mono {α : Type} {p q : α → Bool} : ∀ (l : List α), (∀ x ∈ l, p x = true → q x = true) → (l.filter p).length ≤ (l.filter q).length
  | [], _ => Nat.le_refl _
  | x :: l, h => by
    have ih := filter_mono l fun y hy => h y (List.mem_cons_of_mem _ hy)
    rw [List.filter_cons, List.filter_cons]
    by_cases e : p x = true
    · rw [if_pos e, if_pos (h x List.mem_cons_self e), List.length_cons, List.length_cons]; omega
    · rw [if_neg e]
      split
      · rw [List.length_cons]; omega
      · exact ih
theorem filter_strict {α : Type} {p q : α → Bool} {a : α} : ∀ (l : List α), (∀ x ∈ l, p x = true → q x = true) → a ∈ l → p a = false → q a = true → (l.filter p).length < (l.filter q).length
  | [], _, h, _, _ => by cases h
  | x :: l, h, hm, h1, h2 => by
    have h' : ∀ y ∈ l, p y = true → q y = true := fun y hy => h y (List.mem_cons_of_mem _ hy)
    have mono := filter_mono l h'
    rw [List.filter_cons, List.filter_cons]
    rcases List.mem_cons.mp hm with e | hm
    · subst e
      rw [if_neg (by rw [h1]; decide), if_pos h2, List.length_cons]; omega
    · have ih := filter_strict l h' hm h1 h2
      by_cases e : p x = true
      · rw [if_pos e, if_pos (h x List.mem_cons_self e), List.length_cons, List.length_cons]; omega
      · rw [if_neg e]
        split
        · rw [List.length_cons]; omega
        · exact ih
theorem rank_lt {ks : List (List Int)} {x y : List Int} (hx : x ∈ ks) : decide (rankI ks x < rankI ks y) = lexI x y := by
  cases e : lexI x y with
  | true =>
    refine decide_eq_true ?_
    have := filter_strict (p := fun k => lexI k x) (q := fun k => lexI k y) (a := x) ks (fun z _ h => lexI_trans h e) hx (lexI_irr x) e
    unfold rankI; omega
  | false =>
    refine decide_eq_false ?_
    have := filter_mono (p := fun k => lexI k y) (q := fun k => lexI k x) ks fun z _ h => by
      cases q : lexI y x with
      | true => exact lexI_trans h q
      | false => rw [lexI_total e q]; exact h
    unfold rankI; omega

section
variable {prog : Program} {w : World} {A : Around} {E : Value → Shared → Prop} {s : Shared}
theorem lex_ints {flag : Bool} {Q : Bool → Shared → Prop} : ∀ (xs ys : List Int) (us vs : List Value) (i : Nat) (fin : Bool), IntsAre us xs → IntsAre vs ys →
    (fin = decide (xs.length < ys.length)) → Q (lexI xs ys) s → PySem.W.KatLex prog w A flag fin Q (us.zip vs) i s
  | [], [], _, _, _, _, .nil, .nil, e, h => by
    subst e
    exact PySem.W.kat_nil h
  | [], _ :: _, _, _, _, _, .nil, .cons _ _ _, e, h => by
    subst e
    exact PySem.W.kat_nil h
  | _ :: _, [], _, _, _, _, .cons _ _ _, .nil, e, h => by
    subst e
    exact PySem.W.kat_nil h
  | a :: xs, b :: ys, _, _, i, fin, .cons _ t hx, .cons _ u hy, e, h => by
    rw [List.zip_cons_cons]
    refine PySem.W.kat_cons (wpAny_eqBool_int ?_)
    simp only [lexI] at h
    by_cases q : a = b
    · subst q
      rw [if_pos rfl] at h
      rw [beq_self_eq_true]
      refine PySem.W.kat_yes (lex_ints xs ys _ _ (i + 1) fin hx hy ?_ h)
      rw [e]; simp
    · rw [if_neg q] at h
      rw [beq_eq_false_iff_ne.mpr q]
      refine PySem.W.kat_no ?_
      cases flag && i == 0 with
      | true => exact oneLt_int h
      | false => exact PySem.W.kat_one _ _ (lt_int h)
end
end L2

set_option maxHeartbeats 4000000
namespace L2
open PySem PySem.Spec PyProof.Rows

/-- a key: a tuple of ints, one or more -/
def KeyAt (h : Heap) (v : Value) (k : List Int) : Prop := ∃ a us, v = .ref a ∧ IsTup h a (List.toArray us) ∧ IntsAre us k ∧ k ≠ []
theorem KeyAt.keeps {h h' : Heap} {v : Value} {k : List Int} (x : KeyAt h v k) (kp : ∀ a o, h.get? a = some o → o.cls = .type "tuple" → h'.get? a = some o) : KeyAt h' v k := by
  obtain ⟨a, us, e, ⟨o, ho, hc, n, hd⟩, i, ne⟩ := x
  exact ⟨a, us, e, ⟨o, kp a o ho hc, hc, n, hd⟩, i, ne⟩
abbrev KeysAt (h : Heap) : List Value → List (List Int) → Prop := Paired (KeyAt h)
theorem KeysAt.firsts {h : Heap} : ∀ {vs : List Value} {ks : List (List Int)}, KeysAt h vs ks → ∃ fs : List Value, fs.length = vs.length ∧ PySem.W.KatTups h vs fs ∧ ∀ f ∈ fs, ∃ i t, f = Value.int i t
  | _, _, .nil => ⟨[], rfl, .nil, fun _ z => nomatch z⟩
  | _, _, .cons r t => by
    obtain ⟨fs, e, T, F⟩ := KeysAt.firsts t
    obtain ⟨a, us, rfl, ⟨o, ho, hc, n, hd⟩, hi, ne⟩ := r
    cases hi with
    | nil => exact absurd rfl ne
    | cons i tk hr =>
      refine ⟨.int i tk :: fs, by rw [List.length_cons, List.length_cons, e], .cons ho hc hd (by simp) T, fun f hf => ?_⟩
      rcases List.mem_cons.mp hf with z | z
      · exact ⟨i, tk, z⟩
      · exact F f z
theorem paired_get {α β : Type} {R : α → β → Prop} : ∀ {xs : List α} {ys : List β}, Paired R xs ys → ∀ (i : Nat) (a : α) (b : β), i < xs.length → R (xs.getD i a) (ys.getD i b)
  | _, _, .nil, i, _, _, h => absurd h (Nat.not_lt_zero _)
  | _, _, .cons r t, 0, _, _, _ => r
  | _, _, .cons r t, i + 1, a, b, h => by
    have := paired_get t i a b (Nat.lt_of_succ_lt_succ h)
    simpa using this
theorem paired_snoc {α β : Type} {R : α → β → Prop} {x : α} {y : β} (h : R x y) : ∀ {xs : List α} {ys : List β}, Paired R xs ys → Paired R (xs ++ [x]) (ys ++ [y])
  | _, _, .nil => .cons h .nil
  | _, _, .cons r t => .cons r (paired_snoc h t)

section
variable {prog : Program} {w : World} {A : Around} {E : Value → Shared → Prop} {s : Shared}
theorem kind_keys {vs : List Value} {ks : List (List Int)} {Q : SortKind → Shared → Prop} (r : KeysAt s.heap vs ks) (hn : 0 < vs.length) (h : Q (tuples' true) s) : wpAny (model prog w) A (keyKind' vs.toArray) Q E s := by
  obtain ⟨fs, e, T, F⟩ := r.firsts
  refine PySem.W.kat_kind (T := .type "int") T (by omega) (fun v hv => ?_) rfl h
  obtain ⟨i, t, rfl⟩ := F v hv
  exact PySem.W.Looks.of_pure rfl
theorem says_keys {vs : List Value} {ks : List (List Int)} (r : KeysAt s.heap vs ks) : Wr.Says (PySem.W.kas_ask prog w A (tuples' true) vs) (fun i => rankI ks (ks.getD i [])) vs.length s := by
  intro i j C hi hj h
  have hl : vs.length = ks.length := Paired.length r
  obtain ⟨a, us, ea, ⟨oa, ha, ca, na, da⟩, ia, _⟩ := paired_get r i Value.none [] hi
  obtain ⟨b, ws, eb, ⟨ob, hb, cb, nb, db⟩, ib, _⟩ := paired_get r j Value.none [] hj
  unfold PySem.W.kas_ask
  rw [ea, eb]
  have hm : ks.getD i [] ∈ ks := by
    have : i < ks.length := by omega
    simp [this]
  rw [rank_lt hm] at h
  refine PySem.W.kat_lt ha da hb db ?_
  refine lex_ints _ _ _ _ 0 _ (by simpa using ia) (by simpa using ib) ?_ h
  rw [List.size_toArray, List.size_toArray, ia.length, ib.length]
end

/-- the order of the sorted items -/
def SortedBy (kf : V → List Int) (ys : List V) : Prop := ys.Pairwise fun a b => lexI (kf b) (kf a) = false
theorem getD_map_lt {α β : Type} (f : α → β) (xs : List α) (a : α) (b : β) (i : Nat) (h : i < xs.length) : (xs.map f).getD i b = f (xs.getD i a) := by simp [h]
theorem perm_pick {α : Type} (xs : List α) (d : α) (p : List Nat) (h : p.Perm (List.range xs.length)) : (p.map fun i => xs.getD i d).Perm xs := by
  refine (h.map _).trans (List.Perm.of_eq ?_)
  apply List.ext_getElem (by simp)
  intro i h1 h2
  simp at h1
  simp [h1]
theorem getD_in {α : Type} (xs : List α) (d : α) (i : Nat) (h : i < xs.length) : xs.getD i d ∈ xs := by
  have e : xs.getD i d = xs[i] := by simp [h]
  rw [e]
  exact List.getElem_mem h
theorem sorted_pick {kf : V → List Int} {xs : List V} {p : Array Nat} (B : Wr.PBase xs.length p) (hu : Wr.Up (fun i => rankI (xs.map kf) ((xs.map kf).getD i [])) p xs.length) (hn : 0 < xs.length) :
    SortedBy kf (p.toList.map fun i => xs.getD i .non) := by
  unfold SortedBy
  rw [List.pairwise_map, List.pairwise_iff_getElem]
  intro i j hi hj hij
  have hs := B.size
  rw [Array.length_toList] at hi hj
  have e1 : p.toList[i] = p.getD i 0 := by simp [Array.getD, hi]
  have e2 : p.toList[j] = p.getD j 0 := by simp [Array.getD, hj]
  have q := hu i j (Nat.le_of_lt hij) (by omega)
  have l1 := B.lt hn i
  have l2 := B.lt hn j
  rw [e1, e2]
  unfold Wr.Kp at q
  dsimp only at q
  rw [getD_map_lt kf xs .non [] _ l1, getD_map_lt kf xs .non [] _ l2] at q
  have hm : kf (xs.getD (p.getD j 0) .non) ∈ xs.map kf := List.mem_map.mpr ⟨_, getD_in xs .non _ l2, rfl⟩
  rw [← rank_lt hm]
  exact decide_eq_false (Int.not_lt.mpr q)

section
variable {X : Cx} {pins : List (Addr × Obj)} {σ : St} {H : Hp} {s : Shared} {E : Value → Shared → Prop}
theorem FpOk.of {b : Addr} {H' : Hp} (h : FpOk X pins H b) (n : H' b = none) : FpOk X pins H' b := ⟨n, h.2⟩
theorem Same.upd {H' : Hp} {a : Addr} {o : HO} (h : Same H H') (n : H a = none) : Same H (upd H' a o) := fun b u e => by rw [upd_ne (ne_of_none e n)]; exact h b u e
/-- a key function: what it is asked of, whatever stands besides -/
def KeyCall (X : Cx) (A : Around) (f : Value) (H : Hp) (xs : List V) (kf : V → List Int) : Prop :=
  ∀ (pins : List (Addr × Obj)) (s1 : Shared) (σ : St) (H1 : Hp) (x : V) (u : Value), Inv (atA X A) pins σ H1 s1 → Same H H1 → x ∈ xs → RelV x u →
    wpAny (model X.prog X.w) A (call f [u]) (fun r s2 => ∃ t H2, r = .ref t ∧ Inv (atA X A) pins σ H2 s2 ∧ H2 t = some (.tup ((kf x).map V.int)) ∧ Same H1 H2) (fun _ _ => False) s1
theorem ints_vals : ∀ {ns : List Int} {us : List Value}, Vals (ns.map V.int) us → IntsAre us ns
  | [], _, .nil => .nil
  | n :: ns, _, .cons r t => by
    obtain ⟨tk, rfl⟩ := r
    exact .cons n tk (ints_vals t)
theorem key_at {t : Addr} {ks : List Int} (I : Inv X pins σ H s) (h : H t = some (.tup (ks.map V.int))) (ne : ks ≠ []) : KeyAt s.heap (.ref t) ks := by
  obtain ⟨z, its, r, p⟩ := I.hok t _ h
  exact ⟨t, its, rfl, p, ints_vals r, ne⟩
end
end L2

set_option maxHeartbeats 4000000
namespace L2
open PySem PySem.Spec PyProof.Rows

section
variable {X : Cx} {pins : List (Addr × Obj)} {σ : St} {H : Hp} {s : Shared} {E : Value → Shared → Prop} {A : Around}
/-- what stands while the keys are asked: D empty (its epoch known), the keys' list at kS -/
structure Asking (X : Cx) (A : Around) (pins : List (Addr × Obj)) (σ : St) (H : Hp) (D kS : Addr) (e1 : Nat) (ks : List (List Int)) (s : Shared) : Prop where
  ex : ∃ (H1 : Hp) (ts : List Addr) (e : Nat), Inv (atA X A) pins σ H1 s ∧ Same H H1 ∧ FpOk (atA X A) pins H1 D ∧ FpOk (atA X A) pins H1 kS ∧ s.heap.get? D = some (seqObj "list" #[] e1) ∧
    s.heap.get? kS = some (seqObj "list" (List.toArray (ts.map Value.ref)) e) ∧ Paired (fun t k => H1 t = some (.tup (List.map V.int k))) ts ks
theorem keys_of {ts : List Addr} {ks : List (List Int)} (I : Inv X pins σ H s) (ne : ∀ k ∈ ks, k ≠ []) (p : Paired (fun t k => H t = some (.tup (List.map V.int k))) ts ks) : KeysAt s.heap (ts.map Value.ref) ks := by
  induction p with
  | nil => exact .nil
  | cons r t ih => exact .cons (key_at I r (ne _ List.mem_cons_self)) (ih fun k hk => ne k (List.mem_cons_of_mem _ hk))
theorem line64 {n : Nat} (h : n < 64) : n ≤ sizeLine := by rw [sizeLine_eq]; omega

theorem ask_turn {f : Value} {xs : List V} {kf : V → List Int} {D kS : Addr} {e1 : Nat} {ks : List (List Int)} {x : V} {u : Value} {R : Unit → Shared → Prop} (hDK : D ≠ kS) (hc : KeyCall X A f H xs kf) (hx : x ∈ xs) (r : RelV x u)
    (h64 : ks.length < 64) (a : Asking X A pins σ H D kS e1 ks s) (h : ∀ s3, Asking X A pins σ H D kS e1 (ks ++ [kf x]) s3 → R () s3) :
    wpAny (model X.prog X.w) A (call f [u]) (fun k s2 => wpAny (model X.prog X.w) A (Builtin.List.listUpdate (.ref kS) (·.push k)) R E s2) (fun _ _ => False) s := by
  obtain ⟨H1, ts, e, I, sm, fD, fK, oD, oK, pr⟩ := a.ex
  have I1 := I.pinned (fp := [D, kS]) (fun b hb => by rcases List.mem_cons.mp hb with z | z; · rw [z]; exact fD
                                                      · rw [List.mem_singleton.mp z]; exact fK) (fun b hb => by
    rcases List.mem_cons.mp hb with z | z
    · rw [z]; exact ⟨_, oD, fun v q => by cases q⟩
    · rw [List.mem_singleton.mp z]; exact ⟨_, oK, fun v q => by cases q⟩)
  refine wpAny_mono (hc _ s σ H1 x u I1 sm hx r) (fun k s2 ⟨t, H2, ek, I2, ht, sm2⟩ => ?_) fun _ _ z => z
  subst ek
  have pD := I2.pin (D, seqObj "list" #[] e1) (List.mem_append_right _ (List.mem_append_right _ (mem_pinsAt (by simp) oD)))
  have pK := I2.pin (kS, seqObj "list" (List.toArray (ts.map Value.ref)) e) (List.mem_append_right _ (List.mem_append_right _ (mem_pinsAt (by simp) oK)))
  have I3 := I2.unpinned
  have fD2 : FpOk (atA X A) pins H2 D := FpOk.of fD pD.2.1
  have fK2 : FpOk (atA X A) pins H2 kS := FpOk.of fK pK.2.1
  have hl : ts.length = ks.length := Paired.length pr
  have hz : (List.toArray (ts.map Value.ref)).size < 64 := by rw [List.size_toArray, List.length_map]; omega
  refine listUpdate_at pK.1 rfl ?_ (line64 hz) (by rw [Array.size_push]; exact Nat.succ_le_succ (line64 hz))
  have sb := Heap.SameBut.update s2.heap kS (Obj.mapSeq (·.push (Value.ref t)))
  have ea : (List.toArray (ts.map Value.ref)).push (.ref t) = List.toArray ((ts ++ [t]).map Value.ref) := by simp
  have q3 := get?_update_seq pK.1 (·.push (Value.ref t))
  rw [ea] at q3
  exact h _ ⟨H2, ts ++ [t], _, I3.turned (t' := s2.toks) (fun b o hb q => (sb.2 b hb).trans q) fK2.1 fK2.2.1 fK2.2.2.2.1 fK2.2.2.2.2.1 fK2.2.2.2.2.2, sm.trans sm2, fD2, fK2, (sb.2 D hDK).trans pD.1, q3,
    paired_snoc (R := fun (t : Addr) (k : List Int) => H2 t = some (.tup (List.map V.int k))) ht (Paired.mapP pr fun c k q => sm2 c _ q)⟩

theorem ask_loop {f : Value} {xs : List V} {kf : V → List Int} {D kS : Addr} {e1 : Nat} (hDK : D ≠ kS) (hc : KeyCall X A f H xs kf) {body : Value → PUnit → Sem (ForInStep PUnit)}
    (hb : ∀ (u : Value) (s1 : Shared) (R : ForInStep PUnit → Shared → Prop),
      wpAny (model X.prog X.w) A (call f [u]) (fun k s2 => wpAny (model X.prog X.w) A (Builtin.List.listUpdate (.ref kS) (·.push k)) (fun _ s3 => R (.yield ⟨⟩) s3) E s2) (fun _ _ => False) s1 →
        wpAny (model X.prog X.w) A (body u ⟨⟩) R E s1) {R : PUnit → Shared → Prop} : ∀ (ys : List V) (us : List Value) (ks : List (List Int)) (s : Shared), (∀ y ∈ ys, y ∈ xs) → Vals ys us → ks.length + ys.length < 64 → Asking X A pins σ H D kS e1 ks s →
      (∀ s', Asking X A pins σ H D kS e1 (ks ++ ys.map kf) s' → R ⟨⟩ s') → wpAny (model X.prog X.w) A (forIn us PUnit.unit body) R E s
  | [], _, ks, s, _, .nil, _, a, h => by
    rw [List.forIn_nil]
    exact wpAny_pure (h s (by rw [List.map_nil, List.append_nil]; exact a))
  | y :: ys, u :: us, ks, s, hy, .cons r t, hl, a, h => by
    rw [List.length_cons] at hl
    rw [List.forIn_cons]
    refine wpAny_bind (hb u s _ (ask_turn hDK hc (hy y List.mem_cons_self) r (by omega) a fun s3 a3 => ?_))
    show wpAny _ _ (forIn us PUnit.unit body) _ _ s3
    refine ask_loop hDK hc hb ys us (ks ++ [kf y]) s3 (fun z hz => hy z (List.mem_cons_of_mem _ hz)) t (by rw [List.length_append, List.length_singleton]; omega) a3 fun s' a' => h s' ?_
    rw [List.map_cons]
    rw [List.append_assoc] at a'
    exact a'

theorem vals_pick : ∀ {xs : List V} {us : List Value}, Vals xs us → ∀ p : List Nat, Vals (p.map fun i => xs.getD i .non) (p.map fun i => us.getD i Value.none)
  | _, _, _, [] => .nil
  | xs, us, r, i :: p => by
    refine .cons ?_ (vals_pick r p)
    by_cases h : i < xs.length
    · exact paired_get r i .non Value.none h
    · have hl := Vals.length r
      have e1 : xs.getD i .non = .non := by simp [Nat.le_of_not_lt h]
      have e2 : us.getD i Value.none = Value.none := by simp [Nat.le_of_not_lt (hl ▸ h)]
      show RelV (xs.getD i .non) (us.getD i Value.none)
      rw [e1, e2]
      rfl
/-- the end: the keys are known, the places are sorted, D is filled and tracked -/
theorem sort_end {xs : List V} {us : List Value} {kf : V → List Int} {D kS : Addr} {e1 : Nat} {P : PySem.Fin → Shared → Prop} (hDK : D ≠ kS) (r : Vals xs us) (h64 : xs.length < 64) (ne : ∀ x ∈ xs, kf x ≠ []) (a : Asking X A pins σ H D kS e1 (xs.map kf) s)
    (h : ∀ s' H' ys, Inv (atA X A) pins σ H' s' → Same H H' → H' D = some (.lst ys) → ys.Perm xs → SortedBy kf ys → P (.done (.ret .none)) s') :
    wpAny (model X.prog X.w) A (do let keys ← Builtin.List.listItems (.ref kS); ksk_end D false us.toArray e1 (.ref kS) keys) P E s := by
  obtain ⟨H1, ts, e, I, sm, fD, fK, oD, oK, pr⟩ := a.ex
  have hD0 : H D = none := by
    cases q : H D with
    | none => rfl
    | some o => have := sm D o q; rw [fD.1] at this; cases this
  have hl := Vals.length r
  have hlk : ts.length = xs.length := by have := Paired.length pr; rw [List.length_map] at this; exact this
  refine wpAny_bind (listItems_at oK rfl ?_)
  have fin : ∀ (st : SortSt) (ys : List V) (ws : List Value), Vals ys ws → ws.length < 64 → (arrOf st).map (·.2) = List.toArray ws → failedOf st = none → ys.Perm xs → SortedBy kf ys → wpAny (model X.prog X.w) A (ksk_tail D false e1 (.ref kS) st) P E s := by
    intro st ys ws rv hw ho hf hp hs
    have sb := Heap.SameBut.update s.heap kS (Obj.mapSeq fun _ => (#[] : Array Value))
    have I1 := I.turned (t' := s.toks) (it := kS) (h' := s.heap.update kS (Obj.mapSeq fun _ => (#[] : Array Value))) (fun b o hb q => (sb.2 b hb).trans q) fK.1 fK.2.1 fK.2.2.2.1 fK.2.2.2.2.1 fK.2.2.2.2.2
    have oD1 : (s.heap.update kS (Obj.mapSeq fun _ => (#[] : Array Value))).get? D = some (seqObj "list" #[] e1) := (sb.2 D hDK).trans oD
    unfold ksk_tail
    dsimp only
    rw [ho]
    have hkz : (List.toArray (ts.map Value.ref)).size < 64 := by rw [List.size_toArray, List.length_map]; omega
    refine wpAny_bind (listUpdate_at oK rfl ?_ (line64 hkz) (Nat.zero_le _))
    refine wpAny_bind (wpAny_letGo ?_)
    refine wpAny_bind (seqEpoch_at oD1 rfl ?_)
    refine wpAny_bind (listUpdate_at oD1 rfl ?_ (Nat.zero_le _) (by rw [if_neg (by decide), List.size_toArray]; exact Nat.le_succ_of_le (line64 hw)))
    rw [hf]
    simp only [bne_self_eq_false, Bool.false_eq_true, if_false]
    have sb2 := Heap.SameBut.update (s.heap.update kS (Obj.mapSeq fun _ => (#[] : Array Value))) D (Obj.mapSeq fun _ => List.toArray ws)
    have q2 := get?_update_seq oD1 fun _ => List.toArray ws
    refine wpAny_pure (h _ (upd H1 D (.lst ys)) ys ?_ (sm.upd hD0) upd_same hp hs)
    exact Inv.track (s := { s with heap := s.heap.update kS (Obj.mapSeq fun _ => (#[] : Array Value)) }) (t := s.toks) I1 fD (fun c u hc q => (sb2.2 c hc).trans q) ⟨_, q2⟩ ⟨by rw [Vals.length rv]; exact line64 hw, ws, _, rv, q2⟩
  unfold ksk_end
  dsimp only
  rw [if_neg (by decide : ¬ false = true)]
  by_cases h2 : us.toArray.size < 2
  · rw [if_pos h2, if_pos h2]
    have h2' : us.length < 2 := by rw [List.size_toArray] at h2; exact h2
    refine wpAny_bind (wpAny_pure ?_)
    rw [StateT.run_pure]
    refine wpAny_bind (wpAny_pure ?_)
    dsimp only
    refine fin _ xs us r (by omega) ?_ rfl (List.Perm.refl _) ?_
    · show ((List.toArray (ts.map Value.ref)).zip us.toArray).map (·.2) = us.toArray
      apply Array.toList_inj.mp
      rw [Array.toList_map, Array.toList_zip]
      rw [List.map_snd_zip]
      simp; omega
    · unfold SortedBy
      match xs, hl with
      | [], _ => exact .nil
      | [_], _ => exact List.pairwise_singleton _ _
      | _ :: _ :: _, hl => simp at hl; omega
  · rw [if_neg h2, if_neg h2]
    have h2' : 2 ≤ us.length := by rw [List.size_toArray] at h2; omega
    have K := keys_of I (fun k hk => by obtain ⟨x, hx, rfl⟩ := List.mem_map.mp hk; exact ne x hx) pr
    refine wpAny_bind (kind_keys K (by rw [List.length_map]; omega) ?_)
    have hlen : (ts.map Value.ref).length = us.length := by rw [List.length_map]; omega
    refine wpAny_bind (wpAny_mono (PySem.W.kat_run (Q := fun st' s' => s' = s ∧ ∃ p : Array Nat, arrOf st' = p.map (PySem.W.kas_item ((List.toArray (ts.map Value.ref)).zip us.toArray)) ∧ failedOf st' = none ∧ Wr.PBase us.length p ∧ Wr.Up (fun i => rankI (xs.map kf) ((xs.map kf).getD i [])) p us.length)
      (G := fun p s' => s' = s ∧ Wr.PBase us.length p ∧ Wr.Up (fun i => rankI (xs.map kf) ((xs.map kf).getD i [])) p us.length) hlen h2' (by omega) (fun p st' s' a1 a2 a3 a4 => ⟨a4.1, p, a2, a3, a4.2⟩) ?_) ?_ fun _ _ z => z)
    · have S := says_keys (prog := X.prog) (w := X.w) (A := A) K
      rw [hlen] at S
      exact Wr.w_sort S (by omega) fun p B u => ⟨rfl, B, u⟩
    · rintro ⟨⟨⟩, st'⟩ s' ⟨rfl, p, e1', hf, B, u⟩
      dsimp only
      have ho := PySem.W.kat_snds hlen e1'
      rw [← hl] at B u
      refine fin st' _ _ (vals_pick r p.toList) (by rw [List.length_map, Array.length_toList, B.size]; omega) ho hf (perm_pick xs .non p.toList B.perm) (sorted_pick B u (by omega))
end
end L2

set_option maxHeartbeats 4000000
namespace L2
open PySem PySem.Spec PyProof.Rows

section
variable {X : Cx} {pins : List (Addr × Obj)} {σ : St} {H : Hp} {s : Shared} {E : Value → Shared → Prop} {A : Around}
theorem keycall_of {k : Nat} {f : Addr} {fd : FuncData} {p : Str} {sp : Sp} {xs : List V} {kf : V → List Int} (F : FnOk X.prog X.w X.K X.mg X.base CX0 k f fd [p] sp) (hr : Room k A) (hb : Binds X.K fd [p] [])
    (hs : ∀ H1 x, Same H H1 → x ∈ xs → sp [x] H1 (fun r H2 => ∃ t, r = .ref t ∧ H2 t = some (.tup ((kf x).map V.int)) ∧ Same H1 H2) E0) : KeyCall X A (.ref f) H xs kf := by
  intro pins s1 σ H1 x u I sm hx r
  have I' := I.wish (fun _ _ => False)
  refine wpAny_mono (run_fn (X := (atA X A).nox) (dvs := []) (ds := []) (vs := [x]) F hr hb .nil pass0 I' (.cons r .nil) (hs H1 x sm hx)) (fun v s2 ⟨y, H2, I2, ry, t, e, ht, sm2⟩ => ?_) fun _ _ z => z
  subst e
  cases ry
  exact ⟨t, H2, rfl, I2.unwish, ht, sm2⟩
/-- sorted(xs, key=f) of a list: a new list -/
theorem call_sortedK {l : Addr} {f : Value} {xs : List V} {kf : V → List Int} {Q : VK} (I : Inv X pins σ H s) (hl : SqL X.K H l xs) (h64 : xs.length < 64) (ne : ∀ x ∈ xs, kf x ≠ []) (hc : ∀ H0, Same H H0 → KeyCall X X.A.in1.in1 f H0 xs kf)
    (ht : ∀ a, Builtin.«list.sort» ⟨[.ref a], [(Str.ofString "key", f)]⟩ = ksk_tree a f false)
    (h : ∀ D H' ys, Same H H' → H D = none → H' D = some (.lst ys) → ys.Perm xs → SortedBy kf ys → Q (.ref D) H') :
    wpAny (model X.prog X.w) X.A (call (.builtin "sorted") [.ref l] [(Str.ofString "key", f)]) (EP X pins σ Q) X.xe s := by
  obtain ⟨us, r, pl, _⟩ := I.list hl
  have hlen := r.length
  have hz : us.length ≤ sizeLine := line64 (by omega)
  refine call_function_entry_kw kind_sorted plain_sorted entry_sorted (ksk_s1 _ _) ?_
  unfold Builtin.«sorted»
  refine wpAny_bind (m := checkCount "sorted" 1 1 _) (wpAny_pure (wpAny_bind (collect_list pl.isList (wpAny_bind (wpAny_newList ?_ hz)) hz)))
  have I1 : Inv X pins σ H { s with heap := (s.heap.push (seqObj "list" #[] 0)).update s.heap.objs.size (Obj.mapSeq (· ++ us.toArray)) } := I.kept (t' := s.toks) fun b o q => by
    have hb : b < s.heap.objs.size := Heap.lt_size q
    rw [Heap.get?_update_other _ _ (Nat.ne_of_gt hb)]
    exact Heap.get?_push_of_some _ q
  generalize hs1 : ({ s with heap := (s.heap.push (seqObj "list" #[] 0)).update s.heap.objs.size (Obj.mapSeq (· ++ us.toArray)) } : Shared) = s1 at I1
  have I2 : Inv X pins σ H { s1 with heap := s1.heap.push (seqObj "list" us.toArray 0) } := I1.kept (t' := s1.toks) fun b o q => Heap.get?_push_of_some _ q
  have hD : H s1.heap.objs.size = none := I1.fresh
  have fD := I1.fpOk (H' := H) (Nat.le_refl _) hD
  have oD : (s1.heap.push (seqObj "list" us.toArray 0)).get? s1.heap.objs.size = some (seqObj "list" us.toArray 0) := Heap.get?_push_size _ rfl
  rw [← hs1] at oD ⊢
  refine wpAny_bind (wpAny_holding (wpAny_call_entry_kw slot_list_sort ⟨_, oD, rfl⟩ entry_list_sort ?_ (ksk_l1 _ _)))
  rw [hs1] at oD
  rw [ht]
  show wpAny _ X.A.in1.in1 (ksk_tree (({ s with heap := (s.heap.push (seqObj "list" #[] 0)).update s.heap.objs.size (Obj.mapSeq (· ++ us.toArray)) } : Shared).heap.objs.size) f false) _ _
    { (({ s with heap := (s.heap.push (seqObj "list" #[] 0)).update s.heap.objs.size (Obj.mapSeq (· ++ us.toArray)) } : Shared)) with heap := (({ s with heap := (s.heap.push (seqObj "list" #[] 0)).update s.heap.objs.size (Obj.mapSeq (· ++ us.toArray)) } : Shared)).heap.push (seqObj "list" us.toArray 0) }
  rw [hs1]
  generalize hDe : s1.heap.objs.size = D at oD hD fD
  unfold ksk_tree
  have sb := Heap.SameBut.update (s1.heap.push (seqObj "list" us.toArray 0)) D (Obj.mapSeq fun _ => (#[] : Array Value))
  have q1 := get?_update_seq oD fun _ => (#[] : Array Value)
  have I3 := I2.turned (it := D) (t' := s1.toks) (h' := (s1.heap.push (seqObj "list" us.toArray 0)).update D (Obj.mapSeq fun _ => (#[] : Array Value))) (fun b o hb q => (sb.2 b hb).trans q) fD.1 fD.2.1 fD.2.2.2.1 fD.2.2.2.2.1 fD.2.2.2.2.2
  refine wpAny_bind (listItems_at oD rfl (wpAny_bind (listUpdate_at oD rfl ?_ (by rw [List.size_toArray]; exact hz) (Nat.zero_le _))))
  refine wpAny_bind (seqEpoch_at q1 rfl (wpAny_bind (wpAny_newTuple ?_ hz)))
  refine wpAny_bind (wpAny_newList ?_ (Nat.zero_le _))
  refine wpAny_holding ?_
  generalize he1 : (if (#[] : Array Value).size == us.toArray.size then 0 else 0 + 1) = e1 at q1
  generalize hh3 : (s1.heap.push (seqObj "list" us.toArray 0)).update D (Obj.mapSeq fun _ => (#[] : Array Value)) = h3 at q1 I3
  have I4 : Inv X pins σ H { s1 with heap := h3.push (seqObj "tuple" us.toArray 0) } := I3.kept (s := { s1 with heap := h3 }) (t' := s1.toks) fun b o q => Heap.get?_push_of_some _ q
  have hK : H (h3.push (seqObj "tuple" us.toArray 0)).objs.size = none := I4.fresh
  have fK := I4.fpOk (H' := H) (Nat.le_refl _) hK
  have I5 : Inv X pins σ H { s1 with heap := (h3.push (seqObj "tuple" us.toArray 0)).push (seqObj "list" #[] 0) } := I4.kept (s := { s1 with heap := h3.push (seqObj "tuple" us.toArray 0) }) (t' := s1.toks) fun b o q => Heap.get?_push_of_some _ q
  have oK : ((h3.push (seqObj "tuple" us.toArray 0)).push (seqObj "list" #[] 0)).get? (h3.push (seqObj "tuple" us.toArray 0)).objs.size = some (seqObj "list" #[] 0) := Heap.get?_push_size _ rfl
  have oD2 : ((h3.push (seqObj "tuple" us.toArray 0)).push (seqObj "list" #[] 0)).get? D = some (seqObj "list" #[] e1) := Heap.get?_push_of_some _ (Heap.get?_push_of_some _ q1)
  have hDK : D ≠ (h3.push (seqObj "tuple" us.toArray 0)).objs.size := Nat.ne_of_lt (Heap.lt_size (Heap.get?_push_of_some _ q1))
  show wpAny _ _ (ksk_rest D f false us.toArray e1 (.ref (h3.push (seqObj "tuple" us.toArray 0)).objs.size)) _ _ { s1 with heap := (h3.push (seqObj "tuple" us.toArray 0)).push (seqObj "list" #[] 0) }
  generalize hkS : (h3.push (seqObj "tuple" us.toArray 0)).objs.size = kS at oK fK hDK
  generalize hs5 : ({ s1 with heap := (h3.push (seqObj "tuple" us.toArray 0)).push (seqObj "list" #[] 0) } : Shared) = s5 at I5
  have oK' : s5.heap.get? kS = some (seqObj "list" #[] 0) := by rw [← hs5]; exact oK
  have oD' : s5.heap.get? D = some (seqObj "list" #[] e1) := by rw [← hs5]; exact oD2
  have a0 : Asking X X.A.in1.in1 pins σ H D kS e1 [] s5 := ⟨H, [], 0, inv_in2 I5, Same.refl _, fD, fK, oD', oK', .nil⟩
  unfold ksk_rest
  refine wpAny_bind (wpAny_rule ?_)
  rw [List.forIn_toArray]
  refine wpAny_bind (ask_loop hDK (hc H (Same.refl _)) (fun u s6 R h6 => ?_) xs us [] s5 (fun _ z => z) r (by rw [List.length_nil]; omega) a0 fun s6 a6 => ?_)
  · refine wpAny_bind (wpAny_attempt (wpAny_mono h6 (fun k s7 h7 => ?_) fun _ _ z => z.elim))
    exact wpAny_bind (wpAny_mono h7 (fun _ s8 h8 => wpAny_pure h8) fun _ _ z => z)
  · rw [List.nil_append] at a6
    refine sort_end hDK r h64 ne a6 fun s7 H7 ys I7 sm7 h7 p7 o7 => ⟨.none, rfl, ?_⟩
    exact wpAny_pure ⟨_, rfl, .ref D, H7, inv_of I7 (fun z => I.ok.hd z) I.ok.frames, rfl, h D H7 ys sm7 hD h7 p7 o7⟩

def tSortK (K : PySem.W.Frag) (sp : Sp) (t : TA) : TE := fun σ H Q => t σ H fun vs H1 => ∃ l xs kf, vs = [.ref l] ∧ SqL K H1 l xs ∧ xs.length < 64 ∧ (∀ x ∈ xs, kf x ≠ []) ∧
  (∀ H2 y, Same H1 H2 → y ∈ xs → sp [y] H2 (fun r H3 => ∃ t, r = .ref t ∧ H3 t = some (.tup (List.map V.int (kf y))) ∧ Same H2 H3) E0) ∧
  ∀ D H' ys, Same H1 H' → H1 D = none → H' D = some (.lst ys) → ys.Perm xs → SortedBy kf ys → Q (.ref D) H'
theorem pe_sortedK {k : Nat} {f : Addr} {fd : FuncData} {pn fx : Str} {sp : Sp} {e : Expr} {t : TA} {p pos fp kp : Pos} (F : FnOk X.prog X.w X.K X.mg X.base CX0 k f fd [pn] sp) (hr : Room (k + 2) X.A) (hgs : Gl X "sorted") (hms : X.mg "sorted" = none)
    (hg : Gl X fx) (hm : X.mg fx = some (.ref f)) (hb : Binds X.K fd [pn] []) (he : PA X [e] t) (hd : (fx == ("__debug__" : Str)) = false := by decide)
    (hs : starEach [e] X.env = [(false, eval e X.env)] := by rfl) : PE X (.Call (.Name "sorted" p) [e] [⟨some "key", .Name fx fp, kp⟩] pos) (tSortK X.K sp t) := by
  intro pins s σ H Q I h
  refine wpAny_Call_Name_kw (ld_blt I hgs hms boot_sorted ?_)
  refine callWith_kw (thn (he pos pins s σ H _ I h) fun us s1 ⟨vs, H1, I1, r1, q1⟩ => ?_) (by rw [hs]; rfl) (by rw [hs]; rfl)
  obtain ⟨l, xs, kf, rfl, hl, h64, ne, hk, hq⟩ := q1
  obtain ⟨u, rfl, ru⟩ := Vals.one r1
  cases ru
  refine thn (pk_cons (nm := some "key") (kpos := kp) (pe_glob (pos := fp) (v := .ref f) hg hm rfl hd) pk_nil pos pins s1 σ H1 (fun zs H2 => zs = [.ref f] ∧ H2 = H1) I1 ⟨rfl, rfl⟩) fun kv s2 ⟨zs, H2, I2, r2, e2, e3⟩ => ?_
  subst e2; subst e3
  obtain ⟨u, rfl, ru⟩ := Vals.one r2
  cases ru
  show wpAny _ _ (call (.builtin "sorted") [.ref l] [(Str.ofString "key", .ref f)]) _ _ s2
  exact call_sortedK I2 hl h64 ne (fun H0 sm => keycall_of F (hr.in1.in1) hb fun H3 y s3 hy => hk H3 y (sm.trans s3) hy) (fun a => ksk_t1 f a) hq
end
end L2

set_option maxHeartbeats 4000000
namespace L2
open PySem PySem.Spec PyProof.Rows

/-! ### whole data: what a value is, down to its leaves -/
mutual
inductive Den (K : PySem.W.Frag) (H : Hp) : V → PyData → Prop
  | non : Den K H .non .none
  | bl (b : Bool) : Den K H (.bl b) (.bool b)
  | int (i : Int) : Den K H (.int i) (.int i)
  | str (x : Str) : Den K H (.str x) (.str x)
  | lst {a : Addr} {xs : List V} {ds : List PyData} : SqL K H a xs → DenAll K H xs ds → Den K H (.ref a) (.list ds)
  | tup {a : Addr} {xs : List V} {ds : List PyData} : SqT K H a xs → DenAll K H xs ds → Den K H (.ref a) (.tuple ds)
inductive DenAll (K : PySem.W.Frag) (H : Hp) : List V → List PyData → Prop
  | nil : DenAll K H [] []
  | cons {x : V} {d : PyData} {xs : List V} {ds : List PyData} : Den K H x d → DenAll K H xs ds → DenAll K H (x :: xs) (d :: ds)
end
section
variable {X : Cx} {pins : List (Addr × Obj)} {σ : St} {H H' : Hp} {s : Shared}
mutual
theorem den_reads (I : Inv X pins σ H s) : ∀ {v : V} {d : PyData} {u : Value}, Den X.K H v d → RelV v u → ∃ as, Reads s.heap u d as
  | _, _, _, .non, r => by cases r; exact ⟨_, .none⟩
  | _, _, _, .bl b, r => by cases r; exact ⟨_, .bool b⟩
  | _, _, _, .int i, r => by obtain ⟨t, rfl⟩ := r; exact ⟨_, .int i t⟩
  | _, _, _, .str x, r => by obtain ⟨t, rfl⟩ := r; exact ⟨_, .str x t⟩
  | _, _, _, .lst hq ha, r => by
    cases r
    obtain ⟨its, rv, ⟨o, n, e, c, dd, da⟩, _⟩ := I.list hq
    obtain ⟨as, q⟩ := dens_read I ha rv
    exact ⟨_, .list e c da (by simpa using q)⟩
  | _, _, _, .tup hq ha, r => by
    cases r
    obtain ⟨its, rv, ⟨o, e, c, n, da⟩, _⟩ := I.tuple hq
    obtain ⟨as, q⟩ := dens_read I ha rv
    exact ⟨_, .tuple e c da (by simpa using q)⟩
theorem dens_read (I : Inv X pins σ H s) : ∀ {vs : List V} {ds : List PyData} {us : List Value}, DenAll X.K H vs ds → Vals vs us → ∃ as, ReadsAll s.heap us ds as
  | _, _, _, .nil, .nil => ⟨_, .nil⟩
  | _, _, _, .cons d t, .cons r q => by
    obtain ⟨as, h1⟩ := den_reads I d r
    obtain ⟨bs, h2⟩ := dens_read I t q
    exact ⟨_, .cons h1 h2⟩
end
theorem Same.tupS {K : PySem.W.Frag} {a : Addr} {xs : List V} (e : Same H H') (h : SqT K H a xs) : SqT K H' a xs := by
  rcases h with (h | ⟨o, h⟩) | h
  · exact .inl (.inl (e _ _ h))
  · exact .inl (.inr ⟨o, e _ _ h⟩)
  · exact .inr h
mutual
theorem Den.same {K : PySem.W.Frag} (e : Same H H') : ∀ {v : V} {d : PyData}, Den K H v d → Den K H' v d
  | _, _, .non => .non
  | _, _, .bl b => .bl b
  | _, _, .int i => .int i
  | _, _, .str x => .str x
  | _, _, .lst h t => .lst (e.seq h) (DenAll.same e t)
  | _, _, .tup h t => .tup (e.tupS h) (DenAll.same e t)
theorem DenAll.same {K : PySem.W.Frag} (e : Same H H') : ∀ {vs : List V} {ds : List PyData}, DenAll K H vs ds → DenAll K H' vs ds
  | _, _, .nil => .nil
  | _, _, .cons h t => .cons (Den.same e h) (DenAll.same e t)
end
def rEqD (K : PySem.W.Frag) : R2 := fun x y H Q => ∃ d e, Den K H x d ∧ Den K H y e ∧ SeqAt.shaped d = true ∧ SeqAt.shaped e = true ∧ Q (.bl (PyData.eqv d e)) H
def rNeD (K : PySem.W.Frag) : R2 := fun x y H Q => ∃ d e, Den K H x d ∧ Den K H y e ∧ SeqAt.shaped d = true ∧ SeqAt.shaped e = true ∧ Q (.bl (!PyData.eqv d e)) H
theorem op_eqD (hu : X.A.units + 64 < cLine) : OpR X (compareOp .Eq) (rEqD X.K) := by
  intro pins s σ H x y v u Q I rx ry ⟨d, e, h1, h2, s1, s2, q⟩
  obtain ⟨as, r1⟩ := den_reads I h1 rx
  obtain ⟨bs, r2⟩ := den_reads I h2 ry
  exact eq_dataH r1 r2 s1 s2 hu ⟨.bl _, H, I, rfl, q⟩
theorem op_neD (hu : X.A.units + 64 < cLine) : OpR X (compareOp .NotEq) (rNeD X.K) := by
  intro pins s σ H x y v u Q I rx ry ⟨d, e, h1, h2, s1, s2, q⟩
  obtain ⟨as, r1⟩ := den_reads I h1 rx
  obtain ⟨bs, r2⟩ := den_reads I h2 ry
  exact ne_dataH r1 r2 s1 s2 hu ⟨.bl _, H, I, rfl, q⟩

/-! ### any(..), sum(..) of a list -/
def rAnyL (K : PySem.W.Frag) : List V → Hp → VK → Prop := fun vs H Q => ∃ l bs, vs = [.ref l] ∧ SqL K H l (List.map V.bl bs) ∧ Q (.bl (bs.any id)) H
theorem vals_bools : ∀ {bs : List Bool} {us : List Value}, Vals (bs.map V.bl) us → us = bs.map Value.bool
  | [], _, .nil => rfl
  | b :: bs, _, .cons r t => by cases r; rw [vals_bools t]; rfl
theorem any_range (bs : List Bool) : (List.range bs.length).any (fun i => bs.getD i false) = bs.any id := by
  have e : bs = (List.range bs.length).map fun i => bs.getD i false := by
    apply List.ext_getElem (by simp)
    intro i h1 h2
    simp [h1]
  conv => rhs; rw [e]
  rw [List.any_map]
  rfl
theorem call_any_list (hc : X.calm = true) : CallR X (.builtin "any") (rAnyL X.K) := by
  intro pins s σ H vs us Q I r ⟨l, bs, e, hl, q⟩
  subst e
  obtain ⟨u, rfl, ru⟩ := Vals.one r
  cases ru
  obtain ⟨its, rv, pl, _⟩ := I.list hl
  have ei := vals_bools rv
  subst ei
  have hd : X.A.in1.handled = none := I.ok.hd hc
  have hlt : l < s.heap.objs.size := by obtain ⟨o, n, e, _⟩ := pl; exact Heap.lt_size e
  refine call_any_walk (wpAny_pyIter_list pl.isList ⟨_, _, _, _, _, _, (fun i => bs.getD i false), rfl, Walks.list hd _ l (Nat.ne_of_lt hlt) _, ⟨⟨_, Heap.get?_push_size _ rfl, rfl, rfl⟩, pl.isList.push _⟩, ?_, fun h' tk hk => ?_⟩)
  · intro i v s' Q' E' hv hq
    have hv' : (List.map Value.bool bs)[i]? = some v := by simpa using hv
    rw [List.getElem?_map] at hv'
    cases e : bs[i]? with
    | none => rw [e] at hv'; cases hv'
    | some b =>
      rw [e] at hv'
      cases hv'
      have eb : bs.getD i false = b := by rw [List.getD_eq_getElem?_getD, e]; rfl
      dsimp only at hq
      rw [eb] at hq
      exact wpAny_truthy_bool hq
  · have ek : (List.map Value.bool bs).toArray.size = bs.length := by simp
    rw [ek, any_range]
    refine ⟨.bl _, H, I.kept (fun b o q' => hk b o (fun hm => ?_) (Heap.get?_push_of_some _ q')), rfl, q⟩
    have : b = s.heap.objs.size := by simpa using hm
    exact absurd (this ▸ Heap.lt_size q') (Nat.lt_irrefl _)
def rSumL (K : PySem.W.Frag) : List V → Hp → VK → Prop := fun vs H Q => ∃ l ns, vs = [.ref l] ∧ SqL K H l (List.map V.int ns) ∧ Q (.int (List.sum ns)) H
theorem call_sum_list (hc : X.calm = true) : CallR X (.builtin "sum") (rSumL X.K) := by
  intro pins s σ H vs us Q I r ⟨l, ns, e, hl, q⟩
  subst e
  obtain ⟨u, rfl, ru⟩ := Vals.one r
  cases ru
  obtain ⟨its, rv, pl, _⟩ := I.list hl
  have hi := ints_vals rv
  obtain ⟨m, F⟩ := I.fr
  have hd : X.A.handled = none := I.ok.hd hc
  obtain ⟨xs, hx⟩ := hi.allInts.items
  have hL : s.heap.IsList l (intItems xs) := by rw [← hx]; exact pl.isList
  refine sum_intListG hd hL fun h' tk t' hk => ⟨.int _, H, I.kept hk, ⟨t', ?_⟩, q⟩
  have e1 : (numsOf (intItems xs).toList) = ns := by rw [← hx]; exact hi.numsOf
  rw [← e1, nums_intItems, preSum_eq, List.take_of_length_le (by simp)]

/-! ### xs[::-1] -/
theorem fm_congr {α β : Type} {f g : α → Option β} : ∀ (l : List α), (∀ x ∈ l, f x = g x) → l.filterMap f = l.filterMap g
  | [], _ => rfl
  | x :: l, h => by rw [List.filterMap_cons, List.filterMap_cons, h x List.mem_cons_self, fm_congr l fun y hy => h y (List.mem_cons_of_mem _ hy)]
theorem rev_pick (its : List Value) : slicePick its.toArray none none (some (-1)) = its.reverse.toArray := by
  unfold slicePick sliceBounds
  simp only [Option.getD_some, List.size_toArray]
  apply congrArg List.toArray
  simp only [show ¬ ((-1 : Int) > 0) by decide, if_false]
  unfold sliceRange
  simp only [show ¬ ((-1 : Int) > 0) by decide, if_false]
  have hc : (if ((its.length : Int) - 1) > -1 then (((its.length : Int) - 1) - -1 - -1 - 1) / (- -1) else 0).toNat = its.length := by
    split
    · rw [show (- (-1 : Int)) = 1 by decide, Int.ediv_one]; omega
    · have : its.length = 0 := by omega
      omega
  rw [hc, List.filterMap_map]
  have hm : (List.range its.length).filterMap ((fun x => its.toArray[x]?) ∘ fun (k : Nat) => ((its.length : Int) - 1 + -1 * (k : Int)).toNat) = (List.range its.length).filterMap fun k => its[its.length - 1 - k]? := by
    apply fm_congr
    intro k hk
    have hk' := List.mem_range.mp hk
    have e : ((its.length : Int) - 1 + -1 * (k : Int)).toNat = its.length - 1 - k := by omega
    show its.toArray[((its.length : Int) - 1 + -1 * (k : Int)).toNat]? = _
    rw [e]; simp
  rw [hm]
  apply List.ext_getElem?
  intro k
  have e2 : (List.range its.length).filterMap (fun k => its[its.length - 1 - k]?) = (List.range its.length).map fun k => its.getD (its.length - 1 - k) Value.none := by
    rw [← List.filterMap_eq_map]
    apply fm_congr
    intro k hk
    have hk' := List.mem_range.mp hk
    have hl : its.length - 1 - k < its.length := by omega
    simp [hl]
  rw [e2]
  by_cases h : k < its.length
  · have hl : its.length - 1 - k < its.length := by omega
    simp [h, hl, List.getElem?_reverse]
  · simp [Nat.le_of_not_lt h]
def tRev (K : PySem.W.Frag) (te : TE) : TE := fun σ H Q => te σ H fun x H1 => ∃ a xs, x = .ref a ∧ SqL K H1 a xs ∧ ∀ p, H1 p = none → Q (.ref p) (upd H1 p (.lst xs.reverse))
theorem pe_rev {e : Expr} {te : TE} {pos p2 p3 p4 : Pos} {j} (he : PE X e te) : PE X (.Subscript e (.Slice none none (some (.UnaryOp .USub (.Constant (.int 1) j p3) p4)) p2) pos) (tRev X.K te) := by
  intro pins s σ H Q I h
  refine Subscript_ (thn (he pins s σ H _ I h) fun v s1 ⟨x, H1, I1, r1, q1⟩ => ?_)
  obtain ⟨a, xs, rfl, hx, q⟩ := q1
  cases r1
  refine wpAny_Slice ?_
  rw [evalPart_none]
  refine wpAny_pure (wpAny_pure ?_)
  rw [evalPart_some]
  refine thn (pe_un un_neg pe_int pins s1 σ H1 (fun y H2 => y = .int (-1) ∧ H2 = H1) I1 ⟨1, rfl, rfl, rfl⟩) fun st s2 ⟨y, H2, I2, ry, e1, e2⟩ => ?_
  subst e1; subst e2
  obtain ⟨t, rfl⟩ := ry
  have I4 : Inv X pins σ H2 { s2 with heap := s2.heap.push { cls := .type "slice", data := .fields #[.none, .none, .int (-1) t] } } := I2.kept (t' := s2.toks) fun b ob q => Heap.get?_push_of_some _ q
  obtain ⟨its, r, ht, hz⟩ := I4.list hx
  have hlen := r.length
  show wpAny (model X.prog X.w) X.A (subscriptTail e _ (.ref a) (.ref s2.heap.objs.size)) (EP X pins σ Q) X.xe { s2 with heap := s2.heap.push { cls := .type "slice", data := .fields #[.none, .none, .int (-1) t] } }
  refine tail_any (ops := [.ref a, .ref s2.heap.objs.size]) ht.isList.typeIs slot_list_getitem.lookup ?_ (by with_unfolding_all rfl)
  refine wpAny_getItem_list_slice ht.isList (Heap.IsSliceOf.new ..) .none .none (.int (-1) t) (by decide) ?_ (by rw [List.size_toArray]; omega)
  rw [rev_pick]
  have hf := I4.fresh
  refine ⟨.ref _, _, I4.lnew (t' := s2.toks) (ys := xs.reverse) (Vals.reverse r) (by rw [List.length_reverse]; exact hz), rfl, q _ hf⟩
end
end L2

set_option maxHeartbeats 4000000
namespace L2
open PySem PySem.Spec PyProof.Rows

/-! ### a list comprehension of one clause -/
abbrev NoX : Value → Shared → Prop := fun _ _ => False
section
variable {prog : Program} {w : World} {A : Around} {R : Result → Shared → Prop} {s : Shared}
abbrev testsOf (ifs : List Expr) (env : Env) : Sem Bool := forIn ifs true fun c r => if r = true then do let ok ← isTrue c env (eval c env); pure (ForInStep.yield ok) else pure (ForInStep.yield r)
/-- the turns, where no exception leaves -/
theorem comp_turns {elt target iter : Expr} {ifs : List Expr} {scope : Scope} {pos : Pos} {it acc : Value} {env : Env} (I : Nat → Shared → Prop)
    (turn : ∀ n s, I n s → wpAny (model prog w) A (pyNext it) (fun r s1 => match r with
      | none => R (.ok .next) s1
      | some v => wpAny (model prog w) A (letOwnedTupleGo target it v) (fun _ s2 => wpAny (model prog w) A (assign target env v) (fun _ s3 => wpAny (model prog w) A (testsOf ifs env) (fun ok s4 =>
          if ok = true then wpAny (model prog w) A (eval elt env) (fun x s5 => wpAny (model prog w) A (call (.builtin "list.append") [acc, x]) (fun _ s6 => ∃ m, m < n ∧ I m s6) NoX s5) NoX s4
          else ∃ m, m < n ∧ I m s4) NoX s3) NoX s2) NoX s1) NoX s)
    (n : Nat) (h : I n s) : codeAny (model prog w) A (.compLoop (.ListComp elt [⟨target, iter, ifs, 0⟩] scope pos) 0 it acc env) R s := by
  refine codeAny_loop rfl I (fun n s hI => ?_) n h
  show wpAny _ A (Sem.onRaise (compTurn (.ListComp elt [⟨target, iter, ifs, 0⟩] scope pos) 0 it acc env) (fun x => do noteFrame x env; theTreesLotGoes x)) _ _ s
  refine wpAny_noted (wpAny_mono (E := NoX) ?_ (fun _ _ z => z) fun _ _ z => z.elim)
  rw [compTurn_list]
  refine wpAny_bind (wpAny_standAt (wpAny_bind (thn (turn n s hI) fun r s1 h1 => ?_)))
  cases r with
  | none => exact wpAny_pure h1
  | some v =>
    refine wpAny_bind (thn h1 fun _ s2 h2 => wpAny_bind (thn h2 fun _ s3 h3 => wpAny_bind (thn h3 fun ok s4 h4 => ?_)))
    cases ok with
    | false => exact wpAny_pure ⟨rfl, h4⟩
    | true => exact wpAny_bind (wpAny_bind (thn h4 fun x s5 h5 => wpAny_bind (thn h5 fun _ s6 h6 => wpAny_pure (wpAny_pure ⟨rfl, h6⟩))))
end

/-- the block's context -/
abbrev compCx (X : Cx) (pins : List (Addr × Obj)) (scope : Scope) (cl : List (Str × Addr)) (C : Addr) (Nc : List Str) (s3 : Shared) (H3 : Hp) (fp : List Addr) : Cx :=
  { X with N := Nc, s₀ := s3, H₀ := H3, env := compEnvC scope cl C X.env, outer := X.stack, ex := fp, fn := fun _ => false, pn := X.pn ++ pins, xe := NoX }
/-- the names that the block sees from around it: by the place there -/
def capt (js : List (Option Nat)) (σ : St) : St := js.map fun j => match j with | some j => (σ[j]?).join | none => none
structure CompScope (X : Cx) (scope : Scope) (cl : List (Str × Addr)) (Nc : List Str) (js : List (Option Nat)) : Prop where
  clos : closureFor scope X.env = pure cl
  cell : ∀ y ∈ scope.names, y.2 ≠ .cell
  kind : scope.kind = .function
  nms : ∀ y ∈ scope.names, y.2 = .local → scope.names.lookup y.1 = some .local
  sub : ∀ x c, cl.lookup x = some c → X.env.cells.lookup x = some c
  has : ∀ x, ((relabel scope X.env).names.lookup x = some .cell ∨ (relabel scope X.env).names.lookup x = some .free) → ∃ c, cl.lookup x = some c
  len : js.length = Nc.length
  cap : ∀ (i : Nat) (x : Str) (j : Nat), Nc[i]? = some x → js[i]? = some (some j) → X.N[j]? = some x ∧ (X.env.kindOf x = some .cell ∨ X.env.kindOf x = some .free) ∧ ((relabel scope X.env).names.lookup x = some .cell ∨ (relabel scope X.env).names.lookup x = some .free)
section
variable {X : Cx} {pins : List (Addr × Obj)} {σ : St} {H : Hp} {s : Shared} {scope : Scope} {cl : List (Str × Addr)} {Nc : List Str} {js : List (Option Nat)} {C : Addr} {fp : List Addr} {h1 : Heap} {tk : Nat} {m : Str → Option Value}
theorem inv_comp (S : CompScope X scope cl Nc js) (I : Inv X pins σ H s) (hf : ∀ b ∈ fp, FpOk X pins H b) (hfo : ∀ b ∈ fp, ∃ o, s.heap.get? b = some o) (hC : s.heap.objs.size ≤ C) (hn : h1.Ns C m) (k : ∀ b o, s.heap.get? b = some o → h1.get? b = some o) :
    Inv (compCx X pins scope cl C Nc s H fp) [] (capt js σ) H { s with heap := h1, toks := tk } := by
  have lt : ∀ {b : Addr} {o : Obj}, s.heap.get? b = some o → b ≠ C := fun e => Nat.ne_of_lt (Nat.lt_of_lt_of_le (Heap.lt_size e) hC)
  have hCn : H C = none := I.hok.fresh hC
  have hce : ∀ x c, cl.lookup x = some c → c ≠ C := fun x c e => by
    obtain ⟨v, o, ho, _⟩ := I.cell x c (S.sub x c e)
    exact lt ho
  refine ⟨⟨I.ok.mod, S.kind, I.ok.glob, I.ok.blt, hC, fun x y c e1 e2 => I.ok.inj x y c (S.sub x c e1) (S.sub y c e2), fun x hx => S.has x hx, (fun x c z => absurd z Bool.false_ne_true), (fun z => I.ok.hd z), I.ok.frames, .inl rfl, fun b hb => ?_, I.bs,
    Nat.le_trans I.ok.bsz I.sz, fun b o e hb => ?_, fun b hb hs => ?_, I.stack, I.stkFree⟩, rfl, I.bare, Un.kept k, ⟨m, hn, fun i x v e1 e2 e3 => ?_⟩, fun x c e => ?_, hCn, fun x c e => I.freeC x c (S.sub x c e), fun p hp => ?_, I.hok.kept k, ?_⟩
  · obtain ⟨o, ho⟩ := hfo b hb
    exact ⟨lt ho, fun x c e => (hf b hb).2.2.2.2.1 x c (S.sub x c e)⟩
  · rcases (hf b hb).2.2.2.1 with z | z
    · exact I.ok.noex b o e z
    · exact absurd (Nat.lt_of_lt_of_le (Heap.lt_size e) (Nat.le_trans I.ok.bsz z)) (Nat.lt_irrefl _)
  · rcases List.mem_cons.mp (I.stkSub b hs) with z | z
    · exact (hf b hb).2.1 z
    · exact (hf b hb).2.2.1 z
  · unfold capt at e2
    rw [List.getElem?_map] at e2
    cases ej : js[i]? with
    | none => rw [ej] at e2; cases e2
    | some oj =>
      rw [ej] at e2
      cases oj with
      | none => cases e2
      | some j =>
        have e2' : (σ[j]?).join = some v := Option.some.inj e2
        obtain ⟨c1, c2, c3⟩ := S.cap i x j e1 ej
        have e4 : σ[j]? = some (some v) := by
          cases q : σ[j]? with
          | none => rw [q] at e2'; cases e2'
          | some o => rw [q] at e2'; cases o with
            | none => cases e2'
            | some z => cases e2'; rfl
        obtain ⟨mo, hmo, hl⟩ := I.loc
        have vis : Vis X.env.scope x := by rcases c2 with z | z; exact .inr (.inl z); exact .inr (.inr z)
        obtain ⟨u, r, l⟩ := hl j x v c1 e4 vis
        refine ⟨u, r, .inr ⟨c3, ?_⟩⟩
        rcases l with ⟨z, _⟩ | ⟨_, c, hc, hcell⟩
        · rcases c2 with y | y <;> rw [z] at y <;> cases y
        · obtain ⟨c', hc'⟩ := S.has x c3
          have := S.sub x c' hc'
          rw [hc] at this; cases this
          obtain ⟨o, ho, hd⟩ := hcell
          exact ⟨c, hc', o, k c o ho, hd⟩
  · obtain ⟨v, o, ho, hd⟩ := I.cell x c (S.sub x c e)
    exact ⟨v, o, k c o ho, hd⟩
  · have hp' : p ∈ X.pn ++ pins := by simpa using hp
    obtain ⟨e, n, ne, nf, d⟩ := I.pin p hp'
    refine ⟨k _ _ e, n, lt e, fun z => ?_, d⟩
    rcases List.mem_cons.mp (I.stkSub p.1 z) with y | y
    · exact ne y
    · exact nf y
  · show (capt js σ).length = Nc.length
    unfold capt
    rw [List.length_map]
    exact S.len

/-- what the turns want: W by the turn and a measure -/
def CompW (J : It) (g : TG) (tt : TT) (te : TE) (D : Addr) (Q : VK) (σ : St) (H : Hp) : Prop :=
  ∃ W : Nat → Nat → St → Hp → Prop, (∃ m, W 0 m σ H) ∧ ∀ i m σ2 H2, W i m σ2 H2 →
    (J.stop i H2 ∧ Q (.ref D) H2) ∨ (J.go i H2 ∧ ∃ N : St → Hp → Prop, (∀ σ' H', N σ' H' → ∃ m', m' < m ∧ W (i + 1) m' σ' H') ∧
      ∀ x H', J.yld i H2 x H' → g x σ2 H' fun σ3 H3 => tt σ3 H3 fun b H4 => if b = true then te σ3 H4 fun v H5 => ∃ ys, H5 D = some (.lst ys) ∧ ys.length < sizeLine ∧ N σ3 (upd H5 D (.lst (ys ++ [v]))) else N σ3 H4)
/-- the tests of a clause -/
def PIf (X : Cx) (ifs : List Expr) (t : TT) : Prop :=
  ∀ (pins : List (Addr × Obj)) (s : Shared) (σ : St) (H : Hp) (Q : Bool → Hp → Prop), Inv X pins σ H s → t σ H Q → wpAny (model X.prog X.w) X.A (testsOf ifs X.env) (TP X pins σ Q) X.xe s
def tYes : TT := fun _ H Q => Q true H
theorem pif_nil : PIf X [] tYes := fun _ _ _ H _ I h => wpAny_tests_nil ⟨H, I, h⟩
theorem pif_one {c : Expr} {t : TT} (h : PT X c t) : PIf X [c] t := fun pins s σ H Q I hw => wpAny_tests_one (h pins s σ H Q I hw)

theorem comp_run {elt target iter : Expr} {ifs : List Expr} {pos : Pos} {g : TG} {tt : TT} {te : TE} {Q : VK} {J : It} {it D : Addr} {tn : Nat → Heap → Prop} {R : Result → Shared → Prop} {s4 : Shared} {σc : St} {Hc : Hp}
    (hc : X.calm = true) (T : Turn X.prog X.w X.K target J fp it tn) (hf : ∀ b ∈ fp, FpOk X pins H b)
    (hg : PG (compCx X pins scope cl C Nc s H fp) target g) (ht : PIf (compCx X pins scope cl C Nc s H fp) ifs tt) (he : PE (compCx X pins scope cl C Nc s H fp) elt te)
    (I : Inv (compCx X pins scope cl C Nc s H fp) [] σc Hc s4) (st : tn 0 s4.heap) (fr : ∀ b ∈ fp, Hc b = none) (hw : CompW J g tt te D Q σc Hc)
    (h : ∀ s' σ' H', Inv (compCx X pins scope cl C Nc s H fp) [] σ' H' s' → (∀ b ∈ fp, H' b = none) → Q (.ref D) H' → R (.ok .next) s') :
    codeAny (model X.prog X.w) X.A (.compLoop (.ListComp elt [⟨target, iter, ifs, 0⟩] scope pos) 0 (.ref it) (.ref D) (compEnvC scope cl C X.env)) R s4 := by
  obtain ⟨W, ⟨m0, w0⟩, turn⟩ := hw
  have ok := I.ok
  -- what stays true of the iterator's objects
  have stat : ∀ {H' : Hp}, (∀ b ∈ fp, H' b = none) → ∀ b ∈ fp, FpOk (compCx X pins scope cl C Nc s H fp) [] H' b := fun hn b hb =>
    ⟨hn b hb, (ok.exf b hb).1, ok.exfs b hb, .inl hb, (ok.exf b hb).2, fun p hp => (hf b hb).2.2.2.2.2 p (by simpa using hp)⟩
  refine comp_turns (fun n s' => ∃ i σ' H', Inv (compCx X pins scope cl C Nc s H fp) [] σ' H' s' ∧ tn i s'.heap ∧ (∀ b ∈ fp, H' b = none) ∧ W i n σ' H') ?_ m0 ⟨0, σc, Hc, I, st, fr, w0⟩
  rintro n s5 ⟨i, σ5, H5, I5, st5, fr5, w5⟩
  rcases turn i n σ5 H5 w5 with ⟨stop, qn⟩ | ⟨go, N, hN, step⟩
  · refine thn (T.done (compCx X pins scope cl C Nc s H fp) rfl rfl rfl hc i [] s5 σ5 H5 NoX I5 (stat fr5) st5 stop) fun r s6 ⟨hr, I6⟩ => ?_
    subst hr
    exact h s6 σ5 H5 I6 fr5 qn
  · refine thn (T.item (compCx X pins scope cl C Nc s H fp) rfl rfl rfl hc i [] s5 σ5 H5 NoX I5 (stat fr5) st5 go) fun r s6 ⟨u, hr, h6⟩ => ?_
    subst hr
    refine thn h6 fun _ s7 ⟨x, H7, I7, r7, y7, st7, fr7⟩ => ?_
    have I7' := I7.pinned (stat fr7) (T.obj _ _ st7)
    refine thn (hg _ s7 σ5 H7 x u _ I7' r7 (step x H7 y7)) fun _ s8 ⟨σ8, H8, I8, q8⟩ => ?_
    refine thn (ht _ s8 σ8 H8 _ I8 q8) fun b s9 ⟨H9, I9, q9⟩ => ?_
    have again : ∀ {σ' : St} {H' : Hp} {s' : Shared}, Inv (compCx X pins scope cl C Nc s H fp) ([] ++ pinsAt fp s7.heap) σ' H' s' → N σ' H' → ∃ m, m < n ∧ ∃ i σ' H', Inv (compCx X pins scope cl C Nc s H fp) [] σ' H' s' ∧ tn i s'.heap ∧ (∀ b ∈ fp, H' b = none) ∧ W i m σ' H' := fun {σ' H' s'} J' n' => by
      obtain ⟨m', hm, w'⟩ := hN σ' H' n'
      have P : ∀ b ∈ fp, ∀ o, s7.heap.get? b = some o → s'.heap.get? b = some o ∧ H' b = none := fun b hb o e =>
        have q := J'.pin (b, o) (List.mem_append_right _ (List.mem_append_right _ (mem_pinsAt hb e)))
        ⟨q.1, q.2.1⟩
      refine ⟨m', hm, i + 1, σ', H', J'.unpinned, T.keep _ _ _ st7 fun b hb o e => (P b hb o e).1, fun b hb => ?_, w'⟩
      obtain ⟨o, e, _⟩ := T.obj _ _ st7 b hb
      exact (P b hb o e).2
    cases b with
    | false =>
      rw [if_neg (by decide)]
      exact again I9 q9
    | true =>
      rw [if_pos rfl]
      refine thn (he _ s9 σ8 H9 _ I9 q9) fun v s10 ⟨y, H10, I10, r10, ys, hD, hz, n10⟩ => ?_
      refine thn (mt_append _ s10 σ8 H10 (.ref D) [y] (.ref D) [v] (fun _ H11 => N σ8 H11) I10 rfl (.cons r10 .nil) ⟨D, ys, y, rfl, rfl, hD, hz, n10⟩) fun _ s11 ⟨_, H11, I11, _, n11⟩ => ?_
      exact again I11 n11
end
end L2

set_option maxHeartbeats 4000000
namespace L2
open PySem PySem.Spec PyProof.Rows

def tComp (js : List (Option Nat)) (wi : TI) (g : TG) (tt : TT) (te : TE) : TE := fun σ H Q => wi σ H fun J H1 => ∀ D, H1 D = none → CompW J g tt te D Q (capt js σ) (upd H1 D (.lst []))
/-- the block's own judgements, wherever it is laid -/
def Inner (X : Cx) (scope : Scope) (cl : List (Str × Addr)) (Nc : List Str) (target elt : Expr) (ifs : List Expr) (g : TG) (tt : TT) (te : TE) : Prop :=
  ∀ (pins : List (Addr × Obj)) (C : Addr) (s3 : Shared) (H3 : Hp) (fp : List Addr), PG (compCx X pins scope cl C Nc s3 H3 fp) target g ∧ PIf (compCx X pins scope cl C Nc s3 H3 fp) ifs tt ∧ PE (compCx X pins scope cl C Nc s3 H3 fp) elt te
section
variable {X : Cx} {pins : List (Addr × Obj)} {σ : St} {H : Hp} {s : Shared} {scope : Scope} {cl : List (Str × Addr)} {Nc : List Str} {js : List (Option Nat)} {target elt iter : Expr} {ifs : List Expr} {pos : Pos} {wi : TI} {g : TG} {tt : TT} {te : TE}
theorem comp_block {Q : VK} {J : It} {it : Addr} {fp : List Addr} {tn : Nat → Heap → Prop} {RR : Value → Addr → Result → Shared → Prop} {E : Value → Shared → Prop} (hc : X.calm = true) (S : CompScope X scope cl Nc js) (B : Inner X scope cl Nc target elt ifs g tt te)
    (I : Inv X pins σ H s) (T : Turn X.prog X.w X.K target J fp it tn) (st : tn 0 s.heap) (hf : ∀ b ∈ fp, FpOk X pins H b) (hw : ∀ D, H D = none → CompW J g tt te D Q (capt js σ) (upd H D (.lst [])))
    (h : ∀ D C s' H' m, Inv X pins σ H' s' → s'.heap.Ns C m → FpOk X pins H' C → Q (.ref D) H' → RR (.ref D) C (.ok .next) s') :
    wpAny (model X.prog X.w) X.A (newList []) (fun acc s3 => wpAny (model X.prog X.w) X.A (newFunctionEnv scope X.env.globals cl [] X.env.qual none .none (some X.env)) (fun cenv s4 =>
      codeAny (model X.prog X.w) X.A (.compStart (.ListComp elt [⟨target, iter, ifs, 0⟩] scope pos) 0 (.ref it) acc { cenv with scope := relabel scope X.env }) (RR acc cenv.locals) s4) E s3) E s := by
  have hD : H s.heap.objs.size = none := I.fresh
  have I3 : Inv X pins σ (upd H s.heap.objs.size (.lst [])) { s with heap := s.heap.push { cls := .type "list", data := .seq ([] : List Value).toArray } } := I.lnew (t' := s.toks) (its := []) (ys := []) .nil (Nat.zero_le _)
  refine wpAny_newList (wpAny_newFunctionEnv S.cell (fun y hy => by cases hy) (fun h1 hn hsb => ?_) S.kind) (Nat.zero_le _)
  generalize hs3 : ({ s with heap := s.heap.push { cls := .type "list", data := .seq ([] : List Value).toArray } } : Shared) = s3 at I3
  have hn' : h1.Ns s3.heap.objs.size (fun x => ([] : List (Str × Value)).reverse.lookup x) := by rw [← hs3]; exact hn
  have hsb' : Heap.SameBut s3.heap.objs.size (s3.heap.push { cls := .type "dict", data := .dict #[] }) h1 := by rw [← hs3]; exact hsb
  have kp : ∀ b o, s3.heap.get? b = some o → h1.get? b = some o := fun b o e => (hsb'.2 b (Nat.ne_of_lt (Heap.lt_size e))).trans (Heap.get?_push_of_some _ e)
  have fpo : ∀ b ∈ fp, ∃ o, s.heap.get? b = some o := fun b hb => let ⟨o, e, _⟩ := T.obj 0 _ st b hb; ⟨o, e⟩
  have k2 : ∀ b o, s.heap.get? b = some o → s3.heap.get? b = some o := fun b o e => by rw [← hs3]; exact Heap.get?_push_of_some _ e
  have hf3 : ∀ b ∈ fp, FpOk X pins (upd H s.heap.objs.size (.lst [])) b := fun b hb => by
    refine FpOk.of (hf b hb) ?_
    obtain ⟨o, e⟩ := fpo b hb
    rw [upd_ne (Nat.ne_of_lt (Heap.lt_size e))]
    exact (hf b hb).1
  have Ic : Inv (compCx X pins scope cl s3.heap.objs.size Nc s3 (upd H s.heap.objs.size (.lst [])) fp) [] (capt js σ) (upd H s.heap.objs.size (.lst [])) { s3 with heap := h1, toks := s3.toks + 0 } :=
    inv_comp S I3 hf3 (fun b hb => let ⟨o, e⟩ := fpo b hb; ⟨o, k2 b o e⟩) (Nat.le_refl _) hn' kp
  have st4 : tn 0 h1 := T.keep 0 _ _ st fun b hb o e => kp b o (k2 b o e)
  obtain ⟨b1, b2, b3⟩ := B pins s3.heap.objs.size s3 (upd H s.heap.objs.size (.lst [])) fp
  have loop : codeAny (model X.prog X.w) X.A (.compLoop (.ListComp elt [⟨target, iter, ifs, 0⟩] scope pos) 0 (.ref it) (.ref s.heap.objs.size) (compEnvC scope cl s3.heap.objs.size X.env)) (RR (.ref s.heap.objs.size) s3.heap.objs.size) { s3 with heap := h1, toks := s3.toks + 0 } := by
    refine comp_run hc T hf3 b1 b2 b3 Ic st4 (fun b hb => (hf3 b hb).1) (hw _ hD) fun s' σ' H' I' fr' q' => ?_
    obtain ⟨m, hm, _⟩ := I'.loc
    have Io : Inv X pins σ H' s' := I3.call' (ch := fp) I'.os I'.base I'.hok I'.bare fun b hb => ⟨(hf3 b hb).2.2.2.1, (hf3 b hb).2.1, (hf3 b hb).2.2.2.2.1, (hf3 b hb).2.2.2.2.2⟩
    exact h _ _ s' H' m Io hm (I3.fpOk (Nat.le_refl _) I'.free) q'
  exact codeAny_compStart_list loop (T.self X.A 0 _ _ _ (show tn 0 h1 from st4) loop)
theorem Inv.lettingGo {C : Addr} {h' : Heap} (I : Inv X pins σ H s) (f : FpOk X pins H C) (hs : Heap.SameBut C s.heap h') : Inv X pins σ H { s with heap := h' } :=
  I.turned (t' := s.toks) (fun b o hb e => (hs.2 b hb).trans e) f.1 f.2.1 f.2.2.2.1 f.2.2.2.2.1 f.2.2.2.2.2
/-- [e for t in it if c] -/
theorem pe_comp (hc : X.calm = true) (S : CompScope X scope cl Nc js) (hi : PI X target iter wi) (B : Inner X scope cl Nc target elt ifs g tt te) (hs : ∀ x, foldedSetIterable iter X.env x = pure x := by intro _; rfl) :
    PE X (.ListComp elt [⟨target, iter, ifs, 0⟩] scope pos) (tComp js wi g tt te) := by
  intro pins s σ H Q I h
  rw [eval_ListComp]
  refine wpAny_comprehension_free (use := none) rfl hs S.clos S.kind S.nms (thn (hi pins s σ H _ I h) fun xv s1 h1 => thn h1 fun itv s2 h2 => ?_)
  obtain ⟨it, fp, tn, J, H2, e, I2, T, st2, f2, hw⟩ := h2
  subst e
  refine comp_block hc S B I2 T st2 f2 hw fun D C s' H' m I' hm fC q => ?_
  exact ⟨m, hm, fun h' hs' => ⟨.ref D, H', I'.lettingGo fC hs', rfl, q⟩⟩
/-- x = [e for t in it if c] -/
theorem ps_setComp {i : Nat} {x : Str} {pos' spos : Pos} (hN : X.N.Nodup) (hix : X.N[i]? = some x) (hx : Loc X.env.scope x) (hc : X.calm = true) (S : CompScope X scope cl Nc js) (hi : PI X target iter wi) (B : Inner X scope cl Nc target elt ifs g tt te)
    (hs : ∀ x, foldedSetIterable iter X.env x = pure x := by intro _; rfl)
    (hsw : swapsWith (.ListComp elt [⟨target, iter, ifs, 0⟩] scope pos) (some (.Name x pos')) spos.line X.env = pure true := by rfl)
    (hf : X.fn x = true ∨ X.env.scope.names.lookup x = some .local := by first | exact .inl rfl | exact .inr rfl | assumption) :
    PS X (.Assign [.Name x pos'] (.ListComp elt [⟨target, iter, ifs, 0⟩] scope pos) spos) (tAsg (tComp js wi g tt te) (gName i)) := by
  intro pins s σ H D I h
  rw [exec_Assign_Name_used _ _ _ _ hsw]
  refine wpAny_bind (wpAny_standAt (wpAny_bind ?_))
  show wpAny _ X.A (do let _ ← comprehension (.ListComp elt [⟨target, iter, ifs, 0⟩] scope pos) scope X.env _ (newList []) false (eval iter X.env) (some (assign (.Name x pos') X.env))) _ _ s
  refine wpAny_bind (thn (wpAny_comprehension_free (use := some (assign (.Name x pos') X.env)) (Q := fun _ s' => SP X pins D .next s') rfl hs S.clos S.kind S.nms (thn (hi pins s σ H _ I h) fun xv s1 h1 => thn h1 fun itv s2 h2 => ?_)) fun _ s' hq => wpAny_pure (wpAny_pure hq))
  obtain ⟨it, fp, tn, J, H2, e, I2, T, st2, f2, hw⟩ := h2
  subst e
  refine comp_block (RR := fun acc C => compPost (model X.prog X.w) X.A X.xe (some (assign (.Name x pos') X.env)) (fun _ s' => SP X pins D .next s') acc C) hc S B I2 T st2 f2 hw fun Da C s' H' m I' hm fC q => ?_
  show wpAny (model X.prog X.w) X.A (assign (.Name x pos') X.env (.ref Da)) _ X.xe s'
  obtain ⟨oC, es, ep, hoC, hdC, r⟩ := hm
  have Ip := I'.pinned (fp := [C]) (fun b hb => by rw [List.mem_singleton.mp hb]; exact fC) (fun b hb => by rw [List.mem_singleton.mp hb]; exact ⟨oC, hoC, fun v z => by rw [hdC] at z; cases z⟩)
  refine wpAny_assign_Name (store_ok Ip hN hix hx (v := .ref Da) rfl (fun s'' I'' => ?_) hf)
  have pC := I''.pin (C, oC) (List.mem_append_right _ (List.mem_append_right _ (mem_pinsAt (by simp) hoC)))
  refine ⟨m, ⟨oC, es, ep, pC.1, hdC, r⟩, fun h' hs' => ⟨_, H', I''.unpinned.lettingGo fC hs', q⟩⟩
end

/-- the block's scope, by looks at its written names -/
theorem comp_mk {X : Cx} {scope : Scope} {cl : List (Str × Addr)} {Nc : List Str} {js : List (Option Nat)} (clos : closureFor scope X.env = pure cl) (kind : scope.kind = .function)
    (b1 : (scope.names.all fun y => decide (y.2 ≠ .cell)) = true) (b2 : (scope.names.all fun y => decide (y.2 = .local → scope.names.lookup y.1 = some .local)) = true)
    (sub : ∀ x c, (x, c) ∈ cl → X.env.cells.lookup x = some c) (b3 : ((relabel scope X.env).names.all fun y => !(y.2 == .cell || y.2 == .free) || (cl.lookup y.1).isSome) = true) (len : js.length = Nc.length)
    (b4 : ((Nc.zip js).all fun y => match y.2 with
      | none => true
      | some j => decide (X.N[j]? = some y.1) && decide (X.env.kindOf y.1 = some .cell ∨ X.env.kindOf y.1 = some .free) && decide ((relabel scope X.env).names.lookup y.1 = some .cell ∨ (relabel scope X.env).names.lookup y.1 = some .free)) = true) : CompScope X scope cl Nc js where
  clos := clos
  cell := fun y hy => of_decide_eq_true (List.all_eq_true.mp b1 y hy)
  kind := kind
  nms := fun y hy => of_decide_eq_true (List.all_eq_true.mp b2 y hy)
  sub := fun x c h => sub x c (PySem.mem_of_lookup h)
  has := fun x hx => by
    have go : ∀ k : NameKind, (k == .cell || k == .free) = true → (relabel scope X.env).names.lookup x = some k → ∃ c, cl.lookup x = some c := fun k hk e => by
      have := List.all_eq_true.mp b3 (x, k) (PySem.mem_of_lookup e)
      dsimp only at this
      rw [hk] at this
      exact Option.isSome_iff_exists.mp (by simpa using this)
    rcases hx with z | z
    · exact go .cell rfl z
    · exact go .free rfl z
  len := len
  cap := fun i x j h1 h2 => by
    have hm : (x, some j) ∈ Nc.zip js := by
      have : (Nc.zip js)[i]? = some (x, some j) := by rw [List.getElem?_zip_eq_some]; exact ⟨h1, h2⟩
      exact List.mem_of_getElem? this
    have := List.all_eq_true.mp b4 _ hm
    dsimp only at this
    rw [Bool.and_eq_true, Bool.and_eq_true] at this
    exact ⟨of_decide_eq_true this.1.1, of_decide_eq_true this.1.2, of_decide_eq_true this.2⟩

/-! ### the forms one uses -/
section
variable {g : TG} {tt : TT} {te : TE} {Q : VK} {σ : St} {H : Hp} {D : Addr}
theorem comp_list {K : PySem.W.Frag} {a : Addr} {xs : List V} (Pv : Nat → List V → St → Hp → Prop) (h0 : Pv 0 [] σ H) (hl : ∀ i ys σ H, i ≤ xs.length → Pv i ys σ H → SqL K H a xs)
    (hs : ∀ i x ys σ H, xs[i]? = some x → Pv i ys σ H → g x σ H fun σ2 H2 => tt σ2 H2 fun b H3 => if b = true then te σ2 H3 fun v H4 => ∃ zs, H4 D = some (.lst zs) ∧ zs.length < sizeLine ∧ ∃ ys', Pv (i + 1) ys' σ2 (upd H4 D (.lst (zs ++ [v]))) else ∃ ys', Pv (i + 1) ys' σ2 H3)
    (hd : ∀ ys σ H, Pv xs.length ys σ H → Q (.ref D) H) : CompW (Itl K a) g tt te D Q σ H := by
  refine ⟨fun i m σ H => m = xs.length - i ∧ i ≤ xs.length ∧ ∃ ys, Pv i ys σ H, ⟨xs.length, by simp, Nat.zero_le _, [], h0⟩, ?_⟩
  rintro i m σ H ⟨rfl, hi, ys, p⟩
  have q := hl i ys σ H hi p
  by_cases hlt : i < xs.length
  · refine .inr ⟨⟨xs, xs[i], q, by simp [hlt]⟩, fun σ' H' => ∃ ys', Pv (i + 1) ys' σ' H', fun σ' H' p' => ⟨xs.length - (i + 1), by omega, rfl, hlt, p'⟩, fun x H' y => ?_⟩
    obtain ⟨e, y⟩ := y
    subst e
    exact hs i x ys σ _ (y xs q) p
  · have e : i = xs.length := by omega
    subst e
    exact .inl ⟨⟨xs, q, Nat.le_refl _⟩, hd ys σ H p⟩
theorem comp_range {lo : Int} {n : Nat} (Pv : Nat → St → Hp → Prop) (h0 : Pv 0 σ H)
    (hs : ∀ i σ H, i < n → Pv i σ H → g (.int (lo + i)) σ H fun σ2 H2 => tt σ2 H2 fun b H3 => if b = true then te σ2 H3 fun v H4 => ∃ zs, H4 D = some (.lst zs) ∧ zs.length < sizeLine ∧ Pv (i + 1) σ2 (upd H4 D (.lst (zs ++ [v]))) else Pv (i + 1) σ2 H3)
    (hd : ∀ σ H, Pv n σ H → Q (.ref D) H) : CompW (Itr lo n) g tt te D Q σ H := by
  refine ⟨fun i m σ H => m = n - i ∧ i ≤ n ∧ Pv i σ H, ⟨n, by simp, Nat.zero_le _, h0⟩, ?_⟩
  rintro i m σ H ⟨rfl, hi, p⟩
  by_cases hlt : i < n
  · refine .inr ⟨hlt, fun σ' H' => Pv (i + 1) σ' H', fun σ' H' p' => ⟨n - (i + 1), by omega, rfl, hlt, p'⟩, fun x H' y => ?_⟩
    obtain ⟨e, y⟩ := y
    subst e y
    exact hs i σ _ hlt p
  · have e : i = n := by omega
    subst e
    exact .inl ⟨Nat.le_refl _, hd σ H p⟩
end
end L2

set_option maxHeartbeats 4000000
namespace Wr
/-! stretches and spans as plain data -/
abbrev Stt := Option Int × Option Int
def inS (m : Int) (s : Stt) : Bool := (match s.1 with | none => true | some a => decide (a ≤ m)) && (match s.2 with | none => true | some b => decide (m < b))
def inSpan (m : Int) (l : List Stt) : Bool := l.any (inS m)
def okS (s : Stt) : Prop := ∀ a b, s.1 = some a → s.2 = some b → a < b
/-- one ends ahead of the other's start -/
def Apart (p q : Stt) : Prop := ∃ b c, p.2 = some b ∧ q.1 = some c ∧ b < c
def Can (l : List Stt) : Prop := (∀ s ∈ l, okS s) ∧ l.Pairwise Apart

theorem inS_iff {m : Int} {s : Stt} : inS m s = true ↔ (∀ a, s.1 = some a → a ≤ m) ∧ (∀ b, s.2 = some b → m < b) := by
  obtain ⟨x, y⟩ := s
  cases x <;> cases y <;> simp [inS]
theorem inSpan_cons {m : Int} {p : Stt} {r : List Stt} : inSpan m (p :: r) = true ↔ inS m p = true ∨ inSpan m r = true := by
  simp [inSpan]
theorem inSpan_iff {m : Int} {l : List Stt} : inSpan m l = true ↔ ∃ s ∈ l, inS m s = true := by simp [inSpan]
theorem Can.tail {p : Stt} {r : List Stt} (h : Can (p :: r)) : Can r := ⟨fun s hs => h.1 s (List.mem_cons_of_mem _ hs), (List.pairwise_cons.mp h.2).2⟩
theorem Can.behind {p : Stt} {r : List Stt} {m : Int} (h : Can (p :: r)) (hm : inSpan m r = true) : ∃ b, p.2 = some b ∧ b < m := by
  obtain ⟨q, hq, hi⟩ := inSpan_iff.mp hm
  obtain ⟨b, c, h1, h2, h3⟩ := (List.pairwise_cons.mp h.2).1 q hq
  have := (inS_iff.mp hi).1 c h2
  exact ⟨b, h1, by omega⟩
theorem Can.ge {a : Int} {e : Option Int} {r : List Stt} {m : Int} (h : Can ((some a, e) :: r)) (hm : inSpan m ((some a, e) :: r) = true) : a ≤ m := by
  rcases inSpan_cons.mp hm with z | z
  · exact (inS_iff.mp z).1 a rfl
  · obtain ⟨b, h1, h2⟩ := h.behind z
    have := h.1 _ List.mem_cons_self a b rfl h1
    omega
theorem okS.start {a : Int} {e : Option Int} (h : okS (some a, e)) : inS a (some a, e) = true := by
  refine inS_iff.mpr ⟨fun x hx => ?_, fun b hb => h a b rfl hb⟩
  cases hx; exact Int.le_refl _
theorem start_ever {e : Option Int} {r : List Stt} {p' : Stt} {r' : List Stt} (h' : Can (p' :: r')) (heq : ∀ m, inSpan m ((none, e) :: r) = inSpan m (p' :: r')) : p'.1 = none := by
  obtain ⟨s', e'⟩ := p'
  cases s' with
  | none => rfl
  | some a' =>
    exfalso
    have key : ∀ m : Int, inS m (none, e) = true → a' ≤ m := fun m hm => h'.ge (by rw [← heq]; exact inSpan_cons.mpr (.inl hm))
    cases e with
    | none =>
      have := key (a' - 1) (by simp [inS])
      omega
    | some b =>
      have := key (min (a' - 1) (b - 1)) (by simp [inS]; omega)
      omega
theorem can_head {s : Option Int} {e e' : Option Int} {r r' : List Stt} (h : Can ((s, e) :: r)) (heq : ∀ m, inSpan m ((s, e) :: r) = inSpan m ((s, e') :: r')) {b : Int} (hb : e = some b)
    (he : ∀ b', e' = some b' → b < b') : False := by
  have h1 : inS b (s, e') = true := inS_iff.mpr ⟨fun a ha => Int.le_of_lt (h.1 _ List.mem_cons_self a b ha hb), fun b' hb' => he b' hb'⟩
  have h2 : inSpan b ((s, e) :: r) = true := by rw [heq]; exact inSpan_cons.mpr (.inl h1)
  rcases inSpan_cons.mp h2 with z | z
  · have := (inS_iff.mp z).2 b hb
    omega
  · obtain ⟨c, h3, h4⟩ := h.behind z
    have : e = some c := h3
    rw [hb] at this
    cases this
    omega
theorem nonempty_span {s : Stt} {r : List Stt} (h : okS s) : ∃ m, inSpan m (s :: r) = true := by
  obtain ⟨x, y⟩ := s
  cases x with
  | some a => exact ⟨a, inSpan_cons.mpr (.inl h.start)⟩
  | none =>
    cases y with
    | none => exact ⟨0, inSpan_cons.mpr (.inl rfl)⟩
    | some b => exact ⟨b - 1, inSpan_cons.mpr (.inl (by simp [inS]; omega))⟩
/-- two spans with the same moments are one -/
theorem can_ext : ∀ {l l' : List Stt}, Can l → Can l' → (∀ m, inSpan m l = inSpan m l') → l = l'
  | [], [], _, _, _ => rfl
  | [], p' :: r', _, h', heq => by
    obtain ⟨m, hm⟩ := nonempty_span (r := r') (h'.1 p' List.mem_cons_self)
    rw [← heq] at hm
    cases hm
  | p :: r, [], h, _, heq => by
    obtain ⟨m, hm⟩ := nonempty_span (r := r) (h.1 p List.mem_cons_self)
    rw [heq] at hm
    cases hm
  | (s, e) :: r, (s', e') :: r', h, h', heq => by
    have es : s = s' := by
      cases s with
      | none => exact (start_ever h' heq).symm
      | some a =>
        cases s' with
        | none => exact start_ever h fun m => (heq m).symm
        | some a' =>
          have h1 : a' ≤ a := h'.ge (by rw [← heq]; exact inSpan_cons.mpr (.inl (h.1 _ List.mem_cons_self).start))
          have h2 : a ≤ a' := h.ge (by rw [heq]; exact inSpan_cons.mpr (.inl (h'.1 _ List.mem_cons_self).start))
          have : a = a' := by omega
          rw [this]
    subst es
    have ee : e = e' := by
      cases e with
      | none =>
        cases e' with
        | none => rfl
        | some b' => exact (can_head h' (fun m => (heq m).symm) rfl fun b hb => by cases hb).elim
      | some b =>
        cases e' with
        | none => exact (can_head h heq rfl fun b hb => by cases hb).elim
        | some b' =>
          by_cases h1 : b < b'
          · exact (can_head h heq rfl fun c hc => by cases hc; exact h1).elim
          · by_cases h2 : b' < b
            · exact (can_head h' (fun m => (heq m).symm) rfl fun c hc => by cases hc; exact h2).elim
            · have : b = b' := by omega
              rw [this]
    subst ee
    have er : r = r' := by
      refine can_ext h.tail h'.tail fun m => ?_
      have go : ∀ {u v : List Stt}, Can ((s, e) :: u) → (∀ m, inSpan m ((s, e) :: u) = inSpan m ((s, e) :: v)) → inSpan m u = true → inSpan m v = true := fun {u v} hu hq hm => by
        obtain ⟨b, h1, h2⟩ := hu.behind hm
        have h3 : inSpan m ((s, e) :: v) = true := by rw [← hq]; exact inSpan_cons.mpr (.inr hm)
        rcases inSpan_cons.mp h3 with z | z
        · have := (inS_iff.mp z).2 b h1
          omega
        · exact z
      cases hx : inSpan m r with
      | true => exact (go h heq hx).symm
      | false =>
        cases hy : inSpan m r' with
        | false => rfl
        | true => rw [go h' (fun m => (heq m).symm) hy] at hx; cases hx
    rw [er]

/-! ### tidied: sorted by the starts, then put together -/
def leO : Option Int → Option Int → Prop
  | none, _ => True
  | some _, none => False
  | some a, some b => a ≤ b
def reachB (p : Stt) (s : Option Int) : Bool := (match s with | none => true | some c => (match p.2 with | none => true | some b => decide (c ≤ b)))
def laterE : Option Int → Option Int → Option Int
  | some a, some b => some (max a b)
  | _, _ => none
/-- the span so far, the last of it, and what it holds -/
structure Tidy (acc done : List Stt) : Prop where
  can : Can acc
  eq : ∀ m, inSpan m acc = inSpan m done
theorem inSpan_append {m : Int} {l r : List Stt} : inSpan m (l ++ r) = (inSpan m l || inSpan m r) := by simp [inSpan]
theorem merge_in {m : Int} {p x : Stt} (h1 : leO p.1 x.1) (h2 : reachB p x.1 = true) (ox : okS x) : inS m (p.1, laterE p.2 x.2) = (inS m p || inS m x) := by
  obtain ⟨a, b⟩ := p
  obtain ⟨c, d⟩ := x
  have ox' := ox
  rw [Bool.eq_iff_iff, Bool.or_eq_true]
  cases a <;> cases b <;> cases c <;> cases d <;> simp_all [inS, laterE, leO, reachB, okS] <;> omega
theorem tidy_start : Tidy [] [] := ⟨⟨(fun s hs => nomatch hs), List.Pairwise.nil⟩, fun m => rfl⟩
theorem tidy_first {x : Stt} (ox : okS x) : Tidy [x] [x] := ⟨⟨fun s hs => by rw [List.mem_singleton.mp hs]; exact ox, List.pairwise_singleton _ _⟩, fun m => rfl⟩
theorem tidy_merge {init done : List Stt} {p x : Stt} (T : Tidy (init ++ [p]) done) (h1 : leO p.1 x.1) (h2 : reachB p x.1 = true) (ox : okS x) : Tidy (init ++ [(p.1, laterE p.2 x.2)]) (done ++ [x]) := by
  obtain ⟨⟨o, w⟩, e⟩ := T
  have w' := List.pairwise_append.mp w
  refine ⟨⟨fun s hs => ?_, List.pairwise_append.mpr ⟨w'.1, List.pairwise_singleton _ _, fun q hq z hz => ?_⟩⟩, fun m => ?_⟩
  · rcases List.mem_append.mp hs with z | z
    · exact o s (List.mem_append_left _ z)
    · rw [List.mem_singleton.mp z]
      intro a b ha hb
      have op := o p (List.mem_append_right _ (by simp))
      obtain ⟨pa, pb⟩ := p
      obtain ⟨xa, xb⟩ := x
      have ha' : pa = some a := ha
      subst ha'
      cases pb <;> cases xb <;> simp [laterE] at hb
      have := op a _ rfl rfl
      omega
  · rw [List.mem_singleton.mp hz]
    obtain ⟨b, c, k1, k2, k3⟩ := w'.2.2 q hq p (by simp)
    exact ⟨b, c, k1, k2, k3⟩
  · have e' := e m
    rw [inSpan_append] at e' ⊢
    rw [inSpan_append, ← e']
    have k : ∀ s : Stt, inSpan m [s] = inS m s := fun s => by simp [inSpan]
    rw [k, k, k, merge_in h1 h2 ox, Bool.or_assoc]
theorem tidy_new {init done : List Stt} {p x : Stt} (T : Tidy (init ++ [p]) done) (h1 : leO p.1 x.1) (h2 : reachB p x.1 = false) (ox : okS x) : Tidy (init ++ [p] ++ [x]) (done ++ [x]) := by
  obtain ⟨⟨o, w⟩, e⟩ := T
  have w' := List.pairwise_append.mp w
  have ap : Apart p x := by
    obtain ⟨pa, pb⟩ := p
    obtain ⟨xa, xb⟩ := x
    cases xa with
    | none => simp [reachB] at h2
    | some c =>
      cases pb with
      | none => simp [reachB] at h2
      | some b => simp [reachB] at h2; exact ⟨b, c, rfl, rfl, h2⟩
  refine ⟨⟨fun s hs => ?_, List.pairwise_append.mpr ⟨w, List.pairwise_singleton _ _, fun q hq z hz => ?_⟩⟩, fun m => ?_⟩
  · rcases List.mem_append.mp hs with z | z
    · exact o s z
    · rw [List.mem_singleton.mp z]; exact ox
  · rw [List.mem_singleton.mp hz]
    rcases List.mem_append.mp hq with y | y
    · obtain ⟨b, c, k1, k2, k3⟩ := w'.2.2 q y p (by simp)
      obtain ⟨b', c', l1, l2, l3⟩ := ap
      refine ⟨b, c', k1, l2, ?_⟩
      have op := o p (List.mem_append_right _ (by simp)) c b' k2 l1
      omega
    · rw [List.mem_singleton.mp y]; exact ap
  · rw [inSpan_append (l := init ++ [p]), inSpan_append (l := done), e m]

/-! ### a grid and its pieces -/
def Inc (g : List Int) : Prop := g.Pairwise (· < ·)
/-- the piece in which a moment lies: how many of the grid are no later -/
def piece (g : List Int) (m : Int) : Nat := (g.filter fun x => decide (x ≤ m)).length
def stt (g : List Int) (f l : Nat) : Stt := (if f = 0 then none else g[f - 1]?, g[l]?)
theorem piece_cons (x : Int) (g : List Int) (m : Int) : piece (x :: g) m = if x ≤ m then piece g m + 1 else piece g m := by
  unfold piece
  rw [List.filter_cons]
  by_cases h : x ≤ m
  · simp [h]
  · simp [h]
theorem piece_le_length (g : List Int) (m : Int) : piece g m ≤ g.length := List.length_filter_le _ _
theorem piece_zero {g : List Int} {m : Int} (h : ∀ x ∈ g, m < x) : piece g m = 0 := by
  unfold piece
  rw [List.length_eq_zero_iff, List.filter_eq_nil_iff]
  intro x hx
  have := h x hx
  simp; omega
/-- g[i] is no later than m just where the piece lies behind it -/
theorem piece_iff : ∀ {g : List Int} {m : Int}, Inc g → ∀ (i : Nat) (x : Int), g[i]? = some x → (x ≤ m ↔ i < piece g m)
  | [], _, _, i, x, h => by simp at h
  | y :: g, m, hg, i, x, h => by
    obtain ⟨h1, h2⟩ := List.pairwise_cons.mp hg
    rw [piece_cons]
    cases i with
    | zero =>
      simp at h
      subst h
      by_cases hy : y ≤ m
      · simp [hy]
      · rw [if_neg hy, piece_zero fun z hz => by have := h1 z hz; omega]
        simp [hy]
    | succ i =>
      have h' : g[i]? = some x := by simpa using h
      have ih := piece_iff (m := m) h2 i x h'
      have hyx := h1 x (List.mem_of_getElem? h')
      by_cases hy : y ≤ m
      · rw [if_pos hy]; omega
      · rw [if_neg hy, piece_zero fun z hz => by have := h1 z hz; omega]
        omega
theorem inS_stt {g : List Int} (hg : Inc g) {f l : Nat} (hf : f ≤ g.length) (m : Int) : inS m (stt g f l) = true ↔ f ≤ piece g m ∧ piece g m ≤ l := by
  rw [inS_iff]
  unfold stt
  dsimp only
  have h1 : (∀ a, (if f = 0 then none else g[f - 1]?) = some a → a ≤ m) ↔ f ≤ piece g m := by
    by_cases h0 : f = 0
    · simp [h0]
    · rw [if_neg h0]
      have hlt : f - 1 < g.length := by omega
      obtain ⟨x, hx⟩ : ∃ x, g[f - 1]? = some x := ⟨g[f - 1], by simp [hlt]⟩
      have := piece_iff (m := m) hg (f - 1) x hx
      rw [hx]
      constructor
      · intro h
        have := h x rfl
        omega
      · intro h a ha
        cases ha
        omega
  have h2 : (∀ b, g[l]? = some b → m < b) ↔ piece g m ≤ l := by
    cases hx : g[l]? with
    | none =>
      have : g.length ≤ l := by simpa using hx
      have := piece_le_length g m
      constructor
      · intro _; omega
      · intro _ b hb; cases hb
    | some x =>
      have := piece_iff (m := m) hg l x hx
      constructor
      · intro h
        have := h x rfl
        omega
      · intro h b hb
        cases hb
        omega
  rw [h1, h2]
theorem inc_lt {g : List Int} (hg : Inc g) {i j : Nat} {x y : Int} (hi : g[i]? = some x) (hj : g[j]? = some y) (h : i < j) : x < y := by
  obtain ⟨h1, e1⟩ := List.getElem?_eq_some_iff.mp hi
  obtain ⟨h2, e2⟩ := List.getElem?_eq_some_iff.mp hj
  have := List.pairwise_iff_getElem.mp hg i j h1 h2 h
  rw [e1, e2] at this
  exact this
theorem ok_stt {g : List Int} (hg : Inc g) {f l : Nat} (h : f ≤ l) : okS (stt g f l) := by
  intro a b ha hb
  unfold stt at ha hb
  dsimp only at ha hb
  by_cases h0 : f = 0
  · rw [if_pos h0] at ha; cases ha
  · rw [if_neg h0] at ha
    exact inc_lt hg ha hb (by omega)
/-- the runs found so far: of the places below n -/
structure Runs (lit : List Bool) (R : List (Nat × Nat)) (n : Nat) : Prop where
  le : ∀ r ∈ R, r.1 ≤ r.2
  lt : ∀ r ∈ R, r.2 + 1 < n
  inn : ∀ r ∈ R, r.2 < lit.length
  ap : R.Pairwise fun r q => r.2 + 1 < q.1
  has : ∀ k, k < n → k < lit.length → (lit[k]? = some true ↔ ∃ r ∈ R, r.1 ≤ k ∧ k ≤ r.2)
theorem runs_start (lit : List Bool) : Runs lit [] 0 := ⟨(fun r h => nomatch h), (fun r h => nomatch h), (fun r h => nomatch h), List.Pairwise.nil, fun k h => absurd h (Nat.not_lt_zero _)⟩
theorem runs_none {lit : List Bool} {R : List (Nat × Nat)} {n : Nat} (h : Runs lit R n) (hf : n < lit.length → lit[n]? = some false) : Runs lit R (n + 1) := by
  refine ⟨h.le, fun r hr => Nat.lt_succ_of_lt (h.lt r hr), h.inn, h.ap, fun k h1 h2 => ?_⟩
  by_cases hk : k < n
  · exact h.has k hk h2
  · obtain rfl : k = n := by omega
    rw [hf h2]
    constructor
    · intro z; cases z
    · rintro ⟨r, hr, _, h4⟩
      have := h.lt r hr
      omega
theorem runs_more {lit : List Bool} {R : List (Nat × Nat)} {n last : Nat} (h : Runs lit R n) (h1 : n < last) (h2 : last ≤ lit.length) (ht : ∀ k, n ≤ k → k < last → lit[k]? = some true) (hf : last < lit.length → lit[last]? = some false) : Runs lit (R ++ [(n, last - 1)]) (last + 1) := by
  refine ⟨fun r hr => ?_, fun r hr => ?_, fun r hr => ?_, List.pairwise_append.mpr ⟨h.ap, List.pairwise_singleton _ _, fun r hr q hq => ?_⟩, fun k k1 k2 => ?_⟩
  · rcases List.mem_append.mp hr with z | z
    · exact h.le r z
    · rw [List.mem_singleton.mp z]; show n ≤ last - 1; omega
  · rcases List.mem_append.mp hr with z | z
    · have := h.lt r z; omega
    · rw [List.mem_singleton.mp z]; show last - 1 + 1 < last + 1; omega
  · rcases List.mem_append.mp hr with z | z
    · exact h.inn r z
    · rw [List.mem_singleton.mp z]; show last - 1 < lit.length; omega
  · rw [List.mem_singleton.mp hq]; exact h.lt r hr
  · by_cases hk : k < n
    · rw [h.has k hk k2]
      constructor
      · rintro ⟨r, hr, z⟩; exact ⟨r, List.mem_append_left _ hr, z⟩
      · rintro ⟨r, hr, z⟩
        rcases List.mem_append.mp hr with y | y
        · exact ⟨r, y, z⟩
        · rw [List.mem_singleton.mp y] at z
          have : n ≤ k := z.1
          omega
    · by_cases hl : k < last
      · rw [ht k (by omega) hl]
        exact ⟨fun _ => ⟨(n, last - 1), List.mem_append_right _ (by simp), by show n ≤ k; omega, by show k ≤ last - 1; omega⟩, fun _ => rfl⟩
      · obtain rfl : k = last := by omega
        rw [hf k2]
        constructor
        · intro z; cases z
        · rintro ⟨r, hr, z⟩
          rcases List.mem_append.mp hr with y | y
          · have := h.lt r y; omega
          · rw [List.mem_singleton.mp y] at z
            have : k ≤ k - 1 := z.2
            omega
theorem runs_can {g : List Int} {lit : List Bool} {R : List (Nat × Nat)} {n : Nat} (hg : Inc g) (hl : lit.length = g.length + 1) (hn : lit.length ≤ n) (h : Runs lit R n) :
    Can (R.map fun r => stt g r.1 r.2) ∧ ∀ m, inSpan m (R.map fun r => stt g r.1 r.2) = (lit[piece g m]?).getD false := by
  have hb := h.inn
  refine ⟨⟨fun s hs => ?_, ?_⟩, fun m => ?_⟩
  · obtain ⟨r, hr, rfl⟩ := List.mem_map.mp hs
    exact ok_stt hg (h.le r hr)
  · rw [List.pairwise_map]
    refine h.ap.imp_of_mem fun {r q} hr hq hrq => ?_
    have b1 := hb q hq
    have b2 := h.le q hq
    have l1 : r.2 < g.length := by omega
    have l2 : q.1 - 1 < g.length := by omega
    refine ⟨g[r.2], g[q.1 - 1], ?_, ?_, ?_⟩
    · show g[r.2]? = _
      simp [l1]
    · show (if q.1 = 0 then none else g[q.1 - 1]?) = _
      rw [if_neg (by omega)]
      simp [l2]
    · exact inc_lt hg (i := r.2) (j := q.1 - 1) (by simp [l1]) (by simp [l2]) (by omega)
  · have hp := piece_le_length g m
    have hk : piece g m < lit.length := by omega
    have hh := h.has (piece g m) (by omega) hk
    rw [Bool.eq_iff_iff]
    constructor
    · intro hi
      obtain ⟨s, hs, hm⟩ := inSpan_iff.mp hi
      obtain ⟨r, hr, rfl⟩ := List.mem_map.mp hs
      have b1 := hb r hr
      have b2 := h.le r hr
      rw [inS_stt hg (by omega)] at hm
      rw [hh.mpr ⟨r, hr, hm⟩]
      rfl
    · intro hi
      have : lit[piece g m]? = some true := by
        cases q : lit[piece g m]? with
        | none => rw [q] at hi; cases hi
        | some b => rw [q] at hi; cases b with
          | true => rfl
          | false => cases hi
      obtain ⟨r, hr, hm⟩ := hh.mp this
      have b1 := hb r hr
      have b2 := h.le r hr
      exact inSpan_iff.mpr ⟨_, List.mem_map.mpr ⟨r, hr, rfl⟩, (inS_stt hg (by omega) m).mpr hm⟩
theorem piece_at {g : List Int} (hg : Inc g) {k : Nat} {x : Int} (h : g[k]? = some x) : piece g x = k + 1 := by
  have h1 := (piece_iff (m := x) hg k x h).mp (Int.le_refl _)
  have h2 := piece_le_length g x
  by_cases hk : k + 1 < g.length
  · have h3 := piece_iff (m := x) hg (k + 1) g[k + 1] (by simp [hk])
    have h4 := inc_lt hg h (j := k + 1) (y := g[k + 1]) (by simp [hk]) (by omega)
    omega
  · omega
theorem piece_ahead {g : List Int} (hg : Inc g) {k : Nat} {x : Int} (h : g[k]? = some x) : piece g (x - 1) = k := by
  have h1 := piece_iff (m := x - 1) hg k x h
  have h0 : ¬ k < piece g (x - 1) := by omega
  cases k with
  | zero => omega
  | succ k =>
    have hlt : k + 1 < g.length := (List.getElem?_eq_some_iff.mp h).1
    have hk : k < g.length := by omega
    have h3 := piece_iff (m := x - 1) hg k g[k] (by simp [hk])
    have h4 := inc_lt hg (i := k) (x := g[k]) (by simp [hk]) h (by omega)
    omega
end Wr

set_option maxHeartbeats 4000000
namespace Wr
/-! ### a span by its bounds -/
def bnds (l : List Stt) : List Int := l.flatMap fun s => s.1.toList ++ s.2.toList
def fe : List Stt → Bool
  | (none, _) :: _ => true
  | _ => false
/-- where one stands at m, having begun at s and turned at each bound -/
def par (s : Bool) (bs : List Int) (m : Int) : Bool := bs.foldl (fun x b => x != decide (b ≤ m)) s
theorem par_low {m : Int} : ∀ {bs : List Int} {s : Bool}, (∀ b ∈ bs, m < b) → par s bs m = s
  | [], _, _ => rfl
  | b :: bs, s, h => by
    have hb := h b List.mem_cons_self
    have : decide (b ≤ m) = false := decide_eq_false (by omega)
    show par (s != decide (b ≤ m)) bs m = s
    rw [this, par_low fun c hc => h c (List.mem_cons_of_mem _ hc)]
    cases s <;> rfl
theorem bnds_cons (a b : Option Int) (r : List Stt) : bnds ((a, b) :: r) = a.toList ++ (b.toList ++ bnds r) := by
  simp [bnds]
/-- all bounds of what lies behind a stretch that ends at b are above b -/
theorem bnds_above {p : Stt} {r : List Stt} {e : Int} (h : Can (p :: r)) (he : p.2 = some e) : ∀ b ∈ bnds r, e < b := by
  intro b hb
  obtain ⟨s, hs, hx⟩ := List.mem_flatMap.mp hb
  obtain ⟨e', c, h1, h2, h3⟩ := (List.pairwise_cons.mp h.2).1 s hs
  rw [he] at h1
  cases h1
  rcases List.mem_append.mp hx with z | z
  · rw [h2] at z
    have : b = c := by simpa using z
    omega
  · cases q : s.2 with
    | none => rw [q] at z; simp at z
    | some d =>
      rw [q] at z
      have : b = d := by simpa using z
      have := h.1 s (List.mem_cons_of_mem _ hs) c d h2 q
      omega
theorem tail_nil {p : Stt} {r : List Stt} (h : Can (p :: r)) (he : p.2 = none) : r = [] := by
  cases r with
  | nil => rfl
  | cons q r =>
    obtain ⟨b, c, h1, _⟩ := (List.pairwise_cons.mp h.2).1 q List.mem_cons_self
    rw [he] at h1
    cases h1
theorem tail_fe {p : Stt} {r : List Stt} (h : Can (p :: r)) : fe r = false := by
  cases r with
  | nil => rfl
  | cons q r =>
    obtain ⟨b, c, _, h2, _⟩ := (List.pairwise_cons.mp h.2).1 q List.mem_cons_self
    obtain ⟨x, y⟩ := q
    have h2' : x = some c := h2
    rw [h2']
    rfl
theorem in_par : ∀ {l : List Stt}, Can l → ∀ m, inSpan m l = par (fe l) (bnds l) m
  | [], _, _ => rfl
  | (a, b) :: r, h, m => by
    have ih := in_par h.tail m
    rw [tail_fe h] at ih
    have hr : inSpan m ((a, b) :: r) = (inS m (a, b) || inSpan m r) := by simp [inSpan]
    rw [hr, bnds_cons]
    cases b with
    | none =>
      have er := tail_nil h rfl
      subst er
      cases a with
      | none => simp [inS, inSpan, fe, bnds, par]
      | some a => simp [inS, inSpan, fe, bnds, par]
    | some e =>
      have ab : ∀ c ∈ bnds r, e < c := bnds_above h rfl
      cases a with
      | none =>
        show _ = par (true != decide (e ≤ m)) (bnds r) m
        by_cases hm : e ≤ m
        · rw [decide_eq_true hm]
          have : inS m (none, some e) = false := by simp [inS]; omega
          rw [this, Bool.false_or, ih]
          rfl
        · rw [decide_eq_false hm, par_low fun c hc => by have := ab c hc; omega]
          have : inS m (none, some e) = true := by simp [inS]; omega
          rw [this]
          rfl
      | some a =>
        have ae := h.1 _ List.mem_cons_self a e rfl rfl
        show _ = par ((false != decide (a ≤ m)) != decide (e ≤ m)) (bnds r) m
        by_cases ha : a ≤ m
        · by_cases hm : e ≤ m
          · rw [decide_eq_true ha, decide_eq_true hm]
            have : inS m (some a, some e) = false := by simp [inS]; omega
            rw [this, Bool.false_or, ih]
            rfl
          · rw [decide_eq_true ha, decide_eq_false hm, par_low fun c hc => by have := ab c hc; omega]
            have : inS m (some a, some e) = true := by simp [inS]; omega
            rw [this]
            rfl
        · have hm : ¬ e ≤ m := by omega
          have low : ∀ c ∈ bnds r, m < c := fun c hc => by have := ab c hc; omega
          rw [decide_eq_false ha, decide_eq_false hm, par_low low]
          have : inS m (some a, some e) = false := by simp [inS]; omega
          rw [this, Bool.false_or, ih, par_low low]
          rfl
theorem can_bnds : ∀ {l : List Stt}, Can l → Inc (bnds l)
  | [], _ => List.Pairwise.nil
  | (a, b) :: r, h => by
    have ih := can_bnds h.tail
    rw [bnds_cons]
    cases b with
    | none =>
      have er := tail_nil h rfl
      subst er
      cases a with
      | none => exact List.Pairwise.nil
      | some a => exact List.pairwise_singleton _ _
    | some e =>
      have ab : ∀ c ∈ bnds r, e < c := bnds_above h rfl
      have i2 : Inc (e :: bnds r) := List.pairwise_cons.mpr ⟨ab, ih⟩
      cases a with
      | none => exact i2
      | some a =>
        have ae := h.1 _ List.mem_cons_self a e rfl rfl
        refine List.pairwise_cons.mpr ⟨fun c hc => ?_, i2⟩
        rcases List.mem_cons.mp hc with z | z
        · omega
        · have := ab c z; omega
theorem bnds_len (l : List Stt) : (bnds l).length ≤ 2 * l.length := by
  induction l with
  | nil => simp [bnds]
  | cons s r ih =>
    obtain ⟨a, b⟩ := s
    rw [bnds_cons]
    cases a <;> cases b <;> simp <;> omega
theorem inc_ext : ∀ {l r : List Int}, Inc l → Inc r → (∀ x, x ∈ l ↔ x ∈ r) → l = r
  | [], [], _, _, _ => rfl
  | [], y :: r, _, _, h => by have := (h y).mpr List.mem_cons_self; cases this
  | x :: l, [], _, _, h => by have := (h x).mp List.mem_cons_self; cases this
  | x :: l, y :: r, hl, hr, h => by
    obtain ⟨l1, l2⟩ := List.pairwise_cons.mp hl
    obtain ⟨r1, r2⟩ := List.pairwise_cons.mp hr
    have e : x = y := by
      rcases List.mem_cons.mp ((h x).mp List.mem_cons_self) with z | z
      · exact z
      · rcases List.mem_cons.mp ((h y).mpr List.mem_cons_self) with w | w
        · exact w.symm
        · have := r1 x z; have := l1 y w; omega
    subst e
    congr 1
    refine inc_ext l2 r2 fun z => ?_
    constructor
    · intro hz
      rcases List.mem_cons.mp ((h z).mp (List.mem_cons_of_mem _ hz)) with w | w
      · have := l1 z hz; omega
      · exact w
    · intro hz
      rcases List.mem_cons.mp ((h z).mpr (List.mem_cons_of_mem _ hz)) with w | w
      · have := r1 z hz; omega
      · exact w
/-- turning at those bounds of B that p has -/
def parP (s : Bool) (p : Int → Bool) (B : List Int) (m : Int) : Bool := B.foldl (fun x b => x != (p b && decide (b ≤ m))) s
def endP (s : Bool) (p : Int → Bool) (B : List Int) : Bool := B.foldl (fun x b => x != p b) s
theorem parP_filter (p : Int → Bool) (m : Int) : ∀ (B : List Int) (s : Bool), parP s p B m = par s (B.filter p) m
  | [], _ => rfl
  | b :: B, s => by
    show parP (s != (p b && decide (b ≤ m))) p B m = _
    rw [parP_filter p m B, List.filter_cons]
    cases h : p b with
    | true => rfl
    | false =>
      rw [Bool.false_and]
      have : (s != false) = s := by cases s <;> rfl
      rw [this]
      rfl
theorem parP_all {bs B : List Int} (h1 : Inc bs) (h2 : Inc B) (hs : ∀ b ∈ bs, b ∈ B) (s : Bool) (m : Int) : parP s (fun b => decide (b ∈ bs)) B m = par s bs m := by
  rw [parP_filter]
  congr 1
  refine inc_ext (h2.sublist List.filter_sublist) h1 fun x => ?_
  rw [List.mem_filter]
  constructor
  · intro h; exact of_decide_eq_true h.2
  · intro h; exact ⟨hs x h, decide_eq_true h⟩
theorem parP_high (p : Int → Bool) (m : Int) : ∀ (B : List Int) (s : Bool), (∀ b ∈ B, b ≤ m) → parP s p B m = endP s p B
  | [], _, _ => rfl
  | b :: B, s, h => by
    show parP (s != (p b && decide (b ≤ m))) p B m = endP (s != p b) p B
    rw [decide_eq_true (h b List.mem_cons_self), Bool.and_true]
    exact parP_high p m B _ fun c hc => h c (List.mem_cons_of_mem _ hc)
theorem parP_snoc (s : Bool) (p : Int → Bool) (B : List Int) (b m : Int) : parP s p (B ++ [b]) m = (parP s p B m != (p b && decide (b ≤ m))) := by
  unfold parP; rw [List.foldl_append]; rfl
theorem endP_snoc (s : Bool) (p : Int → Bool) (B : List Int) (b : Int) : endP s p (B ++ [b]) = (endP s p B != p b) := by
  unfold endP; rw [List.foldl_append]; rfl
/-- the sweep between two bounds -/
structure Sweep (fw : Bool → Bool → Bool) (s1 s2 : Bool) (p1 p2 : Int → Bool) (done : List Int) (start : Option Int) (acc : List Stt) : Prop where
  can : Can (acc ++ if fw (endP s1 p1 done) (endP s2 p2 done) then [(start, none)] else [])
  eq : ∀ m, inSpan m (acc ++ if fw (endP s1 p1 done) (endP s2 p2 done) then [(start, none)] else []) = fw (parP s1 p1 done m) (parP s2 p2 done m)
  low : ∀ b, (∀ d ∈ done, d < b) → (∀ s ∈ acc, ∃ e, s.2 = some e ∧ e < b) ∧ (∀ a, start = some a → a < b)
theorem inSpan_one (m : Int) (s : Stt) : inSpan m [s] = inS m s := by simp [inSpan]
theorem sweep_start (fw : Bool → Bool → Bool) (s1 s2 : Bool) (p1 p2 : Int → Bool) : Sweep fw s1 s2 p1 p2 [] none [] := by
  refine ⟨?_, fun m => ?_, fun b _ => ⟨(fun s h => nomatch h), (fun a h => nomatch h)⟩⟩
  · show Can ([] ++ if fw s1 s2 then [(none, none)] else [])
    cases fw s1 s2 with
    | false => exact ⟨(fun s h => nomatch h), List.Pairwise.nil⟩
    | true => exact ⟨(fun s h a b e1 e2 => by rw [List.mem_singleton.mp h] at e1; cases e1), List.pairwise_singleton _ _⟩
  · show inSpan m ([] ++ if fw s1 s2 then [(none, none)] else []) = fw s1 s2
    cases fw s1 s2 <;> rfl
theorem can_drop {l : List Stt} {s : Stt} (h : Can (l ++ [s])) : Can l := ⟨fun q hq => h.1 q (List.mem_append_left _ hq), (List.pairwise_append.mp h.2).1⟩
theorem can_snoc {l : List Stt} {s : Stt} (h : Can l) (o : okS s) (a : ∀ q ∈ l, Apart q s) : Can (l ++ [s]) :=
  ⟨fun q hq => (List.mem_append.mp hq).elim (h.1 q) fun z => by rw [List.mem_singleton.mp z]; exact o,
   List.pairwise_append.mpr ⟨h.2, List.pairwise_singleton _ _, fun q hq z hz => by rw [List.mem_singleton.mp hz]; exact a q hq⟩⟩
section
variable {fw : Bool → Bool → Bool} {s1 s2 : Bool} {p1 p2 : Int → Bool} {done : List Int} {start : Option Int} {acc : List Stt} {b : Int}
theorem sweep_after (h : ∀ d ∈ done, d < b) (m : Int) (hm : b ≤ m) : fw (parP s1 p1 (done ++ [b]) m) (parP s2 p2 (done ++ [b]) m) = fw (endP s1 p1 (done ++ [b])) (endP s2 p2 (done ++ [b])) := by
  have hl : ∀ d ∈ done ++ [b], d ≤ m := fun d hd => by
    rcases List.mem_append.mp hd with z | z
    · have := h d z; omega
    · have : d = b := by simpa using z
      omega
  rw [parP_high _ _ _ _ hl, parP_high _ _ _ _ hl]
theorem sweep_before (m : Int) (hm : m < b) : fw (parP s1 p1 (done ++ [b]) m) (parP s2 p2 (done ++ [b]) m) = fw (parP s1 p1 done m) (parP s2 p2 done m) := by
  have e : decide (b ≤ m) = false := decide_eq_false (by omega)
  have x : ∀ c : Bool, (c != false) = c := fun c => by cases c <;> rfl
  rw [parP_snoc, parP_snoc, e, Bool.and_false, Bool.and_false, x, x]
theorem acc_high (S : Sweep fw s1 s2 p1 p2 done start acc) (h : ∀ d ∈ done, d < b) (m : Int) (hm : b ≤ m) : inSpan m acc = false := by
  cases e : inSpan m acc with
  | false => rfl
  | true =>
    obtain ⟨s, hs, hi⟩ := inSpan_iff.mp e
    obtain ⟨x, e1, e2⟩ := (S.low b h).1 s hs
    have := (inS_iff.mp hi).2 x e1
    omega
theorem low_more (S : Sweep fw s1 s2 p1 p2 done start acc) (h : ∀ d ∈ done, d < b) : ∀ c, (∀ d ∈ done ++ [b], d < c) → (∀ s ∈ acc, ∃ e, s.2 = some e ∧ e < c) ∧ (∀ a, start = some a → a < c) := fun c hc =>
  S.low c fun d hd => hc d (List.mem_append_left _ hd)
/-- nothing turns -/
theorem sweep_same (S : Sweep fw s1 s2 p1 p2 done start acc) (h : ∀ d ∈ done, d < b) (e : fw (endP s1 p1 (done ++ [b])) (endP s2 p2 (done ++ [b])) = fw (endP s1 p1 done) (endP s2 p2 done)) : Sweep fw s1 s2 p1 p2 (done ++ [b]) start acc := by
  refine ⟨by rw [e]; exact S.can, fun m => ?_, low_more S h⟩
  by_cases hm : m < b
  · rw [sweep_before (fw := fw) (s1 := s1) (s2 := s2) (p1 := p1) (p2 := p2) (done := done) m hm, e]; exact S.eq m
  · have hl : ∀ d ∈ done, d ≤ m := fun d hd => by have := h d hd; omega
    rw [sweep_after (fw := fw) (s1 := s1) (s2 := s2) (p1 := p1) (p2 := p2) h m (by omega), e, S.eq m, parP_high _ _ _ _ hl, parP_high _ _ _ _ hl]
/-- one steps out -/
theorem sweep_out (S : Sweep fw s1 s2 p1 p2 done start acc) (h : ∀ d ∈ done, d < b) (i : fw (endP s1 p1 done) (endP s2 p2 done) = true) (o : fw (endP s1 p1 (done ++ [b])) (endP s2 p2 (done ++ [b])) = false) : Sweep fw s1 s2 p1 p2 (done ++ [b]) start (acc ++ [(start, some b)]) := by
  have c := S.can
  rw [i, if_pos rfl] at c
  have st := (S.low b h).2
  have oks : okS (start, some b) := fun x y e1 e2 => by
    have e2' : b = y := Option.some.inj e2
    have := st x e1
    omega
  refine ⟨?_, fun m => ?_, fun d hd => ⟨fun s hs => ?_, fun a ha => ?_⟩⟩
  · rw [o, if_neg Bool.false_ne_true, List.append_nil]
    refine can_snoc (can_drop c) oks fun q hq => ?_
    obtain ⟨x, y, e1, e2, e3⟩ := (List.pairwise_append.mp c.2).2.2 q hq (start, none) (by simp)
    exact ⟨x, y, e1, e2, e3⟩
  · rw [o, if_neg Bool.false_ne_true, List.append_nil, inSpan_append, inSpan_one]
    by_cases hm : m < b
    · have q := S.eq m
      rw [i, if_pos rfl, inSpan_append, inSpan_one] at q
      rw [sweep_before (fw := fw) (s1 := s1) (s2 := s2) (p1 := p1) (p2 := p2) (done := done) m hm, ← q]
      congr 1
      cases start <;> simp [inS, hm]
    · rw [sweep_after (fw := fw) (s1 := s1) (s2 := s2) (p1 := p1) (p2 := p2) h m (by omega), o, acc_high S h m (by omega), Bool.false_or]
      simp [inS, hm]
  · have hb : b < d := hd b (by simp)
    rcases List.mem_append.mp hs with z | z
    · exact (low_more S h d hd).1 s z
    · rw [List.mem_singleton.mp z]; exact ⟨b, rfl, hb⟩
  · exact (low_more S h d hd).2 a ha
/-- one steps in -/
theorem sweep_in (S : Sweep fw s1 s2 p1 p2 done start acc) (h : ∀ d ∈ done, d < b) (i : fw (endP s1 p1 done) (endP s2 p2 done) = false) (o : fw (endP s1 p1 (done ++ [b])) (endP s2 p2 (done ++ [b])) = true) : Sweep fw s1 s2 p1 p2 (done ++ [b]) (some b) acc := by
  have c := S.can
  rw [i, if_neg Bool.false_ne_true, List.append_nil] at c
  refine ⟨?_, fun m => ?_, fun d hd => ⟨(low_more S h d hd).1, fun a ha => ?_⟩⟩
  · rw [o, if_pos rfl]
    refine can_snoc c (fun x y _ e2 => nomatch e2) fun q hq => ?_
    obtain ⟨e, e1, e2⟩ := (S.low b h).1 q hq
    exact ⟨e, b, e1, rfl, e2⟩
  · rw [o, if_pos rfl, inSpan_append, inSpan_one]
    by_cases hm : m < b
    · have q := S.eq m
      rw [i, if_neg Bool.false_ne_true, List.append_nil] at q
      rw [sweep_before (fw := fw) (s1 := s1) (s2 := s2) (p1 := p1) (p2 := p2) (done := done) m hm, ← q]
      have : inS m (some b, none) = false := by simp [inS]; omega
      rw [this, Bool.or_false]
    · rw [sweep_after (fw := fw) (s1 := s1) (s2 := s2) (p1 := p1) (p2 := p2) h m (by omega), o]
      have : inS m (some b, none) = true := by simp [inS]; omega
      rw [this, Bool.or_true]
  · have ha' : b = a := Option.some.inj ha
    have := hd b (by simp)
    omega
end
/-- the sweep's end -/
theorem sweep_end {fw : Bool → Bool → Bool} {l r : List Stt} {B : List Int} {start : Option Int} {acc : List Stt} (hl : Can l) (hr : Can r) (hB : Inc B) (h1 : ∀ b ∈ bnds l, b ∈ B) (h2 : ∀ b ∈ bnds r, b ∈ B)
    (S : Sweep fw (fe l) (fe r) (fun b => decide (b ∈ bnds l)) (fun b => decide (b ∈ bnds r)) B start acc) (m : Int) :
    inSpan m (acc ++ if fw (endP (fe l) (fun b => decide (b ∈ bnds l)) B) (endP (fe r) (fun b => decide (b ∈ bnds r)) B) then [(start, none)] else []) = fw (inSpan m l) (inSpan m r) := by
  rw [S.eq m, parP_all (can_bnds hl) hB h1, parP_all (can_bnds hr) hB h2, in_par hl, in_par hr]
end Wr

set_option maxHeartbeats 4000000
namespace L2
open PySem PySem.Spec PyProof.Rows

/-! ### a def that keeps its promise, by its name -/
structure FnP (P : Program) (w : World) (K : PySem.W.Frag) (mg : Str → Option Value) (base : Heap) (k : Nat) (x : Str) (ps : List Str) (sp : Sp) : Prop where
  ex : ∃ (f : Addr) (fd : FuncData), FnOk P w K mg base CX0 k f fd ps sp ∧ mg x = some (.ref f) ∧ PySem.W.keepIn K (.ref f) = true ∧ Binds K fd ps []
section
variable {X : Cx} {k j : Nat} {x : Str} {ps : List Str} {sp : Sp} {p pos : Pos} {e : Expr} {es : List Expr} {t : TA}
theorem pe_fn (F : FnP X.prog X.w X.K X.mg X.base k x ps sp) (hr : Room j X.A) (ha : PA X (e :: es) t) (hj : k ≤ j := by decide) (hg : Gl X x := by rfl) (hdb : (x == ("__debug__" : Str)) = false := by decide)
    (he : starEach (e :: es) X.env = (false, eval e X.env) :: starEach es X.env := by rfl) (hpl : (backTo pos (starEach es X.env)).any (·.1) = false := by rfl) : PE X (.Call (.Name x p) (e :: es) [] pos) (tCall sp [] E0 t) := by
  obtain ⟨f, fd, F, hm, hk, hb⟩ := F.ex
  exact pe_call F (hr.mono hj) hg hm hk hb .nil pass0 ha hdb he hpl
/-- sorted(e, key=f), f by its promise -/
theorem pe_sortK {pn : Str} {fp kp : Pos} (F : FnP X.prog X.w X.K X.mg X.base k x [pn] sp) (hr : Room j X.A) (hms : X.mg "sorted" = none) (he : PA X [e] t) (hj : k + 2 ≤ j := by decide) (hgs : Gl X "sorted" := by rfl) (hg : Gl X x := by rfl)
    (hd : (x == ("__debug__" : Str)) = false := by decide) (hs : starEach [e] X.env = [(false, eval e X.env)] := by rfl) : PE X (.Call (.Name "sorted" p) [e] [⟨some "key", .Name x fp, kp⟩] pos) (tSortK X.K sp t) := by
  obtain ⟨f, fd, F, hm, hk, hb⟩ := F.ex
  exact pe_sortedK F (hr.mono hj) hgs hms hg hm hb he hd hs
/-- isinstance(x, T), T a built-in type -/
def rIsI (K : PySem.W.Frag) : List V → Hp → VK → Prop := fun xs H Q => ∃ y T t b, xs = [y, .ty T] ∧ TyOf K H y t ∧ PySem.W.kitOne K t (.type T) = some b ∧ Q (.bl b) H
theorem call_isI : CallR X (.builtin "isinstance") (rIsI X.K) := by
  intro pins s σ H xs us Q I r ⟨y, T, t, b, e, ty, ek, q⟩
  subst e
  obtain ⟨u, w', rfl, r1, r2⟩ := vals2 r
  cases r2
  exact isinst_ok I r1 ty ek fun tk => ⟨.bl b, H, I.tok tk, rfl, q⟩
theorem kit_same (K : PySem.W.Frag) (T : String) : PySem.W.kitOne K (.type T) (.type T) = some true := by
  unfold PySem.W.kitOne
  rw [if_pos (by simp)]
/-- xs.append(e) -/
theorem ps_app {o : Expr} {to : TE} {apos cpos spos : Pos} (ho : PE X o to) (ha : PA X [e] t) (hbase : attributeBase o "append" X.env (eval o X.env) = eval o X.env := by rfl)
    (hfew : ((backTo cpos (starEach [e] X.env)).all (fun x => !x.1) && (backToKw cpos (keywordEach [] X.env)).all (fun x => x.1.isSome)
      && decide ([e].length + ([] : List Keyword).length + (if ([] : List Keyword).isEmpty then 0 else 1) < 30)) = true := by rfl)
    (hline : (apos.endLine == cpos.line) = true := by rfl) (hs : starEach [e] X.env = (false, eval e X.env) :: starEach [] X.env := by rfl) (hplain : (backTo cpos (starEach [] X.env)).any (·.1) = false := by rfl)
    (hsw : swapsWith (.Call (.Attribute o "append" apos) [e] [] cpos) none spos.line X.env = pure false := by rfl) :
    PS X (.Expr (.Call (.Attribute o "append" apos) [e] [] cpos) spos) (tDrop (tBM X.K "list" rAppend to t)) :=
  ps_expr (pe_bm PySem.F.plainAttrs_list PySem.F.slot_list_append PySem.F.type_list_append mt_append ho ha hbase hfew hline hs hplain) hsw
end
/-! ### texts of numbers: what a span looks like -/
open Wr in
/-- a start, an end -/
def vO : Option Int → V
  | none => .non
  | some i => .int i
def dO : Option Int → PyData
  | none => .none
  | some i => .int i
def dS (s : Wr.Stt) : PyData := .tuple [dO s.1, dO s.2]
/-- the tuples of the stretches -/
def StAt (H : Hp) (v : V) (s : Wr.Stt) : Prop := ∃ t, v = .ref t ∧ H t = some (.tup [vO s.1, vO s.2])
abbrev StsAt (H : Hp) : List V → List Wr.Stt → Prop := Paired (StAt H)
def SpanAt (H : Hp) (a : Addr) (ss : List Wr.Stt) : Prop := ∃ xs, H a = some (.lst xs) ∧ StsAt H xs ss
section
variable {K : PySem.W.Frag} {H H' : Hp}
theorem StAt.same {v : V} {s : Wr.Stt} (e : Same H H') (h : StAt H v s) : StAt H' v s := by obtain ⟨t, h1, h2⟩ := h; exact ⟨t, h1, e _ _ h2⟩
theorem StsAt.same {xs : List V} {ss : List Wr.Stt} (e : Same H H') (h : StsAt H xs ss) : StsAt H' xs ss := Paired.mapP h fun _ _ q => q.same e
theorem SpanAt.same {a : Addr} {ss : List Wr.Stt} (e : Same H H') (h : SpanAt H a ss) : SpanAt H' a ss := by obtain ⟨xs, h1, h2⟩ := h; exact ⟨xs, e _ _ h1, h2.same e⟩
/-- a list is written: no tuple is touched -/
theorem StAt.wr {v : V} {s : Wr.Stt} {l : Addr} {o : HO} (hl : ∀ xs, H l ≠ some (.tup xs)) (h : StAt H v s) : StAt (upd H l o) v s := by
  obtain ⟨t, h1, h2⟩ := h
  exact ⟨t, h1, by rw [upd_ne (fun e => hl _ (e ▸ h2))]; exact h2⟩
theorem StsAt.wr {xs : List V} {ss : List Wr.Stt} {l : Addr} {o : HO} (hl : ∀ xs, H l ≠ some (.tup xs)) (h : StsAt H xs ss) : StsAt (upd H l o) xs ss := Paired.mapP h fun _ _ q => q.wr hl
theorem SpanAt.wr {a : Addr} {ss : List Wr.Stt} {l : Addr} {o : HO} (hl : ∀ xs, H l ≠ some (.tup xs)) (ne : a ≠ l) (h : SpanAt H a ss) : SpanAt (upd H l o) a ss := by
  obtain ⟨xs, h1, h2⟩ := h
  exact ⟨xs, by rw [upd_ne ne]; exact h1, h2.wr hl⟩
theorem no_tup {l : Addr} {xs : List V} (h : H l = some (.lst xs)) : ∀ ys, H l ≠ some (.tup ys) := fun ys e => by rw [h] at e; cases e
theorem no_tupN {l : Addr} (h : H l = none) : ∀ ys, H l ≠ some (.tup ys) := fun ys e => by rw [h] at e; cases e
theorem den_O (o : Option Int) : Den K H (vO o) (dO o) := by cases o with | none => exact .non | some i => exact .int i
theorem StAt.den {v : V} {s : Wr.Stt} (h : StAt H v s) : Den K H v (dS s) := by
  obtain ⟨t, rfl, h2⟩ := h
  exact .tup (SqT.of h2) (.cons (den_O _) (.cons (den_O _) .nil))
theorem StsAt.den : ∀ {xs : List V} {ss : List Wr.Stt}, StsAt H xs ss → DenAll K H xs (ss.map dS)
  | _, _, .nil => .nil
  | _, _, .cons r t => .cons r.den (StsAt.den t)
theorem SpanAt.den {a : Addr} {ss : List Wr.Stt} (h : SpanAt H a ss) : Den K H (.ref a) (.list (ss.map dS)) := by
  obtain ⟨xs, h1, h2⟩ := h
  exact .lst (SqL.of h1) h2.den
theorem paired_perm {α β : Type} {R : α → β → Prop} {xs ys : List α} (p : ys.Perm xs) : ∀ {ss : List β}, Paired R xs ss → ∃ ts, ts.Perm ss ∧ Paired R ys ts := by
  induction p with
  | nil => intro ss h; exact ⟨ss, List.Perm.refl _, h⟩
  | cons x _ ih =>
    intro ss h
    cases h with
    | cons r t =>
      obtain ⟨ts, p, q⟩ := ih t
      exact ⟨_ :: ts, p.cons _, .cons r q⟩
  | swap x y l =>
    intro ss h
    cases h with
    | cons r t =>
      cases t with
      | cons r' t' => exact ⟨_ :: _ :: _, List.Perm.swap _ _ _, .cons r' (.cons r t')⟩
  | trans _ _ ih1 ih2 =>
    intro ss h
    obtain ⟨ts, p, q⟩ := ih2 h
    obtain ⟨us, p', q'⟩ := ih1 q
    exact ⟨us, p'.trans p, q'⟩
theorem paired_at {α β : Type} {R : α → β → Prop} : ∀ {xs : List α} {ss : List β} {i : Nat} {x : α}, Paired R xs ss → xs[i]? = some x → ∃ s, ss[i]? = some s ∧ R x s
  | _, _, _, _, .nil, e => by simp at e
  | _, _, 0, _, .cons r _, e => by simp at e; subst e; exact ⟨_, rfl, r⟩
  | _, _, i + 1, x, .cons _ t, e => by
    obtain ⟨s, h1, h2⟩ := paired_at (i := i) (x := x) t (by simpa using e)
    exact ⟨s, by simpa using h1, h2⟩
theorem paired_mem {α β : Type} {R : α → β → Prop} : ∀ {xs : List α} {ss : List β} {x : α}, Paired R xs ss → x ∈ xs → ∃ s, s ∈ ss ∧ R x s
  | _, _, _, .nil, e => by cases e
  | _, _, x, .cons r t, e => by
    rcases List.mem_cons.mp e with z | z
    · subst z; exact ⟨_, List.mem_cons_self, r⟩
    · obtain ⟨s, h1, h2⟩ := paired_mem t z
      exact ⟨s, List.mem_cons_of_mem _ h1, h2⟩
theorem paired_split {α β : Type} {R : α → β → Prop} : ∀ {xs : List α} {init : List β} {p : β}, Paired R xs (init ++ [p]) → ∃ xi x, xs = xi ++ [x] ∧ Paired R xi init ∧ R x p
  | _, [], p, h => by
    cases h with
    | cons r t => cases t; exact ⟨[], _, rfl, .nil, r⟩
  | _, q :: init, p, h => by
    cases h with
    | cons r t =>
      obtain ⟨xi, x, e, h1, h2⟩ := paired_split t
      exact ⟨_ :: xi, x, by rw [e]; rfl, .cons r h1, h2⟩
end
theorem shaped_span (ss : List Wr.Stt) : SeqAt.shaped (.list (ss.map dS)) = true := by
  have h1 : ∀ o, (dO o).canLay0 = true ∧ (dO o).depth = 0 := fun o => by cases o <;> simp [dO, PyData.canLay0, PyData.depth]
  have all : ∀ ss : List Wr.Stt, PyData.canLayAll0 (ss.map dS) = true ∧ PyData.depthAll (ss.map dS) ≤ 1 := by
    intro ss
    induction ss with
    | nil => simp [PyData.canLayAll0, PyData.depthAll]
    | cons s ss ih =>
      have e1 := h1 s.1
      have e2 := h1 s.2
      rw [List.map_cons]
      simp only [PyData.canLayAll0, PyData.depthAll, dS, PyData.canLay0, PyData.depth, e1, e2, ih.1]
      refine ⟨by simp, ?_⟩
      have := ih.2
      omega
  unfold SeqAt.shaped
  have := all ss
  simp only [PyData.canLay0, PyData.depth, this.1, Bool.true_and]
  exact decide_eq_true (by omega)
theorem eqv_span : ∀ (l m : List Wr.Stt), PyData.eqv (.list (l.map dS)) (.list (m.map dS)) = decide (l = m) := by
  have ho : ∀ a b : Option Int, PyData.eqv (dO a) (dO b) = decide (a = b) := fun a b => by
    cases a <;> cases b <;> simp [dO, PyData.eqv]
    rename_i x y
    by_cases h : x = y <;> simp [h]
  have all : ∀ (l m : List Wr.Stt), PyData.eqvAll (l.map dS) (m.map dS) = decide (l = m) := by
    intro l
    induction l with
    | nil => intro m; cases m <;> simp [PyData.eqvAll]
    | cons s l ih =>
      intro m
      cases m with
      | nil => simp [PyData.eqvAll]
      | cons q m =>
        obtain ⟨a, b⟩ := s
        obtain ⟨c, d⟩ := q
        simp only [List.map_cons, PyData.eqvAll, dS, PyData.eqv, ho, ih, Bool.and_true]
        by_cases h1 : a = c <;> by_cases h2 : b = d <;> by_cases h3 : l = m <;> simp [h1, h2, h3]
  intro l m
  rw [PyData.eqv]
  exact all l m
end L2

set_option maxHeartbeats 4000000
namespace L2
open PySem PySem.Spec PyProof.Rows
/-! ### the judgements as closed things: Lean does not look into them while a term of rules is read -/
inductive Pln : Expr → Prop
  | name (x p) : Pln (.Name x p)
  | const (c j p) : Pln (.Constant c j p)
  | bin (a o b p) : Pln (.BinOp a o b p)
  | un (o a p) : Pln (.UnaryOp o a p)
  | bool (o l p) : Pln (.BoolOp o l p)
  | cmp (a o l p) : Pln (.Compare a o l p)
  | call (f a k p) : Pln (.Call f a k p)
  | sub (a b p) : Pln (.Subscript a b p)
  | attr (a b p) : Pln (.Attribute a b p)
  | tup (l k p) : Pln (.Tuple l k p)
  | lst (l p) : Pln (.List l p)
  | ife (c a b p) : Pln (.IfExp c a b p)
theorem Pln.star {e : Expr} (h : Pln e) (es : List Expr) (env : Env) : starEach (e :: es) env = (false, eval e env) :: starEach es env := by cases h <;> rfl
theorem Pln.swap {e : Expr} (h : Pln e) (t : Option Expr) (l : Nat) (env : Env) : swapsWith e t l env = pure false := by cases h <;> rfl
theorem Pln.fold {e : Expr} (h : Pln e) (env : Env) (x : Value) : foldedSetIterable e env x = pure x := by cases h <;> rfl
/-- no star: a comprehension among them -/
inductive Nst : Expr → Prop
  | pln {e : Expr} (h : Pln e) : Nst e
  | comp (e g s p) : Nst (.ListComp e g s p)
  | lam (a b s p) : Nst (.Lambda a b s p)
theorem Nst.star {e : Expr} (h : Nst e) (es : List Expr) (env : Env) : starEach (e :: es) env = (false, eval e env) :: starEach es env := by
  cases h with
  | pln h => exact h.star es env
  | comp => rfl
  | lam => rfl
inductive Tru : Expr → Prop
  | name (x p) : Tru (.Name x p)
  | call (f a k p) : Tru (.Call f a k p)
  | sub (a b p) : Tru (.Subscript a b p)
  | attr (a b p) : Tru (.Attribute a b p)
theorem Tru.tru {e : Expr} (h : Tru e) (env : Env) (whole : Sem Value) : isTrue e env whole = (do let v ← whole; standAt e.pos; holding [v] (truthy v)) := by cases h <;> rfl
inductive Nsts : List Expr → Prop
  | nil : Nsts []
  | cons {e : Expr} {es : List Expr} (h : Nst e) (t : Nsts es) : Nsts (e :: es)
theorem Nsts.star {es : List Expr} (h : Nsts es) (env : Env) : starEach es env = es.map fun e => (false, eval e env) := by
  induction h with
  | nil => rfl
  | cons h t ih => rw [h.star, ih]; rfl
theorem Nsts.no {es : List Expr} (h : Nsts es) (env : Env) (pos : Pos) : (backTo pos (starEach es env)).any (·.1) = false := by
  rw [h.star]
  unfold backTo
  rw [List.map_map, List.any_map]
  simp
structure JE (X : Cx) (e : Expr) (t : TE) : Prop where
  h : PE X e t
structure JT (X : Cx) (e : Expr) (t : TT) : Prop where
  h : PT X e t
structure JW (X : Cx) (e : Expr) (t : TT) : Prop where
  h : PW X e t
structure JA (X : Cx) (es : List Expr) (t : TA) : Prop where
  h : PA X es t
  pl : Nsts es
structure JS (X : Cx) (s : Stmt) (t : TS) : Prop where
  h : PS X s t
structure JB (X : Cx) (s : List Stmt) (t : TS) : Prop where
  h : PSs X s t
structure JG (X : Cx) (e : Expr) (t : TG) : Prop where
  h : PG X e t
structure JGs (X : Cx) (e : List Expr) (t : TGs) : Prop where
  h : PGs X e t
structure JI (X : Cx) (tg e : Expr) (t : TI) : Prop where
  h : PI X tg e t
structure JOp (X : Cx) (f : Value → Value → Sem Value) (r : R2) : Prop where
  h : OpR X f r
structure JUn (X : Cx) (f : Value → Sem Value) (r : V → Hp → VK → Prop) : Prop where
  h : UnR X f r
structure JC (X : Cx) (f : Value) (r : List V → Hp → VK → Prop) : Prop where
  h : CallR X f r
structure JIx (X : Cx) (r : R2) : Prop where
  h : IxR X r
structure JSet (X : Cx) (t : TSet) : Prop where
  h : PSet X t
section
variable {X : Cx} {k j : Nat} {x : Str} {ps : List Str} {sp : Sp} {p pos : Pos} {a b c e : Expr} {es rest : List Expr} {ta tb te : TE} {tA tB' : TT} {t : TA}
/-! operations -/
theorem o_add : JOp X (binaryOp .Add) (rI0 fun i j => .int (i + j)) := ⟨op_add⟩
theorem o_sub : JOp X (binaryOp .Sub) (rI0 fun i j => .int (i - j)) := ⟨op_sub⟩
theorem o_mul : JOp X (binaryOp .Mult) (rI CMul fun i j => .int (i * j)) := ⟨op_mul⟩
theorem o_mod : JOp X (binaryOp .Mod) (rI (fun _ j => 0 < j) fun i j => .int (i % j)) := ⟨op_mod⟩
theorem o_fdiv : JOp X (binaryOp .FloorDiv) (rI CDiv fun i j => .int (i / j)) := ⟨op_fdiv⟩
theorem o_pow : JOp X (binaryOp .Pow) (rI CPow fun i j => .int (i ^ j.toNat)) := ⟨op_pow⟩
theorem o_shr : JOp X (binaryOp .RShift) (rI (fun _ j => 0 ≤ j) fun i j => .int (i / 2 ^ j.toNat)) := ⟨op_shr⟩
theorem o_eq : JOp X (compareOp .Eq) rEq := ⟨op_eq⟩
theorem o_ne : JOp X (compareOp .NotEq) rNe := ⟨op_ne⟩
theorem o_lt : JOp X (compareOp .Lt) (rI0 fun i j => .bl (decide (i < j))) := ⟨op_lt⟩
theorem o_le : JOp X (compareOp .LtE) (rI0 fun i j => .bl (decide (i ≤ j))) := ⟨op_le⟩
theorem o_gt : JOp X (compareOp .Gt) (rI0 fun i j => .bl (decide (j < i))) := ⟨op_gt⟩
theorem o_ge : JOp X (compareOp .GtE) (rI0 fun i j => .bl (decide (j ≤ i))) := ⟨op_ge⟩
theorem o_eqD (hr : Room k X.A) : JOp X (compareOp .Eq) (rEqD X.K) := ⟨op_eqD hr.units⟩
theorem o_neD (hr : Room k X.A) : JOp X (compareOp .NotEq) (rNeD X.K) := ⟨op_neD hr.units⟩
theorem o_neg : JUn X (unaryOp .USub) (rU fun i => .int (-i)) := ⟨un_neg⟩
theorem x_list : JIx X (rIxL X.K) := ⟨ix_list⟩
theorem x_tup : JIx X (rIxT X.K) := ⟨ix_tup⟩
theorem c_len : JC X (.builtin "len") (fun xs H Q => ∃ p ys, xs = [.ref p] ∧ (SqL X.K H p ys ∨ SqT X.K H p ys) ∧ Q (.int ys.length) H) := ⟨call_len_seq⟩
theorem c_any (hc : X.calm = true := by rfl) : JC X (.builtin "any") (rAnyL X.K) := ⟨call_any_list hc⟩
theorem c_sum (hc : X.calm = true := by rfl) : JC X (.builtin "sum") (rSumL X.K) := ⟨call_sum_list hc⟩
theorem c_isI : JC X (.builtin "isinstance") (rIsI X.K) := ⟨call_isI⟩
theorem c_max (hc : X.calm = true := by rfl) : JC X (.builtin "max") (fun xs H Q => ∃ i j, xs = [.int i, .int j] ∧ Q (.int (if j > i then j else i)) H) := ⟨call_max2 hc⟩
theorem c_min (hc : X.calm = true := by rfl) : JC X (.builtin "min") (fun xs H Q => ∃ i j, xs = [.int i, .int j] ∧ Q (.int (if j < i then j else i)) H) := ⟨call_min2 hc⟩
theorem c_list : JC X (.type "list") (fun xs H Q => ∃ p ys, xs = [.ref p] ∧ (SqL X.K H p ys ∨ SqT X.K H p ys) ∧ ∀ l, H l = none → Q (.ref l) (upd H l (.lst ys))) := ⟨call_list_of⟩
theorem w_list : JSet X rSetL := ⟨set_list⟩
/-! expressions -/
theorem e_v (i : Nat) (hN : X.N[i]? = some x := by rfl) (hv : Vis X.env.scope x := by first | exact Or.inl rfl | exact Or.inr (Or.inl rfl) | exact Or.inr (Or.inr rfl)) (hd : (x == ("__debug__" : Str)) = false := by decide +kernel)
    (hcd : (x == ("__classdict__" : Str)) = false := by decide +kernel) : JE X (.Name x pos) (tVar i) := ⟨pe_var hN hv hd hcd⟩
theorem e_i {i j pos} : JE X (.Constant (.int i) j pos) (tC (.int i)) := ⟨pe_int⟩
theorem e_b {b j pos} : JE X (.Constant (.bool b) j pos) (tC (.bl b)) := ⟨pe_bl⟩
theorem e_n {j pos} : JE X (.Constant .none j pos) (tC .non) := ⟨pe_non⟩
theorem e_s {x j pos} : JE X (.Constant (.str x) j pos) (tC (.str x)) := ⟨pe_str⟩
theorem e_op {op : Operator} {r : R2} (ho : JOp X (binaryOp op) r) (ha : JE X a ta) (hb : JE X b tb) : JE X (.BinOp a op b pos) (tOp r ta tb) := ⟨pe_op ho.h ha.h hb.h⟩
theorem e_un {op : UnaryOp} {r : V → Hp → VK → Prop} (ho : JUn X (unaryOp op) r) (ha : JE X a ta) : JE X (.UnaryOp op a pos) (tUn r ta) := ⟨pe_un ho.h ha.h⟩
theorem e_cmp {op : CmpOp} {r : R2} (ho : JOp X (compareOp op) r) (ha : JE X a ta) (hb : JE X b tb) (h1 : op ≠ .In := by decide) (h2 : op ≠ .NotIn := by decide) : JE X (.Compare a [op] [b] pos) (tOp r ta tb) := ⟨pe_cmpR ho.h ha.h hb.h (nomark b h1 h2)⟩
theorem e_isN {j pos'} (ha : JE X a ta) : JE X (.Compare a [.Is] [.Constant .none j pos'] pos) (tIsN ta) := ⟨pe_cmp (pc_isN ha.h) (nobehind _ (by decide) (by decide))⟩
theorem e_notN {j pos'} (ha : JE X a ta) : JE X (.Compare a [.IsNot] [.Constant .none j pos'] pos) (tNotN ta) := ⟨pe_cmp (pc_notN ha.h) (nobehind _ (by decide) (by decide))⟩
theorem e_one {op} (h : JE X a ta) : JE X (.BoolOp op [a] pos) ta := ⟨pe_one h.h⟩
theorem e_and (ha : JE X a ta) (hb : JE X (.BoolOp .And (b :: rest) pos) tb) : JE X (.BoolOp .And (a :: b :: rest) pos) (tAndV ta tb) := ⟨pe_and ha.h hb.h⟩
theorem e_or (ha : JE X a ta) (hb : JE X (.BoolOp .Or (b :: rest) pos) tb) : JE X (.BoolOp .Or (a :: b :: rest) pos) (tOrV ta tb) := ⟨pe_or ha.h hb.h⟩
theorem e_not (ha : JE X a ta) : JE X (.UnaryOp .Not a pos) (tNotV ta) := ⟨pe_not ha.h⟩
theorem e_ife (hc : JT X c tA) (ha : JE X a ta) (hb : JE X b tb) : JE X (.IfExp c a b pos) (tIf tA ta tb) := ⟨pe_ifExp hc.h ha.h hb.h⟩
theorem e_ix {r : R2} (hr : JIx X r) (ha : JE X a ta) (hb : JE X b tb) (hp : Pln b := by constructor) : JE X (.Subscript a b pos) (tOp r ta tb) := ⟨pe_ix hr.h ha.h hb.h (by cases hp <;> exact fun _ _ => rfl)⟩
theorem e_upto {p2 : Pos} (ha : JE X a ta) (hb : JE X b tb) : JE X (.Subscript a (.Slice none (some b) none p2) pos) (tSl (rSlL X.K) ta tNoPart (tPart tb)) := ⟨pe_slice sl_list ha.h po_none (po_some hb.h)⟩
theorem e_rev {p2 p3 p4 : Pos} {j} (ha : JE X a ta) : JE X (.Subscript a (.Slice none none (some (.UnaryOp .USub (.Constant (.int 1) j p3) p4)) p2) pos) (tRev X.K ta) := ⟨pe_rev ha.h⟩
theorem a0 : JA X [] tNil := ⟨pa_nil, .nil⟩
theorem ac (ha : JE X e te) (hr : JA X es t) (hp : Pln e := by constructor) : JA X (e :: es) (tCons te t) := ⟨pa_cons ha.h hr.h (hp.star _ _), .cons (.pln hp) hr.pl⟩
theorem a1 (ha : JE X e te) (hp : Pln e := by constructor) : JA X [e] (tCons te tNil) := ac ha a0 hp
theorem a1c {elt : Expr} {gs : List Comprehension} {sc : Scope} (ha : JE X (.ListComp elt gs sc p) te) : JA X [.ListComp elt gs sc p] (tCons te tNil) := ⟨pa_cons ha.h pa_nil (Nst.star (.comp ..) _ _), .cons (.comp ..) .nil⟩
theorem JA.hd (h : JA X (e :: es) t) : Nst e := by cases h.pl with | cons a _ => exact a
theorem JA.rs (h : JA X (e :: es) t) : Nsts es := by cases h.pl with | cons _ a => exact a
theorem e_fn (F : FnP X.prog X.w X.K X.mg X.base k x ps sp) (hr : Room j X.A) (ha : JA X (e :: es) t) (hj : k ≤ j := by decide) (hg : Gl X x := by rfl) (hdb : (x == ("__debug__" : Str)) = false := by decide +kernel) : JE X (.Call (.Name x p) (e :: es) [] pos) (tCall sp [] E0 t) :=
  ⟨pe_fn F hr ha.h hj hg hdb (ha.hd.star _ _) (ha.rs.no _ _)⟩
theorem e_cb {id : String} {r : List V → Hp → VK → Prop} (hc : JC X (.builtin id) r) (hm : X.mg x = none) (hv : bootBuiltins x = some (.builtin id)) (ha : JA X (e :: es) t) (hg : Gl X x := by rfl) (hn : x ≠ "__name__" := by decide +kernel) (hdb : (x == ("__debug__" : Str)) = false := by decide +kernel) :
    JE X (.Call (.Name x p) (e :: es) [] pos) (tCB r t) := ⟨pe_callB hc.h hg hm hv ha.h hn hdb (ha.hd.star _ _) (ha.rs.no _ _)⟩
theorem e_ct {T : String} {r : List V → Hp → VK → Prop} (hc : JC X (.type T) r) (hm : X.mg x = none) (hv : bootBuiltins x = some (.type T)) (ha : JA X (e :: es) t) (hg : Gl X x := by rfl) (hn : x ≠ "__name__" := by decide +kernel) (hdb : (x == ("__debug__" : Str)) = false := by decide +kernel) :
    JE X (.Call (.Name x p) (e :: es) [] pos) (tCB r t) := ⟨pe_callTy hc.h hg hm hv ha.h hn hdb (ha.hd.star _ _) (ha.rs.no _ _)⟩
theorem e_ty {T : String} (hm : X.mg x = none) (hv : bootBuiltins x = some (.type T)) (hg : Gl X x := by rfl) (hn : x ≠ "__name__" := by decide +kernel) (hd : (x == ("__debug__" : Str)) = false := by decide +kernel) : JE X (.Name x pos) (tC (.ty T)) := ⟨pe_bltn hg hm hv rfl hn hd⟩
theorem e_tup {x1} (h : JA X es t) : JE X (.Tuple es x1 pos) (tTup t) := ⟨pe_tup h.h⟩
theorem e_lst (h : JA X es t) : JE X (.List es pos) (tLst t) := ⟨pe_lst h.h⟩
theorem e_sortK {pn : Str} {fp kp : Pos} (F : FnP X.prog X.w X.K X.mg X.base k x [pn] sp) (hr : Room j X.A) (hms : X.mg "sorted" = none) (he : JA X [e] t) (hj : k + 2 ≤ j := by decide) (hgs : Gl X "sorted" := by rfl) (hg : Gl X x := by rfl)
    (hd : (x == ("__debug__" : Str)) = false := by decide +kernel) : JE X (.Call (.Name "sorted" p) [e] [⟨some "key", .Name x fp, kp⟩] pos) (tSortK X.K sp t) := ⟨pe_sortK F hr hms he.h hj hgs hg hd (he.hd.star _ _)⟩
/-- the block of a comprehension, wherever it is laid -/
def JIn (X : Cx) (scope : Scope) (cl : List (Str × Addr)) (Nc : List Str) (target elt : Expr) (ifs : List Expr) (g : TG) (tt : TT) (te : TE) : Prop :=
  ∀ (pins : List (Addr × Obj)) (C : Addr) (s3 : Shared) (H3 : Hp) (fp : List Addr), JG (compCx X pins scope cl C Nc s3 H3 fp) target g ∧ ((ifs = [] ∧ tt = tYes) ∨ ∃ c, ifs = [c] ∧ JT (compCx X pins scope cl C Nc s3 H3 fp) c tt) ∧ JE (compCx X pins scope cl C Nc s3 H3 fp) elt te
variable {scope : Scope} {cl : List (Str × Addr)} {Nc : List Str} {js : List (Option Nat)} {target elt iter : Expr} {ifs : List Expr} {wi : TI} {g : TG} {tt : TT}
theorem JIn.inner (B : JIn X scope cl Nc target elt ifs g tt te) : Inner X scope cl Nc target elt ifs g tt te := fun pins C s3 H3 fp => by
  obtain ⟨h1, h2, h3⟩ := B pins C s3 H3 fp
  refine ⟨h1.h, ?_, h3.h⟩
  rcases h2 with ⟨rfl, rfl⟩ | ⟨c, rfl, h2⟩
  · exact pif_nil
  · exact pif_one h2.h
theorem e_comp (S : CompScope X scope cl Nc js) (hi : JI X target iter wi) (B : JIn X scope cl Nc target elt ifs g tt te) (hc : X.calm = true := by rfl) (hs : Pln iter := by constructor) : JE X (.ListComp elt [⟨target, iter, ifs, 0⟩] scope pos) (tComp js wi g tt te) :=
  ⟨pe_comp hc S hi.h B.inner (hs.fold _)⟩
/-! tests -/
theorem t_cmp {op : CmpOp} {r : R2} (ho : JOp X (compareOp op) r) (ha : JE X a ta) (hb : JE X b tb) (h1 : op ≠ .In := by decide) (h2 : op ≠ .NotIn := by decide) : JT X (.Compare a [op] [b] pos) (tTest (tOp r ta tb)) := ⟨pt_cmpR ho.h ha.h hb.h (nomark b h1 h2)⟩
theorem t_isN {j pos'} (ha : JE X a ta) : JT X (.Compare a [.Is] [.Constant .none j pos'] pos) (tB (tIsN ta)) := ⟨pt_cmp (pc_isN ha.h) (nobehind _ (by decide) (by decide))⟩
theorem t_notN {j pos'} (ha : JE X a ta) : JT X (.Compare a [.IsNot] [.Constant .none j pos'] pos) (tB (tNotN ta)) := ⟨pt_cmp (pc_notN ha.h) (nobehind _ (by decide) (by decide))⟩
theorem t_val (h : JE X e te) (hp : Tru e := by constructor) : JT X e (tB te) := ⟨pt_val h.h (hp.tru _)⟩
def tTru (K : PySem.W.Frag) (te : TE) : TT := fun σ H Q => te σ H fun x H' => ∃ k, TruV K x H' k ∧ Q k H'
theorem t_tru (h : JE X e te) (hp : Tru e := by constructor) : JT X e (tTru X.K te) := ⟨pt_truth h.h (hp.tru _)⟩
theorem t_not (ha : JT X a tA) : JT X (.UnaryOp .Not a pos) (tNot tA) := ⟨pt_not ha.h⟩
theorem w_and1 (ha : JT X a tA) : JW X (.BoolOp .And [a] pos) tA := ⟨pw_and1 ha.h⟩
theorem w_or1 (ha : JT X a tA) : JW X (.BoolOp .Or [a] pos) tA := ⟨pw_or1 ha.h⟩
theorem w_and (ha : JT X a tA) (hb : JW X (.BoolOp .And (b :: rest) pos) tB') : JW X (.BoolOp .And (a :: b :: rest) pos) (tAnd tA tB') := ⟨pw_and ha.h hb.h⟩
theorem w_or (ha : JT X a tA) (hb : JW X (.BoolOp .Or (b :: rest) pos) tB') : JW X (.BoolOp .Or (a :: b :: rest) pos) (tOr tA tB') := ⟨pw_or ha.h hb.h⟩
theorem JW.jt (h : JW X e tA) : JT X e tA := ⟨PW.pt h.h⟩
/-! targets, walks -/
theorem g_n (i : Nat) (hN : X.N.Nodup) (hi : X.N[i]? = some x := by rfl) (hx : Loc X.env.scope x := by first | exact Or.inl rfl | exact Or.inr rfl) (hf : X.fn x = true ∨ X.env.scope.names.lookup x = some .local := by first | exact .inl rfl | exact .inr rfl) : JG X (.Name x pos) (gName i) := ⟨pg_name hN hi hx hf⟩
theorem g_tup {k n : Nat} {u : TGs} (h : JGs X es u) (hc : X.calm = true := by rfl) (hn : (assignEach es X.env).length = n := by rfl) (hst : (assignEach es X.env).findIdx? (·.1) = none := by rfl) : JG X (.Tuple es k pos) (gTup X.K n u) := ⟨pg_tup hc h.h hn hst⟩
theorem gs_nil : JGs X [] gNil := ⟨pgs_nil⟩
theorem gs_cons {u : TG} {us : TGs} (h1 : JG X e u) (h2 : JGs X es us) (hs : (assignEach (e :: es) X.env).map (·.2) = assign e X.env :: (assignEach es X.env).map (·.2) := by rfl) : JGs X (e :: es) (gCons u us) := ⟨pgs_cons h1.h h2.h hs⟩
theorem g_sub {ts : TSet} (ho : JE X a ta) (hi : JE X b tb) (hs : JSet X ts) (hp : Pln b := by constructor) : JG X (.Subscript a b pos) (gSub ta tb ts) := ⟨pg_sub ho.h hi.h hs.h (by cases hp <;> exact fun _ => rfl)⟩
theorem i_list (h : JE X e te) : JI X target e (iList X.K te) := ⟨pi_list h.h⟩
theorem i_tup (h : JE X e te) : JI X target e (iTup X.K te) := ⟨pi_tup h.h⟩
theorem i_rng1 (hm : X.mg "range" = none) (ha : JA X [e] t) (hg : Gl X "range" := by rfl) : JI X target (.Call (.Name "range" p) [e] [] pos) (iRng1 t) := ⟨pi_range1 hg hm ha.h (ha.hd.star _ _)⟩
theorem i_rng2 {e2 : Expr} (hm : X.mg "range" = none) (ha : JA X [e, e2] t) (hg : Gl X "range" := by rfl) : JI X target (.Call (.Name "range" p) [e, e2] [] pos) (iRng2 t) :=
  have h2 : Nst e2 := by cases ha.rs with | cons a _ => exact a
  ⟨pi_range2 hg hm ha.h (by rw [ha.hd.star, h2.star]; rfl) (h2.star _ _)⟩
/-! statements -/
variable {s1 : Stmt} {ss body orelse : List Stmt} {u u' : TS}
theorem b_nil : JB X [] tNext := ⟨pss_nil⟩
theorem b_one (h : JS X s1 u) : JB X [s1] u := ⟨pss_one h.h⟩
theorem b_cons (h : JS X s1 u) (h2 : JB X ss u') : JB X (s1 :: ss) (tSeq u u') := ⟨pss_cons h.h h2.h⟩
theorem s_set (i : Nat) {pos' : Pos} (hN : X.N.Nodup) (he : JE X e te) (hp : Pln e := by constructor) (hi : X.N[i]? = some x := by rfl) (hx : Loc X.env.scope x := by first | exact Or.inl rfl | exact Or.inr rfl)
    (hf : X.fn x = true ∨ X.env.scope.names.lookup x = some .local := by first | exact .inl rfl | exact .inr rfl) : JS X (.Assign [.Name x pos'] e pos) (tAsg te (gName i)) := ⟨ps_set hN hi hx he.h (hp.swap _ _ _) hf⟩
theorem s_asg {tg : Expr} (he : JE X e te) (hg : JG X tg g) (hp : Pln e := by constructor) (hw : swappedStores [tg] e X.env = pure none := by rfl) (h1 : (assignEach [tg] X.env).map (·.2) = [assign tg X.env] := by rfl) : JS X (.Assign [tg] e pos) (tAsg te g) :=
  ⟨ps_asg he.h hg.h (hp.swap _ _ _) hw h1⟩
theorem s_setc (i : Nat) {pos' spos : Pos} (hN : X.N.Nodup) (S : CompScope X scope cl Nc js) (hi : JI X target iter wi) (B : JIn X scope cl Nc target elt ifs g tt te)
    (hsw : swapsWith (.ListComp elt [⟨target, iter, ifs, 0⟩] scope pos) (some (.Name x pos')) spos.line X.env = pure true := by rfl) (hix : X.N[i]? = some x := by rfl) (hx : Loc X.env.scope x := by first | exact Or.inl rfl | exact Or.inr rfl) (hc : X.calm = true := by rfl) (hs : Pln iter := by constructor)
    (hf : X.fn x = true ∨ X.env.scope.names.lookup x = some .local := by first | exact .inl rfl | exact .inr rfl) :
    JS X (.Assign [.Name x pos'] (.ListComp elt [⟨target, iter, ifs, 0⟩] scope pos) spos) (tAsg (tComp js wi g tt te) (gName i)) := ⟨ps_setComp hN hix hx hc S hi.h B.inner (hs.fold _) hsw hf⟩
theorem s_if (hc : JT X c tA) (ha : JB X body u) (hb : JB X orelse u') : JS X (.If c body orelse pos) (tIfS tA u u') := ⟨ps_if hc.h ha.h hb.h⟩
theorem s_ret (he : JE X e te) : JS X (.Return (some e) pos) (tRet te) := ⟨ps_ret he.h⟩
theorem s_retN : JS X (.Return none pos) tRetN := ⟨ps_retN⟩
theorem s_expr (he : JE X e te) (hp : Pln e := by constructor) : JS X (.Expr e pos) (tDrop te) := ⟨ps_expr he.h (hp.swap _ _ _)⟩
theorem s_app {o : Expr} {to : TE} {apos cpos spos : Pos} (ho : JE X o to) (ha : JE X e te) (hp : Pln e := by constructor) (hbase : attributeBase o "append" X.env (eval o X.env) = eval o X.env := by rfl) (hline : (apos.endLine == cpos.line) = true := by rfl) :
    JS X (.Expr (.Call (.Attribute o "append" apos) [e] [] cpos) spos) (tDrop (tBM X.K "list" rAppend to (tCons te tNil))) :=
  ⟨ps_app ho.h (a1 ha hp).h hbase (by rw [hp.star]; rfl) hline (hp.star _ _) rfl (Pln.swap (.call ..) _ _ _)⟩
theorem s_for {tg : Expr} (hi : JI X tg iter wi) (hg : JG X tg g) (hb : JB X body u) (hp : PassesOwn (model X.prog X.w) X.A X.env X.xe := by exact PassesOwn.never) (hc : X.calm = true := by rfl) (hs : Pln iter := by constructor) : JS X (.For tg iter body [] pos) (tFor wi g u) := ⟨ps_for hp hc hi.h hg.h hb.h (hs.fold _)⟩
theorem s_while (hc : JT X c tA) (hb : JB X body u) (hp : PassesOwn (model X.prog X.w) X.A X.env X.xe := by exact PassesOwn.never) : JS X (.While c body [] pos) (tWhile tA u) := ⟨ps_while hp hc.h hb.h⟩
end
section
variable {P : Program} {w : World} {K : PySem.W.Frag} {mg : Str → Option Value} {base : Heap}
/-- the rule for a def, by a closed judgement -/
theorem Fun.okJ {x qual : Str} {st : Stmt} {f : Addr} {fd : FuncData} {N ps : List Str} {k : Nat} {sp : Sp} (F : Fun K x qual st f fd) (S : FnScope N ps (defScope st)) (len : ∀ vs H Q E, sp vs H Q E → vs.length = ps.length)
    (hbody : ∀ (cdv : Value) (A : Around) (outer : List Env) (s : Shared) (H : Hp) (vs : List V) (Q : VK) (E : XK), Room k (A.deeper (envOfC qual (defScope st) s.heap.objs.size f cdv)) → sp vs H Q E →
      ∃ t, JB (cxOf CX0 P w K mg base N qual (defScope st) f cdv A outer s H E).nox (defBody st) t ∧ t { nx := fun _ H' => Q .non H', rt := Q } (start N vs) H) : FnOk P w K mg base CX0 (k + 1) f fd ps sp :=
  F.ok S len fun cdv A outer s H vs Q E hr h => let ⟨t, h1, h2⟩ := hbody cdv A outer s H vs Q E hr h; ⟨t, h1.h, h2⟩
end
end L2

set_option maxHeartbeats 4000000
namespace L2
open PySem PySem.Spec PyProof.Rows
/-! ### small helpers of reading -/
theorem pz {n : Int} (h : 0 < n := by decide) : 0 < n := h
theorem pn {n : Int} (h : 0 ≤ n := by decide) : 0 ≤ n := h
theorem iteSS {x : Str} {A B : Prop} (h : A) : if decide (V.str x = V.str x) = true then A else B := by rw [if_pos (by simp)]; exact h
theorem iteSF {x y : Str} {A B : Prop} (ne : x ≠ y) (h : B) : if decide (V.str x = V.str y) = true then A else B := by rw [if_neg (by simp [ne])]; exact h
theorem atI_menu {ns : List Int} {i : Int} (h0 : 0 ≤ i) (h1 : i < ns.length) : ∃ n, n ∈ ns ∧ atI (ns.map V.int) i = some (.int n) := by
  obtain ⟨j, rfl⟩ : ∃ j : Nat, i = (j : Int) := ⟨i.toNat, by omega⟩
  have hl : j < ns.length := by omega
  exact ⟨ns[j], List.getElem_mem hl, atI_nat (by simp [hl])⟩
/-- the names of Python's own are nobody else's -/
structure Blts (mg : Str → Option Value) : Prop where
  sorted : mg "sorted" = none
  max : mg "max" = none
  min : mg "min" = none
  any : mg "any" = none
  all : mg "all" = none
  sum : mg "sum" = none
  len : mg "len" = none
  range : mg "range" = none
  isinstance : mg "isinstance" = none
  list : mg "list" = none
  tuple : mg "tuple" = none
  int : mg "int" = none
  bool : mg "bool" = none
  str : mg "str" = none
  dict : mg "dict" = none
  set : mg "set" = none
  zip : mg "zip" = none
  enumerate : mg "enumerate" = none
  reversed : mg "reversed" = none
theorem dI (a b : Int) : decide (V.int a = V.int b) = decide (a = b) := by
  by_cases h : a = b <;> simp [h]
theorem dB (a b : Bool) : decide (V.bl a = V.bl b) = decide (a = b) := by
  by_cases h : a = b <;> simp [h]
theorem row_getD {r : List Int} {i : Nat} (h : i < r.length) : r[i] = r.getD i 0 := by simp [h]
/-- a promise that nothing keeps to: any def keeps it -/
theorem FnOk.none {P : Program} {w : World} {K : PySem.W.Frag} {mg : Str → Option Value} {base : Heap} {CX : CXT} {k : Nat} {f : Addr} {fd : FuncData} {ps : List Str} {sp : Sp} (h : ∀ vs H Q E, ¬ sp vs H Q E) : FnOk P w K mg base CX k f fd ps sp :=
  ⟨fun vs H Q E q => absurd q (h vs H Q E), fun _ _ _ H _ _ vs Q E _ _ _ _ q => absurd q (h vs H Q E)⟩
theorem at_int {xs : List Int} {i : Nat} {x : V} (h : (xs.map V.int)[i]? = some x) : ∃ c, x = V.int c := by
  rw [List.getElem?_map] at h
  cases e : xs[i]? with
  | none => rw [e] at h; cases h
  | some z => rw [e] at h; exact ⟨z, (Option.some.inj h).symm⟩
/-- a row: a tuple of whole numbers -/
def RowAt (H : Hp) (v : V) (ns : List Int) : Prop := ∃ t, v = .ref t ∧ H t = some (.tup (ns.map V.int))
theorem RowAt.same {H H' : Hp} {v : V} {ns : List Int} (e : Same H H') (h : RowAt H v ns) : RowAt H' v ns := by obtain ⟨t, h1, h2⟩ := h; exact ⟨t, h1, e _ _ h2⟩
theorem at_row {ns : List Int} {i : Nat} (h : i < ns.length) : atI (ns.map V.int) (i : Int) = some (.int ns[i]) := atI_nat (by simp [h])
theorem cutN (xs : List V) (m : Nat) : cutV xs none (some (m : Int)) = xs.take m := by
  unfold cutV
  have e1 : HT.sIx xs.length 0 none = 0 := rfl
  have e2 : HT.sIx xs.length xs.length (some (m : Int)) = min m xs.length := HT.sIx_nat ..
  rw [e1, e2, List.drop_zero, Nat.sub_zero]
  by_cases h : m ≤ xs.length
  · rw [Nat.min_eq_left h]
  · rw [Nat.min_eq_right (by omega), List.take_of_length_le (Nat.le_refl _), List.take_of_length_le (by omega)]
theorem cut_ints (ns : List Int) (m : Nat) : cutV (ns.map V.int) none (some (m : Int)) = (ns.take m).map V.int := by rw [cutN, List.map_take]
/-! ### conditions -/
inductive Cond where
  | same (i j : Nat) | isv (i : Nat) (v : Int) | less (i j : Nat) | undr (i : Nat) (v : Int)
  | both (a b : Cond) | either (a b : Cond) | neg (a : Cond)
namespace Cond
def sem : Cond → List Int → Bool
  | same i j, r => decide (r.getD i 0 = r.getD j 0)
  | isv i v, r => decide (r.getD i 0 = v)
  | less i j, r => decide (r.getD i 0 < r.getD j 0)
  | undr i v, r => decide (r.getD i 0 < v)
  | both a b, r => a.sem r && b.sem r
  | either a b, r => a.sem r || b.sem r
  | neg a, r => !a.sem r
/-- all its columns are there -/
def ok (n : Nat) : Cond → Prop
  | same i j => i < n ∧ j < n
  | isv i _ => i < n
  | less i j => i < n ∧ j < n
  | undr i _ => i < n
  | both a b => a.ok n ∧ b.ok n
  | either a b => a.ok n ∧ b.ok n
  | neg a => a.ok n
def deep : Cond → Nat
  | both a b => max a.deep b.deep + 1
  | either a b => max a.deep b.deep + 1
  | neg a => a.deep + 1
  | _ => 0
theorem ok.mono {n m : Nat} (h : n ≤ m) : ∀ {c : Cond}, c.ok n → c.ok m
  | same i j, z => ⟨Nat.lt_of_lt_of_le z.1 h, Nat.lt_of_lt_of_le z.2 h⟩
  | isv i _, z => Nat.lt_of_lt_of_le z h
  | less i j, z => ⟨Nat.lt_of_lt_of_le z.1 h, Nat.lt_of_lt_of_le z.2 h⟩
  | undr i _, z => Nat.lt_of_lt_of_le z h
  | both a b, z => ⟨ok.mono h z.1, ok.mono h z.2⟩
  | either a b, z => ⟨ok.mono h z.1, ok.mono h z.2⟩
  | neg a, z => ok.mono (c := a) h z
end Cond
/-- a condition's tuple -/
def CondAt (H : Hp) : V → Cond → Prop
  | v, .same i j => ∃ t, v = .ref t ∧ H t = some (.tup [.str "same", .int i, .int j])
  | v, .isv i n => ∃ t, v = .ref t ∧ H t = some (.tup [.str "is", .int i, .int n])
  | v, .less i j => ∃ t, v = .ref t ∧ H t = some (.tup [.str "below", .int i, .int j])
  | v, .undr i n => ∃ t, v = .ref t ∧ H t = some (.tup [.str "under", .int i, .int n])
  | v, .both a b => ∃ t va vb, v = .ref t ∧ H t = some (.tup [.str "both", va, vb]) ∧ CondAt H va a ∧ CondAt H vb b
  | v, .either a b => ∃ t va vb, v = .ref t ∧ H t = some (.tup [.str "either", va, vb]) ∧ CondAt H va a ∧ CondAt H vb b
  | v, .neg a => ∃ t va, v = .ref t ∧ H t = some (.tup [.str "not", va]) ∧ CondAt H va a
theorem CondAt.same {H H' : Hp} (e : Same H H') : ∀ {c : Cond} {v : V}, CondAt H v c → CondAt H' v c
  | .same i j, _, ⟨t, h1, h2⟩ => ⟨t, h1, e _ _ h2⟩
  | .isv i n, _, ⟨t, h1, h2⟩ => ⟨t, h1, e _ _ h2⟩
  | .less i j, _, ⟨t, h1, h2⟩ => ⟨t, h1, e _ _ h2⟩
  | .undr i n, _, ⟨t, h1, h2⟩ => ⟨t, h1, e _ _ h2⟩
  | .both a b, _, ⟨t, va, vb, h1, h2, h3, h4⟩ => ⟨t, va, vb, h1, e _ _ h2, CondAt.same e h3, CondAt.same e h4⟩
  | .either a b, _, ⟨t, va, vb, h1, h2, h3, h4⟩ => ⟨t, va, vb, h1, e _ _ h2, CondAt.same e h3, CondAt.same e h4⟩
  | .neg a, _, ⟨t, va, h1, h2, h3⟩ => ⟨t, va, h1, e _ _ h2, CondAt.same e h3⟩
/-- what meets promises: conditions of at most n within one another -/
def spMeets (n : Nat) : Sp := fun vs H Q _ => ∃ (v rv : V) (c : Cond) (row : List Int), vs = [v, rv] ∧ CondAt H v c ∧ RowAt H rv row ∧ c.ok row.length ∧ c.deep < n ∧ Q (.bl (c.sem row)) H
theorem o_cat {X : Cx} : JOp X (binaryOp .Add) rCat := ⟨op_cat⟩
theorem o_catT {X : Cx} : JOp X (binaryOp .Add) (rCatT X.K) := ⟨op_catT⟩
theorem c_tuple {X : Cx} : JC X (.type "tuple") (fun xs H Q => ∃ p ys, xs = [.ref p] ∧ ((SqL X.K H p ys ∧ ∀ l, H l = none → Q (.ref l) (upd H l (.tup ys))) ∨ (SqT X.K H p ys ∧ Q (.ref p) H))) := ⟨call_tuple_of⟩
end L2

set_option maxHeartbeats 4000000
namespace Wr
open PySem SetTable
/-! ### a clean table finds a place for each -/
def it (m : Nat) : Nat → Nat → Nat
  | 0, i => i
  | s + 1, i => it m s ((i * 5 + 1) % m)
def orb (m : Nat) : Nat → Nat → List Nat
  | 0, _ => []
  | s + 1, i => i :: orb m s ((i * 5 + 1) % m)
def cyc (m : Nat) : Bool := (List.range m).all (fun e => (orb m m 0).contains e) && it m m 0 == 0
theorem cyc_all : ∀ m ∈ [8, 16, 32, 64, 128, 256, 512], cyc m = true := by decide +kernel
theorem it_add (m a b i : Nat) : it m (a + b) i = it m b (it m a i) := by
  induction a generalizing i with
  | zero => rw [Nat.zero_add]; rfl
  | succ a ih => rw [Nat.succ_add]; exact ih _
theorem orb_it {m : Nat} : ∀ {n i e : Nat}, e ∈ orb m n i → ∃ s, s < n ∧ it m s i = e
  | 0, _, _, h => by cases h
  | n + 1, i, e, h => by
    rcases List.mem_cons.mp h with z | z
    · exact ⟨0, Nat.succ_pos _, z.symm⟩
    · obtain ⟨s, h1, h2⟩ := orb_it z
      exact ⟨s + 1, by omega, h2⟩
theorem cyc_reach {m : Nat} (h : cyc m = true) {i e : Nat} (hi : i < m) (he : e < m) : ∃ s, s < m ∧ it m s i = e := by
  unfold cyc at h
  rw [Bool.and_eq_true] at h
  have hz : it m m 0 = 0 := eq_of_beq h.2
  have at0 : ∀ x, x < m → ∃ s, s < m ∧ it m s 0 = x := fun x hx => by
    have := List.all_eq_true.mp h.1 x (List.mem_range.mpr hx)
    exact orb_it (List.contains_iff_mem.mp this)
  obtain ⟨s1, h1, e1⟩ := at0 i hi
  obtain ⟨s2, h2, e2⟩ := at0 e he
  by_cases hs : s1 ≤ s2
  · refine ⟨s2 - s1, by omega, ?_⟩
    have := it_add m s1 (s2 - s1) 0
    rw [show s1 + (s2 - s1) = s2 by omega, e1, e2] at this
    exact this.symm
  · refine ⟨m - s1 + s2, by omega, ?_⟩
    have := it_add m s1 (m - s1 + s2) 0
    rw [show s1 + (m - s1 + s2) = m + s2 by omega, e1, it_add, hz, e2] at this
    exact this.symm
/-- the places that are looked at -/
def lseq (mask : Nat) : Nat → Nat → Nat → Nat × Nat
  | 0, i, p => (i, p)
  | t + 1, i, p => lseq mask t (leap mask i p).1 (leap mask i p).2
theorem lseq_add (mask a b : Nat) : ∀ i p, lseq mask (a + b) i p = lseq mask b (lseq mask a i p).1 (lseq mask a i p).2 := by
  induction a with
  | zero => intro i p; rw [Nat.zero_add]; rfl
  | succ a ih => intro i p; rw [Nat.succ_add]; exact ih _ _
theorem lseq_perturb (mask : Nat) : ∀ t i p, (lseq mask t i p).2 = p / 32 ^ t
  | 0, _, p => by simp [lseq]
  | t + 1, i, p => by
    show (lseq mask t (leap mask i p).1 (p / 32)).2 = _
    rw [lseq_perturb mask t, Nat.div_div_eq_div_mul, Nat.pow_succ, Nat.mul_comm 32]
theorem lseq_lt (mask : Nat) : ∀ t i p, i < mask + 1 → (lseq mask t i p).1 < mask + 1
  | 0, _, _, h => h
  | t + 1, i, p, h => lseq_lt mask t _ _ (Nat.mod_lt _ (Nat.succ_pos _))
theorem lseq_zero (mask : Nat) : ∀ t i, (lseq mask t i 0).1 = it (mask + 1) t i
  | 0, _ => rfl
  | t + 1, i => by
    show (lseq mask t (leap mask i 0).1 (leap mask i 0).2).1 = it (mask + 1) t ((i * 5 + 1) % (mask + 1))
    have : leap mask i 0 = ((i * 5 + 1) % (mask + 1), 0) := by simp [leap]
    rw [this]
    exact lseq_zero mask t _
theorem bits_lt (h : Int) : bits h < 2 ^ 64 := by
  unfold bits
  have h1 := Int.emod_nonneg h (show (2 ^ 64 : Int) ≠ 0 by decide)
  have h2 := Int.emod_lt_of_pos h (show (0 : Int) < 2 ^ 64 by decide)
  omega
/-- each place is come to -/
theorem reach {mask : Nat} (hc : cyc (mask + 1) = true) (i : Nat) (hi : i < mask + 1) (p : Nat) (hp : p < 2 ^ 64) (e : Nat) (he : e < mask + 1) : ∃ t, t < mask + 15 ∧ (lseq mask t i p).1 = e := by
  have h13 : (lseq mask 13 i p).2 = 0 := by
    rw [lseq_perturb]
    exact Nat.div_eq_of_lt (Nat.lt_of_lt_of_le hp (by decide))
  obtain ⟨s, hs, es⟩ := cyc_reach hc (lseq_lt mask 13 i p hi) he
  refine ⟨13 + s, by omega, ?_⟩
  rw [lseq_add, h13, lseq_zero]
  exact es
theorem runEnd_ge (mask i : Nat) : i ≤ runEnd mask i := by unfold runEnd; split <;> omega
theorem free_some {mask : Nat} {owner : Array (Option Nat)} : ∀ (fuel i p : Nat), (∃ t, t < fuel ∧ owner.getD (lseq mask t i p).1 (some 0) = none) → ∃ j, layClean.free mask owner fuel i p = some j ∧ owner.getD j (some 0) = none
  | 0, _, _, ⟨t, h, _⟩ => absurd h (Nat.not_lt_zero _)
  | fuel + 1, i, p, ⟨t, h, e⟩ => by
    unfold layClean.free
    cases hf : (List.range (runEnd mask i + 1 - i)).find? fun k => (owner.getD (i + k) (some 0)).isNone with
    | some k =>
      have := List.find?_some hf
      exact ⟨i + k, rfl, Option.isNone_iff_eq_none.mp this⟩
    | none =>
      have hn := List.find?_eq_none.mp hf
      cases t with
      | zero =>
        exfalso
        have := hn 0 (List.mem_range.mpr (by have := runEnd_ge mask i; omega))
        apply this
        have e' : owner.getD i (some 0) = none := e
        rw [Nat.add_zero, e']
        rfl
      | succ t => exact free_some fuel _ _ ⟨t, by omega, e⟩
/-- what stands in the places, in their order -/
def live (mask : Nat) (owner : Array (Option Nat)) : List Nat := (List.range (mask + 1)).filterMap fun j => owner.getD j none
theorem filterMap_one {f g : Nat → Option Nat} {j k : Nat} (hf : f j = none) (hg : g j = some k) (ho : ∀ i, i ≠ j → f i = g i) : ∀ {l : List Nat}, l.Nodup → j ∈ l → (l.filterMap g).Perm (k :: l.filterMap f)
  | [], _, h => by cases h
  | x :: l, nd, h => by
    obtain ⟨n1, n2⟩ := List.nodup_cons.mp nd
    by_cases e : x = j
    · subst e
      have same : l.filterMap g = l.filterMap f := by
        have : ∀ (r : List Nat), (∀ y ∈ r, y ≠ x) → r.filterMap g = r.filterMap f := by
          intro r
          induction r with
          | nil => intro _; rfl
          | cons y r ih =>
            intro hr
            rw [List.filterMap_cons, List.filterMap_cons, ho y (hr y List.mem_cons_self), ih fun z hz => hr z (List.mem_cons_of_mem _ hz)]
        exact this l fun y hy z => n1 (z ▸ hy)
      rw [List.filterMap_cons_some hg, List.filterMap_cons_none hf, same]
    · have hl : j ∈ l := by
        rcases List.mem_cons.mp h with z | z
        · exact absurd z.symm e
        · exact z
      have ih := filterMap_one hf hg ho n2 hl
      cases hx : f x with
      | none => rw [List.filterMap_cons_none hx, List.filterMap_cons_none ((ho x e) ▸ hx)]; exact ih
      | some y =>
        rw [List.filterMap_cons_some hx, List.filterMap_cons_some ((ho x e) ▸ hx)]
        exact (ih.cons y).trans (List.Perm.swap _ _ _)
theorem getD_both {owner : Array (Option Nat)} {j : Nat} (h : owner.getD j (some 0) = none) : j < owner.size ∧ owner.getD j none = none := by
  by_cases hj : j < owner.size
  · refine ⟨hj, ?_⟩
    simp [Array.getD, hj] at h ⊢
    exact h
  · simp [Array.getD, hj] at h
theorem live_put {mask : Nat} {owner : Array (Option Nat)} (hs : owner.size = mask + 1) {j k : Nat} (h : owner.getD j (some 0) = none) : (live mask (owner.setIfInBounds j (some k))).Perm (k :: live mask owner) := by
  obtain ⟨hj, hn⟩ := getD_both h
  refine filterMap_one (f := fun i => owner.getD i none) (j := j) hn ?_ (fun i hi => ?_) List.nodup_range (List.mem_range.mpr (by omega))
  · simp [Array.getD, hj]
  · show owner.getD i none = (owner.setIfInBounds j (some k)).getD i none
    by_cases hi2 : i < owner.size
    · simp [Array.getD, hi2, Array.getElem_setIfInBounds, Ne.symm hi]
    · simp [Array.getD, hi2]
theorem live_full {mask : Nat} {owner : Array (Option Nat)} (h : (live mask owner).length < mask + 1) : ∃ e, e < mask + 1 ∧ owner.getD e none = none := by
  apply Classical.byContradiction
  intro hn
  have all : ∀ (l : List Nat), (∀ e ∈ l, e < mask + 1) → (l.filterMap fun j => owner.getD j none).length = l.length := by
    intro l
    induction l with
    | nil => intro _; rfl
    | cons x l ih =>
      intro hl
      cases hx : owner.getD x none with
      | none => exact absurd ⟨x, hl x List.mem_cons_self, hx⟩ hn
      | some y => rw [List.filterMap_cons_some (f := fun j => owner.getD j none) hx, List.length_cons, List.length_cons, ih fun e he => hl e (List.mem_cons_of_mem _ he)]
  have := all (List.range (mask + 1)) fun e he => List.mem_range.mp he
  rw [List.length_range] at this
  unfold live at h
  omega
theorem lay_fold {mask : Nat} (hc : cyc (mask + 1) = true) : ∀ (hs : List Int) (owner : Array (Option Nat)) (k : Nat), owner.size = mask + 1 → (live mask owner).Perm (List.range k) → k + hs.length ≤ mask →
    ∃ owner', (hs.foldl (init := some (owner, k)) fun acc h => do
        let (owner, k) ← acc
        let j ← layClean.free mask owner (turns mask) (bits h % (mask + 1)) (bits h)
        pure (owner.setIfInBounds j (some k), k + 1)) = some (owner', k + hs.length) ∧ owner'.size = mask + 1 ∧ (live mask owner').Perm (List.range (k + hs.length))
  | [], owner, k, h1, h2, _ => ⟨owner, rfl, h1, h2⟩
  | h :: hs, owner, k, h1, h2, h3 => by
    rw [List.length_cons] at h3
    have hl : (live mask owner).length = k := by rw [h2.length_eq, List.length_range]
    obtain ⟨e, he, hn⟩ := live_full (mask := mask) (owner := owner) (by omega)
    have hn' : owner.getD e (some 0) = none := by
      have hs' : e < owner.size := by omega
      simp [Array.getD, hs'] at hn ⊢
      exact hn
    obtain ⟨t, ht, et⟩ := reach hc (bits h % (mask + 1)) (Nat.mod_lt _ (Nat.succ_pos _)) (bits h) (bits_lt h) e he
    obtain ⟨j, ej, hj⟩ := free_some (mask := mask) (owner := owner) (turns mask) (bits h % (mask + 1)) (bits h) ⟨t, ht, by rw [et]; exact hn'⟩
    have p2 : (live mask (owner.setIfInBounds j (some k))).Perm (List.range (k + 1)) := by
      refine (live_put h1 hj).trans ?_
      rw [List.range_succ]
      exact (h2.cons k).trans (List.perm_append_comm (l₁ := [k]) (l₂ := List.range k))
    obtain ⟨o', q1, q2, q3⟩ := lay_fold hc hs (owner.setIfInBounds j (some k)) (k + 1) (by simpa using h1) p2 (by omega)
    refine ⟨o', ?_, q2, ?_⟩
    · rw [List.foldl_cons]
      show List.foldl _ (do
        let j ← layClean.free mask owner (turns mask) (bits h % (mask + 1)) (bits h)
        pure (owner.setIfInBounds j (some k), k + 1)) hs = _
      rw [ej]
      rw [List.length_cons, show k + (hs.length + 1) = k + 1 + hs.length by omega]
      exact q1
    · rw [List.length_cons, show k + (hs.length + 1) = k + 1 + hs.length by omega]
      exact q3
theorem laid_some {mask : Nat} (hc : cyc (mask + 1) = true) (finger moves : Nat) (led plain : Bool) (hashes : Array Int) (h : hashes.size ≤ mask) :
    ∃ t order, SetTable.laid mask finger moves led plain hashes = some (t, order) ∧ t.mask = mask ∧ t.dummies = #[] ∧ t.finger = finger ∧ t.led = led ∧ t.plain = plain ∧ t.place.size = hashes.size ∧ order.toList.Perm (List.range hashes.size) := by
  have start : (live mask (Array.replicate (mask + 1) none)).Perm (List.range 0) := by
    have : live mask (Array.replicate (mask + 1) none) = [] := by
      unfold live
      rw [List.filterMap_eq_nil_iff]
      intro j hj
      have := List.mem_range.mp hj
      simp [Array.getD]
    rw [this]
    exact List.Perm.refl _
  obtain ⟨o, e1, e2, e3⟩ := lay_fold hc hashes.toList (Array.replicate (mask + 1) none) 0 (by simp) start (by simpa using h)
  rw [Nat.zero_add] at e1 e3
  have el : layClean mask hashes = some o := by
    unfold layClean
    rw [← Array.foldl_toList]
    rw [e1]
    rfl
  unfold SetTable.laid
  rw [el]
  refine ⟨_, _, rfl, rfl, rfl, rfl, rfl, rfl, ?_, ?_⟩
  · have : ((List.range (mask + 1)).filterMap fun j => (o.getD j none).map fun x => (j, x)).length = (live mask o).length := by
      have : live mask o = ((List.range (mask + 1)).filterMap fun j => (o.getD j none).map fun x => (j, x)).map (·.2) := by
        unfold live
        rw [List.map_filterMap]
        congr 1
        funext j
        cases o.getD j none <;> rfl
      rw [this, List.length_map]
    simp only [List.size_toArray, List.length_map]
    rw [this, e3.length_eq, List.length_range]
    simp
  · have : ((List.range (mask + 1)).filterMap fun j => (o.getD j none).map fun x => (j, x)).map (·.2) = live mask o := by
      unfold live
      rw [List.map_filterMap]
      congr 1
      funext j
      cases o.getD j none <;> rfl
    show List.Perm (((List.range (mask + 1)).filterMap fun j => (o.getD j none).map fun x => (j, x)).map (·.2)).toArray.toList _
    rw [this]
    simpa using e3
theorem sizeAbove_in {n : Nat} (h : n < 512) : ∃ m ∈ [8, 16, 32, 64, 128, 256, 512], sizeAbove n = m ∧ n < m := by
  have all : ∀ n < 512, (([8, 16, 32, 64, 128, 256, 512] : List Nat).contains (sizeAbove n) && decide (n < sizeAbove n)) = true := by decide +kernel
  have := all n h
  rw [Bool.and_eq_true] at this
  exact ⟨sizeAbove n, List.contains_iff_mem.mp this.1, rfl, of_decide_eq_true this.2⟩
/-- a table laid anew -/
theorem relaid_some (t : SetTable) (hashes : Array Int) {wanted : Nat} (hw : wanted < 512) (h : hashes.size ≤ wanted) :
    ∃ t' order, t.relaid hashes wanted = some (t', order) ∧ t'.mask = sizeAbove wanted - 1 ∧ t'.dummies = #[] ∧ t'.finger = t.finger ∧ t'.led = t.led ∧ t'.plain = t.plain ∧ t'.place.size = hashes.size ∧ order.toList.Perm (List.range hashes.size) := by
  obtain ⟨m, hm, e, hlt⟩ := sizeAbove_in hw
  have hc := cyc_all m hm
  have hm1 : 1 ≤ m := by omega
  unfold relaid
  rw [e]
  exact laid_some (mask := m - 1) (by rw [show m - 1 + 1 = m by omega]; exact hc) _ _ _ _ hashes (by omega)
end Wr

set_option maxHeartbeats 4000000
namespace Wr
open PySem SetTable
/-! ### the places of a table rise -/
def Rise (l : List Nat) : Prop := l.Pairwise (· < ·)
/-- how many are less -/
def cnt (l : List Nat) (j : Nat) : Nat := (l.filter fun x => decide (x < j)).length
theorem rise_split : ∀ {l : List Nat}, Rise l → ∀ (i : Nat) (x : Nat), l[i]? = some x → ∀ j, (x < j ↔ i < cnt l j)
  | [], _, i, x, h, _ => by simp at h
  | y :: l, hl, i, x, h, j => by
    obtain ⟨h1, h2⟩ := List.pairwise_cons.mp hl
    have c : cnt (y :: l) j = if y < j then cnt l j + 1 else cnt l j := by
      unfold cnt
      rw [List.filter_cons]
      by_cases q : y < j <;> simp [q]
    have zero : ¬ y < j → cnt l j = 0 := fun q => by
      unfold cnt
      rw [List.length_eq_zero_iff, List.filter_eq_nil_iff]
      intro z hz
      have := h1 z hz
      simp; omega
    rw [c]
    cases i with
    | zero =>
      have e : y = x := by simpa using h
      subst e
      by_cases q : y < j
      · simp [q]
      · rw [if_neg q, zero q]; simp [q]
    | succ i =>
      have h' : l[i]? = some x := by simpa using h
      have ih := rise_split h2 i x h' j
      have := h1 x (List.mem_of_getElem? h')
      by_cases q : y < j
      · rw [if_pos q]; omega
      · rw [if_neg q, zero q]; omega
theorem cnt_le (l : List Nat) (j : Nat) : cnt l j ≤ l.length := List.length_filter_le _ _
theorem below_go {xs : Array Nat} {j : Nat} (h : Rise xs.toList) : ∀ (fuel lo hi : Nat), hi - lo ≤ fuel → lo ≤ cnt xs.toList j → cnt xs.toList j ≤ hi → hi ≤ xs.size → below.go xs j fuel lo hi = cnt xs.toList j
  | 0, lo, hi, h1, h2, h3, _ => by unfold below.go; omega
  | fuel + 1, lo, hi, h1, h2, h3, h4 => by
    unfold below.go
    by_cases hl : lo < hi
    · rw [if_pos hl]
      dsimp only
      have hm : (lo + hi) / 2 < xs.size := by omega
      have eg : xs.getD ((lo + hi) / 2) j = xs[(lo + hi) / 2] := by simp [Array.getD, hm]
      have hs := rise_split h ((lo + hi) / 2) (xs[(lo + hi) / 2]) (by simp [hm]) j
      rw [eg]
      by_cases q : xs[(lo + hi) / 2] < j
      · rw [if_pos q]
        have := hs.mp q
        exact below_go h fuel _ _ (by omega) (by omega) h3 h4
      · rw [if_neg q]
        have : ¬ (lo + hi) / 2 < cnt xs.toList j := fun z => q (hs.mpr z)
        exact below_go h fuel _ _ (by omega) h2 (by omega) (by omega)
    · rw [if_neg hl]; omega
theorem below_eq {xs : Array Nat} (h : Rise xs.toList) (j : Nat) : below xs j = cnt xs.toList j :=
  below_go h xs.size 0 xs.size (by omega) (Nat.zero_le _) (by have := cnt_le xs.toList j; simpa using this) (Nat.le_refl _)
theorem cnt_split : ∀ {l : List Nat} {j : Nat}, Rise l → (∀ x ∈ l.take (cnt l j), x < j) ∧ (∀ x ∈ l.drop (cnt l j), j ≤ x) := fun {l j} h => by
  refine ⟨fun x hx => ?_, fun x hx => ?_⟩
  · obtain ⟨i, hi, rfl⟩ := List.mem_iff_getElem.mp hx
    rw [List.length_take] at hi
    rw [List.getElem_take]
    exact (rise_split h i _ (by simp [show i < l.length by omega]) j).mpr (by omega)
  · obtain ⟨i, hi, rfl⟩ := List.mem_iff_getElem.mp hx
    rw [List.length_drop] at hi
    rw [List.getElem_drop]
    have := rise_split h (cnt l j + i) _ (show l[cnt l j + i]? = some (l[cnt l j + i]'(by omega)) by simp [show cnt l j + i < l.length by omega]) j
    omega
theorem toList_insertAt {α : Type} (xs : Array α) (p : Nat) (x : α) : (insertAt xs p x).toList = xs.toList.take p ++ x :: xs.toList.drop p := by
  unfold insertAt
  simp
  exact List.take_of_length_le (by simp)
/-- a place that none has, put where it belongs -/
theorem rise_insert {xs : Array Nat} {j : Nat} (h : Rise xs.toList) (hn : j ∉ xs.toList) : Rise (insertAt xs (below xs j) j).toList := by
  rw [toList_insertAt, below_eq h]
  obtain ⟨h1, h2⟩ := cnt_split (j := j) h
  have h2' : ∀ x ∈ xs.toList.drop (cnt xs.toList j), j < x := fun x hx => by
    have := h2 x hx
    have : x ≠ j := fun e => hn (e ▸ List.mem_of_mem_drop hx)
    omega
  refine List.pairwise_append.mpr ⟨h.sublist (List.take_sublist _ _), List.pairwise_cons.mpr ⟨h2', h.sublist (List.drop_sublist _ _)⟩, fun a ha b hb => ?_⟩
  rcases List.mem_cons.mp hb with z | z
  · rw [z]; exact h1 a ha
  · have := h1 a ha; have := h2' b z; omega
theorem slot_empty {t : SetTable} {j : Nat} (h : Rise t.place.toList) (hs : t.slot j = .empty ∨ t.slot j = .dummy) : j ∉ t.place.toList := fun hm => by
  have e : t.place[below t.place j]? = some j := by
    obtain ⟨i, hi, rfl⟩ := List.mem_iff_getElem.mp hm
    rw [Array.length_toList] at hi
    rw [below_eq h]
    have hc : cnt t.place.toList (t.place.toList[i]'(by simpa using hi)) = i := by
      have h1 := rise_split h i _ (show t.place.toList[i]? = some (t.place.toList[i]'(by simpa using hi)) by simp [hi]) (t.place.toList[i]'(by simpa using hi))
      have h2 : ¬ i < cnt t.place.toList (t.place.toList[i]'(by simpa using hi)) := fun z => Nat.lt_irrefl _ (h1.mpr z)
      have h3 : ∀ k, k < i → k < cnt t.place.toList (t.place.toList[i]'(by simpa using hi)) := fun k hk => by
        have hkl : k < t.place.toList.length := by rw [Array.length_toList]; omega
        have q := rise_split h k _ (show t.place.toList[k]? = some (t.place.toList[k]'hkl) by simp [hkl]) (t.place.toList[i]'(by simpa using hi))
        exact q.mp (List.pairwise_iff_getElem.mp h k i hkl (by simpa using hi) hk)
      cases i with
      | zero => omega
      | succ i => have := h3 i (by omega); omega
    rw [hc]
    simp [hi]
  unfold slot at hs
  dsimp only at hs
  rw [e] at hs
  simp at hs
/-- where a search ends at a free slot, the slot is free -/
theorem probe_free {t : SetTable} {hashAt : Nat → Int} {h : Int} : ∀ (fuel : Nat) (p : Probe) (j : Nat) (d : Option Nat), (∀ x, p.dummy = some x → t.slot x = .dummy) → probe.go t hashAt h fuel p = some (.empty j d) → t.slot j = .empty ∧ ∀ x, d = some x → t.slot x = .dummy
  | 0, p, j, d, _, e => by unfold probe.go at e; cases e
  | fuel + 1, p, j, d, hd, e => by
    unfold probe.go at e
    have adv : ∀ q : Probe, (t.advance q).dummy = q.dummy := fun q => by unfold advance; split <;> rfl
    cases hs : t.slot p.j with
    | empty =>
      rw [hs] at e
      cases e
      exact ⟨hs, hd⟩
    | dummy =>
      rw [hs] at e
      refine probe_free fuel _ j d (fun x hx => ?_) e
      rw [adv] at hx
      have hx' : some p.j = some x := hx
      cases hx'
      exact hs
    | live i =>
      rw [hs] at e
      dsimp only at e
      split at e
      · cases e
      · exact probe_free fuel _ j d (fun x hx => hd x (by rw [adv] at hx; exact hx)) e
theorem freeSlot_free {t : SetTable} {h : Int} {j : Nat} {b : Bool} (e : t.freeSlot h = some (j, b)) : t.slot j = .empty ∨ t.slot j = .dummy := by
  unfold freeSlot at e
  split at e
  · rename_i i d hp
    have q := probe_free _ _ _ _ (fun x hx => by cases hx) hp
    cases d with
    | none => cases e; exact .inl q.1
    | some d => cases e; exact .inr (q.2 d rfl)
  · cases e
theorem rise_range (n : Nat) : Rise (Array.range n).toList := by
  rw [Array.toList_range]
  exact List.pairwise_lt_range
theorem standIn_rise (t : SetTable) (n : Nat) : Rise (t.standIn n).place.toList := rise_range n
theorem orStandIn_rise {t : SetTable} (h : Rise t.place.toList) (n : Nat) : Rise (t.orStandIn n).place.toList := by
  unfold orStandIn
  split
  · exact h
  · exact standIn_rise t n
theorem layNew_rise {t : SetTable} (hr : Rise t.place.toList) (es : Array (Int × Value)) (h : Int) (x : Value) : Rise (layNew t es h x).2.1.place.toList := by
  unfold layNew
  split
  · rename_i slot b e
    have hn := slot_empty hr (freeSlot_free e)
    exact orStandIn_rise (rise_insert hr hn) _
  · exact standIn_rise t _
theorem layNew_led (t : SetTable) (es : Array (Int × Value)) (h : Int) (x : Value) : (layNew t es h x).2.1.led = t.led := by
  unfold layNew
  split
  · show (SetTable.orStandIn _ _).led = _
    unfold orStandIn
    split <;> rfl
  · rfl
theorem laid_rise {mask finger moves : Nat} {led plain : Bool} {hashes : Array Int} {t : SetTable} {order : Array Nat} (e : SetTable.laid mask finger moves led plain hashes = some (t, order)) : Rise t.place.toList ∧ t.led = led := by
  unfold SetTable.laid at e
  cases h : layClean mask hashes with
  | none => rw [h] at e; cases e
  | some o =>
    rw [h] at e
    cases e
    refine ⟨?_, rfl⟩
    show Rise (((List.range (mask + 1)).filterMap fun j => (o.getD j none).map fun x => (j, x)).map (·.1)).toArray.toList
    have : ((List.range (mask + 1)).filterMap fun j => (o.getD j none).map fun x => (j, x)).map (·.1) = (List.range (mask + 1)).filter fun j => (o.getD j none).isSome := by
      generalize List.range (mask + 1) = l
      induction l with
      | nil => rfl
      | cons y l ih =>
        rw [List.filter_cons]
        cases q : o.getD y none with
        | none =>
          rw [List.filterMap_cons_none (by rw [q]; rfl), ih]
          simp
        | some z =>
          rw [List.filterMap_cons_some (by rw [q]; rfl), List.map_cons, ih]
          simp
    rw [this]
    rw [List.toList_toArray]
    exact (List.pairwise_lt_range (n := mask + 1)).sublist List.filter_sublist
theorem relaid_rise {t t' : SetTable} {hashes : Array Int} {wanted : Nat} {order : Array Nat} (e : t.relaid hashes wanted = some (t', order)) : Rise t'.place.toList ∧ t'.led = t.led := laid_rise e
theorem relayAll_rise (t : SetTable) (es : Array (Int × Value)) (wanted : Nat) : Rise (relayAll t es wanted).2.1.place.toList ∧ (relayAll t es wanted).2.1.led = t.led := by
  unfold relayAll
  split
  · rename_i t' order e
    dsimp only
    split
    · exact relaid_rise e
    · exact ⟨standIn_rise t _, rfl⟩
  · exact ⟨standIn_rise t _, rfl⟩
end Wr

set_option maxHeartbeats 4000000
namespace Wr
open PySem SetTable
/-! ### a search in a table with room ends at a free slot -/
def sizes : List Nat := [8, 16, 32, 64, 128, 256, 512]
structure TOk (t : SetTable) (n : Nat) : Prop where
  sz : t.place.size = n
  rise : Rise t.place.toList
  inn : ∀ x ∈ t.place.toList, x ≤ t.mask
  nod : t.dummies = #[]
  plain : t.plain = true
  msk : t.mask + 1 ∈ sizes
  room : n * 5 < t.mask * 3
theorem TOk.fits {t : SetTable} {n : Nat} (h : TOk t n) : t.fits n = true := by
  have h1 := h.sz
  have h2 := h.room
  unfold SetTable.fits SetTable.fill
  rw [h.nod, h1]
  simp
  omega
theorem slot_of {t : SetTable} {n : Nat} (h : TOk t n) (j : Nat) (hj : j ∉ t.place.toList) : t.slot j = .empty := by
  unfold slot
  dsimp only
  have e1 : (t.place[below t.place j]? == some j) = false := by
    apply Bool.eq_false_iff.mpr
    intro z
    have := eq_of_beq z
    exact hj (Array.mem_toList_iff.mpr (Array.mem_of_getElem? this))
  rw [e1, h.nod]
  simp [has]
theorem slot_nod {t : SetTable} (hd : t.dummies = #[]) (j : Nat) : t.slot j ≠ .dummy := by
  unfold slot
  dsimp only
  rw [hd]
  split
  · intro z; cases z
  · simp [has]
theorem advance_more {t : SetTable} {p : Probe} (h : p.more > 0) : t.advance p = { p with j := p.j + 1, more := p.more - 1 } := by unfold advance; rw [if_pos h]
theorem advance_leap {t : SetTable} {p : Probe} (h : ¬ p.more > 0) : t.advance p = { p with j := (leap t.mask p.i p.perturb).1, more := runEnd t.mask (leap t.mask p.i p.perturb).1 - (leap t.mask p.i p.perturb).1, i := (leap t.mask p.i p.perturb).1, perturb := (leap t.mask p.i p.perturb).2 } := by unfold advance; rw [if_neg h]
/-- one run: a free slot is met in it, or the next leap is made -/
theorem run_go {t : SetTable} (hd : t.dummies = #[]) (h : Int) (R : Option Met → Prop) (hR : ∀ j, t.slot j = .empty → R (some (.empty j none))) : ∀ (more j i p fuel : Nat),
    (∀ f, f + (more + 1) = fuel → R (probe.go t (fun _ => h + 1) h f { j := (leap t.mask i p).1, more := runEnd t.mask (leap t.mask i p).1 - (leap t.mask i p).1, i := (leap t.mask i p).1, perturb := (leap t.mask i p).2, dummy := none })) →
    more + 1 ≤ fuel → R (probe.go t (fun _ => h + 1) h fuel { j, more, i, perturb := p, dummy := none })
  | more, j, i, p, 0, _, hf => absurd hf (by omega)
  | more, j, i, p, fuel + 1, k, hf => by
    unfold probe.go
    dsimp only
    cases hs : t.slot j with
    | empty => exact hR j hs
    | dummy => exact absurd hs (slot_nod hd j)
    | live x =>
      dsimp only
      have ne : (h + 1 == h) = false := by
        apply Bool.eq_false_iff.mpr
        intro z
        have := eq_of_beq z
        omega
      rw [ne]
      simp only [Bool.false_eq_true, if_false]
      cases more with
      | zero =>
        rw [advance_leap (by simp)]
        exact k fuel (by omega)
      | succ more =>
        rw [advance_more (by simp)]
        exact run_go hd h R hR more (j + 1) i p fuel (fun f hf' => k f (by omega)) (by omega)
theorem go_some {t : SetTable} (hd : t.dummies = #[]) (h : Int) : ∀ (n i p fuel : Nat), t.slot (lseq t.mask n i p).1 = .empty → 10 * n + 1 ≤ fuel →
    ∃ j, probe.go t (fun _ => h + 1) h fuel { j := i, more := runEnd t.mask i - i, i, perturb := p, dummy := none } = some (.empty j none) ∧ t.slot j = .empty
  | 0, i, p, fuel, e, hf => by
    cases fuel with
    | zero => omega
    | succ fuel =>
      refine ⟨i, ?_, e⟩
      unfold probe.go
      have e' : t.slot i = .empty := e
      dsimp only
      rw [e']
  | n + 1, i, p, fuel, e, hf => by
    have hrun : runEnd t.mask i - i ≤ 9 := by unfold runEnd; split <;> omega
    refine run_go hd h (fun o => ∃ j, o = some (.empty j none) ∧ t.slot j = .empty) (fun j hj => ⟨j, rfl, hj⟩) _ i i p fuel (fun f hf' => ?_) (by omega)
    exact go_some hd h n _ _ f e (by omega)
theorem nodup_le : ∀ {l r : List Nat}, l.Nodup → (∀ y ∈ l, y ∈ r) → l.length ≤ r.length
  | [], _, _, _ => Nat.zero_le _
  | x :: l, r, nd, h => by
    obtain ⟨n1, n2⟩ := List.nodup_cons.mp nd
    have hx := h x List.mem_cons_self
    have := nodup_le (r := r.erase x) n2 fun y hy => (List.mem_erase_of_ne (fun e : y = x => n1 (e ▸ hy))).mpr (h y (List.mem_cons_of_mem _ hy))
    rw [List.length_erase_of_mem hx] at this
    have : 0 < r.length := List.length_pos_of_mem hx
    rw [List.length_cons]
    omega
theorem freeSlot_some {t : SetTable} {n : Nat} (h : TOk t n) (x : Int) : ∃ j, t.freeSlot x = some (j, false) ∧ j ∉ t.place.toList ∧ j ≤ t.mask := by
  have room := h.room
  -- a free slot is there
  obtain ⟨e, he, hn⟩ : ∃ e, e < t.mask + 1 ∧ e ∉ t.place.toList := by
    apply Classical.byContradiction
    intro hc
    have sub : ∀ y ∈ List.range (t.mask + 1), y ∈ t.place.toList := fun y hy => Classical.byContradiction fun z => hc ⟨y, List.mem_range.mp hy, z⟩
    have := nodup_le List.nodup_range sub
    rw [List.length_range, Array.length_toList, h.sz] at this
    omega
  have hc := cyc_all (t.mask + 1) h.msk
  obtain ⟨s, hs, es⟩ := reach hc (bits x % (t.mask + 1)) (Nat.mod_lt _ (Nat.succ_pos _)) (bits x) (bits_lt x) e he
  obtain ⟨j, ej, hj⟩ := go_some h.nod x s (bits x % (t.mask + 1)) (bits x) (10 * turns t.mask) (by rw [es]; exact slot_of h e hn) (by unfold turns; omega)
  -- every slot that is looked at lies in the table
  refine ⟨j, ?_, slot_empty h.rise (.inl hj), ?_⟩
  · unfold freeSlot probe probeStart
    dsimp only
    rw [ej]
    rfl
  · refine probe_in t x (10 * turns t.mask) _ j none ?_ ej
    exact ⟨Nat.le_of_lt_succ (Nat.mod_lt _ (Nat.succ_pos _)), Nat.le_of_lt_succ (Nat.mod_lt _ (Nat.succ_pos _)), by
      dsimp only
      have := Nat.mod_lt (bits x) (show 0 < t.mask + 1 by omega)
      unfold runEnd
      split <;> omega⟩
where
  probe_in (t : SetTable) (h : Int) : ∀ (fuel : Nat) (p : Probe) (j : Nat) (d : Option Nat), (p.j ≤ t.mask ∧ p.i ≤ t.mask ∧ p.j + p.more ≤ t.mask) → probe.go t (fun _ => h + 1) h fuel p = some (.empty j d) → j ≤ t.mask
    | 0, p, j, _, _, e => by unfold probe.go at e; cases e
    | fuel + 1, p, j, d, hp, e => by
      have adv : ∀ q : Probe, (q.j ≤ t.mask ∧ q.i ≤ t.mask ∧ q.j + q.more ≤ t.mask) → ((t.advance q).j ≤ t.mask ∧ (t.advance q).i ≤ t.mask ∧ (t.advance q).j + (t.advance q).more ≤ t.mask) := fun q hq => by
        by_cases hm : q.more > 0
        · rw [advance_more hm]; dsimp only; omega
        · rw [advance_leap hm]
          dsimp only
          have hl : (leap t.mask q.i q.perturb).1 ≤ t.mask := Nat.le_of_lt_succ (Nat.mod_lt _ (Nat.succ_pos _))
          refine ⟨hl, hl, ?_⟩
          unfold runEnd
          split <;> omega
      unfold probe.go at e
      cases hs : t.slot p.j with
      | empty => rw [hs] at e; cases e; exact hp.1
      | dummy => rw [hs] at e; exact probe_in t h fuel _ j d (adv { p with dummy := some p.j } hp) e
      | live x =>
        rw [hs] at e
        dsimp only at e
        split at e
        · cases e
        · exact probe_in t h fuel _ j d (adv _ hp) e
/-- one more is laid -/
theorem layNew_ok {t : SetTable} {es : Array (Int × Value)} (h : TOk t es.size) (hr : (es.size + 1) ≤ t.mask) (k : Int) (x : Value) :
    ∃ t' p, layNew t es k x = (insertAt es p (k, x), t', false, false) ∧ t'.mask = t.mask ∧ t'.led = t.led ∧ t'.plain = true ∧ t'.dummies = #[] ∧ t'.place.size = es.size + 1 ∧ Rise t'.place.toList ∧ ∀ y ∈ t'.place.toList, y ≤ t.mask := by
  obtain ⟨j, ej, hn, hj⟩ := freeSlot_some h k
  have hput : t.put j = ({ t with place := insertAt t.place (below t.place j) j }, below t.place j) := by
    unfold SetTable.put
    dsimp only
    have : has t.dummies j = false := by rw [h.nod]; simp [has]
    rw [this, h.nod]
    simp
  have szI : (insertAt es (below t.place j) (k, x)).size = es.size + 1 := by
    have := (PySem.SetTable.insertAt_perm es (below t.place j) (k, x)).length_eq
    simpa using this
  have szP : (insertAt t.place (below t.place j) j).size = es.size + 1 := by
    have := (PySem.SetTable.insertAt_perm t.place (below t.place j) j).length_eq
    rw [Array.length_toList, Array.length_toList, Array.size_push, h.sz] at this
    exact this
  have hfit : ({ t with place := insertAt t.place (below t.place j) j } : SetTable).fits (es.size + 1) = true := by
    unfold SetTable.fits SetTable.fill
    dsimp only
    rw [szP, h.nod]
    simp
    exact hr
  refine ⟨{ t with place := insertAt t.place (below t.place j) j }, below t.place j, ?_, rfl, rfl, h.plain, h.nod, szP, rise_insert h.rise hn, fun y hy => ?_⟩
  · unfold layNew
    rw [ej]
    dsimp only
    rw [hput]
    dsimp only
    rw [szI, hfit]
    unfold orStandIn
    rw [hfit]
    rfl
  · rw [toList_insertAt] at hy
    rcases List.mem_append.mp hy with z | z
    · exact h.inn y (List.mem_of_mem_take z)
    · rcases List.mem_cons.mp z with z | z
      · rw [z]; exact hj
      · exact h.inn y (List.mem_of_mem_drop z)
/-- a table laid anew, of n < 128 -/
theorem relaid_ok (t : SetTable) (hp : t.plain = true) (hashes : Array Int) {wanted : Nat} (hw : wanted < 512) (hb : hashes.size * 2 ≤ wanted) :
    ∃ t' order, t.relaid hashes wanted = some (t', order) ∧ TOk t' hashes.size ∧ t'.led = t.led ∧ order.toList.Perm (List.range hashes.size) := by
  obtain ⟨t', order, e, h1, h2, h3, h4, h5, h6, h7⟩ := relaid_some t hashes hw (by omega)
  obtain ⟨m, hm, em, hlt⟩ := sizeAbove_in hw
  have hm8 : 8 ≤ m := by
    have : ∀ m ∈ [8, 16, 32, 64, 128, 256, 512], 8 ≤ m := by decide
    exact this m hm
  rw [em] at h1
  refine ⟨t', order, e, ⟨h6, (relaid_rise e).1, fun x hx => ?_, h2, h5.trans hp, ?_, ?_⟩, h4, h7⟩
  · rw [h1]
    unfold relaid SetTable.laid at e
    rw [em] at e
    cases q : layClean (m - 1) hashes with
    | none => rw [q] at e; cases e
    | some o =>
      rw [q] at e
      cases e
      have hx' : x ∈ ((List.range (m - 1 + 1)).filterMap fun j => (o.getD j none).map fun x => (j, x)).map (·.1) := by simpa using hx
      obtain ⟨y, hy, rfl⟩ := List.mem_map.mp hx'
      obtain ⟨j, hj, hjy⟩ := List.mem_filterMap.mp hy
      have := List.mem_range.mp hj
      cases q2 : o.getD j none with
      | none => rw [q2] at hjy; cases hjy
      | some z => rw [q2] at hjy; cases hjy; show j ≤ m - 1; omega
  · rw [h1, show m - 1 + 1 = m by omega]; exact hm
  · rw [h1]; omega
theorem picked_perm {α : Type} (es : Array α) (order : Array Nat) (h : order.toList.Perm (List.range es.size)) : (order.filterMap (es[·]?)).toList.Perm es.toList := by
  rw [Array.toList_filterMap]
  have := h.filterMap (fun i => es[i]?)
  exact this.trans (by rw [filterMap_getElem?_range])
theorem relayAll_ok {t : SetTable} (hp : t.plain = true) (es : Array (Int × Value)) (h : es.size < 128) : ∃ es' t', relayAll t es (grown es.size) = (es', t', false) ∧ TOk t' es.size ∧ t'.led = t.led ∧ es'.toList.Perm es.toList := by
  have hg : grown es.size = es.size * 4 := by unfold grown; rw [if_neg (by omega)]
  obtain ⟨t', order, e, ok, hl, hperm⟩ := relaid_ok t hp (es.map (·.1)) (wanted := grown es.size) (by rw [hg]; omega) (by rw [hg, Array.size_map]; omega)
  rw [Array.size_map] at ok hperm
  have pk := picked_perm es order hperm
  have sz : (order.filterMap (es[·]?)).size = es.size := by
    have := pk.length_eq
    rw [Array.length_toList, Array.length_toList] at this
    exact this
  have cov : coversAll order es.size = true := by unfold coversAll; exact List.isPerm_iff.mpr hperm
  refine ⟨order.filterMap (es[·]?), t', ?_, ok, hl, pk⟩
  unfold relayAll
  rw [e]
  dsimp only
  rw [cov, sz, ok.fits]
  rfl
end Wr

set_option maxHeartbeats 4000000
namespace Wr
open PySem SetTable
/-! ### sets of whole numbers, made and walked on the spot -/
theorem pairP {α β : Type} {R : α → β → Prop} {xs ys : List α} (p : ys.Perm xs) : ∀ {ss : List β}, Paired R xs ss → ∃ ts, ts.Perm ss ∧ Paired R ys ts := by
  induction p with
  | nil => intro ss h; exact ⟨ss, .refl _, h⟩
  | cons x _ ih =>
    intro ss h
    cases h with
    | cons r t => obtain ⟨ts, p, q⟩ := ih t; exact ⟨_ :: ts, p.cons _, .cons r q⟩
  | swap x y l =>
    intro ss h
    cases h with
    | cons r t => cases t with | cons r' t' => exact ⟨_ :: _ :: _, .swap _ _ _, .cons r' (.cons r t')⟩
  | trans _ _ ih1 ih2 =>
    intro ss h
    obtain ⟨ts, p, q⟩ := ih2 h
    obtain ⟨us, p', q'⟩ := ih1 q
    exact ⟨us, p'.trans p, q'⟩
def ElemI (e : Int × Value) (n : Int) : Prop := e.1 = hashInt n ∧ ∃ t, e.2 = .int n t
abbrev byTx (w : World) : Bool := w.params.followText "set-order"
structure ISet (w : World) (h : Heap) (a : Addr) (ns : List Int) : Prop where
  ex : ∃ o es ep t, h.get? a = some o ∧ o.ExactSet ∧ o.data = .set es ep t ∧ Paired ElemI es.toList ns ∧ ns.Nodup ∧ TOk t es.size ∧ (byTx w = false → t.led = true)
theorem pairLen {α β : Type} {R : α → β → Prop} : ∀ {xs : List α} {ys : List β}, Paired R xs ys → xs.length = ys.length
  | _, _, .nil => rfl
  | _, _, .cons _ t => by rw [List.length_cons, List.length_cons, pairLen t]
theorem pairMem {α β : Type} {R : α → β → Prop} : ∀ {xs : List α} {ys : List β} {x : α}, Paired R xs ys → x ∈ xs → ∃ y ∈ ys, R x y
  | _, _, _, .nil, h => by cases h
  | _, _, x, .cons r t, h => by
    rcases List.mem_cons.mp h with z | z
    · subst z; exact ⟨_, List.mem_cons_self, r⟩
    · obtain ⟨y, h1, h2⟩ := pairMem t z; exact ⟨y, List.mem_cons_of_mem _ h1, h2⟩
theorem pairMem' {α β : Type} {R : α → β → Prop} : ∀ {xs : List α} {ys : List β} {y : β}, Paired R xs ys → y ∈ ys → ∃ x ∈ xs, R x y
  | _, _, _, .nil, h => by cases h
  | _, _, y, .cons r t, h => by
    rcases List.mem_cons.mp h with z | z
    · subst z; exact ⟨_, List.mem_cons_self, r⟩
    · obtain ⟨x, h1, h2⟩ := pairMem' t z; exact ⟨x, List.mem_cons_of_mem _ h1, h2⟩
theorem elemsI {prog : Program} {w : World} {es : List (Int × Value)} {ns : List Int} (p : Paired ElemI es ns) : ElemsOf (intKind prog w) es := fun e he => by
  obtain ⟨n, _, h1, t, h2⟩ := pairMem p he
  refine ⟨⟨n, ?_, h1⟩, by rw [h2]; rfl⟩
  rw [h2]
  show Value.isInt n (.int n t) = true
  simp [Value.isInt]
theorem ISet.keeps {w : World} {h h' : Heap} {a : Addr} {ns : List Int} (x : ISet w h a ns) (k : ∀ o, h.get? a = some o → h'.get? a = some o) : ISet w h' a ns := by
  obtain ⟨o, es, ep, t, e, r⟩ := x.ex
  exact ⟨o, es, ep, t, k o e, r⟩
section
variable {prog : Program} {w : World} {A : Around} {E : Value → Shared → Prop} {s : Shared}
theorem iset_stored {h : Heap} {a : Addr} {o : Obj} {es es' : Array (Int × Value)} {ep : Nat} {t t' : SetTable} {ns' : List Int} (ho : h.get? a = some o) (hx : o.ExactSet) (hd : o.data = .set es ep t) (p : Paired ElemI es'.toList ns') (nd : ns'.Nodup) (ok : TOk t' es'.size) (led : byTx w = false → t'.led = true) :
    (h.update a (Obj.putSet es' t')).get? a = some { o with data := .set es' (ep + 1) t' } ∧ ISet w (h.update a (Obj.putSet es' t')) a ns' := by
  have hg : (h.update a (Obj.putSet es' t')).get? a = some { o with data := .set es' (ep + 1) t' } := by
    have e := Heap.get?_update_self (Obj.putSet es' t') ho (by rw [putSet_of es' t' hd]; rfl)
    rwa [putSet_of es' t' hd] at e
  exact ⟨hg, ⟨_, es', ep + 1, t', hg, hx, rfl, p, nd, ok, led⟩⟩
/-- one is put in -/
theorem iset_add {a : Addr} {ns : List Int} {k : Int} {tk : Tok} {Q : Bool → Shared → Prop} (hS : ISet w s.heap a ns) (hb : ns.length + 1 < 128)
    (h : ∀ h' ns' b, Heap.SameBut a s.heap h' → ISet w h' a ns' → (k ∈ ns ∧ ns' = ns) ∨ (k ∉ ns ∧ ns'.Perm (k :: ns)) → Q b { s with heap := h' }) :
    wpAny (model prog w) A (setAddHashed a (.int k tk) (hashInt k)) Q E s := by
  obtain ⟨o, es, ep, t, ho, hx, hd, p, nd, ok, led⟩ := hS.ex
  have hlen : es.size = ns.length := by rw [← Array.length_toList]; exact pairLen p
  have hel : ElemsOf (intKind prog w) es.toList := elemsI p
  have hsc : (Value.int k tk).scannable = true := rfl
  have hkey : (intKind prog w).is k (.int k tk) = true := by show Value.isInt k (.int k tk) = true; simp [Value.isInt]
  have hb2 : es.size < scanBound := by rw [hlen]; show ns.length < 4096; omega
  unfold setAddHashed setAddHashedIn
  refine wpAny_holding (wpAny_bind (wpAny_setState_of ho hd ok.fits ?_)); dsimp only
  rw [byScan_of hsc hb2 hel, if_pos rfl]
  unfold setAddByScan
  refine wpAny_bind (wpAny_bind (wpAny_rule (wpAny_bind (wpAny_setScan_of (knd := intKind prog w) hkey ho hd ok.fits hel ?_))))
  cases hr : List.findIdx? (fun e => (intKind prog w).is k e.2) es.toList with
  | some j =>
    obtain ⟨hj, hpj, _⟩ := List.findIdx?_eq_some_iff_getElem.mp hr
    have hm : k ∈ ns := by
      obtain ⟨n, hn, _, t', h2⟩ := pairMem p (List.getElem_mem hj)
      rw [h2] at hpj
      have : k = n := by
        have z : Value.isInt k (.int n t') = true := hpj
        obtain ⟨t2, e2⟩ := Value.isInt_shape z
        injection e2 with e3
        exact e3.symm
      rw [this]; exact hn
    dsimp only
    refine wpAny_pure (wpAny_pure ?_)
    have := h s.heap ns false (Heap.SameBut.refl a s.heap) hS (.inl ⟨hm, rfl⟩)
    cases s
    exact this
  | none =>
    have hm : k ∉ ns := fun hn => by
      obtain ⟨e, he, _, t', h2⟩ := pairMem' p hn
      have z := List.findIdx?_eq_none_iff.mp hr e he
      rw [h2] at z
      have z' : Value.isInt k (.int k t') = false := z
      simp [Value.isInt] at z'
    dsimp only
    have room := ok.room
    have hm7 : 7 ≤ t.mask := by
      have all : ∀ m ∈ sizes, 8 ≤ m := by decide
      have := all _ ok.msk
      omega
    obtain ⟨t1, pl, el, q1, q2, q3, q4, q5, q6, q7⟩ := layNew_ok ok (by omega) (hashInt k) (.int k tk)
    have el' : layNew t es ((intKind prog w).hash k) (.int k tk) = (insertAt es pl (hashInt k, .int k tk), t1, false, false) := el
    have perm1 := PySem.SetTable.insertAt_perm es pl (hashInt k, Value.int k tk)
    rw [Array.toList_push] at perm1
    obtain ⟨ns1, pn1, pp1⟩ := pairP perm1 (ss := ns ++ [k]) (Paired.snoc p ⟨rfl, tk, rfl⟩)
    have sz1 : (insertAt es pl (hashInt k, Value.int k tk)).size = es.size + 1 := by
      have z := perm1.length_eq
      simpa using z
    have pn : ns1.Perm (k :: ns) := pn1.trans (List.perm_append_comm (l₁ := ns) (l₂ := [k]))
    have nd1 : ns1.Nodup := pn.nodup_iff.mpr (List.nodup_cons.mpr ⟨hm, nd⟩)
    rw [show hashInt k = (intKind prog w).hash k from rfl, el']
    dsimp only
    refine wpAny_bind (wpAny_pure ?_)
    rw [q3, if_pos rfl]
    refine wpAny_bind ?_
    rw [hashByValue_scannable 8 hsc]
    refine wpAny_pure ?_
    have pk : (if plainKind (Value.int k tk) = true then t1 else ({ t1 with plain := false } : SetTable)) = t1 := rfl
    rw [pk]
    have hz1 : (insertAt es pl (hashInt k, Value.int k tk)).size ≤ sizeLine := by rw [sz1]; exact fits_of_scanBound (by show _ < 4096; omega)
    refine wpAny_bind (wpAny_storeSet_of ho hd ?_ hz1)
    have sb1 := Heap.SameBut.update s.heap a (Obj.putSet (insertAt es pl (hashInt k, Value.int k tk)) t1)
    have hg : (s.heap.update a (Obj.putSet (insertAt es pl (hashInt k, Value.int k tk)) t1)).get? a = some { o with data := .set (insertAt es pl (hashInt k, Value.int k tk)) (ep + 1) t1 } := by
      have e := Heap.get?_update_self (Obj.putSet (insertAt es pl (hashInt k, Value.int k tk)) t1) ho (by rw [putSet_of _ t1 hd]; rfl)
      rwa [putSet_of _ t1 hd] at e
    by_cases full : t1.tooFull = true
    · have cond : (!false && t1.tooFull) = true := by rw [full]; rfl
      rw [if_pos cond]
      obtain ⟨es2, t2, er, ok2, l2, perm2⟩ := relayAll_ok q3 (insertAt es pl (hashInt k, Value.int k tk)) (by rw [sz1]; omega)
      rw [er]
      dsimp only
      obtain ⟨ns2, pn2, pp2⟩ := pairP perm2 pp1
      have sz2 : es2.size = es.size + 1 := by
        have z := perm2.length_eq
        rw [Array.length_toList, Array.length_toList, sz1] at z
        exact z
      refine wpAny_bind (wpAny_pure ?_)
      have hz2 : es2.size ≤ sizeLine := by rw [sz2]; exact fits_of_scanBound (by show _ < 4096; omega)
      refine wpAny_bind (wpAny_storeSet_of hg rfl (wpAny_pure (wpAny_pure ?_)) hz2)
      obtain ⟨_, hS2⟩ := iset_stored (w := w) (es' := es2) (t' := t2) (ns' := ns2) hg hx rfl pp2 ((pn2.trans pn).nodup_iff.mpr (List.nodup_cons.mpr ⟨hm, nd⟩)) (by rw [sz1] at ok2; rw [sz2]; exact ok2) (fun z => by rw [l2, q2]; exact led z)
      exact h _ ns2 _ (sb1.trans (Heap.SameBut.update _ a _)) hS2 (.inr ⟨hm, pn2.trans pn⟩)
    · have cond : ¬ ((!false && t1.tooFull) = true) := by simpa using full
      rw [if_neg cond]
      have ok1 : TOk t1 (es.size + 1) := by
        refine ⟨q5, q6, fun y hy => by rw [q1]; exact q7 y hy, q4, q3, by rw [q1]; exact ok.msk, ?_⟩
        have z : ¬ (t1.fill * 5 ≥ t1.mask * 3) := fun z => full (by unfold SetTable.tooFull; exact decide_eq_true z)
        unfold SetTable.fill at z
        rw [q5, q4] at z
        have e0 : (#[] : Array Nat).size = 0 := rfl
        rw [e0] at z
        omega
      obtain ⟨_, hS1⟩ := iset_stored (w := w) (es' := insertAt es pl (hashInt k, Value.int k tk)) (t' := t1) (ns' := ns1) ho hx hd pp1 nd1 (by rw [sz1]; exact ok1) (fun z => by rw [q2]; exact led z)
      exact wpAny_pure (wpAny_pure (h _ ns1 _ sb1 hS1 (.inr ⟨hm, pn⟩)))
end
end Wr

set_option maxHeartbeats 4000000
namespace Wr
open PySem SetTable
theorem wp_ifF {M : Model} {A : Around} {α : Type} {c : Prop} [Decidable c] {a b : Sem α} {Q : α → Shared → Prop} {E : Value → Shared → Prop} {s : Shared} (hc : ¬ c) (h : wpAny M A b Q E s) : wpAny M A (if c then a else b) Q E s := by rw [if_neg hc]; exact h
theorem wp_ifT {M : Model} {A : Around} {α : Type} {c : Prop} [Decidable c] {a b : Sem α} {Q : α → Shared → Prop} {E : Value → Shared → Prop} {s : Shared} (hc : c) (h : wpAny M A a Q E s) : wpAny M A (if c then a else b) Q E s := by rw [if_pos hc]; exact h
theorem erase_perm {α : Type} : ∀ {l : List α} {i : Nat} (h : i < l.length), (l[i] :: l.eraseIdx i).Perm l
  | [], _, h => absurd h (Nat.not_lt_zero _)
  | x :: l, 0, _ => .refl _
  | x :: l, i + 1, h => (List.Perm.swap _ _ _).trans ((erase_perm (l := l) (i := i) (by simpa using h)).cons x)
theorem pick_go {α : Type} (next : Nat → Nat) : ∀ (fuel k : Nat) (left : List α) (out : Array α), left.length = fuel → (pickOrder.go next fuel k left out).toList.Perm (out.toList ++ left)
  | 0, _, left, out, h => by
    have : left = [] := List.length_eq_zero_iff.mp h
    subst this
    unfold pickOrder.go
    rw [List.append_nil]
  | fuel + 1, k, left, out, h => by
    unfold pickOrder.go
    have hl : next k % left.length < left.length := Nat.mod_lt _ (by omega)
    rw [List.getElem?_eq_getElem hl]
    dsimp only
    refine (pick_go next fuel (k + 1) _ _ (by rw [List.length_eraseIdx_of_lt hl]; omega)).trans ?_
    rw [Array.toList_push, List.append_assoc]
    refine List.Perm.append_left _ ?_
    show (left[next k % left.length] :: left.eraseIdx (next k % left.length)).Perm left
    exact erase_perm hl
theorem pick_perm {α : Type} (next : Nat → Nat) (xs : Array α) : (pickOrder next xs).toList.Perm xs.toList := by
  unfold pickOrder
  have := pick_go next xs.size 0 xs.toList #[] (by simp)
  simpa using this
section
variable {prog : Program} {w : World} {A : Around} {E : Value → Shared → Prop} {s : Shared}
/-- the raw facts, with the table -/
structure RSet (w : World) (h : Heap) (a : Addr) (ns : List Int) (o : Obj) (es : Array (Int × Value)) (ep : Nat) (t : SetTable) : Prop where
  at' : h.get? a = some o
  ex : o.ExactSet
  dat : o.data = .set es ep t
  prs : Paired ElemI es.toList ns
  nd : ns.Nodup
  ok : TOk t es.size
  led : byTx w = false → t.led = true
theorem ISet.raw {h : Heap} {a : Addr} {ns : List Int} (x : ISet w h a ns) : ∃ o es ep t, RSet w h a ns o es ep t :=
  let ⟨o, es, ep, t, h1, h2, h3, h4, h5, h6, h7⟩ := x.ex; ⟨o, es, ep, t, h1, h2, h3, h4, h5, h6, h7⟩
theorem RSet.iset {h : Heap} {a : Addr} {ns : List Int} {o : Obj} {es : Array (Int × Value)} {ep : Nat} {t : SetTable} (x : RSet w h a ns o es ep t) : ISet w h a ns := ⟨o, es, ep, t, x.at', x.ex, x.dat, x.prs, x.nd, x.ok, x.led⟩
theorem RSet.len {h : Heap} {a : Addr} {ns : List Int} {o : Obj} {es : Array (Int × Value)} {ep : Nat} {t : SetTable} (x : RSet w h a ns o es ep t) : es.size = ns.length := by rw [← Array.length_toList]; exact pairLen x.prs
theorem RSet.state {a : Addr} {ns : List Int} {o : Obj} {es : Array (Int × Value)} {ep : Nat} {t : SetTable} {Q : (Array (Int × Value) × Nat × SetTable) → Shared → Prop} (x : RSet w s.heap a ns o es ep t) (h : Q (es, ep, t) s) :
    wpAny (model prog w) A (setState a) Q E s := wpAny_setState_of x.at' x.dat x.ok.fits h
/-- room is made -/
theorem iset_room {a : Addr} {ns : List Int} {more : Nat} {Q : Unit → Shared → Prop} (hS : ISet w s.heap a ns) (hb : ns.length + more < 128)
    (h : ∀ h' ns' o es ep t, Heap.SameBut a s.heap h' → RSet w h' a ns' o es ep t → ns'.Perm ns → (ns.length + more) * 5 < t.mask * 3 → Q () { s with heap := h' }) :
    wpAny (model prog w) A (setRoomFor a more) Q E s := by
  obtain ⟨o, es, ep, t, R⟩ := hS.raw
  have hlen := R.len
  unfold setRoomFor
  refine wpAny_bind (R.state ?_)
  dsimp only
  have hfill : t.fill = es.size := by unfold SetTable.fill; rw [R.ok.nod, R.ok.sz]; rfl
  by_cases hc : (t.fill + more) * 5 ≥ t.mask * 3
  · have hr : t.roomFor more = some ((t.place.size + more) * 2) := by unfold SetTable.roomFor; rw [if_pos hc]
    rw [hr]
    dsimp only
    unfold setRelay
    refine wpAny_bind (R.state ?_)
    dsimp only
    have hw : (t.place.size + more) * 2 < 512 := by rw [R.ok.sz]; omega
    obtain ⟨m, hm, em, hlt⟩ := sizeAbove_in hw
    have hm512 : m ≤ 512 ∧ 8 ≤ m := by
      have all : ∀ m ∈ [8, 16, 32, 64, 128, 256, 512], m ≤ 512 ∧ 8 ≤ m := by decide
      exact all m hm
    refine wp_ifF (by rw [em, sizeLine_eq]; omega) ?_
    obtain ⟨t', order, e, ok, hl, hp⟩ := relaid_ok t R.ok.plain (es.map (·.1)) hw (by rw [Array.size_map, R.ok.sz]; omega)
    rw [Array.size_map] at ok hp
    have pk := picked_perm es order hp
    have sz : (order.filterMap (es[·]?)).size = es.size := by
      have z := pk.length_eq
      rw [Array.length_toList, Array.length_toList] at z
      exact z
    rw [e]
    refine wpAny_bind (wp_ifF (c := ((order.filterMap (es[·]?)).size != es.size) = true) (by rw [sz]; simp) (wpAny_pure ?_))
    dsimp only
    have hz : (order.filterMap (es[·]?)).size ≤ sizeLine := by rw [sz, hlen]; exact fits_of_scanBound (by show _ < 4096; omega)
    refine wpAny_storeSet_of R.at' R.dat ?_ hz
    obtain ⟨ns', pn, pp⟩ := pairP pk R.prs
    have hg : (s.heap.update a (Obj.putSet (order.filterMap (es[·]?)) t')).get? a = some { o with data := .set (order.filterMap (es[·]?)) (ep + 1) t' } := by
      have z := Heap.get?_update_self (Obj.putSet (order.filterMap (es[·]?)) t') R.at' (by rw [putSet_of _ t' R.dat]; rfl)
      rwa [putSet_of _ t' R.dat] at z
    have hmask : t'.mask = m - 1 := by
      obtain ⟨t2, o2, e2, q1, _⟩ := relaid_some t (es.map (·.1)) hw (by rw [Array.size_map, R.ok.sz]; omega)
      rw [e] at e2
      cases e2
      rw [q1, em]
    refine h _ ns' _ (order.filterMap (es[·]?)) (ep + 1) t' (Heap.SameBut.update _ a _) ⟨hg, R.ex, rfl, pp, pn.nodup_iff.mpr R.nd, by rw [sz]; exact ok, fun z => by rw [hl]; exact R.led z⟩ pn ?_
    rw [hmask]
    rw [R.ok.sz, hlen] at hlt
    omega
  · have hr : t.roomFor more = none := by unfold SetTable.roomFor; rw [if_neg hc]
    rw [hr]
    dsimp only
    refine wpAny_pure ?_
    have := h s.heap ns o es ep t (Heap.SameBut.refl a s.heap) R (.refl _) (by rw [hfill, hlen] at hc; omega)
    cases s
    exact this
/-- a set's members as they are walked, unseen -/
theorem iset_walk {a : Addr} {ns : List Int} {Q : Array (Int × Value) → Shared → Prop} {o : Obj} {es : Array (Int × Value)} {ep : Nat} {t : SetTable} (R : RSet w s.heap a ns o es ep t) (others : List Addr) (f : Option Addr)
    (h : ∀ es' : Array (Int × Value), es'.toList.Perm es.toList → Q es' s) : wpAny (model prog w) A (setWalkUnseen a others f) Q E s := by
  have walk : wpAny (model prog w) A (setWalk a) Q E s := by
    unfold setWalk setsByText
    refine wpAny_bind (R.state ?_)
    dsimp only
    refine wpAny_bind (wpAny_bind (wpAny_askSetting (wpAny_pure ?_)))
    cases hb : byTx w with
    | true =>
      refine wp_ifT hb (wpAny_bind (wpAny_askSetting (wpAny_pure (h _ (pick_perm _ es)))))
    | false =>
      refine wp_ifF (by show ¬ (byTx w = true); rw [hb]; decide) ?_
      refine wp_ifF (c := ((!t.plain && decide (es.size > 1)) = true)) (by rw [R.ok.plain]; simp) ?_
      refine wpAny_bind (wp_ifF (c := ((!t.led && decide (es.size > 1)) = true)) (by rw [R.led hb]; simp) (wpAny_pure (wpAny_pure (h es (.refl _)))))
  unfold setWalkUnseen setsByText
  refine wpAny_bind (R.state ?_)
  dsimp only
  refine wpAny_bind (wpAny_bind (wpAny_askSetting (wpAny_pure ?_)))
  refine wp_ifT ?_ walk
  rw [R.ok.plain, Bool.and_true]
  show (byTx w || t.led || decide (es.size ≤ 1)) = true
  cases hb : byTx w with
  | true => rfl
  | false => rw [R.led hb]; rfl
end
end Wr

set_option maxHeartbeats 4000000
namespace Wr
open PySem SetTable
section
variable {prog : Program} {w : World} {A : Around} {E : Value → Shared → Prop} {s : Shared}
theorem fresh_ok (led : Bool) : TOk (SetTable.fresh 0 0 led) 0 := ⟨rfl, List.Pairwise.nil, (fun x h => nomatch h), rfl, rfl, by show (8 : Nat) ∈ sizes; decide, by show 0 * 5 < 7 * 3; decide⟩
abbrev freshSet (led : Bool) : Obj := { cls := .type "set", dict := none, data := .set #[] 0 (.fresh 0 0 led) }
theorem iset_fresh (h : Heap) : ISet w (h.push (freshSet (!byTx w))) h.objs.size [] :=
  ⟨_, #[], 0, _, Heap.get?_push_size _ rfl, ⟨rfl, rfl, rfl⟩, rfl, .nil, List.nodup_nil, fresh_ok _, fun z => by show (!byTx w) = true; rw [z]; rfl⟩
theorem iset_new {Q : Value → Shared → Prop} (h : Q (.ref s.heap.objs.size) { s with heap := s.heap.push (freshSet (!byTx w)) }) : wpAny (model prog w) A (newSet (.type "set")) Q E s := by
  unfold newSet setsByText
  refine wpAny_bind (wpAny_bind (wpAny_askSetting (wpAny_pure ?_))); dsimp only
  simp only [newObj]
  exact wpAny_bind (wpAny_alloc (wpAny_pure h))
theorem pairKey {es : List (Int × Value)} {ns : List Int} (p : Paired ElemI es ns) : ∀ e ∈ es, ∃ n t, e = (hashInt n, .int n t) := fun e he => by
  obtain ⟨n, _, h1, t, h2⟩ := pairMem p he
  exact ⟨n, t, by rw [← h1, ← h2]⟩
/-- one set's members are put to another's -/
theorem iset_merge {r a : Addr} {ms ns : List Int} {each : Sem Unit} {Q : Unit → Shared → Prop} (hra : r ≠ a) (hr : ISet w s.heap r ms) {o : Obj} {es : Array (Int × Value)} {ep : Nat} {t : SetTable} (Ra : RSet w s.heap a ns o es ep t) (hb : ms.length + ns.length < 127)
    (he : ∀ (s' : Shared) (Q' : Unit → Shared → Prop), s'.heap.get? a = some o → Q' () s' → wpAny (model prog w) A each Q' E s')
    (h : ∀ h' ms', Heap.SameBut r s.heap h' → ISet w h' r ms' → (∀ x, x ∈ ms' ↔ x ∈ ms ∨ x ∈ ns) → ms'.length ≤ ms.length + ns.length → Q () { s with heap := h' }) :
    wpAny (model prog w) A (setMerge r a each) Q E s := by
  have hlen := Ra.len
  unfold setMerge
  refine wp_ifF (by simpa using hra) ?_
  refine wpAny_bind (Ra.state ?_)
  dsimp only
  by_cases hem : es.isEmpty = true
  · refine wp_ifT hem (wpAny_pure ?_)
    have e0 : ns = [] := by
      have z : es.size = 0 := by simpa using hem
      rw [hlen] at z
      exact List.length_eq_zero_iff.mp z
    have := h s.heap ms (Heap.SameBut.refl r s.heap) hr (fun x => by rw [e0]; simp) (by omega)
    cases s
    exact this
  refine wp_ifF hem ?_
  refine wpAny_bind (iset_room hr (by omega) fun h1 ms1 o1 es1 ep1 t1 sb1 R1 pm1 room1 => ?_)
  rw [hlen] at room1
  have hlen1 := R1.len
  have hm1 : ms1.length = ms.length := pm1.length_eq
  have Ra1 : RSet w h1 a ns o es ep t := ⟨(sb1.2 a (Ne.symm hra)).trans Ra.at', Ra.ex, Ra.dat, Ra.prs, Ra.nd, Ra.ok, Ra.led⟩
  refine wpAny_bind (R1.state (s := { s with heap := h1 }) ?_)
  dsimp only
  have hfill : t1.fill = es1.size := by unfold SetTable.fill; rw [R1.ok.nod, R1.ok.sz]; rfl
  have ndd : t.dummies.isEmpty = true := by rw [Ra.ok.nod]; rfl
  have hz : es.size ≤ sizeLine := by rw [hlen]; exact fits_of_scanBound (by show _ < 4096; omega)
  by_cases hf : (t1.fill != 0) = true
  · have hroad : t1.road t = .oneByOne := by unfold SetTable.road; rw [if_pos hf]
    rw [hroad]
    dsimp only
    refine wpAny_bind (iset_walk (s := { s with heap := h1 }) Ra1 _ _ fun es' pes => ?_)
    obtain ⟨ns', pns, pp⟩ := pairP pes Ra.prs
    refine wpAny_bind (PySem.MeetsSeq2.wpAny_forIn_array _ (fun rest _ s' => ∃ h' ms' rs, s' = { s with heap := h' } ∧ Heap.SameBut r s.heap h' ∧ ISet w h' r ms' ∧ Paired ElemI rest rs ∧ (∀ x, (x ∈ ms' ∨ x ∈ rs) ↔ (x ∈ ms ∨ x ∈ ns)) ∧ ms'.length + rs.length ≤ ms.length + ns.length) _ ?_ ?_ es' PUnit.unit
      ⟨h1, ms1, ns', rfl, sb1, R1.iset, pp, fun x => by rw [pm1.mem_iff, pns.mem_iff], by rw [hm1, pns.length_eq]; exact Nat.le_refl _⟩)
    · rintro x rest b s' ⟨h', ms', rs, rfl, sb', hS', pr, mem', len'⟩
      cases pr with
      | cons rx rt =>
        rename_i n rs'
        obtain ⟨k1, tk, k2⟩ := rx
        obtain ⟨xh, xv⟩ := x
        have k1' : xh = hashInt n := k1
        have k2' : xv = .int n tk := k2
        subst k1' k2'
        rw [List.length_cons] at len'
        dsimp only
        refine wpAny_bind (wpAny_holding (iset_add (s := { s with heap := h' }) hS' (by omega) fun h2 ms2 bb sb2 hS2 alt => ?_))
        have aa : h2.get? a = some o := (sb2.2 a (Ne.symm hra)).trans ((sb'.2 a (Ne.symm hra)).trans Ra.at')
        refine wpAny_bind (he _ _ aa ?_)
        refine wpAny_bind (wpAny_setState_of (s := { s with heap := h2 }) aa Ra.dat Ra.ok.fits ?_)
        dsimp only
        refine wp_ifF (by simp) (wpAny_pure ?_)
        refine ⟨h2, ms2, rs', rfl, sb'.trans sb2, hS2, rt, fun x => ?_, ?_⟩
        · rw [← mem' x, List.mem_cons]
          rcases alt with ⟨i1, rfl⟩ | ⟨i1, i2⟩
          · constructor
            · rintro (z | z)
              · exact .inl z
              · exact .inr (.inr z)
            · rintro (z | z | z)
              · exact .inl z
              · rw [z]; exact .inl i1
              · exact .inr z
          · rw [i2.mem_iff, List.mem_cons]
            constructor
            · rintro ((z | z) | z)
              · exact .inr (.inl z)
              · exact .inl z
              · exact .inr (.inr z)
            · rintro (z | z | z)
              · exact .inl (.inr z)
              · exact .inl (.inl z)
              · exact .inr z
        · rcases alt with ⟨_, rfl⟩ | ⟨_, i2⟩
          · omega
          · rw [i2.length_eq, List.length_cons]; omega
    · rintro b s' ⟨h', ms', rs, rfl, sb', hS', pr, mem', len'⟩
      cases pr
      exact wpAny_pure (h h' ms' sb' hS' (fun x => by rw [← mem' x]; simp) (by rw [List.length_nil] at len'; omega))
  · have z0 : es1.size = 0 := by
      have : t1.fill = 0 := by simpa using hf
      omega
    have ms0 : ms = [] := by
      rw [hlen1, hm1] at z0
      exact List.length_eq_zero_iff.mp z0
    by_cases hm : (t1.mask == t.mask && t.dummies.isEmpty) = true
    · have hroad : t1.road t = .slotForSlot := by unfold SetTable.road; rw [if_neg hf, if_pos hm]
      rw [hroad]
      dsimp only
      refine wpAny_storeSet_of (s := { s with heap := h1 }) R1.at' R1.dat ?_ hz
      obtain ⟨_, hS2⟩ := iset_stored (w := w) (es' := es) (t' := { t with finger := t1.finger, led := t1.led && t.led, moves := t1.moves, plain := t1.plain && t.plain }) (ns' := ns) R1.at' R1.ex R1.dat Ra.prs Ra.nd
        ⟨Ra.ok.sz, Ra.ok.rise, Ra.ok.inn, Ra.ok.nod, by show (t1.plain && t.plain) = true; rw [R1.ok.plain, Ra.ok.plain]; rfl, Ra.ok.msk, Ra.ok.room⟩ (fun z => by show (t1.led && t.led) = true; rw [R1.led z, Ra.led z]; rfl)
      exact h _ ns (sb1.trans (Heap.SameBut.update _ r _)) hS2 (fun x => by rw [ms0]; simp) (by omega)
    · have hroad : t1.road t = .clean := by unfold SetTable.road; rw [if_neg hf, if_neg hm]
      rw [hroad]
      dsimp only
      obtain ⟨t2, order, e, q1, q2, q3, q4, q5, q6, q7⟩ := laid_some (mask := t1.mask) (cyc_all _ R1.ok.msk) t1.finger t1.moves (t1.led && t.led) (t1.plain && t.plain) (es.map (·.1)) (by rw [Array.size_map]; omega)
      rw [Array.size_map] at q6 q7
      have pk := picked_perm es order q7
      have sz : (order.filterMap (es[·]?)).size = es.size := by
        have z := pk.length_eq
        rw [Array.length_toList, Array.length_toList] at z
        exact z
      rw [e]
      refine wpAny_bind (wp_ifF (c := ((order.filterMap (es[·]?)).size != es.size) = true) (by rw [sz]; simp) (wpAny_pure ?_))
      dsimp only
      obtain ⟨ns2, pn2, pp2⟩ := pairP pk Ra.prs
      refine wpAny_storeSet_of (s := { s with heap := h1 }) R1.at' R1.dat ?_ (by rw [sz]; exact hz)
      have inn2 : ∀ x ∈ t2.place.toList, x ≤ t2.mask := by
        rw [q1]
        exact laid_in e
      obtain ⟨_, hS2⟩ := iset_stored (w := w) (es' := order.filterMap (es[·]?)) (t' := t2) (ns' := ns2) R1.at' R1.ex R1.dat pp2 (pn2.nodup_iff.mpr Ra.nd)
        ⟨by rw [sz]; exact q6, (laid_rise e).1, inn2, q2, by rw [q5, R1.ok.plain, Ra.ok.plain]; rfl, by rw [q1]; exact R1.ok.msk, by rw [sz, q1, hlen]; omega⟩ (fun z => by rw [q4, R1.led z, Ra.led z]; rfl)
      exact h _ ns2 (sb1.trans (Heap.SameBut.update _ r _)) hS2 (fun x => by rw [ms0, pn2.mem_iff]; simp) (by rw [pn2.length_eq]; omega)
where
  laid_in {mask finger moves : Nat} {led plain : Bool} {hashes : Array Int} {t : SetTable} {order : Array Nat} (e : SetTable.laid mask finger moves led plain hashes = some (t, order)) : ∀ x ∈ t.place.toList, x ≤ mask := by
    unfold SetTable.laid at e
    cases q : layClean mask hashes with
    | none => rw [q] at e; cases e
    | some o =>
      rw [q] at e
      cases e
      intro x hx
      have hx' : x ∈ ((List.range (mask + 1)).filterMap fun j => (o.getD j none).map fun x => (j, x)).map (·.1) := by simpa using hx
      obtain ⟨y, hy, rfl⟩ := List.mem_map.mp hx'
      obtain ⟨j, hj, hjy⟩ := List.mem_filterMap.mp hy
      have := List.mem_range.mp hj
      cases q2 : o.getD j none with
      | none => rw [q2] at hjy; cases hjy
      | some z => rw [q2] at hjy; cases hjy; show j ≤ mask; omega
theorem iset_type {a : Addr} {ns : List Int} (hS : ISet w s.heap a ns) : s.TypeIs (.ref a) "set" := by
  obtain ⟨o, es, ep, t, R⟩ := hS.raw
  exact ⟨o, R.at', R.ex.1⟩
/-- a copy -/
theorem iset_copy {a : Addr} {ns : List Int} {Q : Value → Shared → Prop} (hS : ISet w s.heap a ns) (hb : ns.length < 127)
    (h : ∀ h' ms', (∀ b o, s.heap.get? b = some o → h'.get? b = some o) → ISet w h' s.heap.objs.size ms' → (∀ x, x ∈ ms' ↔ x ∈ ns) → ms'.length ≤ ns.length → Q (.ref s.heap.objs.size) { s with heap := h' }) :
    wpAny (model prog w) A (Builtin.Frozenset.copyOf a) Q E s := by
  obtain ⟨o, es, ep, t, R⟩ := hS.raw
  have hlt : a < s.heap.objs.size := Heap.lt_size R.at'
  unfold Builtin.Frozenset.copyOf Builtin.Frozenset.baseOf
  refine wpAny_bind (wpAny_bind (wpAny_isInstance (iset_type hS) sub_set_self (wpAny_pure ?_)))
  rw [if_pos rfl]
  refine wpAny_bind (iset_new ?_)
  have R1 : RSet w (s.heap.push (freshSet (!byTx w))) a ns o es ep t := ⟨Heap.get?_push_of_some _ R.at', R.ex, R.dat, R.prs, R.nd, R.ok, R.led⟩
  refine wpAny_bind (wpAny_pure ?_)
  refine wpAny_bind (iset_merge (s := { s with heap := s.heap.push (freshSet (!byTx w)) }) (Nat.ne_of_gt hlt) (iset_fresh s.heap) R1 (by simpa using hb) (fun s' Q' _ hq => wpAny_pure hq) fun h' ms' sb hS' mem len => wpAny_pure ?_)
  exact h h' ms' (fun b ob q => (sb.2 b (Nat.ne_of_lt (Heap.lt_size q))).trans (Heap.get?_push_of_some _ q)) hS' (fun x => by rw [mem x]; simp) (by simpa using len)
end
end Wr

set_option maxHeartbeats 4000000
namespace Wr
open PySem SetTable
/-! ### the walk over a set -/
theorem slot_sit_next : Slot "set_iterator" "__next__" "set_iterator.__next__" := .of (owner := "set_iterator") (n := "__next__") (by rw [typeLookup_type, builtinLookup_eq_fast]; kernel_rfl) (by decide +kernel) (by decide +kernel) (by decide +kernel) (by first | exact .inl (by decide +kernel) | exact .inr (by decide +kernel)) (by rw [isSubtype_type]; kernel_rfl)
theorem slot_sit_iter : Slot "set_iterator" "__iter__" "set_iterator.__iter__" := .of (owner := "set_iterator") (n := "__iter__") (by rw [typeLookup_type, builtinLookup_eq_fast]; kernel_rfl) (by decide +kernel) (by decide +kernel) (by decide +kernel) (by first | exact .inl (by decide +kernel) | exact .inr (by decide +kernel)) (by rw [isSubtype_type]; kernel_rfl)
theorem entry_sit_next : entryFor table "set_iterator.__next__" = some Builtin.«set_iterator.__next__» := entryFor_of_tree (by kernel_rfl)
theorem args_sit_next (a : Value) : argsOk "set_iterator.__next__" ⟨[a], []⟩ := by unfold argsOk; kernel_rfl
theorem entry_set_iter' : entryFor table "set.__iter__" = some Builtin.«frozenset.__iter__» := entryFor_alias (id' := "frozenset.__iter__") (by kernel_rfl) rfl (by decide +kernel) (by kernel_rfl)
theorem entry_set_or' : entryFor table "set.__or__" = some Builtin.«frozenset.__or__» := entryFor_alias (id' := "frozenset.__or__") (by kernel_rfl) rfl (by decide +kernel) (by kernel_rfl)
/-- the iterator's record -/
def IsSIt (h : Heap) (it a : Addr) (slot i n ep : Nat) : Prop := ∃ o, h.get? it = some o ∧ o.cls = .type "set_iterator" ∧ o.data = .fields #[rawInt slot, rawInt i, .ref a, rawInt n, rawInt ep]
section
variable {prog : Program} {w : World} {A : Around} {E : Value → Shared → Prop} {s : Shared}
/-- how the set's members are walked -/
def walked (w : World) (a : Addr) (es : Array (Int × Value)) (ep : Nat) : Array (Int × Value) := if byTx w then pickOrder (w.params.setOrder a ep) es else es
theorem walked_perm (w : World) (a : Addr) (es : Array (Int × Value)) (ep : Nat) : (walked w a es ep).toList.Perm es.toList := by
  unfold walked
  split
  · exact pick_perm _ _
  · exact .refl _
theorem cnt_at {l : List Nat} (h : Rise l) {i : Nat} (hi : i < l.length) : cnt l (l[i] + 1) = i + 1 := by
  have below : ∀ k (hk : k < l.length), k ≤ i → k < cnt l (l[i] + 1) := fun k hk hki => by
    refine (rise_split h k l[k] (by simp [hk]) _).mp ?_
    rcases Nat.lt_or_eq_of_le hki with z | z
    · have := List.pairwise_iff_getElem.mp h k i hk hi z; omega
    · subst z; omega
  have above : ∀ k (hk : k < l.length), i < k → ¬ k < cnt l (l[i] + 1) := fun k hk hik z => by
    have q := (rise_split h k l[k] (by simp [hk]) _).mpr z
    have := List.pairwise_iff_getElem.mp h i k hi hk hik
    omega
  have h1 := below i hi (Nat.le_refl _)
  have h3 := cnt_le l (l[i] + 1)
  by_cases hlast : i + 1 < l.length
  · have := above (i + 1) hlast (by omega)
    omega
  · omega
structure SSt (w : World) (h : Heap) (it a : Addr) (ns : List Int) (o : Obj) (es : Array (Int × Value)) (ep : Nat) (t : SetTable) (i : Nat) : Prop where
  ex : ∃ slot, IsSIt h it a slot i es.size ep ∧ (byTx w = false → cnt t.place.toList slot = i)
  rs : RSet w h a ns o es ep t
theorem set_next {a : Addr} {ns : List Int} {o : Obj} {es : Array (Int × Value)} {ep : Nat} {t : SetTable} (R : RSet w s.heap a ns o es ep t) {slot i : Nat} (hs : byTx w = false → cnt t.place.toList slot = i) {Q : Option (Value × Nat) → Shared → Prop}
    (h1 : ∀ v next, ((walked w a es ep)[i]?).map (·.2) = some v → (byTx w = false → cnt t.place.toList next = i + 1) → Q (some (v, next)) s) (h2 : es.size ≤ i → Q none s) : wpAny (model prog w) A (setNext a slot i ep) Q E s := by
  unfold setNext setsByText
  refine wpAny_bind (R.state ?_); dsimp only
  refine wpAny_bind (wpAny_bind (wpAny_askSetting (wpAny_pure ?_)))
  cases hb : byTx w with
  | true =>
    refine wp_ifT hb ?_
    refine wp_ifF (by simp) ?_
    have wk : wpAny (model prog w) A (setWalk a) (fun es' s' => s' = s ∧ es' = walked w a es ep) E s := by
      unfold setWalk setsByText
      refine wpAny_bind (R.state ?_); dsimp only
      refine wpAny_bind (wpAny_bind (wpAny_askSetting (wpAny_pure (wp_ifT hb ?_))))
      refine wpAny_bind (wpAny_askSetting (wpAny_pure ⟨rfl, ?_⟩))
      unfold walked
      rw [if_pos hb]
      rfl
    refine wpAny_bind (wpAny_mono wk (fun es' s' ⟨e1, e2⟩ => ?_) fun _ _ z => z)
    subst e1 e2
    refine wpAny_pure ?_
    cases q : (walked w a es ep)[i]? with
    | none =>
      refine h2 ?_
      have z : (walked w a es ep).size ≤ i := by simpa using q
      have y := (walked_perm w a es ep).length_eq
      rw [Array.length_toList, Array.length_toList] at y
      omega
    | some x => exact h1 x.2 slot (by rw [q]; rfl) fun z => by rw [hb] at z; cases z
  | false =>
    refine wp_ifF (by show ¬ (byTx w = true); rw [hb]; decide) ?_
    refine wp_ifF (c := ((!t.plain && decide (es.size > 1)) = true)) (by rw [R.ok.plain]; simp) ?_
    refine wpAny_bind (wp_ifF (c := ((!t.led && !es.isEmpty) = true)) (by rw [R.led hb]; simp) (wpAny_pure ?_))
    have ew : walked w a es ep = es := by unfold walked; rw [if_neg (by rw [hb]; decide)]
    have eb : below t.place slot = i := by rw [below_eq R.ok.rise]; exact hs hb
    rw [eb]
    refine wpAny_pure ?_
    by_cases hi : i < es.size
    · have hi2 : i < t.place.size := by rw [R.ok.sz]; exact hi
      have e1 : es[i]? = some es[i] := by simp [hi]
      have e2 : t.place[i]? = some t.place[i] := by simp [hi2]
      rw [e1, e2]
      refine h1 es[i].2 (t.place[i] + 1) (by rw [ew, e1]; rfl) fun _ => ?_
      have := cnt_at R.ok.rise (i := i) (by simpa using hi2)
      simpa using this
    · have e1 : es[i]? = none := by simp; omega
      rw [e1]
      exact h2 (by omega)
theorem sit_type {h : Heap} {it a : Addr} {slot i n ep : Nat} {g : Array GenState} {d : Drawn} {tk : Nat} {os : _} (x : IsSIt h it a slot i n ep) : Shared.TypeIs ⟨h, g, d, tk, os⟩ (.ref it) "set_iterator" := let ⟨o, e, c, _⟩ := x; ⟨o, e, c⟩
theorem sit_keeps {h h' : Heap} {it a : Addr} {slot i n ep : Nat} (x : IsSIt h it a slot i n ep) (k : ∀ o, h.get? it = some o → h'.get? it = some o) : IsSIt h' it a slot i n ep := let ⟨o, e, r⟩ := x; ⟨o, k _ e, r⟩
/-- one more is given -/
theorem sit_item {it a : Addr} {ns : List Int} {o : Obj} {es : Array (Int × Value)} {ep : Nat} {t : SetTable} {i : Nat} {Q : Option Value → Shared → Prop} (hne : a ≠ it) (st : SSt w s.heap it a ns o es ep t i) (hi : i < es.size)
    (hQ : ∀ v h', ((walked w a es ep)[i]?).map (·.2) = some v → SSt w h' it a ns o es ep t (i + 1) → Heap.SameBut it s.heap h' → Q (some v) { s with heap := h' }) : wpAny (model prog w) A (pyNext (.ref it)) Q E s := by
  obtain ⟨⟨slot, hit, hsl⟩, R⟩ := st
  obtain ⟨oi, ho, hc, hd⟩ := id hit
  have hT : s.TypeIs (.ref it) "set_iterator" := ⟨oi, ho, hc⟩
  unfold pyNext
  refine wpAny_bind (wpAny_attempt (wpAny_callSpecial?_slot (name := Str.ofString "__next__") hT slot_sit_next (wpAny_call_entry slot_sit_next hT entry_sit_next ?_ (args_sit_next _))))
  unfold Builtin.«set_iterator.__next__»
  refine wpAny_bind (wpAny_pure ?_); dsimp only
  refine wpAny_bind (wpAny_fieldsOf ho hd ?_)
  show wpAny _ _ (setEntries a >>= _) _ _ _
  refine wpAny_bind (wpAny_setEntries_of R.at' R.dat R.ok.fits ?_)
  refine wp_ifF (by simp) ?_
  show wpAny _ _ (setNext a slot i ep >>= _) _ _ _
  refine wpAny_bind (set_next R hsl (fun v next hv hn => ?_) fun z => absurd z (by omega))
  dsimp only
  refine wpAny_bind (wpAny_setField ho hd (by simp) ?_)
  have hg1 : (s.heap.update it (Obj.mapFields (·.setIfInBounds 0 (rawInt next)))).get? it = some (Obj.mapFields (·.setIfInBounds 0 (rawInt next)) oi) := Heap.get?_update_self _ ho (Obj.isFreed_of_fields (Obj.data_mapFields hd _))
  have hd1 := Obj.data_mapFields hd (fun x : Array Value => x.setIfInBounds 0 (rawInt next))
  refine wpAny_bind (wpAny_setField (s := { s with heap := s.heap.update it (Obj.mapFields (·.setIfInBounds 0 (rawInt next))) }) hg1 hd1 (by simp) ?_)
  have sb : Heap.SameBut it s.heap ((s.heap.update it (Obj.mapFields (·.setIfInBounds 0 (rawInt next)))).update it (Obj.mapFields (·.setIfInBounds 1 (rawInt ((i : Int) + 1))))) := (Heap.SameBut.update ..).trans (Heap.SameBut.update ..)
  have hg2 := Heap.get?_update_self (Obj.mapFields (·.setIfInBounds 1 (rawInt ((i : Int) + 1)))) hg1 (Obj.isFreed_of_fields (Obj.data_mapFields hd1 _))
  refine wpAny_pure ⟨_, rfl, wpAny_pure (hQ v _ hv ⟨⟨next, ⟨_, hg2, (Obj.cls_mapFields ..).trans ((Obj.cls_mapFields ..).trans hc), ?_⟩, hn⟩, ⟨(sb.2 a hne).trans R.at', R.ex, R.dat, R.prs, R.nd, R.ok, R.led⟩⟩ sb)⟩
  rw [Obj.data_mapFields hd1]
  simp [rawInt]
/-- none is left -/
theorem sit_end {it a : Addr} {ns : List Int} {o : Obj} {es : Array (Int × Value)} {ep : Nat} {t : SetTable} {Q : Option Value → Shared → Prop} (hh : A.handled = none) (st : SSt w s.heap it a ns o es ep t es.size)
    (hQ : ∀ h', Heap.ExtBut it s.heap h' → Q none { s with heap := h' }) : wpAny (model prog w) A (pyNext (.ref it)) Q E s := by
  obtain ⟨⟨slot, hit, hsl⟩, R⟩ := st
  obtain ⟨oi, ho, hc, hd⟩ := id hit
  have hT : s.TypeIs (.ref it) "set_iterator" := ⟨oi, ho, hc⟩
  unfold pyNext
  refine wpAny_bind (wpAny_attempt (wpAny_callSpecial?_slot (name := Str.ofString "__next__") hT slot_sit_next (wpAny_call_entry slot_sit_next hT entry_sit_next ?_ (args_sit_next _))))
  unfold Builtin.«set_iterator.__next__»
  refine wpAny_bind (wpAny_pure ?_); dsimp only
  refine wpAny_bind (wpAny_fieldsOf ho hd ?_)
  show wpAny _ _ (setEntries a >>= _) _ _ _
  refine wpAny_bind (wpAny_setEntries_of R.at' R.dat R.ok.fits ?_)
  refine wp_ifF (by simp) ?_
  show wpAny _ _ (setNext a slot es.size ep >>= _) _ _ _
  have wl : (walked w a es ep).size = es.size := by
    have y := (walked_perm w a es ep).length_eq
    rwa [Array.length_toList, Array.length_toList] at y
  refine wpAny_bind (set_next R hsl (fun v next hv hn => ?_) fun _ => ?_)
  · rw [Array.getElem?_eq_none (by omega)] at hv
    cases hv
  dsimp only
  refine wpAny_bind (wpAny_setField ho hd (by simp) ?_)
  refine wpAny_bind ?_
  simp only [newExc, newTuple]
  refine wpAny_bind (wpAny_newObj_type (wpAny_bind (m := firstArgMember _ _) (wpAny_of_eq (a := Value.none) (by first | rfl | (simp only [firstArgMember]; rfl)) (wpAny_newObj_type ?_ (by size_fits)))) (by size_fits))
  simp only [raiseNew]
  refine wpAny_bind (wpAny_handled ?_); rw [show A.in1.handled = none from hh]
  refine wpAny_bind (wpAny_pure (wpAny_throw ?_)); refine wpAny_bind (wpAny_isInstance (T := "StopIteration") (b := true) ⟨_, Heap.get?_push_size _ rfl, rfl⟩ isSubtype_stop ?_)
  exact wpAny_pure (hQ _ (((Heap.SameBut.update ..).extBut.push _).push _))
end
end Wr

set_option maxHeartbeats 4000000
namespace Wr
open PySem SetTable PyProof.Rows
section
variable {prog : Program} {w : World} {A : Around} {E : Value → Shared → Prop} {s : Shared}
theorem set_walks (hh : A.handled = none) (it a : Addr) (hne : a ≠ it) (ns : List Int) (o : Obj) (es : Array (Int × Value)) (ep : Nat) (t : SetTable) :
    Walks prog w A it [it, a] [it] es.size (fun i v => ((walked w a es ep)[i]?).map (·.2) = some v) (fun i h => SSt w h it a ns o es ep t i) where
  sub := fun b hb => by simp at hb; simp [hb]
  frame := fun i h h' st hk => ⟨let ⟨sl, x, y⟩ := st.ex; ⟨sl, sit_keeps x fun o e => hk it (by simp) o e, y⟩, ⟨hk a (by simp) _ st.rs.at', st.rs.ex, st.rs.dat, st.rs.prs, st.rs.nd, st.rs.ok, st.rs.led⟩⟩
  item := fun i s Q E hi st hQ => sit_item hne st hi fun v h' hv st' sb => hQ v h' s.toks hv st' fun b o hb e => (sb.2 b (fun z => hb (by simp [z]))).trans e
  done := fun s Q E st hQ => sit_end hh st fun h' he => hQ h' s.toks fun b o hb e => he b o (fun z => hb (by simp [z])) e
  self := fun i s Q E st hQ => by
    obtain ⟨sl, ⟨oi, ho, hc, hd⟩, _⟩ := st.ex
    have hT : s.TypeIs (.ref it) "set_iterator" := ⟨oi, ho, hc⟩
    refine wpAny_pyIter_slot hT slot_sit_iter (wpAny_call_entry slot_sit_iter hT (entryFor_alias (id' := "dict_keyiterator.__iter__") (by kernel_rfl) rfl (by decide +kernel) (by kernel_rfl) : entryFor table "set_iterator.__iter__" = some Builtin.«dict_keyiterator.__iter__») ?_ (by unfold argsOk; kernel_rfl))
    exact wpAny_pure ⟨_, rfl, "set_iterator", _, hT, slot_sit_next.lookup, hQ⟩
/-- a set's iterator -/
theorem set_iter {a : Addr} {ns : List Int} {o : Obj} {es : Array (Int × Value)} {ep : Nat} {t : SetTable} {Q : Value → Shared → Prop} (R : RSet w s.heap a ns o es ep t)
    (h : ∀ oi, SSt w (s.heap.push oi) s.heap.objs.size a ns o es ep t 0 → Q (.ref s.heap.objs.size) { s with heap := s.heap.push oi }) : wpAny (model prog w) A (pyIter (.ref a)) Q E s := by
  have hT : s.TypeIs (.ref a) "set" := ⟨o, R.at', R.ex.1⟩
  refine wpAny_pyIter_slot hT F.slot_set_iter (wpAny_call_entry F.slot_set_iter hT entry_set_iter' ?_ (F.args_set_iter_1 _))
  unfold Builtin.«frozenset.__iter__» Builtin.Frozenset.slot0 Builtin.Frozenset.sizeOf setDrawn setsByText
  refine wpAny_bind (wpAny_bind (wpAny_pure (wpAny_pure ?_)))
  refine wpAny_bind (wpAny_bind (wpAny_setEntries_of R.at' R.dat R.ok.fits (wpAny_pure ?_)))
  refine wpAny_bind (wpAny_bind (R.state (wpAny_bind (wpAny_bind (wpAny_askSetting (wpAny_pure (wpAny_pure ?_)))))))
  refine wp_ifF (c := ((!byTx w && (!t.plain && decide (es.size > 1))) = true)) (by rw [R.ok.plain]; simp) (wpAny_bind (wpAny_pure ?_))
  refine wpAny_bind (wpAny_setEpoch_of R.at' R.dat R.ok.fits ?_)
  simp only [newFields]
  refine wpAny_bind (wpAny_newObj_type ?_ (by size_fits))
  have hg : (s.heap.push { cls := .type "set_iterator", data := .fields #[rawInt 0, rawInt 0, .ref a, rawInt es.size, rawInt ep] }).get? s.heap.objs.size = some { cls := .type "set_iterator", data := .fields #[rawInt 0, rawInt 0, .ref a, rawInt es.size, rawInt ep] } := Heap.get?_push_size _ rfl
  refine wpAny_pure ⟨_, rfl, "set_iterator", _, ⟨_, hg, rfl⟩, slot_sit_next.lookup, h _ ⟨⟨0, ⟨_, hg, rfl, rfl⟩, fun _ => ?_⟩, ⟨Heap.get?_push_of_some _ R.at', R.ex, R.dat, R.prs, R.nd, R.ok, R.led⟩⟩⟩
  unfold cnt
  simp
end
end Wr

set_option maxHeartbeats 4000000
namespace Wr
open PySem SetTable PyProof.Rows
section
variable {prog : Program} {w : World} {A : Around} {E : Value → Shared → Prop} {s : Shared}
/-- all that is walked, as a list: of what is neither list nor tuple -/
theorem collect_byD {c d : Addr} {T : String} {n : Nat} {P : Nat → Value → Prop} {St : Addr → Nat → Heap → Prop} {Q : List Value → Shared → Prop} (hc : c < s.heap.objs.size) (hd : d < s.heap.objs.size)
    (hT : ∀ h' : Heap, (∀ b o, s.heap.get? b = some o → h'.get? b = some o) → ({ s with heap := h' } : Shared).TypeIs (.ref c) T) (h1 : (Value.type T == Value.type "list") = false) (h2 : (Value.type T == Value.type "tuple") = false)
    (hit : ∀ (h' : Heap) (Q' : Value → Shared → Prop), (∀ b o, s.heap.get? b = some o → h'.get? b = some o) → s.heap.objs.size ≤ h'.objs.size →
      (∀ it h'', h'.objs.size ≤ it → (∀ b o, h'.get? b = some o → h''.get? b = some o) → St it 0 h'' → Q' (.ref it) { s with heap := h'' }) → wpAny (model prog w) A.in1 (pyIter (.ref c)) Q' E { s with heap := h' })
    (hint : ∀ (h' : Heap) (Q' : Bool → Shared → Prop), (∀ b o, s.heap.get? b = some o → h'.get? b = some o) → Q' false { s with heap := h' } → wpAny (model prog w) A.in1 (Builtin.List.listLengthHint (.ref c)) Q' E { s with heap := h' })
    (W : ∀ it, d ≠ it → Walks prog w A.in1 it [it, d] [it] n P (St it)) (hn : n ≤ sizeLine)
    (hQ : ∀ h' tk acc, (∀ b o, s.heap.get? b = some o → h'.get? b = some o) → s.heap.objs.size < h'.objs.size → s.toks ≤ tk → ItemsOf P acc n → Q acc.toList { s with heap := h', toks := tk }) : wpAny (model prog w) A (collect (.ref c)) Q E s := by
  unfold collect
  refine wpAny_bind (wpAny_runValue (codeAny_builtin F.entry_proto_collect ?_)); rw [Around.under_plainId F.plain_proto_collect _]
  show wpAny _ A.in1 (newList [] >>= fun l => again (.builtin "list.__iadd__" ⟨[l, .ref c], []⟩)) _ _ s
  refine wpAny_bind (wpAny_newObj_type ?_ (by size_fits))
  refine wpAny_pure ⟨plainId_quiet F.plain_list_iadd _, codeAny_builtin F.entry_list_iadd ?_⟩; rw [Around.under_plainId F.plain_list_iadd _]
  show wpAny _ A.in1 (Builtin.List.listExtendWith (.ref s.heap.objs.size) (.ref c) (.ref s.heap.objs.size)) _ _ _
  unfold Builtin.List.listExtendWith
  have k0 : ∀ b o, s.heap.get? b = some o → (s.heap.push (seqObj "list" #[] 0)).get? b = some o := fun b o e => Heap.get?_push_of_some _ e
  refine wpAny_bind (wpAny_typeOf (hT _ k0) ?_)
  have hS : Builtin.List.listSameRef (.ref s.heap.objs.size) (.ref c) = false := by simp [Builtin.List.listSameRef]; exact Nat.ne_of_gt hc
  simp only [hS, h1, h2, Bool.or_false, Bool.false_eq_true, if_false]
  refine wpAny_bind (hit _ _ k0 (by rw [Heap.size_push]; omega) fun it h'' hge kk st => ?_)
  have k2 : ∀ b o, s.heap.get? b = some o → h''.get? b = some o := fun b o e => kk b o (k0 b o e)
  refine wpAny_bind (wpAny_holding (hint h'' _ k2 ?_))
  have hitS : s.heap.objs.size < it := Nat.lt_of_lt_of_le (by rw [Heap.size_push]; exact Nat.lt_succ_self _) hge
  have hcit : d ≠ it := Nat.ne_of_lt (Nat.lt_trans hd hitS)
  have hSf : s.heap.objs.size ∉ [it, d] := by
    intro z
    rcases List.mem_cons.mp z with z | z
    · exact absurd z (Nat.ne_of_lt hitS)
    · exact absurd (List.mem_singleton.mp z) (Nat.ne_of_gt hd)
  have hS2 : h''.get? s.heap.objs.size = some (seqObj "list" #[] 0) := kk _ _ (Heap.get?_push_size _ rfl)
  -- the loop, whatever the epoch
  have loop : ∀ (h3 : Heap) (cc : Nat), h3.get? s.heap.objs.size = some (seqObj "list" #[] cc) → (∀ b o, b ≠ s.heap.objs.size → h''.get? b = some o → h3.get? b = some o) →
      codeAny (model prog w) A (.builtin "list.extend.loop" ⟨[.ref s.heap.objs.size, .ref it, .ref s.heap.objs.size], []⟩) (fun r s' => match r with
        | .ok (.ret v) => wpAny (model prog w) A (match v with
          | .ref a => (do let o ← load a; match o.data with | .seq xs _ => pure xs.toList | _ => unsupported "internal:collect")
          | _ => unsupported "internal:collect") Q E s'
        | .ok _ => False
        | .error e => E e s') { s with heap := h3 } := by
    intro h3 cc hS3 k3
    have st3 : St it 0 h3 := (W it hcit).frame 0 h'' h3 st fun b hb o e => k3 b o (fun z => hSf (z ▸ hb)) e
    refine codeAny_extend_loopS (W it hcit).toS hn s.heap.objs.size hSf (.ref s.heap.objs.size) n 0 { s with heap := h3 } #[] cc (by omega) (Nat.zero_le _) st3 hS3 (ItemsOf.nil P) fun s' acc' c' hm hS' hacc => ?_
    refine wpAny_bind (wpAny_load hS' (wpAny_pure ?_))
    obtain ⟨h4, g4, d4, t4, o4⟩ := s'
    obtain ⟨m1, m2, m3, m4, m5⟩ := hm
    obtain rfl : g4 = s.gens := m2
    obtain rfl : d4 = s.drawn := m3
    obtain rfl : o4 = s.os := m4
    refine hQ h4 t4 acc' (fun b o e => ?_) (Heap.lt_size hS') m5 hacc
    have hb : b < s.heap.objs.size := Heap.lt_size e
    refine m1 b o (fun z => ?_) (k3 b o (Nat.ne_of_lt hb) (k2 b o e))
    rcases List.mem_cons.mp z with z | z
    · exact absurd z (Nat.ne_of_lt hb)
    · exact absurd (List.mem_singleton.mp z) (Nat.ne_of_lt (Nat.lt_trans hb hitS))
  split
  · refine wpAny_bind (wpAny_rule (wpAny_bind ?_))
    show wpAny _ A.in1 (updateSeq s.heap.objs.size (·.push .none) >>= fun _ => updateSeq s.heap.objs.size (·.pop)) _ _ _
    refine wpAny_bind (wpAny_updateSeq hS2 rfl ?_)
    have q1 := Heap.get?_update_self (Obj.mapSeq (·.push Value.none)) hS2 rfl
    refine wpAny_updateSeq q1 rfl ?_
    have q2 := Heap.get?_update_self (Obj.mapSeq (·.pop)) q1 rfl
    exact wpAny_pure ⟨plainId_quiet F.plain_extend_loop _, loop _ _ q2 fun b o hb e => (Heap.get?_update_other _ _ (Ne.symm hb)).trans ((Heap.get?_update_other _ _ (Ne.symm hb)).trans e)⟩
  · exact wpAny_pure ⟨plainId_quiet F.plain_extend_loop _, loop _ _ hS2 fun b o _ e => e⟩
theorem collect_by {c : Addr} {T : String} {n : Nat} {P : Nat → Value → Prop} {St : Addr → Nat → Heap → Prop} {Q : List Value → Shared → Prop} (hc : c < s.heap.objs.size)
    (hT : ∀ h' : Heap, (∀ b o, s.heap.get? b = some o → h'.get? b = some o) → ({ s with heap := h' } : Shared).TypeIs (.ref c) T) (h1 : (Value.type T == Value.type "list") = false) (h2 : (Value.type T == Value.type "tuple") = false)
    (hit : ∀ (h' : Heap) (Q' : Value → Shared → Prop), (∀ b o, s.heap.get? b = some o → h'.get? b = some o) → s.heap.objs.size ≤ h'.objs.size →
      (∀ it h'', h'.objs.size ≤ it → (∀ b o, h'.get? b = some o → h''.get? b = some o) → St it 0 h'' → Q' (.ref it) { s with heap := h'' }) → wpAny (model prog w) A.in1 (pyIter (.ref c)) Q' E { s with heap := h' })
    (hint : ∀ (h' : Heap) (Q' : Bool → Shared → Prop), (∀ b o, s.heap.get? b = some o → h'.get? b = some o) → Q' false { s with heap := h' } → wpAny (model prog w) A.in1 (Builtin.List.listLengthHint (.ref c)) Q' E { s with heap := h' })
    (W : ∀ it, c ≠ it → Walks prog w A.in1 it [it, c] [it] n P (St it)) (hn : n ≤ sizeLine)
    (hQ : ∀ h' tk acc, (∀ b o, s.heap.get? b = some o → h'.get? b = some o) → s.heap.objs.size < h'.objs.size → s.toks ≤ tk → ItemsOf P acc n → Q acc.toList { s with heap := h', toks := tk }) : wpAny (model prog w) A (collect (.ref c)) Q E s :=
  collect_byD hc hc hT h1 h2 hit hint W hn hQ
end
end Wr

set_option maxHeartbeats 4000000
namespace Wr
open PySem SetTable PyProof.Rows
section
variable {prog : Program} {w : World} {A : Around} {E : Value → Shared → Prop} {s : Shared}
theorem hint_set {c : Addr} {Q : Bool → Shared → Prop} (hT : s.TypeIs (.ref c) "set") (h : Q false s) : wpAny (model prog w) A (Builtin.List.listLengthHint (.ref c)) Q E s := by
  unfold Builtin.List.listLengthHint
  refine wpAny_bind (wpAny_specialOf hT F.slot_set_len.lookup ?_)
  have hsp : splitId "set.__len__" = some ("set", "__len__") := by kernel_rfl
  dsimp only
  rw [hsp]
  dsimp only
  refine wpAny_bind (wpAny_isInstance hT sub_set_self ?_)
  refine wp_ifF (by simp) ?_
  refine wp_ifT (by kernel_rfl) ?_
  exact wpAny_bind (wpAny_typeOf hT (wpAny_pure h))
/-- what is walked of a set of numbers: these numbers -/
theorem items_ints {a : Addr} {ns : List Int} {o : Obj} {es : Array (Int × Value)} {ep : Nat} {t : SetTable} {h : Heap} (R : RSet w h a ns o es ep t) {acc : Array Value} (x : ItemsOf (fun i v => ((walked w a es ep)[i]?).map (·.2) = some v) acc es.size) :
    ∃ ns', ns'.Perm ns ∧ IntsAre acc.toList ns' := by
  obtain ⟨ns', pn, pp⟩ := pairP (walked_perm w a es ep) R.prs
  refine ⟨ns', pn, ?_⟩
  have wl : (walked w a es ep).size = es.size := by
    have y := (walked_perm w a es ep).length_eq
    rwa [Array.length_toList, Array.length_toList] at y
  have e : acc.toList = (walked w a es ep).toList.map (·.2) := by
    apply List.ext_getElem
    · rw [Array.length_toList, List.length_map, Array.length_toList, x.1, wl]
    · intro i hi hi2
      rw [Array.length_toList] at hi
      have z := x.2 i acc[i] (by simp [hi])
      rw [List.length_map, Array.length_toList] at hi2
      rw [Array.getElem?_eq_getElem hi2] at z
      simp at z ⊢
      exact z.symm
  rw [e]
  have all : ∀ {l : List (Int × Value)} {m : List Int}, Paired ElemI l m → IntsAre (l.map (·.2)) m := by
    intro l m p
    induction p with
    | nil => exact .nil
    | cons r _ ih =>
      obtain ⟨_, t, e⟩ := r
      rw [List.map_cons, e]
      exact .cons _ _ ih
  exact all pp
/-- sorted(..) of a set of numbers -/
theorem iset_sorted {a : Addr} {ns : List Int} {Q : Value → Shared → Prop} (hh : A.handled = none) (hS : ISet w s.heap a ns) (h64 : ns.length < 64)
    (h : ∀ (D : Addr) (h' : Heap) (vs : List Value) (c : Nat) (ns' : List Int) (tk : Nat), (∀ b o, s.heap.get? b = some o → h'.get? b = some o) → s.heap.objs.size ≤ D → h'.get? D = some (seqObj "list" vs.toArray c) → IntsAre vs ns' → ns'.Perm ns → ns'.Pairwise (· ≤ ·) →
      Q (.ref D) { s with heap := h', toks := tk }) : wpAny (model prog w) A (call (.builtin "sorted") [.ref a]) Q E s := by
  obtain ⟨o, es, ep, t, R⟩ := hS.raw
  have hlen := R.len
  refine Calls.call_function_entry kind_sorted plain_sorted entry_sorted (args_sorted1 _) ?_
  unfold Builtin.«sorted»
  refine wpAny_bind (m := checkCount "sorted" 1 1 _) (wpAny_pure (wpAny_bind ?_))
  have hz : es.size ≤ sizeLine := by rw [hlen]; exact fits_of_scanBound (by show _ < 4096; omega)
  refine collect_by (A := A.in1) (T := "set") (n := es.size) (P := fun i v => ((walked w a es ep)[i]?).map (·.2) = some v) (St := fun it i h => SSt w h it a ns o es ep t i) (Heap.lt_size R.at') (fun h' k => ⟨o, k _ _ R.at', R.ex.1⟩) (by decide) (by decide)
    (fun h' Q' k hge hq => ?_) (fun h' Q' k hq => hint_set ⟨o, k _ _ R.at', R.ex.1⟩ hq) (fun it hne => set_walks (by simpa using hh) it a hne ns o es ep t) hz fun h1 tk acc k1 hsz htk items => ?_
  · refine set_iter (s := { s with heap := h' }) ⟨k _ _ R.at', R.ex, R.dat, R.prs, R.nd, R.ok, R.led⟩ fun oi st => ?_
    exact hq h'.objs.size _ (Nat.le_refl _) (fun b o e => Heap.get?_push_of_some _ e) st
  obtain ⟨ns1, pn1, intsA⟩ := items_ints R items
  have l64 : acc.toList.length < 64 := by rw [intsA.length, pn1.length_eq]; exact h64
  refine wpAny_bind (wpAny_newList ?_ (by rw [Array.length_toList, items.1]; exact hz))
  have hoL : (h1.push (seqObj "list" acc.toList.toArray 0)).get? h1.objs.size = some (seqObj "list" acc.toList.toArray 0) := Heap.get?_push_size _ rfl
  refine wpAny_bind (wpAny_holding (wpAny_call_entry (s := { s with heap := h1.push (seqObj "list" acc.toList.toArray 0), toks := tk }) slot_list_sort ⟨_, hoL, rfl⟩ entry_list_sort (list_sort_tree hoL intsA l64 fun out ns2 i1 i2 i3 => ⟨_, rfl, ?_⟩) (args_list_sort _)))
  obtain ⟨e, he⟩ := sortedHeap_at (out := out) hoL
  refine wpAny_pure ⟨_, rfl, h h1.objs.size _ out.toList e ns2 tk (fun b ob q => ?_) (Nat.le_of_lt hsz) (by rw [Array.toArray_toList]; exact he) i1 (i2.trans pn1) i3⟩
  have hb : b < h1.objs.size := Heap.lt_size (k1 b ob q)
  rw [sortedHeap_old (Nat.ne_of_lt hb) (by rw [Heap.size_push]; exact Nat.lt_succ_of_lt hb)]
  exact Heap.get?_push_of_some _ (k1 b ob q)
end
end Wr

set_option maxHeartbeats 4000000
namespace Wr
open PySem SetTable PyProof.Rows
section
variable {prog : Program} {w : World} {A : Around} {E : Value → Shared → Prop} {s : Shared}
theorem any_set {v : Value} {Q : Bool → Shared → Prop} (hT : s.TypeIs v "set") (h : Q true s) : wpAny (model prog w) A (Builtin.Frozenset.isAnySet v) Q E s := by
  unfold Builtin.Frozenset.isAnySet
  exact wpAny_bind (wpAny_isInstance hT sub_set_self (wpAny_pure h))
theorem no_set {v : Value} {T : String} {Q : Bool → Shared → Prop} (hT : s.TypeIs v T) (h1 : isSubtype (.type T) (.type "set") = pure false) (h2 : isSubtype (.type T) (.type "frozenset") = pure false) (h : Q false s) : wpAny (model prog w) A (Builtin.Frozenset.isAnySet v) Q E s := by
  unfold Builtin.Frozenset.isAnySet
  exact wpAny_bind (wpAny_isInstance hT h1 (wpAny_isInstance hT h2 h))
/-- one | other -/
theorem iset_or {a b : Addr} {ns ms : List Int} {Q : Value → Shared → Prop} (hab : a ≠ b) (ha : ISet w s.heap a ns) (hb : ISet w s.heap b ms) (hl : ns.length + ms.length < 127)
    (h : ∀ h' ks, (∀ b o, s.heap.get? b = some o → h'.get? b = some o) → ISet w h' s.heap.objs.size ks → (∀ x, x ∈ ks ↔ x ∈ ns ∨ x ∈ ms) → ks.length ≤ ns.length + ms.length → Q (.ref s.heap.objs.size) { s with heap := h' }) :
    wpAny (model prog w) A (binaryOp .BitOr (.ref a) (.ref b)) Q E s := by
  refine wpAny_binaryOp_same (T := "set") (id := "set.__or__") (iset_type ha) (iset_type hb) F.fills_set_or F.slot_set_or (wpAny_call_entry F.slot_set_or (iset_type ha) entry_set_or' ?_ (F.args_set_or_2 _ _))
  unfold Builtin.«frozenset.__or__»
  show wpAny _ _ (Builtin.Frozenset.slot1 "__or__" ⟨[.ref a, .ref b], []⟩ >>= _) _ _ _
  unfold Builtin.Frozenset.slot1
  refine wpAny_bind (wpAny_bind (wpAny_pure (wpAny_pure ?_)))
  dsimp only
  refine wpAny_bind (wpAny_bind (any_set (iset_type ha) (any_set (v := .ref b) (iset_type hb) ?_)))
  refine wp_ifF (by decide) ?_
  refine wpAny_bind (wpAny_pure (wpAny_bind (wpAny_bind (iset_copy ha (by omega) fun h1 ks1 k1 hS1 m1 l1 => ?_))))
  obtain ⟨ob, es, ep, t, Rb⟩ := hb.raw
  have hbl : b < s.heap.objs.size := Heap.lt_size Rb.at'
  refine wp_ifT (by simp; exact Ne.symm hab) ?_
  refine wpAny_bind (wpAny_pure ?_)
  have Rb1 : RSet w h1 b ms ob es ep t := ⟨k1 _ _ Rb.at', Rb.ex, Rb.dat, Rb.prs, Rb.nd, Rb.ok, Rb.led⟩
  refine wpAny_bind (wpAny_holding ?_)
  unfold Builtin.Frozenset.updateFrom
  refine wpAny_bind (any_set (s := { s with heap := h1 }) (iset_type Rb1.iset) (wp_ifT rfl ?_))
  refine wpAny_bind (wpAny_pure ?_)
  unfold Builtin.Frozenset.merge
  refine wpAny_bind (wpAny_setEpoch_of (s := { s with heap := h1 }) Rb1.at' Rb1.dat Rb1.ok.fits ?_)
  refine iset_merge (s := { s with heap := h1 }) (Nat.ne_of_gt hbl) hS1 Rb1 (by omega) (fun s' Q' ha' hq => ?_) fun h2 ks2 sb2 hS2 m2 l2 => ?_
  · unfold Builtin.Frozenset.unchanged
    exact wpAny_bind (wpAny_setEpoch_of ha' Rb1.dat Rb1.ok.fits (wp_ifF (by simp) (wpAny_pure hq)))
  · refine wpAny_pure (wpAny_pure ⟨_, rfl, fun z => (nomatch z), h h2 ks2 (fun c o q => ?_) hS2 (fun x => by rw [m2 x, m1 x]) (by omega)⟩)
    exact (sb2.2 c (Nat.ne_of_lt (Heap.lt_size q))).trans (k1 c o q)
end
end Wr

set_option maxHeartbeats 4000000
namespace Wr
open PySem SetTable PyProof.Rows
section
variable {prog : Program} {w : World} {A : Around} {E : Value → Shared → Prop} {s : Shared}
theorem set_made (x : Value) {Q₁ : Value → Shared → Prop} (h : Q₁ (.ref s.heap.objs.size) { s with heap := s.heap.push (freshSet (!byTx w)) }) :
    codeAny (model prog w) A (.call (.builtin "set.__new__") ⟨[.type "set", x], []⟩) (wants Q₁ E) s := by
  refine codeAny_call_builtin F.plain_set_new F.entry_set_new (wpAny_of_eq (F.newCall_set_1 x) ?_)
  unfold Builtin.«set.__new__» Builtin.Frozenset.newClass
  have hsub := sub_set_self
  refine wpAny_bind (wpAny_bind (wpAny_of_eq (show isType (.type "set") = pure true from rfl) (wp_ifF (by decide) (wpAny_bind (wpAny_of_eq hsub (wp_ifF (by decide) (wpAny_pure ?_)))))))
  exact wpAny_bind (iset_new (wpAny_pure h))
/-- set(x), by what it takes in -/
theorem call_set_by {x : Value} {Q : Value → Shared → Prop} (hin : wpAny (model prog w) A.in1.in1 (Builtin.Frozenset.updateFrom "set.__init__" s.heap.objs.size x) (fun _ s' => (∃ o, s'.heap.get? s.heap.objs.size = some o ∧ o.cls = .type "set") ∧ Q (.ref s.heap.objs.size) s') E { s with heap := s.heap.push (freshSet (!byTx w)) }) :
    wpAny (model prog w) A (call (.type "set") [x]) Q E s := by
  obtain ⟨c, tl, hmro⟩ := F.called_set.mro
  have hmade := F.called_set.made; have hsub := F.called_set.sub
  refine wpAny_call (codeAny_of_tree ?_); show wpAny _ _ (callAny (.type "set") _) _ _ _
  refine wpAny_pure ⟨Code.quiet_builtin _ (by decide +kernel), codeAny_builtin F.entry_type_call ?_⟩; rw [Around.under_plain (weight_type_call_type "set" [x] []) rfl]
  have h1 := F.called_set.notType; have h2 := F.called_set.canCreate; have hct := F.typeCall_set_1 x
  repeat (any_goals (first | assumption | wp_step))
  refine codeAny_mono (set_made x (E := E) (Q₁ := fun obj s₁ => obj = .ref s.heap.objs.size ∧ s₁ = { s with heap := s.heap.push (freshSet (!byTx w)) }) ⟨rfl, rfl⟩) fun r s₁ hr => ?_
  cases r with
  | error e => exact hr
  | ok fl =>
    cases fl with
    | ret obj =>
      obtain ⟨rfl, rfl⟩ := hr
      have hS : (s.heap.push (freshSet (!byTx w))).get? s.heap.objs.size = some (freshSet (!byTx w)) := Heap.get?_push_size _ rfl
      have hT : Shared.TypeIs { s with heap := s.heap.push (freshSet (!byTx w)) } (.ref s.heap.objs.size) "set" := ⟨_, hS, rfl⟩
      have hli := F.called_set.init.lookup; have hbi := F.called_set.init.bind (.ref s.heap.objs.size)
      repeat (any_goals (first | assumption | wp_step))
      refine codeAny_mono (codeAny_call_builtin (R := wants (fun r s₂ => r = .none ∧ (∃ o, s₂.heap.get? s.heap.objs.size = some o ∧ o.cls = .type "set") ∧ Q (.ref s.heap.objs.size) s₂) E) F.called_set.init.plain F.entry_set_init (check_set_init_1 hT ?_)) fun r₂ s₂ hr₂ => ?_
      · have R : RSet w (s.heap.push (freshSet (!byTx w))) s.heap.objs.size [] (freshSet (!byTx w)) #[] 0 (.fresh 0 0 (!byTx w)) := ⟨hS, ⟨rfl, rfl, rfl⟩, rfl, .nil, List.nodup_nil, fresh_ok _, fun z => by show (!byTx w) = true; rw [z]; rfl⟩
        unfold Builtin.«set.__init__» noKeywords setUsed
        generalize hU : Builtin.Frozenset.updateFrom = U
        wp_walk using R.state (s := { s with heap := s.heap.push (freshSet (!byTx w)) })
        subst hU
        exact wpAny_mono hin (fun _ s' hq => wpAny_pure ⟨rfl, hq⟩) fun _ _ z => z
      · cases r₂ with
        | error e => exact hr₂
        | ok fl₂ =>
          cases fl₂ with
          | ret r =>
            obtain ⟨rfl, hT2, hq⟩ := hr₂
            repeat (any_goals (first | assumption | wp_step))
          | _ => exact hr₂.elim
    | _ => exact hr.elim
end
end Wr

set_option maxHeartbeats 4000000
namespace Wr
open PySem SetTable PyProof.Rows
def EntI (e : DictEntry) (n : Int) : Prop := e.hash = hashInt n ∧ ∃ t, e.key = .int n t
section
variable {prog : Program} {w : World} {A : Around} {E : Value → Shared → Prop} {s : Shared}
/-- set(d) of a dict whose keys are numbers -/
theorem set_of_dict {d : Addr} {od : Obj} {es : Array DictEntry} {ep : Nat} {ns : List Int} {Q : Value → Shared → Prop} (ho : s.heap.get? d = some od) (hc : od.cls = .type "dict") (hd : od.data = .dict es ep) (hm : (d == sysModules) = false) (p : Paired EntI es.toList ns) (hl : ns.length < 126)
    (h : ∀ h' ms, (∀ b o, s.heap.get? b = some o → h'.get? b = some o) → ISet w h' s.heap.objs.size ms → (∀ x, x ∈ ms ↔ x ∈ ns) → ms.length ≤ ns.length → Q (.ref s.heap.objs.size) { s with heap := h' }) :
    wpAny (model prog w) A (call (.type "set") [.ref d]) Q E s := by
  have hlen : es.size = ns.length := by rw [← Array.length_toList]; exact pairLen p
  have hdl : d < s.heap.objs.size := Heap.lt_size ho
  refine call_set_by ?_
  have ho1 : (s.heap.push (freshSet (!byTx w))).get? d = some od := Heap.get?_push_of_some _ ho
  unfold Builtin.Frozenset.updateFrom
  have hT : Shared.TypeIs { s with heap := s.heap.push (freshSet (!byTx w)) } (.ref d) "dict" := ⟨od, ho1, hc⟩
  refine wpAny_bind (no_set hT F.sub_dict_set F.sub_dict_frozenset (wp_ifF (by decide) ?_))
  refine wpAny_bind (wpAny_typeOf hT (wp_ifT (by rfl) ?_))
  refine wpAny_bind (wpAny_rule (wpAny_bind (wpAny_pure (wp_ifF (by rw [hm]; decide) ?_))))
  refine wpAny_bind (wpAny_dictEpoch (s := { s with heap := s.heap.push (freshSet (!byTx w)) }) ho1 hd ?_)
  refine wpAny_bind (wpAny_dictEntries (s := { s with heap := s.heap.push (freshSet (!byTx w)) }) ho1 hd ?_)
  refine wpAny_bind (iset_room (s := { s with heap := s.heap.push (freshSet (!byTx w)) }) (iset_fresh s.heap) (by simp; omega) fun h1 ms1 o1 es1 ep1 t1 sb1 R1 pm1 _ => ?_)
  have ms0 : ms1 = [] := pm1.eq_nil
  have kp : ∀ h', Heap.SameBut s.heap.objs.size (s.heap.push (freshSet (!byTx w))) h' → ∀ b o, s.heap.get? b = some o → h'.get? b = some o := fun h' sb b o e => (sb.2 b (Nat.ne_of_lt (Heap.lt_size e))).trans (Heap.get?_push_of_some _ e)
  refine wpAny_bind (wpAny_dictEntries (s := { s with heap := h1 }) (kp h1 sb1 _ _ ho) hd ?_)
  refine wpAny_bind ?_
  rw [Std.Legacy.Range.forIn_eq_forIn_range']
  have hr : List.range' (Std.Legacy.Range.start [:es.size]) (Std.Legacy.Range.size [:es.size]) (Std.Legacy.Range.step [:es.size]) = List.range' 0 es.size 1 := by simp [Std.Legacy.Range.size]
  rw [hr]
  refine wpAny_forIn_list _ (fun rest _ s' => ∃ (i : Nat) (h' : Heap) (ms : List Int), rest = List.range' i (es.size - i) 1 ∧ i ≤ es.size ∧ s' = { s with heap := h' } ∧ Heap.SameBut s.heap.objs.size (s.heap.push (freshSet (!byTx w))) h' ∧ ISet w h' s.heap.objs.size ms ∧ (∀ x, x ∈ ms ↔ x ∈ ns.take i) ∧ ms.length ≤ i) _ ?_ ?_ _ PUnit.unit
    ⟨0, h1, [], rfl, Nat.zero_le _, rfl, sb1, ms0 ▸ R1.iset, fun x => by simp, Nat.le_refl _⟩
  · rintro x rest b s' ⟨i, h', ms, hrest, hi, rfl, sb, hS, mem, len⟩
    have hlt : i < es.size := by
      rcases Nat.lt_or_ge i es.size with z | z
      · exact z
      · rw [show es.size - i = 0 by omega] at hrest; cases hrest
    rw [show es.size - i = (es.size - (i + 1)) + 1 by omega, List.range'_succ] at hrest
    injection hrest with e1 e2
    subst e1
    have hn : x < ns.length := by omega
    obtain ⟨q1, tk, q2⟩ : EntI es[x] ns[x] := pairAt p x (by simpa using hlt) hn
    refine wpAny_bind (wpAny_dictEntries (s := { s with heap := h' }) (kp h' sb _ _ ho) hd ?_)
    rw [Array.getElem?_eq_getElem hlt]
    dsimp only
    rw [q1, q2]
    refine wpAny_bind (wpAny_holding (iset_add (s := { s with heap := h' }) hS (by omega) fun h2 ms2 bb sb2 hS2 alt => ?_))
    refine wpAny_bind (wpAny_dictEpoch (s := { s with heap := h2 }) (kp h2 (sb.trans sb2) _ _ ho) hd ?_)
    refine wp_ifF (by simp) (wpAny_pure ?_)
    refine ⟨x + 1, h2, ms2, e2, hlt, rfl, sb.trans sb2, hS2, fun y => ?_, ?_⟩
    · rw [List.take_add_one, List.getElem?_eq_getElem hn, List.mem_append]
      have : (some ns[x]).toList = [ns[x]] := rfl
      rw [this, List.mem_singleton, ← mem y]
      rcases alt with ⟨i1, rfl⟩ | ⟨i1, i2⟩
      · constructor
        · exact .inl
        · rintro (z | z)
          · exact z
          · rw [z]; exact i1
      · rw [i2.mem_iff, List.mem_cons]
        constructor
        · rintro (z | z)
          · exact .inr z
          · exact .inl z
        · rintro (z | z)
          · exact .inr z
          · exact .inl z
    · rcases alt with ⟨_, rfl⟩ | ⟨_, i2⟩
      · omega
      · rw [i2.length_eq, List.length_cons]; omega
  · rintro b s' ⟨i, h', ms, hrest, hi, rfl, sb, hS, mem, len⟩
    have hei : i = es.size := by
      rcases Nat.lt_or_ge i es.size with z | z
      · rw [show es.size - i = (es.size - (i + 1)) + 1 by omega, List.range'_succ] at hrest; cases hrest
      · omega
    obtain ⟨oS, eS, pS, tS, RS⟩ := hS.raw
    refine wpAny_pure ⟨⟨oS, RS.at', RS.ex.1⟩, h h' ms (kp h' sb) hS (fun x => ?_) (by omega)⟩
    rw [mem x, hei, hlen, List.take_length]
where
  pairAt {α β : Type} {R : α → β → Prop} : ∀ {xs : List α} {ys : List β}, Paired R xs ys → ∀ (i : Nat) (hx : i < xs.length) (hy : i < ys.length), R xs[i] ys[i]
    | _, _, .cons r _, 0, _, _ => r
    | _, _, .cons _ t, i + 1, hx, hy => pairAt t i (by simpa using hx) (by simpa using hy)
end
end Wr

set_option maxHeartbeats 4000000
namespace Wr
open PySem PyProof.Rows
section
variable {prog : Program} {w : World} {A : Around} {E : Value → Shared → Prop} {s : Shared}
theorem list_no_keys : typeLookup (.type "list") "keys" = pure none := am_miss_of_fast (by kernel_rfl)
theorem list_no_getattr : typeLookup (.type "list") "__getattr__" = pure none := am_miss_of_fast (by kernel_rfl)
theorem meets_keys (l : Addr) (xs : Array Value) (n : Nat) (u : Tok) : Meets (Builtin.«object.__getattribute__» ⟨[.ref l, .str "keys" u], []⟩) (fun A R s => s.heap.get? l = some (seqObj "list" xs n) ∧ raisesAttr (.ref l) "keys" A R s) :=
  Meets.of_wp fun prog w A R s ⟨hl, hs⟩ => by
    obtain ⟨hp, g, d, tk, os⟩ := s
    have hT : (⟨hp, g, d, tk, os⟩ : Shared).TypeIs (.ref l) "list" := ⟨_, hl, rfl⟩
    have hm := list_no_keys
    unfold Builtin.«object.__getattribute__»
    repeat (any_goals (first | assumption | wp_step))
    exact wpAny_raiseAttrError hs.1 hs.2 (attrMsg_fits (by decide +kernel) (by size_fits))
/-- a list has no keys -/
theorem no_keys {l : Addr} {xs : Array Value} {n : Nat} {Q : Option Value → Shared → Prop} (hA : A.handled = none) (hl : s.heap.get? l = some (seqObj "list" xs n))
    (h : ∀ h' tk, (∀ b o, s.heap.get? b = some o → h'.get? b = some o) → Q none { s with heap := h', toks := tk }) : wpAny (model prog w) A (getAttr? (.ref l) "keys") Q E s := by
  obtain ⟨hp, g, d, tk, os⟩ := s
  have hT : (⟨hp, g, d, tk + 1, os⟩ : Shared).TypeIs (.ref l) "list" := ⟨_, hl, rfl⟩
  have f1 := sub_AttributeError
  have f3 := F.slot_list_getattribute.lookup
  have f4 := F.slot_list_getattribute.bind (.ref l)
  have f5 := list_no_getattr
  unfold getAttr? getAttrBy? getAttrBy
  repeat (any_goals (first | assumption | ((with_reducible show wpAny _ _ (call (Value.builtin "list.__getattribute__") _ _) _ _ _); refine call_meets F.slot_list_getattribute hT F.entry_list_ga (F.args_list_getattribute_2 _ _) (meets_keys l xs n _) ⟨hl, by simpa using hA, fun h' tk' e hx => ?_⟩) | wp_step))
  obtain ⟨t', u', he⟩ := id hx.there
  show wpAny _ _ (getattributeRaised _ _ _ _ _ _ _) _ _ _
  have hE : (⟨h', g, d, tk', os⟩ : Shared).TypeIs (.ref e) "AttributeError" := ⟨_, he, rfl⟩
  unfold getattributeRaised
  repeat (any_goals (first | assumption | wp_step))
  all_goals first | exact h _ _ hx.keeps | skip
end
end Wr

set_option maxHeartbeats 4000000
namespace Wr
open PySem PyProof.Rows
theorem entry_dul : entryFor table "dict.update.loop" = some Builtin.«dict.update.loop» := entryFor_of_tree (by kernel_rfl)
theorem plain_dul : plainId "dict.update.loop" = true := by decide +kernel
/-- the tuple of a key and a value -/
def PairAt (h : Heap) (v k x : Value) : Prop := ∃ t o n, v = .ref t ∧ h.get? t = some o ∧ o.cls = .type "tuple" ∧ o.data = .seq #[k, x] n
theorem PairAt.keeps {h h' : Heap} {v k x : Value} (p : PairAt h v k x) (kp : ∀ b o, h.get? b = some o → h'.get? b = some o) : PairAt h' v k x := let ⟨t, o, n, e, q, r⟩ := p; ⟨t, o, n, e, kp _ _ q, r⟩
section
variable {prog : Program} {w : World} {A : Around} {E : Value → Shared → Prop} {s : Shared}
theorem dict_loop {D it l : Addr} {items : Array Value} {ks vs : Nat → Value} {J : Nat → Heap → Prop} {R : Result → Shared → Prop} (hh : A.handled = none) (hDi : D ≠ it) (hDl : D ≠ l) (hli : l ≠ it)
    (stab : ∀ i h h', (∀ o, h.get? D = some o → h'.get? D = some o) → (∀ i, i < items.size → ∀ t : Addr, items[i]? = some (Value.ref t) → PairAt h (.ref t) (ks i) (vs i)) → (∀ b o, b ≠ it → h.get? b = some o → h'.get? b = some o) → J i h → J i h')
    (step : ∀ (i : Nat) (s' : Shared) (Q' : Unit → Shared → Prop) (E' : Value → Shared → Prop), i < items.size → J i s'.heap → (∀ h' tk, Heap.SameBut D s'.heap h' → J (i + 1) h' → Q' () { s' with heap := h', toks := tk }) → wpAny (model prog w) A.in1 (dictSet D (ks i) (vs i)) Q' E' s')
    (hDp : ∀ (i : Nat) (t : Addr), items[i]? = some (Value.ref t) → t ≠ D ∧ t ≠ it) :
    ∀ (k i : Nat) (s : Shared), items.size - i = k → i ≤ items.size → s.heap.IsListIter it l i → s.heap.IsList l items → (∀ i, i < items.size → ∃ t, items[i]? = some (.ref t) ∧ PairAt s.heap (.ref t) (ks i) (vs i)) → J i s.heap →
      (∀ h' tk, (∀ b o, b ≠ it → b ≠ D → s.heap.get? b = some o → h'.get? b = some o) → J items.size h' → R (.ok (.ret .none)) { s with heap := h', toks := tk }) →
      codeAny (model prog w) A (.builtin "dict.update.loop" ⟨[.ref D, .ref it, rawInt i, .none], []⟩) R s := by
  intro k
  induction k with
  | zero =>
    intro i s hk hi hit hl hp hJ hR
    have hin : i = items.size := by omega
    subst hin
    refine codeAny_builtin entry_dul ?_; rw [Around.under_plainId plain_dul _]
    show wpAny _ A.in1 (pyNext (.ref it) >>= _) _ _ s
    refine wpAny_bind ((Walks.list (A := A.in1) (by simpa using hh) it l hli items).done s _ _ ⟨hit, hl⟩ fun h' tk hk' => ?_)
    refine wpAny_bind (wpAny_pure (wpAny_pure (hR h' tk (fun b o h1 _ q => hk' b o (by simpa using h1) q) ?_)))
    exact stab _ _ _ (fun o q => hk' _ _ (by simpa using hDi) q) (fun i hi t ht => let ⟨t', h1, h2⟩ := hp i hi; by rw [ht] at h1; cases h1; exact h2) (fun b o h1 q => hk' b o (by simpa using h1) q) hJ
  | succ k ih =>
    intro i s hk hi hit hl hp hJ hR
    have hlt : i < items.size := by omega
    refine codeAny_builtin entry_dul ?_; rw [Around.under_plainId plain_dul _]
    show wpAny _ A.in1 (pyNext (.ref it) >>= _) _ _ s
    refine wpAny_bind ((Walks.list (A := A.in1) (by simpa using hh) it l hli items).item i s _ _ hlt ⟨hit, hl⟩ fun v h' tk hv st' hk' => ?_)
    obtain ⟨hit', hl'⟩ := st'
    obtain ⟨t, e1, pr⟩ := hp i hlt
    rw [hv] at e1
    cases e1
    have kk : ∀ b o, b ≠ it → s.heap.get? b = some o → h'.get? b = some o := fun b o h1 q => hk' b o (by simpa using h1) q
    obtain ⟨t2, ot, nt, e2, q1, q2, q3⟩ := pr
    cases e2
    have q1' : h'.get? t = some ot := kk _ _ (hDp i t hv).2 q1
    have pr' : ∀ j, j < items.size → ∃ t, items[j]? = some (.ref t) ∧ PairAt h' (.ref t) (ks j) (vs j) := fun j hj => by
      obtain ⟨u, u1, u2, ou, nu, u3, u4, u5⟩ := hp j hj
      cases u3
      exact ⟨u, u1, u, ou, nu, rfl, kk _ _ (hDp j u u1).2 u4, u5⟩
    have J' : J i h' := stab _ _ _ (fun o q => kk _ _ hDi q) (fun i hi t ht => let ⟨t', h1, h2⟩ := hp i hi; by rw [ht] at h1; cases h1; exact h2) kk hJ
    have hT : ({ s with heap := h', toks := tk } : Shared).TypeIs (.ref t) "tuple" := ⟨ot, q1', q2⟩
    refine wpAny_bind (wpAny_holding (wpAny_bind (wpAny_tryCatch ?_)))
    unfold Builtin.Dict.pairItems
    refine wpAny_bind (wpAny_typeOf hT ?_)
    rw [if_pos (by decide)]
    unfold seqItems?
    refine wpAny_bind (wpAny_bind (wpAny_load q1' ?_))
    rw [q3]
    refine wpAny_pure (wpAny_pure ?_)
    show wpAny _ A.in1 (holding [ks i, vs i] (dictSet D (ks i) (vs i))) _ _ _
    refine wpAny_holding (step i _ _ _ hlt J' fun h2 tk2 sb2 J2 => ?_)
    refine wpAny_pure ⟨plainId_quiet plain_dul _, ?_⟩
    have eI : rawInt ((i : Int) + 1) = rawInt ((i + 1 : Nat) : Int) := by congr 1
    show codeAny _ A (.builtin "dict.update.loop" ⟨[.ref D, .ref it, rawInt ((i : Int) + 1), .none], []⟩) _ _
    rw [eI]
    have k2 : ∀ b o, b ≠ D → h'.get? b = some o → h2.get? b = some o := fun b o h1 q => (sb2.2 b h1).trans q
    refine ih (i + 1) { s with heap := h2, toks := tk2 } (by omega) hlt (hit'.at fun o q => k2 _ _ (Ne.symm hDi) q) (hl'.at fun o q => k2 _ _ (Ne.symm hDl) q) (fun j hj => ?_) J2 (fun h3 tk3 k3 J3 => hR h3 tk3 (fun b o n1 n2 q => k3 b o n1 n2 (k2 b o n2 (kk b o n1 q))) J3)
    obtain ⟨u, u1, u2, ou, nu, u3, u4, u5⟩ := pr' j hj
    cases u3
    exact ⟨u, u1, u, ou, nu, rfl, k2 _ _ (hDp j u u1).1 u4, u5⟩
/-- dict(l), l a list of pairs -/
theorem dict_of_pairs {l : Addr} {items : Array Value} {n : Nat} {ks vs : Nat → Value} {J : Nat → Heap → Prop} {Q : Value → Shared → Prop} (hh : A.handled = none) (hl : s.heap.get? l = some (seqObj "list" items n))
    (hp : ∀ i, i < items.size → ∃ t, items[i]? = some (.ref t) ∧ PairAt s.heap (.ref t) (ks i) (vs i))
    (stab : ∀ i h h', (∀ o, h.get? s.heap.objs.size = some o → h'.get? s.heap.objs.size = some o) → (∀ b o, b < s.heap.objs.size → h.get? b = some o → h'.get? b = some o) → J i h → J i h')
    (j0 : J 0 (s.heap.push { cls := .type "dict", data := .dict #[] }))
    (step : ∀ (A' : Around) (i : Nat) (s' : Shared) (Q' : Unit → Shared → Prop) (E' : Value → Shared → Prop), A' = A.in1.in1 → i < items.size → J i s'.heap → (∀ b o, s.heap.get? b = some o → s'.heap.get? b = some o) →
      (∀ h' tk, Heap.SameBut s.heap.objs.size s'.heap h' → J (i + 1) h' → Q' () { s' with heap := h', toks := tk }) → wpAny (model prog w) A' (dictSet s.heap.objs.size (ks i) (vs i)) Q' E' s')
    (h : ∀ h' tk, (∀ b o, s.heap.get? b = some o → h'.get? b = some o) → J items.size h' → Q (.ref s.heap.objs.size) { s with heap := h', toks := tk }) :
    wpAny (model prog w) A (call (.type "dict") [.ref l]) Q E s := by
  have hll : l < s.heap.objs.size := Heap.lt_size hl
  refine callType_codes (Q₁ := fun obj s₁ => obj = .ref s.heap.objs.size ∧ s₁ = { s with heap := s.heap.push { cls := .type "dict", data := .dict #[] } }) F.kt_called_dict (F.kt_typeCall_dict_1 _) F.entry_dict_init (kt_code_dict_new _ ⟨rfl, rfl⟩) ?_
  rintro obj s₁ ⟨rfl, rfl⟩
  have hD : (s.heap.push { cls := .type "dict", data := .dict #[] }).get? s.heap.objs.size = some { cls := .type "dict", data := .dict #[] } := Heap.get?_push_size _ rfl
  have hl1 : (s.heap.push { cls := .type "dict", data := .dict #[] }).get? l = some (seqObj "list" items n) := Heap.get?_push_of_some _ hl
  have hT : Shared.TypeIs { s with heap := s.heap.push { cls := .type "dict", data := .dict #[] } } (.ref s.heap.objs.size) "dict" := ⟨_, hD, rfl⟩
  refine ⟨hT, F.args_dict_init_2 _ _, ?_⟩
  unfold Builtin.«dict.__init__»
  refine wpAny_bind ?_; unfold Builtin.Dict.selfAndRest
  refine wpAny_bind (wpAny_notOrdered_dict hT (wpAny_pure ?_))
  show wpAny _ _ (Builtin.Dict.updateFrom "dict.__init__" s.heap.objs.size (.ref l) [] .none) _ _ _
  unfold Builtin.Dict.updateFrom
  refine wpAny_bind (wpAny_typeOf (T := "list") ⟨_, hl1, rfl⟩ ?_)
  rw [if_pos (by decide)]
  refine wpAny_bind (no_keys (s := { s with heap := s.heap.push { cls := .type "dict", data := .dict #[] } }) (by simpa using hh) hl1 fun h1 tk1 k1 => ?_)
  rw [show (none : Option Value).isNone = true from rfl, if_pos rfl]; refine wpAny_bind (wpAny_rule ?_)
  have hl2 : h1.get? l = some (seqObj "list" items n) := k1 _ _ hl1
  have hL : h1.IsList l items := ⟨_, hl2, rfl, n, rfl⟩
  refine wpAny_bind (wpAny_pyIter_list (s := { s with heap := h1, toks := tk1 }) hL ?_)
  have hD1 : h1.get? s.heap.objs.size = some { cls := .type "dict", data := .dict #[] } := k1 _ _ hD
  have hDlt : s.heap.objs.size < h1.objs.size := Heap.lt_size hD1
  have kA : ∀ b o, s.heap.get? b = some o → h1.get? b = some o := fun b o q => k1 _ _ (Heap.get?_push_of_some _ q)
  refine wpAny_pure ⟨plainId_quiet plain_dul _, ?_⟩
  have ne1 : ∀ b, b < s.heap.objs.size → b ≠ h1.objs.size := fun b hb => Nat.ne_of_lt (Nat.lt_trans hb hDlt)
  refine dict_loop (J := fun i h => J i h ∧ ∀ b o, s.heap.get? b = some o → h.get? b = some o) (ks := ks) (vs := vs) (l := l) (items := items) (by simpa using hh) (Nat.ne_of_lt hDlt) (Nat.ne_of_gt hll) (ne1 l hll)
    (fun i h h' a1 a2 a3 ⟨j1, j2⟩ => ⟨stab i h h' a1 (fun b o hb q => a3 b o (ne1 b hb) q) j1, fun b o q => a3 b o (ne1 b (Heap.lt_size q)) (j2 b o q)⟩)
    (fun i s' Q' E' hi ⟨j1, j2⟩ hq => step _ i s' Q' E' rfl hi j1 j2 fun h' tk sb j' => hq h' tk sb ⟨j', fun b o q => (sb.2 b (Nat.ne_of_lt (Heap.lt_size q))).trans (j2 b o q)⟩)
    (fun i t ht => by
      have hi : i < items.size := by
        rcases Nat.lt_or_ge i items.size with z | z
        · exact z
        · rw [Array.getElem?_eq_none z] at ht; cases ht
      obtain ⟨u, u1, u2, ou, nu, u3, u4, _⟩ := hp i hi
      cases u3
      rw [u1] at ht
      cases ht
      exact ⟨Nat.ne_of_lt (Heap.lt_size u4), ne1 _ (Heap.lt_size u4)⟩)
    items.size 0 _ (by omega) (Nat.zero_le _) ⟨_, Heap.get?_push_size _ rfl, rfl, rfl⟩ (hL.push _) (fun i hi => let ⟨t, h1', h2'⟩ := hp i hi; ⟨t, h1', h2'.keeps fun b o q => Heap.get?_push_of_some _ (kA b o q)⟩)
    ⟨stab _ _ _ (fun o q => Heap.get?_push_of_some _ (k1 _ _ q)) (fun b o _ q => Heap.get?_push_of_some _ (k1 _ _ q)) j0, fun b o q => Heap.get?_push_of_some _ (kA b o q)⟩
    fun h2 tk2 k2 ⟨j1, j2⟩ => ?_
  exact ⟨rfl, h h2 tk2 j2 j1⟩
end
end Wr

set_option maxHeartbeats 4000000
namespace L2
open PySem PySem.Spec PyProof.Rows
/-! ### sets of whole numbers (made on the spot), their sorted lists; dict(..) of pairs -/
/-- a tracked set -/
def setO (w : World) (a : Addr) (ns : List Int) : HO := .ext fun h => Wr.ISet w h a ns
theorem setO_ok {P : Program} {w : World} {H : Hp} {h : Heap} {a : Addr} {ns : List Int} (x : Wr.ISet w h a ns) : ObjOk P w H h a (setO w a ns) := by
  obtain ⟨o, es, ep, t, R⟩ := x.raw
  exact ⟨x, ⟨o, R.at'⟩, fun h1 h2 y k => y.keeps k⟩
theorem iset_nodup {w : World} {h : Heap} {a : Addr} {ns : List Int} (x : Wr.ISet w h a ns) : ns.Nodup := let ⟨_, _, _, _, _, _, _, _, nd, _⟩ := x.ex; nd
section
variable {X : Cx} {pins : List (Addr × Obj)} {σ : St} {H : Hp} {s : Shared}
theorem Inv.setAt {a : Addr} {ns : List Int} (I : Inv X pins σ H s) (h : H a = some (setO X.w a ns)) : Wr.ISet X.w s.heap a ns := (I.hok a _ h).1
theorem inv_hd (I : Inv X pins σ H s) (hc : X.calm = true) : X.A.handled = none := I.ok.hd hc
theorem ents_of {P : Program} {w : World} {kvs : List (Key × V)} {ns : List Int} (hk : kvs.map (·.1) = ns.map Sum.inl) {vs : List (Key × Value)} (r : KV kvs vs) {es : List DictEntry} (ps : Pairs (mixKind P w) es vs)
    (ks : ∀ e ∈ es, ∃ k, (mixKind P w).is k e.key = true ∧ e.hash = (mixKind P w).hash k) : Paired Wr.EntI es ns := by
  induction ps generalizing kvs ns with
  | nil =>
    cases r
    cases ns with
    | nil => exact .nil
    | cons n ns => simp at hk
  | @cons e kv es vs' h1 h2 _ ih =>
    cases r with
    | cons rp rt =>
      cases ns with
      | nil => simp at hk
      | cons n ns =>
        rw [List.map_cons, List.map_cons] at hk
        injection hk with k1 k2
        refine .cons ?_ (ih k2 rt fun e he => ks e (List.mem_cons_of_mem _ he))
        have e1 : kv.1 = Sum.inl n := rp.1.symm.trans k1
        rw [e1] at h1
        have h1' : keyIs (Sum.inl n) e.key = true := h1
        rcases keyIs_shape h1' with ⟨i, t, q1, q2⟩ | ⟨x, t, q1, _⟩
        · cases q1
          obtain ⟨k', m1, m2⟩ := ks e List.mem_cons_self
          have : k' = Sum.inl n := (mixKind P w).inj _ _ _ m1 h1
          subst this
          exact ⟨m2, t, q2⟩
        · cases q1
def rSetD (w : World) : List V → Hp → VK → Prop := fun xs H Q => ∃ (d : Addr) (kvs : List (Key × V)) (ns : List Int), xs = [.ref d] ∧ H d = some (.dK kvs) ∧ kvs.map (·.1) = ns.map Sum.inl ∧ ns.length < 126 ∧ ∀ (p : Addr) (ms : List Int), H p = none → (∀ x, x ∈ ms ↔ x ∈ ns) → ms.Nodup → ms.length ≤ ns.length → Q (.ref p) (upd H p (setO w p ms))
theorem call_set_dict : CallR X (.type "set") (rSetD X.w) := by
  intro pins s σ H xs us Q I r ⟨d, kvs, ns, e, hd, hk, hl, q⟩
  subst e
  obtain ⟨u, rfl, ru⟩ := Vals.one r
  cases ru
  obtain ⟨_, y, vs, rel, od, es, ep, e1, ex, e2, keys, prs, nd⟩ := dk_of I.hok hd
  refine Wr.set_of_dict e1 ex.1 e2 y (ents_of hk rel prs fun e he => keys e (by simpa using he)) hl fun h' ms k hS mem len => ?_
  exact ⟨.ref s.heap.objs.size, _, I.laid (a := s.heap.objs.size) (o := setO X.w s.heap.objs.size ms) (t' := s.toks) (fun b u z => k b u z) (Nat.le_refl _) (setO_ok hS), rfl, q _ ms (I.hok.fresh (Nat.le_refl _)) mem (iset_nodup hS) len⟩
def rBor (w : World) : R2 := fun x y H Q => ∃ (a b : Addr) (ns ms : List Int), x = .ref a ∧ y = .ref b ∧ a ≠ b ∧ H a = some (setO w a ns) ∧ H b = some (setO w b ms) ∧ ns.length + ms.length < 127 ∧
  ∀ (p : Addr) (ks : List Int), H p = none → (∀ x, x ∈ ks ↔ x ∈ ns ∨ x ∈ ms) → ks.Nodup → ks.length ≤ ns.length + ms.length → Q (.ref p) (upd H p (setO w p ks))
theorem op_bor : OpR X (binaryOp .BitOr) (rBor X.w) := by
  intro pins s σ H x y v u Q I rx ry ⟨a, b, ns, ms, e1, e2, hab, ha, hb, hl, q⟩
  subst e1 e2
  cases rx
  cases ry
  refine Wr.iset_or hab (I.setAt ha) (I.setAt hb) hl fun h' ks k hS mem len => ?_
  exact ⟨.ref s.heap.objs.size, _, I.laid (a := s.heap.objs.size) (o := setO X.w s.heap.objs.size ks) (t' := s.toks) (fun b u z => k b u z) (Nat.le_refl _) (setO_ok hS), rfl, q _ ks (I.hok.fresh (Nat.le_refl _)) mem (iset_nodup hS) len⟩
def rSortS (w : World) : List V → Hp → VK → Prop := fun xs H Q => ∃ (a : Addr) (ns : List Int), xs = [.ref a] ∧ H a = some (setO w a ns) ∧ ns.length < 64 ∧ ∀ (D : Addr) (ns' : List Int), H D = none → ns'.Perm ns → Wr.Inc ns' → Q (.ref D) (upd H D (.lst (ns'.map V.int)))
theorem inc_of {l : List Int} (h : l.Pairwise (· ≤ ·)) (nd : l.Nodup) : Wr.Inc l := by
  induction l with
  | nil => exact .nil
  | cons x l ih =>
    obtain ⟨h1, h2⟩ := List.pairwise_cons.mp h
    obtain ⟨n1, n2⟩ := List.nodup_cons.mp nd
    refine List.pairwise_cons.mpr ⟨fun y hy => ?_, ih h2 n2⟩
    have a := h1 y hy
    have b : x ≠ y := fun e => n1 (e ▸ hy)
    omega
theorem call_sort_set (hc : X.calm = true) : CallR X (.builtin "sorted") (rSortS X.w) := by
  intro pins s σ H xs us Q I r ⟨a, ns, e, ha, h64, q⟩
  subst e
  obtain ⟨u, rfl, ru⟩ := Vals.one r
  cases ru
  have hS := I.setAt ha
  refine Wr.iset_sorted (inv_hd I hc) hS h64 fun D h' vs c ns' tk k hD hg hints pm pw => ?_
  have hl : ns'.length < 64 := by rw [pm.length_eq]; exact h64
  refine ⟨.ref D, _, I.laid (a := D) (o := .lst (ns'.map V.int)) (t' := tk) (fun b u z => k b u z) hD ⟨?_, vs, c, vals_ints hints, hg⟩, rfl, q D ns' (I.hok.fresh hD) pm (inc_of pw (pm.nodup_iff.mpr (iset_nodup hS)))⟩
  rw [List.length_map]
  exact line64 hl
/-- dict(l) of pairs whose first are numbers, all unlike -/
def rDictI : List V → Hp → VK → Prop := fun xs H Q => ∃ (l : Addr) (ys : List V) (ps : List (Int × V)), xs = [.ref l] ∧ H l = some (.lst ys) ∧ Paired (fun y (p : Int × V) => ∃ t, y = .ref t ∧ H t = some (.tup [.int p.1, p.2])) ys ps ∧ (ps.map (·.1)).Nodup ∧ ps.length ≤ 1000 ∧
  ∀ p : Addr, H p = none → Q (.ref p) (upd H p (.dK (ps.map fun q => (Sum.inl q.1, q.2))))
theorem stored_new {κ : Type} [DecidableEq κ] {kvs : List (κ × Value)} {k : κ} {v : Value} (h : k ∉ kvs.map (·.1)) : stored kvs k v = kvs ++ [(k, v)] := by
  unfold stored
  rw [if_neg]
  intro z
  obtain ⟨kv, h1, h2⟩ := List.any_eq_true.mp z
  exact h (List.mem_map.mpr ⟨kv, h1, of_decide_eq_true h2⟩)
theorem big_ok (I : Inv X pins σ H s) : sysModules < s.heap.objs.size := I.big
theorem call_dict_ints (hc : X.calm = true) : CallR X (.type "dict") rDictI := by
  intro pins s σ H xs us Q I r ⟨l, ys, ps, e, hl, hp, nd, hz, q⟩
  subst e
  obtain ⟨u, rfl, ru⟩ := Vals.one r
  cases ru
  obtain ⟨_, its, n, rv, hg⟩ : ObjOk X.prog X.w H s.heap l (.lst ys) := I.hok l _ hl
  have lens : its.length = ps.length := by rw [← rv.length]; exact Paired.length hp
  -- each pair's tuple in the heap
  have pr : ∀ i, i < ps.length → ∃ t tk u, its[i]? = some (.ref t) ∧ Wr.PairAt s.heap (.ref t) (.int (ps.getD i (0, .non)).1 tk) u ∧ RelV (ps.getD i (0, .non)).2 u := fun i hi => by
    obtain ⟨y, hy⟩ : ∃ y, ys[i]? = some y := ⟨ys[i]'(by rw [Paired.length hp]; exact hi), by simp [Paired.length hp, hi]⟩
    obtain ⟨pp, hpp, t, rfl, ht⟩ := paired_at hp hy
    have eg : ps.getD i (0, .non) = pp := by simp [hpp]
    obtain ⟨u, hu, ru⟩ := rv.get hy
    cases ru
    obtain ⟨_, tv, rt, ⟨ot, oe, oc, on, od⟩⟩ : ObjOk X.prog X.w H s.heap t (.tup [.int pp.1, pp.2]) := I.hok t _ ht
    obtain ⟨a, b, rfl, ra, rb⟩ := vals2 rt
    obtain ⟨tk, rfl⟩ := ra
    rw [eg]
    exact ⟨t, tk, b, hu, ⟨t, ot, on, rfl, oe, oc, od⟩, rb⟩
  obtain ⟨F, hF⟩ : ∃ F : Nat → Tok × Value, ∀ i, i < ps.length → ∃ t, its[i]? = some (.ref t) ∧ Wr.PairAt s.heap (.ref t) (.int (ps.getD i (0, .non)).1 (F i).1) (F i).2 ∧ RelV (ps.getD i (0, .non)).2 (F i).2 :=
    Classical.axiomOfChoice (r := fun i (p : Tok × Value) => i < ps.length → ∃ t, its[i]? = some (.ref t) ∧ Wr.PairAt s.heap (.ref t) (.int (ps.getD i (0, .non)).1 p.1) p.2 ∧ RelV (ps.getD i (0, .non)).2 p.2) fun i => by
      by_cases hi : i < ps.length
      · obtain ⟨t, tk, u, h1, h2, h3⟩ := pr i hi
        exact ⟨(tk, u), fun _ => ⟨t, h1, h2, h3⟩⟩
      · exact ⟨(0, .none), fun z => absurd z hi⟩
  have hsz : its.toArray.size = ps.length := by rw [List.size_toArray]; exact lens
  refine Wr.dict_of_pairs (items := its.toArray) (ks := fun i => .int (ps.getD i (0, .non)).1 (F i).1) (vs := fun i => (F i).2) (inv_hd I hc) hg (fun i hi => ?_)
    (J := fun i h => ∃ vs, KV ((ps.take i).map fun q => ((Sum.inl q.1 : Key), q.2)) vs ∧ h.DictOf (mixKind X.prog X.w) s.heap.objs.size vs) ?_ ?_ ?_ ?_
  · obtain ⟨t, h1, h2, _⟩ := hF i (by omega)
    exact ⟨t, by simpa using h1, h2⟩
  · rintro i h h' k _ ⟨vs, r1, o, es, ep, e1, r2⟩
    exact ⟨vs, r1, o, es, ep, k _ e1, r2⟩
  · exact ⟨[], .nil, Heap.DictOf.new s.heap⟩
  · rintro A' i s' Q' E' _ hi ⟨vs, r1, dd⟩ _ hq
    have hi' : i < ps.length := by omega
    obtain ⟨t, _, _, rl⟩ := hF i hi'
    have hlv : vs.length = i := by
      rw [← Paired.length r1, List.length_map, List.length_take]; omega
    refine wpAny_dictSet_pairs (knd := mixKind X.prog X.w) (k := Sum.inl (ps.getD i (0, .non)).1) (keyIs_int _ (F i).1) dd (fun h' d' sb => hq h' _ sb ?_) (by rw [hlv, sizeLine_eq]; omega)
    have nk : (Sum.inl (ps.getD i (0, .non)).1 : Key) ∉ vs.map (·.1) := by
      have e1 : vs.map (·.1) = (ps.take i).map fun q => (Sum.inl q.1 : Key) := by
        have all : ∀ {a : List (Key × V)} {b : List (Key × Value)}, KV a b → b.map (·.1) = a.map (·.1) := by
          intro a b r
          induction r with
          | nil => rfl
          | cons h _ ih => rw [List.map_cons, List.map_cons, h.1, ih]
        rw [all r1, List.map_map]
        rfl
      rw [e1]
      intro z
      obtain ⟨q, hq1, hq2⟩ := List.mem_map.mp z
      have hq3 : q.1 = (ps.getD i (0, .non)).1 := Sum.inl.inj hq2
      obtain ⟨j, hj, rfl⟩ := List.mem_iff_getElem.mp hq1
      rw [List.length_take] at hj
      rw [List.getElem_take] at hq3
      have := (List.nodup_iff_pairwise_ne.mp nd)
      have hji := List.pairwise_iff_getElem.mp this j i (by rw [List.length_map]; omega) (by rw [List.length_map]; exact hi') (by omega)
      apply hji
      rw [List.getElem_map, List.getElem_map, hq3]
      simp [hi']
    rw [stored_new nk] at d'
    refine ⟨_, ?_, d'⟩
    rw [List.take_add_one, List.getElem?_eq_getElem hi', List.map_append]
    refine paired_snoc (R := fun (p : Key × V) (q : Key × Value) => p.1 = q.1 ∧ RelV p.2 q.2) ⟨?_, ?_⟩ r1
    · simp [hi']
    · have e2 : ps.getD i (0, .non) = ps[i] := by simp [hi']
      rw [e2] at rl
      exact rl
  · rintro h' tk k ⟨vs, r1, dd⟩
    rw [hsz, List.take_length] at r1
    refine ⟨.ref s.heap.objs.size, _, I.laid (a := s.heap.objs.size) (o := .dK (ps.map fun q => (Sum.inl q.1, q.2))) (t' := tk) (fun b u z => k b u z) (Nat.le_refl _) ⟨?_, ?_, vs, r1, dd⟩, rfl, q _ (I.hok.fresh (Nat.le_refl _))⟩
    · rw [List.length_map]
      exact Nat.le_of_lt (small1000 hz)
    · exact beq_eq_false_iff_ne.mpr (Nat.ne_of_gt I.big)
end
end L2

set_option maxHeartbeats 4000000
namespace L2
open PySem PySem.Spec PyProof.Rows

/-! ### zip of two lists: walked pair by pair, each turn's pair a new tuple -/
theorem nn {a b : Nat} (h : a ≠ b) : @Ne Addr a b := h
theorem apartAt (n l1 l2 : Nat) (h1 : l1 < n) (h2 : l2 < n) : ZipApart (n + 4) (n + 2) (n + 3) n (n + 1) l1 l2 := by constructor <;> exact nn (by omega)
section
variable {X : Cx} {pins : List (Addr × Obj)} {σ : St} {H : Hp} {s : Shared} {h' : Heap}
/-- untracked records of ours have turned, and a new tuple is tracked -/
theorem Inv.turnedT {t' : Nat} {fp : List Addr} {T : Addr} {o : HO} (I : Inv X pins σ H s) (hf : ∀ b ∈ fp, FpOk X pins H b) (k : ∀ b o, b ∉ fp → s.heap.get? b = some o → h'.get? b = some o) (kf : ∀ b ∈ fp, ∃ o, h'.get? b = some o)
    (hT : s.heap.objs.size ≤ T) (new : ObjOk X.prog X.w (upd H T o) h' T o) : Inv X pins σ (upd H T o) { s with heap := h', toks := t' } := by
  have hn : H T = none := I.hok.fresh hT
  have nit : ∀ b u, H b = some u → b ∉ fp := fun b u e z => by rw [(hf b z).1] at e; cases e
  have neT : ∀ b u, s.heap.get? b = some u → b ≠ T := fun b u e => Nat.ne_of_lt (Nat.lt_of_lt_of_le (Heap.lt_size e) hT)
  refine I.step (g' := s.gens) (d' := s.drawn) (ch := fp) (fun b hb => ?_) (fun b o _ _ hc e _ => k b o hc e) (fun b o _ _ hc e _ => ⟨o.slots, k b o hc e⟩) (fun b o _ e n => by rw [upd_ne (neT b o e)]; exact n)
    (fun b o hc e => ⟨o, k b o hc e⟩) (fun b xs e => by rw [upd_ne (ne_of_none e hn)]; exact e) (fun b o u e => by rw [upd_ne (ne_of_none e hn)]; exact e) (fun b ps e => ⟨#[], by rw [upd_ne (ne_of_none e hn), e]; simp⟩) (fun m hm => ?_) (fun b u e => ?_) I.bare
  · obtain ⟨f0, f1, f2, f3, f4, f5⟩ := hf b hb
    exact ⟨f3, f1, f4, f5⟩
  · obtain ⟨o, es, ep, ho, r⟩ := hm
    exact ⟨o, es, ep, k _ o (fun z => (hf _ z).2.1 rfl) ho, r⟩
  · by_cases hb : b = T
    · subst hb; rw [upd_same] at e; cases e; exact new
    · rw [upd_ne hb] at e
      refine (I.hok b u e).stay (fun c v hc q => k c v ?_ q) (fun c q => by rw [upd_ne (ne_of_none q hn)]; exact q) fun c xs q => by rw [upd_ne (ne_of_none q hn)]; exact q
      rcases hc with z | z
      · rw [z]; exact nit b u e
      · exact nit c _ z
theorem Inv.turnedS {t' : Nat} {fp : List Addr} (I : Inv X pins σ H s) (hf : ∀ b ∈ fp, FpOk X pins H b) (k : ∀ b o, b ∉ fp → s.heap.get? b = some o → h'.get? b = some o) : Inv X pins σ H { s with heap := h', toks := t' } := by
  have nit : ∀ b u, H b = some u → b ∉ fp := fun b u e z => by rw [(hf b z).1] at e; cases e
  refine I.step (g' := s.gens) (d' := s.drawn) (ch := fp) (fun b hb => ?_) (fun b o _ _ hc e _ => k b o hc e) (fun b o _ _ hc e _ => ⟨o.slots, k b o hc e⟩) (fun b o _ e n => n)
    (fun b o hc e => ⟨o, k b o hc e⟩) (fun b xs e => e) (fun b o u e => e) (fun b ps e => ⟨#[], by rw [e]; simp⟩) (fun m hm => ?_) (fun b u e => ?_) I.bare
  · obtain ⟨f0, f1, f2, f3, f4, f5⟩ := hf b hb
    exact ⟨f3, f1, f4, f5⟩
  · obtain ⟨o, es, ep, ho, r⟩ := hm
    exact ⟨o, es, ep, k _ o (fun z => (hf _ z).2.1 rfl) ho, r⟩
  · refine (I.hok b u e).stay (fun c v hc q => k c v ?_ q) (fun c q => q) fun c xs q => q
    rcases hc with z | z
    · rw [z]; exact nit b u e
    · exact nit c _ z
end
def Itz (K : PySem.W.Frag) (a b : Addr) : It :=
  ⟨fun i H => ∃ xs ys x y, SqL K H a xs ∧ SqL K H b ys ∧ xs[i]? = some x ∧ ys[i]? = some y,
   fun i H v H' => ∃ T x y, v = .ref T ∧ H T = none ∧ H' = upd H T (.tup [x, y]) ∧ ∀ xs ys, SqL K H a xs → SqL K H b ys → xs[i]? = some x ∧ ys[i]? = some y,
   fun i H => ∃ xs ys, SqL K H a xs ∧ SqL K H b ys ∧ (xs.length ≤ i ∨ ys.length ≤ i)⟩
abbrev zfp (n : Nat) : List Addr := [n, n + 1, n + 2, n + 3, n + 4]
def ztn (n : Nat) (a b : Addr) (i : Nat) (h : Heap) : Prop :=
  IsZip h (n + 4) (n + 2) (n + 3) .none ∧ IsPair h (n + 2) (.ref n) (.ref (n + 1)) ∧ (∃ u v, IsPair h (n + 3) u v) ∧ h.IsListIter n a i ∧ h.IsListIter (n + 1) b i
theorem zfp_not {n : Nat} {c : Addr} (h : c ∉ zfp n) : c ≠ n ∧ c ≠ n + 1 ∧ c ≠ n + 2 ∧ c ≠ n + 3 ∧ c ≠ n + 4 := by
  simp only [zfp, List.mem_cons, List.not_mem_nil, or_false, not_or] at h
  exact h
theorem turn_zip {P : Program} {w : World} {K : PySem.W.Frag} {elts : List Expr} {x1} {pos : Pos} (n a b : Nat) (ha : a < n) (hb : b < n) : Turn P w K (.Tuple elts x1 pos) (Itz K a b) (zfp n) (n + 4) (ztn n a b) where
  mem := by simp [zfp]
  obj := fun i h st c hc => by
    obtain ⟨s1, s2, ⟨u, v, s3⟩, ⟨o1, e1, c1, d1⟩, ⟨o2, e2, c2, d2⟩⟩ := st
    simp only [zfp, List.mem_cons, List.not_mem_nil, or_false] at hc
    rcases hc with rfl | rfl | rfl | rfl | rfl
    · exact ⟨o1, e1, fun v z => by rw [d1] at z; cases z⟩
    · exact ⟨o2, e2, fun v z => by rw [d2] at z; cases z⟩
    · exact ⟨_, s2, fun v z => by cases z⟩
    · exact ⟨_, s3, fun v z => by cases z⟩
    · exact ⟨_, s1, fun v z => by cases z⟩
  keep := fun i h h' st k => by
    obtain ⟨s1, s2, ⟨u, v, s3⟩, s4, s5⟩ := st
    exact ⟨k _ (by simp [zfp]) _ s1, k _ (by simp [zfp]) _ s2, ⟨u, v, k _ (by simp [zfp]) _ s3⟩, s4.at fun o e => k _ (by simp [zfp]) o e, s5.at fun o e => k _ (by simp [zfp]) o e⟩
  item := by
    intro X hP hw hK hc i pins s σ H E I hf st hg
    subst hP hw hK
    obtain ⟨xs, ys, x, y, hq1, hq2, hx, hy⟩ := hg
    obtain ⟨it1, rv1, p1, z1⟩ := I.list hq1
    obtain ⟨it2, rv2, p2, z2⟩ := I.list hq2
    obtain ⟨u1, hu1, ru1⟩ := rv1.get hx
    obtain ⟨u2, hu2, ru2⟩ := rv2.get hy
    obtain ⟨s1, s2, ⟨u, v, s3⟩, s4, s5⟩ := st
    refine wpAny_pyNext_zip_item (apartAt n a b ha hb) s1 s2 s3 s4 s5 p1.isList p2.isList (by simpa using hu1) (by simpa using hu2) fun h' q1 q2 q3 q4 q5 q6 q7 => ?_
    refine ⟨_, rfl, wpAny_letOwnedTupleGo_zip q1 fun h'' w1 w2 => ?_⟩
    have lt4 : n + 4 < s.heap.objs.size := Heap.lt_size s1
    have nT : s.heap.objs.size ∉ zfp n := fun z => by simp only [zfp, List.mem_cons, List.not_mem_nil, or_false] at z; rcases z with z | z | z | z | z <;> exact absurd (show _ = (_ : Nat) from z) (by omega)
    have kk : ∀ c o, c ∉ zfp n → s.heap.get? c = some o → h''.get? c = some o := fun c o hcn e => by
      obtain ⟨m1, m2, m3, m4, m5⟩ := zfp_not hcn
      exact w2.extBut _ _ m5 (q7 c o m5 m4 m1 m2 e)
    have q5' : IsPair h'' s.heap.objs.size u1 u2 := w2.extBut _ _ (nn (by omega)) q5
    have t2 : IsPair h'' (n + 2) (.ref n) (.ref (n + 1)) := w2.extBut _ _ (nn (by omega)) (q7 _ _ (nn (by omega)) (nn (by omega)) (nn (by omega)) (nn (by omega)) s2)
    have st' : ztn n a b (i + 1) h'' := ⟨w1, t2, ⟨_, _, w2.extBut _ _ (nn (by omega)) q2⟩, q3.extBut w2.extBut (nn (by omega)), q4.extBut w2.extBut (nn (by omega))⟩
    have vv : Vals [x, y] [u1, u2] := .cons ru1 (.cons ru2 .nil)
    have I1 : Inv X pins σ (upd H s.heap.objs.size (.tup [x, y])) { s with heap := h'' } := I.turnedT (t' := s.toks) hf kk (fun c hcn => by
      obtain ⟨t1, t2, ⟨_, _, t3⟩, ⟨_, t4, _⟩, ⟨_, t5, _⟩⟩ := st'
      simp only [zfp, List.mem_cons, List.not_mem_nil, or_false] at hcn
      rcases hcn with rfl | rfl | rfl | rfl | rfl
      · exact ⟨_, t4⟩
      · exact ⟨_, t5⟩
      · exact ⟨_, t2⟩
      · exact ⟨_, t3⟩
      · exact ⟨_, t1⟩) (Nat.le_refl _) ⟨by show 2 ≤ sizeLine; decide, [u1, u2], vv, _, q5', rfl, _, rfl⟩
    refine ⟨.ref s.heap.objs.size, _, I1, rfl, ⟨_, x, y, rfl, I.hok.fresh (Nat.le_refl _), rfl, fun xs' ys' k1 k2 => ?_⟩, st', fun c hcn => ?_⟩
    · rw [I.list_inj k1 hq1, I.list_inj k2 hq2]; exact ⟨hx, hy⟩
    · rw [upd_ne (fun (z : c = s.heap.objs.size) => nT (by rw [← z]; exact hcn))]; exact (hf c hcn).1
  done := by
    intro X hP hw hK hc i pins s σ H E I hf st hg
    subst hP hw hK
    obtain ⟨xs, ys, hq1, hq2, hz⟩ := hg
    obtain ⟨it1, rv1, p1, z1⟩ := I.list hq1
    obtain ⟨it2, rv2, p2, z2⟩ := I.list hq2
    obtain ⟨s1, s2, ⟨u, v, s3⟩, s4, s5⟩ := st
    have l1 := rv1.length
    have l2 := rv2.length
    refine wpAny_pyNext_zip_end (I.ok.hd hc) (apartAt n a b ha hb) s1 s2 s3 s4 s5 p1.isList p2.isList ?_ fun h' kk => ⟨rfl, I.turnedS (t' := s.toks) hf fun c o hcn e => ?_⟩
    · rcases hz with z | z
      · left; simp; omega
      · right; simp; omega
    · obtain ⟨m1, m2, m3, m4, m5⟩ := zfp_not hcn
      exact kk c o m5 m4 m1 m2 e
  self := fun _ _ _ _ _ st h => wpAny_pyIter_zip st.1 h
section
variable {X : Cx} {elts : List Expr} {x1} {ps : Pos}
def iZip (K : PySem.W.Frag) (ta : TA) : TI := fun σ H R => ta σ H fun vs H1 => ∃ a b, vs = [.ref a, .ref b] ∧ (∃ xs, SqL K H1 a xs) ∧ (∃ ys, SqL K H1 b ys) ∧ R (Itz K a b) H1
theorem pi_zip {e1 e2 : Expr} {ta : TA} {p pos : Pos} (hg : Gl X "zip") (hm : X.mg "zip" = none) (ha : PA X [e1, e2] ta) (hs : starEach [e1, e2] X.env = [(false, eval e1 X.env), (false, eval e2 X.env)]) (hs2 : starEach [e2] X.env = [(false, eval e2 X.env)]) :
    PI X (.Tuple elts x1 ps) (.Call (.Name "zip" p) [e1, e2] [] pos) (iZip X.K ta) := by
  intro pins s σ H R I h
  refine Call_ (ld_blt I hg hm boot_zip (PyProof.Rows.callWith_type1 (thn (ha pos pins s σ H _ I h) fun us s1 ⟨vs, H1, I1, r1, q1⟩ => ?_) (by rw [hs, hs2]) (by rw [hs2]; rfl)))
  obtain ⟨a, b, e, ⟨xs, hq1⟩, ⟨ys, hq2⟩, q⟩ := q1
  subst e
  cases r1 with
  | cons r rr =>
    cases rr with
    | cons r' rr =>
      cases rr
      cases r
      cases r'
      obtain ⟨it1, rv1, p1, z1⟩ := I1.list hq1
      obtain ⟨it2, rv2, p2, z2⟩ := I1.list hq2
      have la : a < s1.heap.objs.size := by obtain ⟨o, n, e, _⟩ := p1; exact Heap.lt_size e
      have lb : b < s1.heap.objs.size := by obtain ⟨o, n, e, _⟩ := p2; exact Heap.lt_size e
      refine call_zip_2 p1.isList p2.isList fun h' k1 k2 k3 k4 k5 k6 k7 => ?_
      refine wpAny_pyIter_zip k1 ?_
      refine ⟨_, zfp s1.heap.objs.size, ztn s1.heap.objs.size a b, Itz X.K a b, H1, rfl, I1.kept (t' := s1.toks) k7, turn_zip s1.heap.objs.size a b la lb, ⟨k1, k2, ⟨_, _, k3⟩, k4, k5⟩, fun c hc => ?_, q⟩
      refine I1.fpOk ?_ (I1.hok.fresh ?_)
      all_goals (simp only [zfp, List.mem_cons, List.not_mem_nil, or_false] at hc; rcases hc with rfl | rfl | rfl | rfl | rfl <;> simp)
theorem i_zip {e1 e2 : Expr} {t : TA} {p pos : Pos} (hm : X.mg "zip" = none) (ha : JA X [e1, e2] t) (hg : Gl X "zip" := by rfl) : JI X (.Tuple elts x1 ps) (.Call (.Name "zip" p) [e1, e2] [] pos) (iZip X.K t) :=
  ⟨pi_zip hg hm ha.h (by rw [ha.hd.star, (Nsts.star ha.rs _)]; rfl) (by rw [(Nsts.star ha.rs _)]; rfl)⟩
/-- over two lists of the same length that the body leaves as they are -/
theorem for_zip {K : PySem.W.Frag} {a b : Addr} {xs ys : List V} {g : TG} {tb : TS} {D : Ends} {σ : St} {H : Hp} (hlen : xs.length = ys.length) (Pv : Nat → St → Hp → Prop) (h0 : Pv 0 σ H) (hl : ∀ i σ H, i ≤ xs.length → Pv i σ H → SqL K H a xs ∧ SqL K H b ys)
    (hs : ∀ i x y T σ H, xs[i]? = some x → ys[i]? = some y → Pv i σ H → H T = none → g (.ref T) σ (upd H T (.tup [x, y])) fun σ2 H2 => tb { D with nx := Pv (i + 1), ct := Pv (i + 1), bk := D.nx } σ2 H2) (hd : ∀ σ H, Pv xs.length σ H → D.nx σ H) :
    ∃ W : Nat → Nat → St → Hp → Prop, (∃ m, W 0 m σ H) ∧ ∀ i m σ H, W i m σ H →
      ((Itz K a b).stop i H ∧ D.nx σ H) ∨ ((Itz K a b).go i H ∧ ∃ N : St → Hp → Prop, (∀ σ' H', N σ' H' → ∃ m', m' < m ∧ W (i + 1) m' σ' H') ∧ ∀ x H', (Itz K a b).yld i H x H' → g x σ H' fun σ2 H2 => tb { D with nx := N, ct := N, bk := D.nx } σ2 H2) := by
  refine ⟨fun i m σ H => m = xs.length - i ∧ i ≤ xs.length ∧ Pv i σ H, ⟨xs.length, by simp, Nat.zero_le _, h0⟩, ?_⟩
  rintro i m σ H ⟨rfl, hi, p⟩
  obtain ⟨q1, q2⟩ := hl i σ H hi p
  by_cases hlt : i < xs.length
  · refine .inr ⟨⟨xs, ys, xs[i], ys[i]'(hlen ▸ hlt), q1, q2, by simp [hlt], by simp [hlen ▸ hlt]⟩, Pv (i + 1), fun σ' H' p' => ⟨xs.length - (i + 1), by omega, rfl, hlt, p'⟩, fun x H' y => ?_⟩
    obtain ⟨T, x, y, rfl, hT, rfl, e⟩ := y
    obtain ⟨e1, e2⟩ := e xs ys q1 q2
    exact hs i x y T σ H e1 e2 p hT
  · have e : i = xs.length := by omega
    subst e
    exact .inl ⟨⟨xs, ys, q1, q2, .inl (Nat.le_refl _)⟩, hd σ H p⟩
theorem comp_zip {K : PySem.W.Frag} {a b : Addr} {xs ys : List V} {g : TG} {tt : TT} {te : TE} {Q : VK} {σ : St} {H : Hp} {D : Addr} (hlen : xs.length = ys.length) (Pv : Nat → St → Hp → Prop) (h0 : Pv 0 σ H) (hl : ∀ i σ H, i ≤ xs.length → Pv i σ H → SqL K H a xs ∧ SqL K H b ys)
    (hs : ∀ i x y T σ H, xs[i]? = some x → ys[i]? = some y → Pv i σ H → H T = none → g (.ref T) σ (upd H T (.tup [x, y])) fun σ2 H2 => tt σ2 H2 fun b H3 => if b = true then te σ2 H3 fun v H4 => ∃ zs, H4 D = some (.lst zs) ∧ zs.length < sizeLine ∧ Pv (i + 1) σ2 (upd H4 D (.lst (zs ++ [v]))) else Pv (i + 1) σ2 H3)
    (hd : ∀ σ H, Pv xs.length σ H → Q (.ref D) H) : CompW (Itz K a b) g tt te D Q σ H := by
  refine ⟨fun i m σ H => m = xs.length - i ∧ i ≤ xs.length ∧ Pv i σ H, ⟨xs.length, by simp, Nat.zero_le _, h0⟩, ?_⟩
  rintro i m σ H ⟨rfl, hi, p⟩
  obtain ⟨q1, q2⟩ := hl i σ H hi p
  by_cases hlt : i < xs.length
  · refine .inr ⟨⟨xs, ys, xs[i], ys[i]'(hlen ▸ hlt), q1, q2, by simp [hlt], by simp [hlen ▸ hlt]⟩, fun σ' H' => Pv (i + 1) σ' H', fun σ' H' p' => ⟨xs.length - (i + 1), by omega, rfl, hlt, p'⟩, fun x H' y => ?_⟩
    obtain ⟨T, x, y, rfl, hT, rfl, e⟩ := y
    obtain ⟨e1, e2⟩ := e xs ys q1 q2
    exact hs i x y T σ H e1 e2 p hT
  · have e : i = xs.length := by omega
    subst e
    exact .inl ⟨⟨xs, ys, q1, q2, .inl (Nat.le_refl _)⟩, hd σ H p⟩
/-- over a tuple -/
theorem comp_tup {K : PySem.W.Frag} {a : Addr} {xs : List V} {g : TG} {tt : TT} {te : TE} {Q : VK} {σ : St} {H : Hp} {D : Addr} (Pv : Nat → St → Hp → Prop) (h0 : Pv 0 σ H) (hl : ∀ i σ H, i ≤ xs.length → Pv i σ H → SqT K H a xs)
    (hs : ∀ i x σ H, xs[i]? = some x → Pv i σ H → g x σ H fun σ2 H2 => tt σ2 H2 fun b H3 => if b = true then te σ2 H3 fun v H4 => ∃ zs, H4 D = some (.lst zs) ∧ zs.length < sizeLine ∧ Pv (i + 1) σ2 (upd H4 D (.lst (zs ++ [v]))) else Pv (i + 1) σ2 H3)
    (hd : ∀ σ H, Pv xs.length σ H → Q (.ref D) H) : CompW (Itt K a) g tt te D Q σ H := by
  refine ⟨fun i m σ H => m = xs.length - i ∧ i ≤ xs.length ∧ Pv i σ H, ⟨xs.length, by simp, Nat.zero_le _, h0⟩, ?_⟩
  rintro i m σ H ⟨rfl, hi, p⟩
  have q := hl i σ H hi p
  by_cases hlt : i < xs.length
  · refine .inr ⟨⟨xs, xs[i], q, by simp [hlt]⟩, fun σ' H' => Pv (i + 1) σ' H', fun σ' H' p' => ⟨xs.length - (i + 1), by omega, rfl, hlt, p'⟩, fun x H' y => ?_⟩
    obtain ⟨e, y⟩ := y
    subst e
    exact hs i x σ _ (y xs q) p
  · have e : i = xs.length := by omega
    subst e
    exact .inl ⟨⟨xs, q, Nat.le_refl _⟩, hd σ H p⟩
end
section
variable {X : Cx} {e o i : Expr} {te to ti : TE} {t : TA} {pos : Pos} {k : Nat}
theorem c_setD (w : World) (hw : X.w = w := by rfl) : JC X (.type "set") (rSetD w) := by subst hw; exact ⟨call_set_dict⟩
theorem o_bor (w : World) (hw : X.w = w := by rfl) : JOp X (binaryOp .BitOr) (rBor w) := by subst hw; exact ⟨op_bor⟩
theorem c_sortS (w : World) (hw : X.w = w := by rfl) (hc : X.calm = true := by rfl) : JC X (.builtin "sorted") (rSortS w) := by subst hw; exact ⟨call_sort_set hc⟩
theorem c_dictI (hc : X.calm = true := by rfl) : JC X (.type "dict") rDictI := ⟨call_dict_ints hc⟩
theorem e_din (hr : Room k X.A) (hi : JE X i ti) (ho : JE X o to) (hb : behindInMarks .In o = false := by rfl) : JE X (.Compare i [.In] [o] pos) (tDIn ti to) := ⟨pe_cmp (pc_din (by have := hr.units; omega) hi.h ho.h) hb⟩
theorem s_ext {apos cpos spos : Pos} (ho : JE X o to) (ha : JA X [e] t) (hbase : attributeBase o "extend" X.env (eval o X.env) = eval o X.env := by rfl) (hline : (apos.endLine == cpos.line) = true := by rfl) :
    JS X (.Expr (.Call (.Attribute o "extend" apos) [e] [] cpos) spos) (tDrop (tBM X.K "list" rExtend to t)) :=
  ⟨ps_expr (pe_bm PySem.F.plainAttrs_list PySem.F.slot_list_extend PySem.F.type_list_extend mt_extend ho.h ha.h hbase (by rw [ha.hd.star]; rfl) hline (ha.hd.star _ _) rfl) (Pln.swap (.call ..) _ _ _)⟩
end
end L2

set_option maxHeartbeats 4000000
namespace Prf
open PySem L2 Wr
theorem take_snoc {α : Type} {l : List α} {i : Nat} {x : α} (h : l[i]? = some x) : l.take (i + 1) = l.take i ++ [x] := by rw [List.take_add_one, h]; rfl
theorem inSpan_perm {l r : List Stt} (h : l.Perm r) (m : Int) : inSpan m l = inSpan m r := by
  rw [Bool.eq_iff_iff, inSpan_iff, inSpan_iff]
  constructor
  · rintro ⟨s, hs, q⟩; exact ⟨s, h.mem_iff.mp hs, q⟩
  · rintro ⟨s, hs, q⟩; exact ⟨s, h.mem_iff.mpr hs, q⟩
theorem vO_non (o : Option Int) : decide (vO o = .non) = o.isNone := by cases o <;> simp [vO]
theorem map_at {α β : Type} {f : α → β} {l : List α} {i : Nat} {x : β} (h : (l.map f)[i]? = some x) : ∃ a, l[i]? = some a ∧ x = f a := by
  rw [List.getElem?_map] at h
  cases e : l[i]? with
  | none => rw [e] at h; cases h
  | some a => rw [e] at h; exact ⟨a, rfl, (Option.some.inj h).symm⟩
theorem bnds_take {ss : List Stt} {i : Nat} {q : Stt} (h : ss[i]? = some q) : bnds (ss.take (i + 1)) = bnds (ss.take i) ++ (q.1.toList ++ q.2.toList) := by
  rw [take_snoc h]; unfold bnds; rw [List.flatMap_append]; simp
theorem bnds_take_len (ss : List Stt) (i : Nat) : (bnds (ss.take i)).length ≤ 2 * ss.length := by
  have := bnds_len (ss.take i)
  rw [List.length_take] at this
  omega
theorem len_sub : ∀ {l g : List Int}, l.Nodup → (∀ x ∈ l, x ∈ g) → l.length ≤ g.length
  | [], _, _, _ => Nat.zero_le _
  | x :: l, g, nd, h => by
    have hx := h x List.mem_cons_self
    obtain ⟨n1, n2⟩ := List.nodup_cons.mp nd
    have := len_sub (l := l) (g := g.erase x) n2 fun y hy => (List.mem_erase_of_ne (fun (e : y = x) => n1 (by rw [← e]; exact hy))).mpr (h y (List.mem_cons_of_mem _ hy))
    rw [List.length_erase_of_mem hx] at this
    have := List.length_pos_of_mem hx
    simp only [List.length_cons]
    omega
/-- at a bound one turns -/
theorem par_turn : ∀ {bs : List Int} {s : Bool} {b : Int}, Inc bs → b ∈ bs → par s bs b ≠ par s bs (b - 1)
  | x :: bs, s, b, hi, hb => by
    obtain ⟨h1, h2⟩ := List.pairwise_cons.mp hi
    rcases List.mem_cons.mp hb with rfl | hm
    · show par (s != decide (b ≤ b)) bs b ≠ par (s != decide (b ≤ b - 1)) bs (b - 1)
      rw [decide_eq_true (Int.le_refl b), decide_eq_false (by omega), par_low h1, par_low fun c hc => by have := h1 c hc; omega]
      cases s <;> decide
    · have := h1 b hm
      show par (s != decide (x ≤ b)) bs b ≠ par (s != decide (x ≤ b - 1)) bs (b - 1)
      rw [decide_eq_true (by omega), decide_eq_true (show x ≤ b - 1 by omega)]
      exact par_turn h2 hm
theorem piece_same {g : List Int} {b : Int} (h : b ∉ g) : piece g b = piece g (b - 1) := by
  unfold piece
  congr 1
  refine List.filter_congr fun x hx => ?_
  rw [Bool.eq_iff_iff, decide_eq_true_iff, decide_eq_true_iff]
  have : x ≠ b := fun e => h (e ▸ hx)
  omega
/-- a span that turns with the pieces of a grid has its bounds in the grid -/
theorem bnds_grid {g : List Int} {l : List Stt} {φ : Nat → Bool} (hl : Can l) (h : ∀ m, inSpan m l = φ (piece g m)) : ∀ b ∈ bnds l, b ∈ g := by
  intro b hb
  by_cases hg : b ∈ g
  · exact hg
  · have e1 := h b
    have e2 := h (b - 1)
    rw [piece_same hg] at e1
    rw [in_par hl] at e1 e2
    exact absurd (e1.trans e2.symm) (par_turn (can_bnds hl) hb)
end Prf

set_option maxHeartbeats 4000000
namespace L2
open PySem PySem.Spec PyProof.Rows
section
variable {prog : Program} {w : World} {A : Around} {E : Value → Shared → Prop} {s : Shared}
/-- list.sort of tuples of numbers -/
theorem list_sort_tuples {a : Addr} {n : Nat} {xs : List V} {vs : List Value} {kf : V → List Int} {P : PySem.Fin → Shared → Prop} (ho : s.heap.get? a = some (seqObj "list" vs.toArray n)) (r : Vals xs vs) (K : KeysAt s.heap vs (xs.map kf)) (h64 : vs.length < 64)
    (h : ∀ (ys : List V) (ws : List Value), Vals ys ws → ys.Perm xs → SortedBy kf ys → P (.done (.ret .none)) { s with heap := sortedHeap s.heap a vs ws.toArray }) :
    wpAny (model prog w) A (Builtin.«list.sort» ⟨[.ref a], []⟩) P E s := by
  rw [list_sort_plain]; have ha : a < s.heap.objs.size := Heap.lt_size ho
  have hl := Vals.length r; refine wpAny_bind (listItems_at ho rfl ?_)
  refine wpAny_bind (listUpdate_at ho rfl ?_); obtain ⟨e1, ho1⟩ : ∃ e1, (s.heap.update a (Obj.mapSeq fun _ => #[])).get? a = some (seqObj "list" #[] e1) := ⟨_, get?_update_seq ho (fun _ => #[])⟩
  refine wpAny_bind (seqEpoch_at ho1 rfl ?_); refine wpAny_bind (wpAny_newTuple ?_)
  refine wpAny_bind (wpAny_newList ?_); refine wpAny_holding ?_
  have ho6 : (((s.heap.update a (Obj.mapSeq fun _ => #[])).push (seqObj "tuple" vs.toArray 0)).push (seqObj "list" #[] 0)).get? a = some (seqObj "list" #[] e1) := by
    rw [Heap.get?_push_ne _ _ _ (by rw [size_push', Heap.size_update]; exact Nat.ne_of_lt (Nat.lt_succ_of_lt ha)), Heap.get?_push_ne _ _ _ (by rw [Heap.size_update]; exact Nat.ne_of_lt ha)]; exact ho1
  show wpAny (model prog w) A _ P E { s with heap := ((s.heap.update a (Obj.mapSeq fun _ => #[])).push (seqObj "tuple" vs.toArray 0)).push (seqObj "list" #[] 0) }; dsimp only
  have hsz : vs.toArray.size = vs.length := by simp
  by_cases h2 : vs.toArray.size < 2
  · rw [if_pos h2, if_pos h2]
    refine wpAny_bind (wpAny_pure ?_); rw [StateT.run_pure]
    refine wpAny_bind (wpAny_pure ?_); dsimp only
    refine wpAny_bind (seqEpoch_at ho6 rfl ?_)
    have eo : (arrOf (SortSt.mk' general' (vs.toArray.zip vs.toArray) #[] 7 none)).map (·.2) = vs.toArray := by
      show ((vs.toArray.zip vs.toArray)).map (·.2) = vs.toArray
      apply Array.toList_inj.mp
      rw [Array.toList_map, Array.toList_zip, List.map_snd_zip]
      simp
    rw [eo]; refine wpAny_bind (listUpdate_at ho6 rfl ?_ (hsz2 := by rw [hsz, sizeLine_eq]; omega))
    simp only [bne_self_eq_false, Bool.false_eq_true, if_false]; refine wpAny_pure (h xs vs r (List.Perm.refl _) ?_)
    unfold SortedBy
    match xs, hl with
    | [], _ => exact .nil
    | [_], _ => exact List.pairwise_singleton _ _
    | _ :: _ :: _, hl => simp at hl; omega
  · rw [if_neg h2, if_neg h2]
    have h2' : 2 ≤ vs.length := by rw [hsz] at h2; omega
    have K6 : KeysAt (((s.heap.update a (Obj.mapSeq fun _ => #[])).push (seqObj "tuple" vs.toArray 0)).push (seqObj "list" #[] 0)) vs (xs.map kf) := Paired.mapP K fun v k x => x.keeps fun b o hb hc => by
      have ne : b ≠ a := fun e => by rw [e, ho] at hb; cases hb; have hc' : Value.type "list" = Value.type "tuple" := hc; injection hc' with q; exact absurd q (by decide)
      have hlt : b < s.heap.objs.size := Heap.lt_size hb
      rw [Heap.get?_push_ne _ _ _ (by rw [size_push', Heap.size_update]; exact Nat.ne_of_lt (Nat.lt_succ_of_lt hlt)), Heap.get?_push_ne _ _ _ (by rw [Heap.size_update]; exact Nat.ne_of_lt hlt), Heap.get?_update_ne _ _ _ _ ne]; exact hb
    generalize hs6 : ({ s with heap := ((s.heap.update a (Obj.mapSeq fun _ => #[])).push (seqObj "tuple" vs.toArray 0)).push (seqObj "list" #[] 0) } : Shared) = s6
    have K6' : KeysAt s6.heap vs (xs.map kf) := (by rw [← hs6]; exact K6); refine wpAny_bind (kind_keys K6' (by omega) ?_)
    refine wpAny_bind (wpAny_mono (PySem.W.kat_run (Q := fun st' s' => s' = s6 ∧ ∃ p : Array Nat, arrOf st' = p.map (PySem.W.kas_item (vs.toArray.zip vs.toArray)) ∧ failedOf st' = none ∧ Wr.PBase vs.length p ∧ Wr.Up (fun i => rankI (xs.map kf) ((xs.map kf).getD i [])) p vs.length)
      (G := fun p s' => s' = s6 ∧ Wr.PBase vs.length p ∧ Wr.Up (fun i => rankI (xs.map kf) ((xs.map kf).getD i [])) p vs.length) rfl h2' (by omega) (fun p st' s' a1 a2 a3 a4 => ⟨a4.1, p, a2, a3, a4.2⟩) ?_) ?_ fun _ _ z => z)
    · exact Wr.w_sort (says_keys (prog := prog) (w := w) (A := A) K6') (by omega) fun p B u => ⟨rfl, B, u⟩
    · rintro ⟨⟨⟩, st'⟩ s' ⟨rfl, p, e1', hf, B, u⟩
      dsimp only
      subst hs6
      have ho' := PySem.W.kat_snds rfl e1'; rw [← hl] at B u
      refine wpAny_bind (seqEpoch_at ho6 rfl ?_); rw [ho']
      refine wpAny_bind (listUpdate_at ho6 rfl ?_ (hsz2 := (by rw [List.size_toArray, List.length_map, Array.length_toList, B.size, sizeLine_eq]; omega))); rw [hf]
      simp only [bne_self_eq_false, Bool.false_eq_true, if_false]; exact wpAny_pure (h _ _ (vals_pick r p.toList) (perm_pick xs .non p.toList B.perm) (sorted_pick B u (by omega)))
end
end L2

set_option maxHeartbeats 4000000
namespace Wr
open PySem PySem.Spec PyProof.Rows
/-! ### a dict by its entries, whatever its keys are -/
structure RDict (h : Heap) (d : Addr) (es : Array DictEntry) (ep : Nat) : Prop where
  ex : ∃ o, h.get? d = some o ∧ o.ExactDict ∧ o.data = .dict es ep
theorem RDict.at {h h' : Heap} {d : Addr} {es : Array DictEntry} {ep : Nat} (x : RDict h d es ep) (e : ∀ o, h.get? d = some o → h'.get? d = some o) : RDict h' d es ep := let ⟨o, a, r⟩ := x.ex; ⟨o, e o a, r⟩
section
variable {prog : Program} {w : World} {A : Around} {E : Value → Shared → Prop} {s : Shared} {d : Addr} {es : Array DictEntry} {ep : Nat}
theorem RDict.typeIs (x : RDict s.heap d es ep) : s.TypeIs (.ref d) "dict" := let ⟨o, a, b, _⟩ := x.ex; ⟨o, a, b.1⟩
theorem rd_iter {Q : Value → Shared → Prop} (hd : (d == sysModules) = false) (hm : RDict s.heap d es ep)
    (hQ : ∀ h', h'.IsKeyIter s.heap.objs.size d 0 es.size ep → (∀ b o, s.heap.get? b = some o → h'.get? b = some o) → Q (.ref s.heap.objs.size) { s with heap := h' }) : wpAny (model prog w) A (pyIter (.ref d)) Q E s := by
  obtain ⟨o, ho, hc, hdat⟩ := id hm.ex; have hT := hm.typeIs
  refine wpAny_pyIter_slot hT F.slot_dict_iter (wpAny_call_entry F.slot_dict_iter hT F.entry_dict_iter ?_ (F.args_dict_iter_1 _)); unfold Builtin.«dict.__iter__»
  refine wpAny_bind ?_; unfold Builtin.Dict.dictSlotNone
  refine wpAny_bind (wpAny_notOrdered_dict hT ?_); show wpAny _ _ (pure (Value.ref d)) _ _ s
  refine wpAny_pure ?_; show wpAny _ _ (Builtin.Dict.showsAll d >>= _) _ _ s
  unfold Builtin.Dict.showsAll; rw [if_neg (by rw [hd]; exact Bool.false_ne_true)]
  refine wpAny_bind (wpAny_pure (wpAny_bind (wpAny_dictEntries ho hdat (wpAny_bind (wpAny_dictEpoch ho hdat ?_)))))
  refine wpAny_bind (wpAny_newObj_type (wpAny_pure ⟨_, rfl, "dict_keyiterator", _, ⟨_, Heap.get?_push_size _ rfl, rfl⟩, F.slot_dict_keyiterator_next.lookup, ?_⟩))
  exact hQ _ ⟨_, Heap.get?_push_size _ rfl, rfl, rfl⟩ fun b o e => Heap.get?_push_of_some _ e
theorem rd_iterK {v : Addr} {Q : Value → Shared → Prop} (hv : PySem.W.KdlKeysView s.heap v d) (hm : RDict s.heap d es ep)
    (hQ : ∀ h', h'.IsKeyIter s.heap.objs.size d 0 es.size ep → (∀ b o, s.heap.get? b = some o → h'.get? b = some o) → Q (.ref s.heap.objs.size) { s with heap := h' }) : wpAny (model prog w) A (pyIter (.ref v)) Q E s := by
  obtain ⟨ov, hov, hcv, hdv⟩ := id hv; obtain ⟨o, ho, hc, hdat⟩ := id hm.ex
  refine wpAny_pyIter_slot hv.typeIs PySem.W.kdl_slot_keys_iter (wpAny_call_entry PySem.W.kdl_slot_keys_iter hv.typeIs PySem.W.kdl_entry_keys_iter ?_ (PySem.W.kdl_args_keys_iter _)); unfold Builtin.«dict_keys.__iter__»
  refine wpAny_bind (wpAny_pure (wpAny_bind ?_)); unfold Builtin.Dict_items.dictOf
  refine wpAny_bind (wpAny_field hov hdv (x := .ref d) rfl (wpAny_pure (wpAny_bind ?_))); unfold Builtin.Dict_items.newIterator
  refine wpAny_bind (wpAny_dictEntries ho hdat (wpAny_bind (wpAny_dictEpoch ho hdat ?_)))
  have hown : Builtin.Dict_items.ownsTuple "dict_keyiterator" = false := (by decide); simp only [hown, Bool.false_eq_true, if_false]
  refine wpAny_newObj_type (wpAny_pure ⟨_, rfl, "dict_keyiterator", _, ⟨_, Heap.get?_push_size _ rfl, rfl⟩, PySem.F.slot_dict_keyiterator_next.lookup, ?_⟩)
  exact hQ _ ⟨_, Heap.get?_push_size _ rfl, rfl, rfl⟩ fun b o e => Heap.get?_push_of_some _ e
theorem rd_next {it : Addr} {i : Nat} {e : DictEntry} {Q : Option Value → Shared → Prop} (hit : s.heap.IsKeyIter it d i es.size ep) (hm : RDict s.heap d es ep) (hx : es[i]? = some e)
    (hQ : ∀ h', h'.IsKeyIter it d (i + 1) es.size ep → Heap.SameBut it s.heap h' → Q (some e.key) { s with heap := h' }) : wpAny (model prog w) A (pyNext (.ref it)) Q E s := by
  obtain ⟨o, ho, hc, hd⟩ := id hit; obtain ⟨od, hod, hcd, hdd⟩ := id hm.ex; unfold pyNext
  refine wpAny_bind (wpAny_attempt (wpAny_callSpecial?_slot (name := Str.ofString "__next__") hit.typeIs F.slot_dict_keyiterator_next (wpAny_call_entry F.slot_dict_keyiterator_next hit.typeIs F.entry_dict_keyiterator_next ?_ (F.args_dict_keyiterator_next_1 _))))
  refine wpAny_bind (wpAny_pure (wpAny_bind (wpAny_bind ?_)))
  first | refine wpAny_bind (wpAny_typeNameOfWhole_keyiter hit.typeIs (wpAny_pure ?_)); skip | refine wpAny_bind (wpAny_typeNameOf_keyiter hit.typeIs (wpAny_pure ?_)); skip
  have hown : Builtin.Dict_items.ownsTuple "dict_keyiterator" = false := (by decide)
  refine wpAny_bind (wpAny_fieldsOf ho hd ?_); simp only [hown, Bool.false_eq_true, if_false]
  show wpAny _ _ (if (Value.ref d == Value.none) = true then _ else _) _ _ s; rw [if_neg (show ¬ ((Value.ref d == Value.none) = true) from Bool.false_ne_true)]
  refine wpAny_bind (wpAny_pure (wpAny_bind (wpAny_dictEntries hod hdd ?_))); rw [if_neg (by simp)]
  refine wpAny_bind (wpAny_pure (wpAny_bind (wpAny_dictEpoch hod hdd ?_))); rw [if_neg (by simp)]; refine wpAny_pure ?_
  obtain ⟨hlt', ee⟩ := Array.getElem?_eq_some_iff.mp hx
  simp only [show ¬ ((i : Int) < 0) from (by omega), if_false, Int.toNat_natCast, Array.getElem?_eq_getElem hlt']; refine wpAny_bind ?_
  first | refine wpAny_bind (wpAny_typeNameOfWhole_keyiter hit.typeIs (wpAny_pure ?_)); skip | refine wpAny_bind (wpAny_typeNameOf_keyiter hit.typeIs (wpAny_pure ?_)); skip
  refine wpAny_bind (wpAny_isOneOf_keyiter hit.typeIs ?_); show wpAny _ _ (setField (.ref it) 1 (rawInt ((i : Int) + 1)) >>= _) _ _ s
  refine wpAny_bind (wpAny_setField ho hd (by simp) ?_)
  have hit' : (s.heap.update it (Obj.mapFields (·.setIfInBounds 1 (rawInt ((i : Int) + 1))))).IsKeyIter it d (i + 1) es.size ep := ⟨_, Heap.get?_update_self _ ho (Obj.isFreed_of_fields (Obj.data_mapFields hd _)), (Obj.cls_mapFields ..).trans hc, by rw [Obj.data_mapFields hd]; simp [rawInt]⟩
  refine wpAny_bind (wpAny_holding (wpAny_bind (wpAny_isOneOf_keyiter (s := { s with heap := s.heap.update it (Obj.mapFields (·.setIfInBounds 1 (rawInt ((i : Int) + 1)))) }) hit'.typeIs ?_)))
  show wpAny _ _ (pure es[i].key) _ _ _; rw [ee]
  exact wpAny_pure (wpAny_pure ⟨_, rfl, wpAny_pure (hQ _ hit' (Heap.SameBut.update ..))⟩)
theorem rd_end {it : Addr} {i : Nat} {Q : Option Value → Shared → Prop} (hh : A.handled = none) (hit : s.heap.IsKeyIter it d i es.size ep) (hm : RDict s.heap d es ep) (hx : es.size ≤ i)
    (hQ : ∀ h', Heap.ExtBut it s.heap h' → Q none { s with heap := h' }) : wpAny (model prog w) A (pyNext (.ref it)) Q E s := by
  obtain ⟨o, ho, hc, hd⟩ := id hit; obtain ⟨od, hod, hcd, hdd⟩ := id hm.ex; unfold pyNext
  refine wpAny_bind (wpAny_attempt (wpAny_callSpecial?_slot (name := Str.ofString "__next__") hit.typeIs F.slot_dict_keyiterator_next (wpAny_call_entry F.slot_dict_keyiterator_next hit.typeIs F.entry_dict_keyiterator_next ?_ (F.args_dict_keyiterator_next_1 _))))
  refine wpAny_bind (wpAny_pure (wpAny_bind (wpAny_bind ?_)))
  first | refine wpAny_bind (wpAny_typeNameOfWhole_keyiter hit.typeIs (wpAny_pure ?_)); skip | refine wpAny_bind (wpAny_typeNameOf_keyiter hit.typeIs (wpAny_pure ?_)); skip
  have hown : Builtin.Dict_items.ownsTuple "dict_keyiterator" = false := (by decide)
  refine wpAny_bind (wpAny_fieldsOf ho hd ?_); simp only [hown, Bool.false_eq_true, if_false]
  show wpAny _ _ (if (Value.ref d == Value.none) = true then _ else _) _ _ s; rw [if_neg (show ¬ ((Value.ref d == Value.none) = true) from Bool.false_ne_true)]
  refine wpAny_bind (wpAny_pure (wpAny_bind (wpAny_dictEntries hod hdd ?_))); rw [if_neg (by simp)]
  refine wpAny_bind (wpAny_pure (wpAny_bind (wpAny_dictEpoch hod hdd ?_))); rw [if_neg (by simp)]; refine wpAny_pure ?_
  simp only [show ¬ ((i : Int) < 0) from (by omega), if_false, Int.toNat_natCast, Array.getElem?_eq_none hx]; refine wpAny_bind ?_
  first | refine wpAny_bind (wpAny_typeNameOfWhole_keyiter hit.typeIs (wpAny_pure ?_)); skip | refine wpAny_bind (wpAny_typeNameOf_keyiter hit.typeIs (wpAny_pure ?_)); skip
  show wpAny _ _ (setField (.ref it) 0 .none >>= _) _ _ s; refine wpAny_bind (wpAny_setField ho hd (by simp) ?_)
  show wpAny _ _ (newExc (.type "StopIteration") [] >>= _) _ _ _; refine wpAny_bind ?_; simp only [newExc, newTuple]
  refine wpAny_bind (wpAny_newObj_type ?_ (by size_fits)); refine wpAny_bind (m := firstArgMember _ _) (wpAny_of_eq (a := Value.none) (by first | rfl | (simp only [firstArgMember]; rfl)) ?_)
  refine wpAny_newObj_type ?_ (by size_fits); simp only [raiseNew]; refine wpAny_bind (wpAny_handled ?_)
  rw [show A.in1.handled = none from hh]; refine wpAny_bind (wpAny_pure (wpAny_throw ?_)); refine wpAny_bind (wpAny_isInstance (T := "StopIteration") (b := true) ⟨_, Heap.get?_push_size _ rfl, rfl⟩ isSubtype_stop ?_)
  exact wpAny_pure (hQ _ (((Heap.SameBut.update ..).extBut.push _).push _))
theorem rd_walks (hh : A.handled = none) (I d : Addr) (hne : d ≠ I) (es : Array DictEntry) (ep : Nat) :
    Walks prog w A I [I, d] [I] es.size (fun i v => ∃ e, es[i]? = some e ∧ v = e.key) (fun i h => h.IsKeyIter I d i es.size ep ∧ RDict h d es ep) where
  sub := fun b hb => by simp at hb; simp [hb]
  frame := fun _ _ _ st hk => ⟨st.1.at fun o e => hk I (by simp) o e, st.2.at fun o e => hk d (by simp) o e⟩
  item := fun i s Q E hi st hQ => by
    have hx : es[i]? = some es[i] := by simp [hi]
    exact rd_next st.1 st.2 hx fun h' hit' hs' => hQ _ h' s.toks ⟨_, hx, rfl⟩ ⟨hit', st.2.at fun o e => hs'.extBut _ o hne e⟩ fun b o hb e => hs'.extBut b o (fun h => hb (by simp [h])) e
  done := fun s Q E st hQ => rd_end hh st.1 st.2 (Nat.le_refl _) fun h' he' => hQ h' s.toks fun b o hb e => he' b o (fun h => hb (by simp [h])) e
  self := fun _ _ _ _ st hQ => wpAny_pyIter_keyiter st.1 hQ
end
end Wr

set_option maxHeartbeats 4000000
namespace L2
open PySem PySem.Spec PyProof.Rows
section
variable {prog : Program} {w : World} {A : Around} {E : Value → Shared → Prop} {s : Shared}
/-- sorted(..) of what walks a dict's keys, tuples of numbers -/
theorem sorted_keys {c d : Addr} {T : String} {es : Array DictEntry} {ep : Nat} {xs : List V} {kf : V → List Int} {Q : Value → Shared → Prop} (hh : A.handled = none) (hc : c < s.heap.objs.size) (hm : Wr.RDict s.heap d es ep)
    (hT : ∀ h' : Heap, (∀ b o, s.heap.get? b = some o → h'.get? b = some o) → ({ s with heap := h' } : Shared).TypeIs (.ref c) T) (h1 : (Value.type T == Value.type "list") = false) (h2 : (Value.type T == Value.type "tuple") = false)
    (hit : ∀ (h' : Heap) (Q' : Value → Shared → Prop), (∀ b o, s.heap.get? b = some o → h'.get? b = some o) →
      (∀ h'', h''.IsKeyIter h'.objs.size d 0 es.size ep → (∀ b o, h'.get? b = some o → h''.get? b = some o) → Q' (.ref h'.objs.size) { s with heap := h'' }) → wpAny (model prog w) A.in1.in1 (pyIter (.ref c)) Q' E { s with heap := h' })
    (hint : ∀ (h' : Heap) (Q' : Bool → Shared → Prop), (∀ b o, s.heap.get? b = some o → h'.get? b = some o) → Q' false { s with heap := h' } → wpAny (model prog w) A.in1.in1 (Builtin.List.listLengthHint (.ref c)) Q' E { s with heap := h' })
    (r : Vals xs (es.toList.map (·.key))) (K : KeysAt s.heap (es.toList.map (·.key)) (xs.map kf)) (h64 : es.size < 64)
    (h : ∀ (D : Addr) (h' : Heap) (ys : List V) (ws : List Value) (e tk : Nat), (∀ b o, s.heap.get? b = some o → h'.get? b = some o) → s.heap.objs.size ≤ D → h'.get? D = some (seqObj "list" ws.toArray e) → Vals ys ws → ys.Perm xs → SortedBy kf ys → Q (.ref D) { s with heap := h', toks := tk }) :
    wpAny (model prog w) A (call (.builtin "sorted") [.ref c]) Q E s := by
  obtain ⟨od, hod, _, _⟩ := id hm.ex
  have hd : d < s.heap.objs.size := Heap.lt_size hod
  refine Calls.call_function_entry kind_sorted plain_sorted entry_sorted (args_sorted1 _) ?_
  unfold Builtin.«sorted»
  refine wpAny_bind (m := checkCount "sorted" 1 1 _) (wpAny_pure (wpAny_bind ?_))
  have hz : es.size ≤ sizeLine := line64 h64
  refine Wr.collect_byD (A := A.in1) (T := T) (n := es.size) (P := fun i v => ∃ e, es[i]? = some e ∧ v = e.key) (St := fun it i h => h.IsKeyIter it d i es.size ep ∧ Wr.RDict h d es ep) hc hd hT h1 h2
    (fun h' Q' k hge hq => hit h' Q' k fun h'' st k2 => hq h'.objs.size h'' (Nat.le_refl _) k2 ⟨st, hm.at fun o e => k2 _ _ (k _ _ e)⟩) hint (fun it hne => Wr.rd_walks (A := A.in1.in1) (by simpa using hh) it d hne es ep) hz fun h3 tk acc k1 hsz htk items => ?_
  have ea : acc.toList = es.toList.map (·.key) := by
    apply List.ext_getElem
    · rw [Array.length_toList, List.length_map, Array.length_toList, items.1]
    · intro i hi hi2
      rw [Array.length_toList] at hi
      obtain ⟨e, e1, e2⟩ := items.2 i acc[i] (by simp [hi])
      obtain ⟨q1, q2⟩ := Array.getElem?_eq_some_iff.mp e1
      simp [q2, e2]
  rw [ea]
  have l64 : (es.toList.map (·.key)).length < 64 := by rw [List.length_map, Array.length_toList]; exact h64
  refine wpAny_bind (wpAny_newList ?_ (line64 l64))
  have hoL : (h3.push (seqObj "list" (es.toList.map (·.key)).toArray 0)).get? h3.objs.size = some (seqObj "list" (es.toList.map (·.key)).toArray 0) := Heap.get?_push_size _ rfl
  have K3 : KeysAt (h3.push (seqObj "list" (es.toList.map (·.key)).toArray 0)) (es.toList.map (·.key)) (xs.map kf) := Paired.mapP K fun v k x => x.keeps fun b o hb _ => Heap.get?_push_of_some _ (k1 b o hb)
  refine wpAny_bind (wpAny_holding (wpAny_call_entry (s := { s with heap := h3.push (seqObj "list" (es.toList.map (·.key)).toArray 0), toks := tk }) slot_list_sort ⟨_, hoL, rfl⟩ entry_list_sort (list_sort_tuples hoL r K3 l64 fun ys ws v1 v2 v3 => ⟨_, rfl, ?_⟩) (args_list_sort _)))
  obtain ⟨e, he⟩ := sortedHeap_at (out := ws.toArray) hoL
  refine wpAny_pure ⟨_, rfl, h h3.objs.size _ ys ws e tk (fun b ob q => ?_) (Nat.le_of_lt hsz) he v1 v2 v3⟩
  have hb : b < h3.objs.size := Heap.lt_size (k1 b ob q)
  rw [sortedHeap_old (Nat.ne_of_lt hb) (by rw [Heap.size_push]; exact Nat.lt_succ_of_lt hb)]
  exact Heap.get?_push_of_some _ (k1 b ob q)
end
end L2

set_option maxHeartbeats 4000000
namespace Wr
open PySem PySem.Spec PyProof.Rows
section
variable {prog : Program} {w : World} {K : Type} [DecidableEq K] {knd : HeapKind prog w K} {A : Around} {E : Value → Shared → Prop} {s : Shared}
theorem setDefault_heap {d a : Addr} {xs : List (K × Addr × Value)} {k : K} {v : Value} {Q : Value → Shared → Prop} (hu : knd.room A) (hkey : knd.is s.heap k a) (hm : s.heap.DictOfH knd d xs)
    (h1 : ∀ p, atKey xs k = some p → Q p.2 { s with toks := s.toks + knd.draws k })
    (h2 : atKey xs k = none → ∀ h', h'.DictOfH knd d (storedH xs k a v) → Heap.SameBut d s.heap h' → Q v { s with heap := h', toks := s.toks + knd.draws k })
    (hsz : xs.length ≤ sizeLine) : wpAny (model prog w) A (dictSetDefault d (.ref a) v) Q E s := by
  obtain ⟨o, es, ep, ho, hc, hd, he, his, hn⟩ := hm; unfold dictSetDefault
  try with_reducible refine wpAny_holding ?_; skip
  refine wpAny_bind (knd.pyHash hu hkey (wpAny_bind (wpAny_dictFind_heap (s := { s with toks := s.toks + knd.draws k }) hu hkey ho hd he his hn ?_ ?_)))
  · intro hno; have hnot : k ∉ xs.map (·.1) := not_mem_keys_of_get hno; have hat := atKey_none_of_get hno; have q2 := h2 hat; rw [storedH_new hat] at q2
    refine wpAny_bind (wpAny_rule (wpAny_bind (wpAny_updateDictKeys (hz := by have e := size_of_entries he; omega) (s := { s with toks := s.toks + knd.draws k }) ho hd (wpAny_pure (q2 _ ⟨_, _, ep + 1, Heap.get?_update_self _ ho (Obj.isFreed_of_dict (Obj.data_mapDictKeys hd _)), hc.mapDictKeys _, Obj.data_mapDictKeys hd _, ?_, ?_, ?_⟩ (Heap.SameBut.update ..))))))
    · simp [he, entryOfKey]
    · intro x hx
      rcases List.mem_append.mp hx with hx | hx
      · exact knd.keeps (his x hx) ho hd (Heap.SameBut.update ..)
      · rw [List.mem_singleton.mp hx]; exact knd.keeps hkey ho hd (Heap.SameBut.update ..)
    · rw [List.map_append, List.nodup_append]
      refine ⟨hn, (by simp), fun x hx y hy => ?_⟩
      have hy' : y = k := by simpa using hy
      subst hy'; exact fun e => hnot (e ▸ hx)
  · intro j p hj
    refine wpAny_bind (wpAny_dictEntries (s := { s with toks := s.toks + knd.draws k }) ho hd ?_); rw [entry_at he j, hj]
    exact wpAny_bind (wpAny_rule (wpAny_pure (h1 p (atKey_of_get hn hj))))
end
end Wr

set_option maxHeartbeats 4000000
namespace L2
open PySem PySem.Spec PyProof.Rows
section
variable {X : Cx} {pins : List (Addr × Obj)} {σ : St} {H : Hp} {s : Shared}
/-- d.setdefault(key, z), the keys tuples -/
def rSetDef : V → List V → Hp → VK → Prop := fun x xs H Q => ∃ (d b : Addr) (z : V) (kvs : List (List Key × V)) (k : List Key), x = .ref d ∧ xs = [.ref b, z] ∧ H d = some (.dT kvs) ∧ H b = some (.tup (k.map kV)) ∧ kvs.length < sizeLine ∧
  (match valV kvs k with | some v => Q v H | none => Q z (upd H d (.dT (putK kvs k z))))
theorem mt_setdef (hu : X.A.units + 1 < cLine) : MtR X "dict.setdefault" rSetDef := by
  intro pins s σ H x xs v us Q I rx r ⟨d, b, z, kvs, k, e1, e2, e, eb, hl, q⟩
  subst e1 e2
  cases rx
  obtain ⟨u1, u2, rfl, r1, r2⟩ := vals2 r
  cases r1
  obtain ⟨hz, hd, ys, rel, dd⟩ := dt_of I.hok e
  have hT : s.TypeIs (.ref d) "dict" := dd.typeIs
  have hle : (putK kvs k z).length ≤ sizeLine := by have := length_putK kvs k z; omega
  refine wpAny_call_entry PySem.F.slot_dict_setdefault hT PySem.F.entry_dict_setdefault ?_ (PySem.F.args_dict_setdefault_3 _ _ _)
  unfold Builtin.«dict.setdefault»; refine wpAny_bind ?_; unfold Builtin.Dict.keyAndDefault
  refine wpAny_bind (wpAny_notOrdered_dict hT ?_); show wpAny _ _ (pure (d, Value.ref b, some u2)) _ _ s
  refine wpAny_pure ?_; show wpAny _ _ (if (d == sysModules) = true then _ else (dictSetDefault d (.ref b) u2 >>= _)) _ _ s
  rw [if_neg (by rw [hd]; exact Bool.false_ne_true)]
  refine wpAny_bind (Wr.setDefault_heap (tupleKind_room_in1 hu) (key_of I.hok eb) dd (fun p hp => ?_) (fun hp h' dd' hs => ?_) (by rw [← Paired.length rel]; exact hz))
  · refine wpAny_pure ⟨_, rfl, ?_⟩
    have rv := rel.val k
    rw [hp] at rv
    cases ev : valV kvs k with
    | none => rw [ev] at rv; exact False.elim (by cases rv)
    | some v' =>
      rw [ev] at q rv
      exact ⟨v', H, I.tok _, rv, q⟩
  · refine wpAny_pure ⟨_, rfl, ?_⟩
    have rv := rel.val k
    rw [hp] at rv
    cases ev : valV kvs k with
    | some v' => rw [ev] at rv; exact False.elim (by cases rv)
    | none =>
      rw [ev] at q
      obtain ⟨qo, es, ep, hq, h2, h3, h4, _, h5⟩ := dd'
      refine ⟨z, _, d_write (ob := .dT (putK kvs k z)) I (by rw [e]; exact True.intro) hs ⟨qo, hq⟩ ⟨hle, hd, _, (rel.put k eb r2).keeps fun c ys ec => ?_, qo, es, ep, hq, h2, h3, h4, h5⟩, r2, q⟩
      rw [upd_ne (ne_of ec e (fun z => nomatch z))]
      exact ec
/-! ### the view of a dict's keys -/
def vwO (v d : Addr) : HO := .ext fun h => PySem.W.KdlKeysView h v d
theorem vwO_ok {P : Program} {w : World} {H : Hp} {h : Heap} {v d : Addr} (x : PySem.W.KdlKeysView h v d) : ObjOk P w H h v (vwO v d) := by
  obtain ⟨o, h1, h2, h3⟩ := id x
  exact ⟨x, ⟨o, h1⟩, fun h1 h2 ⟨o, a, b⟩ k => ⟨o, k o a, b⟩⟩
def tKeys (td : TE) : TE := fun σ H Q => td σ H fun x H1 => ∃ (d : Addr) (kvs : List (List Key × V)), x = .ref d ∧ Rd H1 d (.dT kvs) ∧ ∀ v, H1 v = none → Q (.ref v) (upd H1 v (vwO v d))
theorem pe_keys {o : Expr} {td : TE} {apos cpos : Pos} (ho : PE X o td) (hbase : attributeBase o "keys" X.env (eval o X.env) = eval o X.env) (hline : (apos.endLine == cpos.line) = true) : PE X (.Call (.Attribute o "keys" apos) [] [] cpos) (tKeys td) := by
  intro pins s σ H Q I h
  refine wpAny_Call_method0_late hbase hline (thn (ho pins s σ H _ I h) fun v s1 ⟨x, H1, I1, r1, d, kvs, e1, e, q⟩ => ?_)
  subst e1
  cases r1
  obtain ⟨t1, t2, hd⟩ := isD_at I1 (.inr ⟨kvs, e⟩)
  refine ⟨"dict", "dict.keys", PySem.F.plainAttrs_dict, PySem.F.slot_dict_keys, PySem.F.type_dict_keys, t1, t2, Calls.callWith_builtin rfl (PySem.evalArgs_none ?_)⟩
  refine wpAny_call_entry PySem.F.slot_dict_keys t1 PySem.F.entry_dict_keys ?_ (PySem.F.args_dict_keys_1 _)
  refine wpAny_bind ?_; unfold Builtin.Dict.noArgs
  refine wpAny_bind (wpAny_notOrdered_dict t1 ?_); show wpAny _ _ (pure d) _ _ s1
  refine wpAny_pure ?_; show wpAny _ _ (Builtin.Dict.showsAll d >>= _) _ _ s1
  unfold Builtin.Dict.showsAll; rw [if_neg (by rw [hd]; exact Bool.false_ne_true)]
  refine wpAny_bind (wpAny_pure (wpAny_bind (wpAny_newObj_type (wpAny_pure ⟨_, rfl, ?_⟩))))
  exact ⟨.ref s1.heap.objs.size, _, I1.laid (a := s1.heap.objs.size) (o := vwO s1.heap.objs.size d) (t' := s1.toks) (fun b u z => Heap.get?_push_of_some _ z) (Nat.le_refl _) (vwO_ok ⟨_, Heap.get?_push_size _ rfl, rfl, rfl⟩), rfl, q _ (I1.hok.fresh (Nat.le_refl _))⟩
end
end L2

set_option maxHeartbeats 4000000
namespace L2
open PySem PySem.Spec PyProof.Rows
def intV : V → Int
  | .int i => i
  | _ => 0
def kfI (H : Hp) : V → List Int
  | .ref t => (match H t with
    | some (.tup vs) => vs.map intV
    | _ => [])
  | _ => []
theorem kfI_at {H : Hp} {y : V} {k : List Int} (h : RowAt H y k) : kfI H y = k := by
  obtain ⟨t, rfl, e⟩ := h
  show (match H t with | some (.tup vs) => vs.map intV | _ => []) = k
  rw [e]
  show (k.map V.int).map intV = k
  rw [List.map_map]
  have : intV ∘ V.int = id := rfl
  rw [this, List.map_id]
theorem kV_ints (k : List Int) : (k.map Sum.inl : List Key).map kV = k.map V.int := by rw [List.map_map]; rfl
section
variable {X : Cx} {pins : List (Addr × Obj)} {σ : St} {H : Hp} {s : Shared}
/-- what walks the keys of the dict at d: the dict, a view of its keys -/
def KeysOfD (H : Hp) (c d : Addr) : Prop := c = d ∨ H c = some (vwO c d)
/-- a dict with rows of numbers as its keys -/
structure TDict (H : Hp) (d : Addr) (kvs : List (List Key × V)) (ks : List (List Int)) : Prop where
  at' : Rd H d (.dT kvs)
  keys : kvs.map (·.1) = ks.map (·.map Sum.inl)
  some' : ∀ k ∈ ks, k ≠ []
/-- its entries -/
theorem tdict_raw {d : Addr} {kvs : List (List Key × V)} {ks : List (List Int)} (I : Inv X pins σ H s) (T : TDict H d kvs ks) :
    ∃ (es : Array DictEntry) (ep : Nat) (xs : List V), Wr.RDict s.heap d es ep ∧ (d == sysModules) = false ∧ Vals xs (es.toList.map (·.key)) ∧ Paired (RowAt H) xs ks ∧ xs.map (kfI H) = ks ∧ KeysAt s.heap (es.toList.map (·.key)) (xs.map (kfI H)) ∧ es.size = kvs.length := by
  obtain ⟨z, hd, xs, rel, o, es, ep, ho, hc, hdat, he, h6, h7⟩ := dt_rd I.hok T.at'
  have ek : es.toList.map (·.key) = xs.map fun x => Value.ref x.2.1 := by
    rw [he, List.map_map]; rfl
  have pr : Paired (RowAt H) (xs.map fun x => V.ref x.2.1) ks := by
    have kk := T.keys
    clear ek he T z h6 h7
    induction rel generalizing ks with
    | nil =>
      cases ks with
      | nil => exact .nil
      | cons _ _ => cases kk
    | cons r _ ih =>
      cases ks with
      | nil => cases kk
      | cons k ks =>
        simp only [List.map_cons, List.cons.injEq] at kk
        refine .cons ?_ (ih kk.2)
        obtain ⟨r1, r2, r3⟩ := r
        rw [kk.1, kV_ints] at r2
        exact ⟨_, rfl, r2⟩
  have vals : ∀ l : List (List Key × Addr × Value), Vals (l.map fun x => V.ref x.2.1) (l.map fun x => Value.ref x.2.1) := fun l => by
    induction l with
    | nil => exact .nil
    | cons _ _ ih => exact .cons rfl ih
  have em : ∀ {ys : List V} {ks : List (List Int)}, Paired (RowAt H) ys ks → ys.map (kfI H) = ks := by
    intro ys ks p
    induction p with
    | nil => rfl
    | cons r _ ih => rw [List.map_cons, kfI_at r, ih]
  have keys : ∀ {l : List (List Key × Addr × Value)} {ks : List (List Int)}, Paired (RowAt H) (l.map fun x => V.ref x.2.1) ks → (∀ k ∈ ks, k ≠ []) → KeysAt s.heap (l.map fun x => Value.ref x.2.1) ks := by
    intro l
    induction l with
    | nil => intro ks p _; cases p; exact .nil
    | cons x l ih =>
      intro ks p ne
      cases p with
      | cons r t =>
        obtain ⟨t', e1, e2⟩ := r
        cases e1
        exact .cons (key_at I e2 (ne _ List.mem_cons_self)) (ih t fun k hk => ne k (List.mem_cons_of_mem _ hk))
  refine ⟨es, ep, xs.map fun x => V.ref x.2.1, ⟨o, ho, hc, hdat⟩, hd, by rw [ek]; exact vals xs, pr, em pr, by rw [ek, em pr]; exact keys pr T.some', ?_⟩
  have := congrArg List.length he
  rw [Array.length_toList, List.length_map] at this
  rw [this, ← Paired.length rel]
/-- sorted(d), sorted(d.keys()) -/
def rSortT : List V → Hp → VK → Prop := fun xs H Q => ∃ (c d : Addr) (kvs : List (List Key × V)) (ks : List (List Int)), xs = [.ref c] ∧ TDict H d kvs ks ∧ KeysOfD H c d ∧ kvs.length < 64 ∧
  ∀ (D : Addr) (ys : List V) (ks' : List (List Int)), H D = none → Paired (RowAt H) ys ks' → ks'.Perm ks → (ks'.Pairwise fun a b => lexI b a = false) → Q (.ref D) (upd H D (.lst ys))
theorem call_sort_keys (hc : X.calm = true) : CallR X (.builtin "sorted") rSortT := by
  intro pins s σ H xs us Q I r ⟨c, d, kvs, ks, e, T, kd, h64, q⟩
  subst e
  obtain ⟨u, rfl, ru⟩ := Vals.one r
  cases ru
  obtain ⟨es, ep, xs, hm, hd, rv, pr, em, K, hsz⟩ := tdict_raw I T
  have fin : ∀ (D : Addr) (h' : Heap) (ys : List V) (ws : List Value) (e tk : Nat), (∀ b o, s.heap.get? b = some o → h'.get? b = some o) → s.heap.objs.size ≤ D → h'.get? D = some (seqObj "list" ws.toArray e) → Vals ys ws → ys.Perm xs → SortedBy (kfI H) ys → EP X pins σ Q (.ref D) { s with heap := h', toks := tk } := by
    intro D h' ys ws e tk k hD hg v1 v2 v3
    have row : ∀ y ∈ ys, RowAt H y (kfI H y) := fun y hy => by
      have go : ∀ {xs : List V} {ks : List (List Int)}, Paired (RowAt H) xs ks → y ∈ xs → RowAt H y (kfI H y) := by
        intro xs ks p
        induction p with
        | nil => intro z; cases z
        | cons r _ ih =>
          intro z
          rcases List.mem_cons.mp z with e | z
          · subst e; rw [kfI_at r]; exact r
          · exact ih z
      exact go pr (v2.mem_iff.mp hy)
    have pys : ∀ l : List V, (∀ y ∈ l, RowAt H y (kfI H y)) → Paired (RowAt H) l (l.map (kfI H)) := fun l => by
      induction l with
      | nil => intro _; exact .nil
      | cons y l ih => intro h; exact .cons (h y List.mem_cons_self) (ih fun z hz => h z (List.mem_cons_of_mem _ hz))
    have hl : ys.length < 64 := by
      rw [v2.length_eq]
      have := Vals.length rv
      rw [List.length_map] at this
      have e2 : es.toList.length = es.size := Array.length_toList
      omega
    refine ⟨.ref D, _, I.laid (a := D) (o := .lst ys) (t' := tk) (fun b u z => k b u z) hD ⟨line64 hl, ws, e, v1, hg⟩, rfl, q D ys (ys.map (kfI H)) (I.hok.fresh hD) (pys ys row) ?_ (List.pairwise_map.mpr v3)⟩
    rw [← em]
    exact v2.map _
  have hlt : ∀ b o, s.heap.get? b = some o → b < s.heap.objs.size := fun b o e => Heap.lt_size e
  rcases kd with rfl | hv
  · obtain ⟨o, ho, _⟩ := id hm.ex
    refine sorted_keys (T := "dict") (inv_hd I hc) (hlt _ _ ho) hm (fun h' k => (hm.at fun o e => k _ _ e : Wr.RDict ({ s with heap := h' } : Shared).heap c es ep).typeIs) (by decide) (by decide) (fun h' Q' k hq => ?_) (fun h' Q' k hq => ?_) rv K (by omega) fin
    · exact Wr.rd_iter (s := { s with heap := h' }) hd (hm.at fun o e => k _ _ e) fun h'' st k2 => hq h'' st k2
    · exact PySem.W.kdl_hint_dict (hm.at fun o e => k _ _ e : Wr.RDict ({ s with heap := h' } : Shared).heap c es ep).typeIs hq
  · have hview : PySem.W.KdlKeysView s.heap c d := (I.hok c _ hv).1
    obtain ⟨ov, hov, hcv, hdv⟩ := id hview
    have hv' : ∀ h' : Heap, (∀ b o, s.heap.get? b = some o → h'.get? b = some o) → PySem.W.KdlKeysView h' c d := fun h' k => ⟨ov, k _ _ hov, hcv, hdv⟩
    refine sorted_keys (T := "dict_keys") (inv_hd I hc) (hlt _ _ hov) hm (fun h' k => (hv' h' k : PySem.W.KdlKeysView ({ s with heap := h' } : Shared).heap c d).typeIs) (by decide) (by decide) (fun h' Q' k hq => ?_) (fun h' Q' k hq => ?_) rv K (by omega) fin
    · exact Wr.rd_iterK (s := { s with heap := h' }) (hv' h' k) (hm.at fun o e => k _ _ e) fun h'' st k2 => hq h'' st k2
    · exact PySem.W.kdl_hint_keys (hv' h' k : PySem.W.KdlKeysView ({ s with heap := h' } : Shared).heap c d).typeIs hq
end
end L2

set_option maxHeartbeats 4000000
namespace L2
open PySem PySem.Spec PyProof.Rows
section
variable {X : Cx} {pins : List (Addr × Obj)} {σ : St} {H : Hp} {s : Shared}
/-- a dict is not written from here on -/
theorem Inv.freeze {d : Addr} {kvs : List (List Key × V)} (I : Inv X pins σ H s) (h : H d = some (.dT kvs)) : ∃ o, s.heap.get? d = some o ∧ Inv X pins σ (upd H d (.frz o (.dT kvs))) s := by
  obtain ⟨z, hd, xs, rel, o, es, ep, ho, r⟩ := I.hok d _ h
  refine ⟨o, ho, ?_⟩
  exact I.write (x := d) (e := d) (o := .frz o (.dT kvs)) (h' := s.heap) (t' := s.toks) (by rw [h]; exact True.intro) (.inl rfl) (fun b u _ q => q) ⟨o, ho⟩
    ⟨ho, z, hd, xs, Paired.mapP rel fun p q ⟨a, b, c⟩ => ⟨a, by rw [upd_ne (ne_of b h (fun z => nomatch z))]; exact b, c⟩, o, es, ep, ho, r⟩
/-- the keys of a dict that stays as it is -/
def Itk (o : Obj) (d : Addr) (kvs : List (List Key × V)) : It :=
  ⟨fun i H => H d = some (.frz o (.dT kvs)) ∧ i < kvs.length, fun i H v H' => H' = H ∧ ∀ ks : List (List Int), kvs.map (·.1) = ks.map (·.map Sum.inl) → ∃ k, ks[i]? = some k ∧ RowAt H v k, fun i H => H d = some (.frz o (.dT kvs)) ∧ kvs.length ≤ i⟩
theorem frz_raw {d : Addr} {o : Obj} {kvs : List (List Key × V)} (I : Inv X pins σ H s) (h : H d = some (.frz o (.dT kvs))) :
    ∃ (es : Array DictEntry) (ep : Nat) (xs : List (List Key × Addr × Value)), s.heap.get? d = some o ∧ o.ExactDict ∧ o.data = .dict es ep ∧ (d == sysModules) = false ∧ KT H kvs xs ∧ es.toList = xs.map (entryOfKey (tupleKind (mixKind X.prog X.w))) ∧ es.size = kvs.length := by
  obtain ⟨ho, z, hd, xs, rel, o', es, ep, ho', ex, dt, he, nd⟩ := I.hok d _ h
  rw [ho] at ho'
  cases ho'
  have e2 := congrArg List.length he
  rw [Array.length_toList, List.length_map] at e2
  exact ⟨es, ep, xs, ho, ex, dt, hd, rel, he, by rw [e2, ← Paired.length rel]⟩
theorem turn_keys {P : Program} {w : World} {K : PySem.W.Frag} {tg : Expr} {o : Obj} {es : Array DictEntry} {ep : Nat} {kvs : List (List Key × V)} (d it : Addr) (hne : d ≠ it) (hx : o.ExactDict) (hdt : o.data = .dict es ep) :
    Turn P w K tg (Itk o d kvs) [it] it (fun i h => h.IsKeyIter it d i es.size ep) where
  mem := by simp
  obj := fun i h st b hb => by
    have e : b = it := by simpa using hb
    subst e
    obtain ⟨o, e, c, d⟩ := st
    exact ⟨o, e, fun v z => by rw [d] at z; cases z⟩
  keep := fun i h h' st k => st.at fun o e => k it (by simp) o e
  item := by
    intro X hP hw hK hc i pins s σ H E I hf st hg
    subst hP hw hK
    obtain ⟨hH, hi⟩ := hg
    obtain ⟨es', ep', xs, ho, _, dt, _, rel, he, hsz⟩ := frz_raw I hH
    rw [hdt] at dt
    cases dt
    obtain ⟨f0, f1, f2, f3, f4, f5⟩ := hf it (by simp)
    have hx' : es[i]? = some es[i] := by simp [hsz, hi]
    refine Wr.rd_next st ⟨o, ho, hx, hdt⟩ hx' fun h' st' sb => ?_
    have I1 : Inv X pins σ H { s with heap := h' } := I.turned (t' := s.toks) (fun b o hb e => (sb.2 b hb).trans e) f0 f1 f3 f4 f5
    obtain ⟨oi, e, c, dd⟩ := id st'
    have lx : i < xs.length := by rw [← Paired.length rel]; exact hi
    have ekey : es[i].key = .ref xs[i].2.1 := by
      have q := entry_at he i
      rw [hx'] at q
      have q2 : xs[i]? = some xs[i] := by simp [lx]
      rw [q2] at q
      rw [Option.some.inj q]
      rfl
    refine ⟨_, rfl, go_of (s := { s with heap := h' }) e c dd (by decide) ⟨.ref xs[i].2.1, H, I1, by rw [ekey]; rfl, ⟨rfl, fun ks hk => ?_⟩, st', fun b hb => (hf b hb).1⟩⟩
    have lk : i < ks.length := by
      have := congrArg List.length hk
      rw [List.length_map, List.length_map] at this
      omega
    have hr : (fun (p : List Key × V) (q : List Key × Addr × Value) => p.1 = q.1 ∧ H q.2.1 = some (.tup (p.1.map kV)) ∧ RelV p.2 q.2.2) (kvs.getD i ([], .non)) (xs.getD i ([], 0, Value.none)) := paired_get rel i _ _ hi
    have g1 : kvs.getD i ([], .non) = kvs[i] := by simp [hi]
    have g2 : xs.getD i ([], 0, Value.none) = xs[i] := by simp [lx]
    rw [g1, g2] at hr
    have hk1 : kvs[i].1 = ks[i].map Sum.inl := by
      have h1 : (kvs.map (·.1))[i]? = some kvs[i].1 := by simp [hi]
      rw [hk] at h1
      have h2 : (ks.map (·.map Sum.inl) : List (List Key))[i]? = some (ks[i].map Sum.inl) := by simp [lk]
      rw [h2] at h1
      exact (Option.some.inj h1).symm
    refine ⟨ks[i], by simp [lk], xs[i].2.1, rfl, ?_⟩
    have := hr.2.1
    rw [hk1, kV_ints] at this
    exact this
  done := by
    intro X hP hw hK hc i pins s σ H E I hf st hg
    subst hP hw hK
    obtain ⟨hH, hi⟩ := hg
    obtain ⟨es', ep', xs, ho, _, dt, _, rel, he, hsz⟩ := frz_raw I hH
    rw [hdt] at dt
    cases dt
    obtain ⟨f0, f1, f2, f3, f4, f5⟩ := hf it (by simp)
    exact Wr.rd_end (I.ok.hd hc) st ⟨o, ho, hx, hdt⟩ (by rw [hsz]; exact hi) fun h' eb => ⟨rfl, I.turned (t' := s.toks) (fun b o hb e => eb b o hb e) f0 f1 f3 f4 f5⟩
  self := fun _ _ _ _ _ st h => wpAny_pyIter_keyiter st h
/-- walking a dict's keys: it is not written from here on -/
def iKeys (te : TE) : TI := fun σ H R => te σ H fun x H1 => ∃ (c d : Addr) (kvs : List (List Key × V)), x = .ref c ∧ KeysOfD H1 c d ∧
  ((H1 d = some (.dT kvs) ∧ ∀ o, R (Itk o d kvs) (upd H1 d (.frz o (.dT kvs)))) ∨ ∃ o, H1 d = some (.frz o (.dT kvs)) ∧ R (Itk o d kvs) H1)
theorem pi_keys {tg e : Expr} {te : TE} (he : PE X e te) : PI X tg e (iKeys te) := by
  intro pins s σ H R I h
  refine thn (he pins s σ H _ I h) fun v s1 ⟨x, H1, I1, r1, q1⟩ => ?_
  obtain ⟨c, d, kvs, e, kd, q⟩ := q1
  subst e
  cases r1
  have kd' : c = d ∨ PySem.W.KdlKeysView s1.heap c d := by
    rcases kd with z | z
    · exact .inl z
    · have y : PySem.W.KdlKeysView s1.heap c d := (I1.hok c _ z).1
      exact .inr y
  have core : ∀ (o : Obj) (H2 : Hp), Inv X pins σ H2 s1 → H2 d = some (.frz o (.dT kvs)) → R (Itk o d kvs) H2 → wpAny (model X.prog X.w) X.A (pyIter (.ref c)) (PIE X pins σ tg R) X.xe s1 := by
    intro o H2 I2 hH qr
    obtain ⟨es, ep, xs, ho, ex, dt, hd, rel, he, hsz⟩ := frz_raw I2 hH
    have ne : d ≠ s1.heap.objs.size := Nat.ne_of_lt (Heap.lt_size ho)
    have fin : ∀ h', h'.IsKeyIter s1.heap.objs.size d 0 es.size ep → (∀ b o, s1.heap.get? b = some o → h'.get? b = some o) → PIE X pins σ tg R (.ref s1.heap.objs.size) { s1 with heap := h' } := fun h' st k => by
      refine ⟨s1.heap.objs.size, [s1.heap.objs.size], _, _, H2, rfl, I2.kept (t' := s1.toks) k, turn_keys d _ ne ex dt, st, fun b hb => ?_, qr⟩
      have e : b = s1.heap.objs.size := by simpa using hb
      subst e
      exact I2.fpOk (Nat.le_refl _) (I2.hok.fresh (Nat.le_refl _))
    rcases kd' with rfl | hv
    · exact Wr.rd_iter hd ⟨o, ho, ex, dt⟩ fin
    · exact Wr.rd_iterK hv ⟨o, ho, ex, dt⟩ fin
  rcases q with ⟨hH, q⟩ | ⟨o, hH, q⟩
  · obtain ⟨o, ho, I2⟩ := I1.freeze hH
    exact core o _ I2 upd_same (q o)
  · exact core o H1 I1 hH q
/-- walking a dict's keys: it is not written from here on -/
def iKeysR (te : TE) : TI := fun σ H R => te σ H fun x H1 => ∃ (c d : Addr) (kvs : List (List Key × V)), x = .ref c ∧ KeysOfD H1 c d ∧
  Rd H1 d (.dT kvs) ∧ ∀ o H2, H2 d = some (.frz o (.dT kvs)) → (∀ b, b ≠ d → H2 b = H1 b) → R (Itk o d kvs) H2
theorem pi_keysR {tg e : Expr} {te : TE} (he : PE X e te) : PI X tg e (iKeysR te) := by
  intro pins s σ H R I h
  refine thn (he pins s σ H _ I h) fun v s1 ⟨x, H1, I1, r1, q1⟩ => ?_
  obtain ⟨c, d, kvs, e, kd, rd, q⟩ := q1
  subst e
  cases r1
  have kd' : c = d ∨ PySem.W.KdlKeysView s1.heap c d := by
    rcases kd with z | z
    · exact .inl z
    · have y : PySem.W.KdlKeysView s1.heap c d := (I1.hok c _ z).1
      exact .inr y
  have core : ∀ (o : Obj) (H2 : Hp), Inv X pins σ H2 s1 → H2 d = some (.frz o (.dT kvs)) → R (Itk o d kvs) H2 → wpAny (model X.prog X.w) X.A (pyIter (.ref c)) (PIE X pins σ tg R) X.xe s1 := by
    intro o H2 I2 hH qr
    obtain ⟨es, ep, xs, ho, ex, dt, hd, rel, he, hsz⟩ := frz_raw I2 hH
    have ne : d ≠ s1.heap.objs.size := Nat.ne_of_lt (Heap.lt_size ho)
    have fin : ∀ h', h'.IsKeyIter s1.heap.objs.size d 0 es.size ep → (∀ b o, s1.heap.get? b = some o → h'.get? b = some o) → PIE X pins σ tg R (.ref s1.heap.objs.size) { s1 with heap := h' } := fun h' st k => by
      refine ⟨s1.heap.objs.size, [s1.heap.objs.size], _, _, H2, rfl, I2.kept (t' := s1.toks) k, turn_keys d _ ne ex dt, st, fun b hb => ?_, qr⟩
      have e : b = s1.heap.objs.size := by simpa using hb
      subst e
      exact I2.fpOk (Nat.le_refl _) (I2.hok.fresh (Nat.le_refl _))
    rcases kd' with rfl | hv
    · exact Wr.rd_iter hd ⟨o, ho, ex, dt⟩ fin
    · exact Wr.rd_iterK hv ⟨o, ho, ex, dt⟩ fin
  rcases rd with hH | ⟨o, hH⟩
  · obtain ⟨o, ho, I2⟩ := I1.freeze hH
    exact core o _ I2 upd_same (q o _ upd_same fun b hb => upd_ne hb)
  · exact core o H1 I1 hH (q o H1 hH fun _ _ => rfl)
end
section
variable {X : Cx} {e o : Expr} {te to : TE} {t : TA} {p pos apos cpos : Pos} {k : Nat} {target : Expr}
theorem e_keys (ho : JE X o to) (hbase : attributeBase o "keys" X.env (eval o X.env) = eval o X.env := by rfl) (hline : (apos.endLine == cpos.line) = true := by rfl) : JE X (.Call (.Attribute o "keys" apos) [] [] cpos) (tKeys to) := ⟨pe_keys ho.h hbase hline⟩
theorem e_setdef {e1 e2 : Expr} (hr : Room k X.A) (ho : JE X o to) (ha : JA X [e1, e2] t) (hbase : attributeBase o "setdefault" X.env (eval o X.env) = eval o X.env := by rfl) (hline : (apos.endLine == cpos.line) = true := by rfl) :
    JE X (.Call (.Attribute o "setdefault" apos) [e1, e2] [] cpos) (tBM X.K "dict" rSetDef to t) :=
  ⟨pe_bm PySem.F.plainAttrs_dict PySem.F.slot_dict_setdefault PySem.F.type_dict_setdefault (mt_setdef (by have := hr.units; omega)) ho.h ha.h hbase (by rw [ha.hd.star, (Nsts.star ha.rs _)]; rfl) hline (ha.hd.star _ _) (ha.rs.no _ _)⟩
theorem c_sortT (hc : X.calm = true := by rfl) : JC X (.builtin "sorted") rSortT := ⟨call_sort_keys hc⟩
theorem i_keys (h : JE X e te) : JI X target e (iKeys te) := ⟨pi_keys h.h⟩
theorem i_keysR (h : JE X e te) : JI X target e (iKeysR te) := ⟨pi_keysR h.h⟩
theorem e_dget (hr : Room k X.A) (ho : JE X o to) (hi : JE X e te) (hs : NoSl e := by intro _ _; rfl) : JE X (.Subscript o e pos) (tDGet to te) := ⟨pe_dget (by have := hr.units; omega) ho.h hi.h hs⟩
theorem e_dnewT : JE X (.Dict [] [] pos) tDNewT := ⟨pe_dnewT⟩
/-- .. in a comprehension -/
theorem comp_keys {ob : Obj} {d : Addr} {kvs : List (List Key × V)} {ks : List (List Int)} {g : TG} {tt : TT} {te : TE} {Q : VK} {σ : St} {H : Hp} {D : Addr} (hk : kvs.map (·.1) = ks.map (·.map Sum.inl)) (Pv : Nat → St → Hp → Prop) (h0 : Pv 0 σ H) (hl : ∀ i σ H, i ≤ ks.length → Pv i σ H → H d = some (.frz ob (.dT kvs)))
    (hs : ∀ i x row σ H, ks[i]? = some row → RowAt H x row → Pv i σ H → g x σ H fun σ2 H2 => tt σ2 H2 fun b H3 => if b = true then te σ2 H3 fun v H4 => ∃ zs, H4 D = some (.lst zs) ∧ zs.length < sizeLine ∧ Pv (i + 1) σ2 (upd H4 D (.lst (zs ++ [v]))) else Pv (i + 1) σ2 H3)
    (hd : ∀ σ H, Pv ks.length σ H → Q (.ref D) H) : CompW (Itk ob d kvs) g tt te D Q σ H := by
  have hlen : kvs.length = ks.length := by have := congrArg List.length hk; rwa [List.length_map, List.length_map] at this
  refine ⟨fun i m σ H => m = ks.length - i ∧ i ≤ ks.length ∧ Pv i σ H, ⟨ks.length, by simp, Nat.zero_le _, h0⟩, ?_⟩
  rintro i m σ H ⟨rfl, hi, p⟩
  have q := hl i σ H hi p
  by_cases hlt : i < ks.length
  · refine .inr ⟨⟨q, by omega⟩, fun σ' H' => Pv (i + 1) σ' H', fun σ' H' p' => ⟨ks.length - (i + 1), by omega, rfl, hlt, p'⟩, fun x H' y => ?_⟩
    obtain ⟨e, y⟩ := y
    subst e
    obtain ⟨row, e1, e2⟩ := y ks hk
    exact hs i x row σ _ e1 e2 p
  · have e : i = ks.length := by omega
    subst e
    exact .inl ⟨⟨q, by omega⟩, hd σ H p⟩
end
end L2

namespace Wr
theorem lenSub : ∀ {l g : List Int}, l.Nodup → (∀ x ∈ l, x ∈ g) → l.length ≤ g.length
  | [], _, _, _ => Nat.zero_le _
  | x :: l, g, nd, h => by
    have hx := h x List.mem_cons_self
    obtain ⟨n1, n2⟩ := List.nodup_cons.mp nd
    have := lenSub (l := l) (g := g.erase x) n2 fun y hy => (List.mem_erase_of_ne (fun (e : y = x) => n1 (by rw [← e]; exact hy))).mpr (h y (List.mem_cons_of_mem _ hy))
    rw [List.length_erase_of_mem hx] at this
    have := List.length_pos_of_mem hx
    simp only [List.length_cons]
    omega
end Wr

set_option maxHeartbeats 4000000
namespace Wr
open PySem SetTable PyProof.Rows
theorem iset_nd {w : World} {h : Heap} {a : Addr} {ns : List Int} (x : ISet w h a ns) : ns.Nodup := let ⟨_, _, _, _, _, _, _, _, nd, _⟩ := x.ex; nd
section
variable {prog : Program} {w : World} {A : Around} {E : Value → Shared → Prop}
/-- the loop of set(list of numbers) -/
theorem set_loop {S I l : Addr} {items : Array Value} {vals g : List Int} {R : Result → Shared → Prop} (hh : A.in1.handled = none) (hi : IntsAre items.toList vals) (hg : ∀ v ∈ vals, v ∈ g) (g64 : g.length < 100) (n1 : S ≠ I) (n2 : S ≠ l) (n3 : l ≠ I) :
    ∀ (k i : Nat) (s : Shared) (ms : List Int), items.size - i = k → i ≤ items.size → s.heap.IsListIter I l i → s.heap.IsList l items → ISet w s.heap S ms → (∀ x, x ∈ ms ↔ x ∈ vals.take i) →
      (∀ h' tk ms', (∀ b o, b ≠ S → b ≠ I → s.heap.get? b = some o → h'.get? b = some o) → ISet w h' S ms' → (∀ x, x ∈ ms' ↔ x ∈ vals) → R (.ok (.ret .none)) { s with heap := h', toks := tk }) →
      codeAny (model prog w) A (.builtin "set.update.loop" ⟨[.ref S, .ref I], []⟩) R s := by
  have hlen : items.size = vals.length := by rw [← Array.length_toList]; exact hi.length
  intro k
  induction k with
  | zero =>
    intro i s ms hk hle st hl hS mem hR
    have hin : i = items.size := by omega
    subst hin
    refine codeAny_builtin F.entry_set_update_loop ?_; rw [Around.under_plainId F.plain_set_update_loop _]
    show wpAny _ A.in1 (pyNext (.ref I) >>= _) _ _ s
    refine wpAny_bind (wpAny_pyNext_list_end hh st hl (by simp) fun h' eb => ?_)
    show wpAny _ A.in1 (ret Value.none) _ _ _
    refine wpAny_pure (hR h' s.toks ms (fun b o _ hb e => eb b o hb e) (hS.keeps fun o e => eb _ _ n1 e) fun x => ?_)
    rw [mem, hlen, List.take_length]
  | succ k ih =>
    intro i s ms hk hle st hl hS mem hR
    have hlt : i < items.size := by omega
    refine codeAny_builtin F.entry_set_update_loop ?_; rw [Around.under_plainId F.plain_set_update_loop _]
    show wpAny _ A.in1 (pyNext (.ref I) >>= _) _ _ s
    have hx : items[i]? = some items[i] := by simp [hlt]
    refine wpAny_bind (wpAny_pyNext_list_item st hl hx fun h' st' sb => ?_)
    obtain ⟨t, ev⟩ := IntsAre.int_at hi i items[i] (by simp [hlt])
    have hv : i < vals.length := by omega
    have eg : vals.getD i 0 = vals[i] := by simp [hv]
    rw [eg] at ev
    rw [ev]
    show wpAny _ A.in1 (holding [Value.int vals[i] t] (setAdd S (.int vals[i] t)) >>= _) _ _ _
    refine wpAny_bind (wpAny_holding ?_); unfold setAdd; refine wpAny_holding ?_
    refine wpAny_bind (wpAny_pyHash_int ?_)
    have hS' : ISet w h' S ms := hS.keeps fun o e => (sb.2 _ n1).trans e
    have lms : ms.length ≤ g.length := lenSub (iset_nd hS') fun x hx => hg x (List.mem_of_mem_take ((mem x).mp hx))
    refine iset_add (s := { s with heap := h', toks := s.toks + 1 }) hS' (by omega) fun h2 ms2 b sb2 hS2 alt => ?_
    refine wpAny_pure ⟨plainId_quiet F.plain_set_update_loop _, ih (i + 1) _ ms2 (by omega) hlt (st'.at fun o e => (sb2.2 _ n1.symm).trans e) (hl.at fun o e => (sb2.2 _ n2.symm).trans ((sb.2 _ n3).trans e)) hS2 (fun x => ?_) fun h3 tk3 ms3 k3 hS3 mem3 => ?_⟩
    · rw [List.take_add_one, List.getElem?_eq_getElem hv, List.mem_append]
      have : (some vals[i]).toList = [vals[i]] := rfl
      rw [this, List.mem_singleton, ← mem x]
      rcases alt with ⟨i1, rfl⟩ | ⟨i1, i2⟩
      · constructor
        · exact .inl
        · rintro (z | z)
          · exact z
          · rw [z]; exact i1
      · rw [i2.mem_iff, List.mem_cons]; exact Or.comm
    · exact hR h3 tk3 ms3 (fun b o b1 b2 e => k3 b o b1 b2 ((sb2.2 b b1).trans ((sb.2 b b2).trans e))) hS3 mem3
end
section
variable {prog : Program} {w : World} {A : Around} {E : Value → Shared → Prop} {s : Shared}
theorem set_of_list {l : Addr} {items : Array Value} {vals g : List Int} {Q : Value → Shared → Prop} (hh : A.handled = none) (hl : s.heap.IsList l items) (hi : IntsAre items.toList vals) (hg : ∀ v ∈ vals, v ∈ g) (g64 : g.length < 100)
    (h : ∀ h' tk ms, (∀ b o, s.heap.get? b = some o → h'.get? b = some o) → ISet w h' s.heap.objs.size ms → (∀ x, x ∈ ms ↔ x ∈ vals) → Q (.ref s.heap.objs.size) { s with heap := h', toks := tk }) :
    wpAny (model prog w) A (call (.type "set") [.ref l]) Q E s := by
  obtain ⟨ol, hol, hcl, nl, hdl⟩ := id hl
  have hll : l < s.heap.objs.size := Heap.lt_size hol
  refine call_set_by ?_
  have hl1 : (s.heap.push (freshSet (!byTx w))).IsList l items := hl.push _
  unfold Builtin.Frozenset.updateFrom
  have hT : Shared.TypeIs { s with heap := s.heap.push (freshSet (!byTx w)) } (.ref l) "list" := ⟨ol, Heap.get?_push_of_some _ hol, hcl⟩
  refine wpAny_bind (no_set hT F.sub_list_set F.sub_list_frozenset (wp_ifF (by decide) ?_))
  refine wpAny_bind (wpAny_typeOf hT (wp_ifF (by decide) ?_))
  refine wpAny_bind (wpAny_pyIter_list (s := { s with heap := s.heap.push (freshSet (!byTx w)) }) hl1 ?_)
  have sz : (s.heap.push (freshSet (!byTx w))).objs.size = s.heap.objs.size + 1 := Heap.size_push ..
  refine wpAny_bind (wpAny_runValue ?_)
  refine set_loop (A := A.in1.in1) (g := g) (by simpa using hh) hi hg g64 (I := (s.heap.push (freshSet (!byTx w))).objs.size) (l := l) (by rw [sz]; exact Nat.ne_of_lt (Nat.lt_succ_self _)) (Nat.ne_of_gt hll) (by rw [sz]; exact Nat.ne_of_lt (Nat.lt_succ_of_lt hll)) items.size 0 _ [] (by omega) (Nat.zero_le _) ⟨_, Heap.get?_push_size _ rfl, rfl, rfl⟩ (hl1.push _) ((iset_fresh s.heap).keeps fun o e => Heap.get?_push_of_some _ e) (fun x => by simp) fun h' tk ms k hS mem => ?_
  obtain ⟨oS, eS, pS, tS, RS⟩ := hS.raw
  refine wpAny_pure ⟨⟨oS, RS.at', RS.ex.1⟩, h h' tk ms (fun b o e => k b o (Nat.ne_of_lt (Heap.lt_size e)) (by rw [sz]; exact Nat.ne_of_lt (Nat.lt_succ_of_lt (Heap.lt_size e))) (Heap.get?_push_of_some _ (Heap.get?_push_of_some _ e))) hS mem⟩
end
end Wr

set_option maxHeartbeats 4000000
namespace L2
open PySem PySem.Spec PyProof.Rows
section
variable {X : Cx}
/-- set(l) of a list of numbers, few of them unlike -/
def rSetLi (K : PySem.W.Frag) (w : World) : List V → Hp → VK → Prop := fun xs H Q => ∃ (l : Addr) (vals g : List Int), xs = [.ref l] ∧ SqL K H l (vals.map V.int) ∧ (∀ v ∈ vals, v ∈ g) ∧ g.length < 100 ∧ ∀ (p : Addr) (ms : List Int), H p = none → (∀ x, x ∈ ms ↔ x ∈ vals) → ms.Nodup → Q (.ref p) (upd H p (setO w p ms))
theorem call_set_li (hc : X.calm = true) : CallR X (.type "set") (rSetLi X.K X.w) := by
  intro pins s σ H xs us Q I r ⟨l, vals, g, e, hl, hg, g64, q⟩
  subst e
  obtain ⟨u, rfl, ru⟩ := Vals.one r
  cases ru
  obtain ⟨its, rv, pl, _⟩ := I.list hl
  refine Wr.set_of_list (inv_hd I hc) pl.isList (by simpa using ints_vals rv) hg g64 fun h' tk ms k hS mem => ?_
  exact ⟨.ref s.heap.objs.size, _, I.laid (a := s.heap.objs.size) (o := setO X.w s.heap.objs.size ms) (t' := tk) (fun b u z => k b u z) (Nat.le_refl _) (setO_ok hS), rfl, q _ ms (I.hok.fresh (Nat.le_refl _)) mem (iset_nodup hS)⟩
theorem c_setLi (w : World) (hw : X.w = w := by rfl) (hc : X.calm = true := by rfl) : JC X (.type "set") (rSetLi X.K w) := by subst hw; exact ⟨call_set_li hc⟩
end
/-! ### rows as data -/
def dRow (r : List Int) : PyData := .tuple (r.map PyData.int)
theorem den_int {K : PySem.W.Frag} {H : Hp} : ∀ ns : List Int, DenAll K H (ns.map V.int) (ns.map PyData.int)
  | [] => .nil
  | n :: ns => .cons (.int n) (den_int ns)
theorem RowAt.den {K : PySem.W.Frag} {H : Hp} {v : V} {r : List Int} (h : RowAt H v r) : Den K H v (dRow r) := by
  obtain ⟨t, rfl, e⟩ := h
  exact .tup (SqT.of e) (den_int r)
theorem rows_den {K : PySem.W.Frag} {H : Hp} : ∀ {vs : List V} {rs : List (List Int)}, Paired (RowAt H) vs rs → DenAll K H vs (rs.map dRow)
  | _, _, .nil => .nil
  | _, _, .cons r t => .cons r.den (rows_den t)
theorem eqv_intsA : ∀ (l m : List Int), PyData.eqvAll (l.map PyData.int) (m.map PyData.int) = decide (l = m)
  | [], [] => by simp [PyData.eqvAll]
  | [], _ :: _ => by simp [PyData.eqvAll]
  | _ :: _, [] => by simp [PyData.eqvAll]
  | x :: l, y :: m => by
    simp only [List.map_cons, PyData.eqvAll, eqv_intsA l m, PyData.eqv]
    by_cases h1 : x = y <;> by_cases h3 : l = m <;> simp [h1, h3]
theorem eqv_rows : ∀ (l m : List (List Int)), PyData.eqvAll (l.map dRow) (m.map dRow) = decide (l = m)
  | [], [] => by simp [PyData.eqvAll]
  | [], _ :: _ => by simp [PyData.eqvAll]
  | _ :: _, [] => by simp [PyData.eqvAll]
  | x :: l, y :: m => by
    simp only [List.map_cons, PyData.eqvAll, eqv_rows l m, dRow, PyData.eqv, eqv_intsA]
    by_cases h1 : x = y <;> by_cases h3 : l = m <;> simp [h1, h3]
theorem eqv_rowsL (l m : List (List Int)) : PyData.eqv (.list (l.map dRow)) (.list (m.map dRow)) = decide (l = m) := by rw [PyData.eqv]; exact eqv_rows l m
theorem eqv_intsL (l m : List Int) : PyData.eqv (.list (l.map PyData.int)) (.list (m.map PyData.int)) = decide (l = m) := by rw [PyData.eqv]; exact eqv_intsA l m
theorem ints_shape : ∀ ns : List Int, PyData.canLayAll0 (ns.map PyData.int) = true ∧ PyData.depthAll (ns.map PyData.int) = 0
  | [] => by simp [PyData.canLayAll0, PyData.depthAll]
  | n :: ns => by
    have ih := ints_shape ns
    simp [PyData.canLayAll0, PyData.depthAll, PyData.canLay0, PyData.depth, ih.1, ih.2]
theorem rows_shape : ∀ rs : List (List Int), PyData.canLayAll0 (rs.map dRow) = true ∧ PyData.depthAll (rs.map dRow) ≤ 1
  | [] => by simp [PyData.canLayAll0, PyData.depthAll]
  | r :: rs => by
    have ih := rows_shape rs
    have e := ints_shape r
    simp only [List.map_cons, PyData.canLayAll0, PyData.depthAll, dRow, PyData.canLay0, PyData.depth, e.1, e.2, ih.1]
    exact ⟨by simp, by have := ih.2; omega⟩
theorem shaped_rows (rs : List (List Int)) : SeqAt.shaped (.list (rs.map dRow)) = true := by
  have e := rows_shape rs
  unfold SeqAt.shaped
  simp only [PyData.canLay0, PyData.depth, e.1, Bool.true_and]
  exact decide_eq_true (by have := e.2; omega)
theorem shaped_intsL (ns : List Int) : SeqAt.shaped (.list (ns.map PyData.int)) = true := by
  have e := ints_shape ns
  unfold SeqAt.shaped
  simp [PyData.canLay0, PyData.depth, e.1, e.2]
end L2

set_option maxHeartbeats 4000000
namespace Prf
open PySem L2 Wr
def top (i : Nat) : Stmt := PySem.Challenge.pw_whenrows_k12_cut_at.main.body.getD i (.Pass ⟨0, 0, 0, 0⟩)
def stE_lies_in : {s : Stmt // top 1 = s} := ⟨.FunctionDef _ _ _ _ _ _ _ _ _ _, rfl⟩
abbrev st_lies_in : Stmt := stE_lies_in.1
def stE_holds_at : {s : Stmt // top 2 = s} := ⟨.FunctionDef _ _ _ _ _ _ _ _ _ _, rfl⟩
abbrev st_holds_at : Stmt := stE_holds_at.1
def stE_bounds_of : {s : Stmt // top 3 = s} := ⟨.FunctionDef _ _ _ _ _ _ _ _ _ _, rfl⟩
abbrev st_bounds_of : Stmt := stE_bounds_of.1
def stE_cut_at : {s : Stmt // top 5 = s} := ⟨.FunctionDef _ _ _ _ _ _ _ _ _ _, rfl⟩
abbrev st_cut_at : Stmt := stE_cut_at.1
def stE_sheet_bounds : {s : Stmt // top 6 = s} := ⟨.FunctionDef _ _ _ _ _ _ _ _ _ _, rfl⟩
abbrev st_sheet_bounds : Stmt := stE_sheet_bounds.1
def stE__law_mix : {s : Stmt // top 8 = s} := ⟨.FunctionDef _ _ _ _ _ _ _ _ _ _, rfl⟩
abbrev st__law_mix : Stmt := stE__law_mix.1
def stE__law_grid : {s : Stmt // top 9 = s} := ⟨.FunctionDef _ _ _ _ _ _ _ _ _ _, rfl⟩
abbrev st__law_grid : Stmt := stE__law_grid.1
def stE__law_stretch : {s : Stmt // top 10 = s} := ⟨.FunctionDef _ _ _ _ _ _ _ _ _ _, rfl⟩
abbrev st__law_stretch : Stmt := stE__law_stretch.1
def stE__law_span : {s : Stmt // top 11 = s} := ⟨.FunctionDef _ _ _ _ _ _ _ _ _ _, rfl⟩
abbrev st__law_span : Stmt := stE__law_span.1
def stE__law_row : {s : Stmt // top 12 = s} := ⟨.FunctionDef _ _ _ _ _ _ _ _ _ _, rfl⟩
abbrev st__law_row : Stmt := stE__law_row.1
def stE__law_at : {s : Stmt // top 13 = s} := ⟨.FunctionDef _ _ _ _ _ _ _ _ _ _, rfl⟩
abbrev st__law_at : Stmt := stE__law_at.1
def stE_law : {s : Stmt // top 14 = s} := ⟨.FunctionDef _ _ _ _ _ _ _ _ _ _, rfl⟩
abbrev st_law : Stmt := stE_law.1
end Prf

set_option maxHeartbeats 4000000
namespace Prf
open PySem L2 Wr
section
variable {P : Program} {w : World} {K : PySem.W.Frag} {mg : Str → Option Value} {base : Heap}
/-! ### holds_at -/
def hiB (m : Int) : Option Int → Bool
  | none => true
  | some b => decide (m < b)
def spHolds : Sp := fun vs H Q _ => ∃ (a b : Option Int) (m : Int), vs = [vO a, vO b, .int m] ∧ Q (.bl (inS m (a, b))) H
theorem scHolds : FnScope ["start", "end", "moment"] ["start", "end", "moment"] (defScope st_holds_at) := ⟨rfl, rfl, rfl, by decide +kernel, rfl, by decide +kernel, by decide +kernel⟩
theorem ok_holds {f : Addr} {fd : FuncData} (F : Fun K "holds_at" "holds_at" st_holds_at f fd) : FnOk P w K mg base CX0 1 f fd ["start", "end", "moment"] spHolds := by
  refine F.okJ scHolds (fun vs H Q E h => ?_) (fun cdv A outer s H vs Q E hr h => ?_)
  · obtain ⟨a, b, m, rfl, _⟩ := h
    rfl
  · obtain ⟨a, b, m, rfl, k⟩ := h
    refine ⟨_, b_one (s_ret (e_and (e_or (e_isN ( (e_v 0))) (e_one (e_cmp o_le (e_v 0) (e_v 2)))) (e_one (e_or (e_isN ( (e_v 1))) (e_one (e_cmp o_lt (e_v 2) (e_v 1))))))), ?_⟩
    refine ⟨_, rfl, _, rfl, ?_⟩
    have second : ∀ c : Bool, inS m (a, b) = (c && hiB m b) → ∃ d, V.bl c = .bl d ∧ (if d = true then tOrV (tIsN (tVar 1)) (tOp (rI0 fun i j => .bl (decide (i < j))) (tVar 2) (tVar 1)) (start ["start", "end", "moment"] [vO a, vO b, .int m]) H Q else Q (.bl false) H) := fun c hc => by
      refine ⟨c, rfl, ?_⟩
      cases c with
      | false =>
        refine iteF ?_
        rw [Bool.false_and] at hc
        rw [hc] at k
        exact k
      | true =>
        refine iteT ?_
        rw [Bool.true_and] at hc
        rw [hc] at k
        refine ⟨_, rfl, _, rfl, ?_⟩
        cases b with
        | none => exact iteT k
        | some b => exact iteF ⟨_, rfl, _, rfl, _, _, rfl, rfl, k⟩
    cases a with
    | none => exact iteT (second true (by cases b <;> rfl))
    | some a => exact iteF ⟨_, rfl, _, rfl, _, _, rfl, rfl, second _ (by cases b <;> rfl)⟩
/-! ### lies_in -/
def spLies : Sp := fun vs H Q _ => ∃ (a : Addr) (ss : List Stt) (m : Int), vs = [.ref a, .int m] ∧ SpanAt H a ss ∧ ss.length < 1000 ∧ ∀ H', Same H H' → Q (.bl (inSpan m ss)) H'
theorem scLies : FnScope ["span", "moment"] ["span", "moment"] (defScope st_lies_in) := ⟨rfl, rfl, rfl, by decide +kernel, rfl, by decide +kernel, by decide +kernel⟩
theorem ok_lies {f : Addr} {fd : FuncData} (F : Fun K "lies_in" "lies_in" st_lies_in f fd) (ma : mg "any" = none) (FH : FnP P w K mg base 1 "holds_at" ["start", "end", "moment"] spHolds) : FnOk P w K mg base CX0 2 f fd ["span", "moment"] spLies := by
  refine F.okJ scLies (fun vs H Q E h => ?_) (fun cdv A outer s H vs Q E hr h => ?_)
  · obtain ⟨a, ss, m, rfl, _⟩ := h
    rfl
  · obtain ⟨a, ss, m, rfl, ⟨xs, ha, hs⟩, hlen, k⟩ := h
    have nd : (["start", "end", "moment"] : List Str).Nodup := by decide +kernel
    refine ⟨_, b_one (s_ret (e_cb c_any ma PyProof.Rows.boot_any (a1c (e_comp (Nc := ["start", "end", "moment"]) (js := [none, none, some 1]) (g := gTup K 2 (gCons (gName 0) (gCons (gName 1) gNil))) (tt := tYes)
      (te := tCall spHolds [] E0 (tCons (tVar 0) (tCons (tVar 1) (tCons (tVar 2) tNil))))
      (comp_mk rfl rfl rfl rfl (fun x c h => by obtain ⟨rfl, rfl⟩ : x = _ ∧ c = _ := by simpa using h
                                                rfl) rfl rfl rfl) (i_list (e_v 0))
      (fun pins C s3 H3 fp => ⟨g_tup (gs_cons (g_n 0 nd) (gs_cons (g_n 1 nd) gs_nil)), .inl ⟨rfl, rfl⟩, e_fn FH hr (ac (e_v 0) (ac (e_v 1) (a1 (e_v 2))))⟩))))), ?_⟩
    have hl : xs.length = ss.length := Paired.length hs
    refine ⟨_, rfl, a, rfl, ⟨xs, SqL.of ha⟩, fun D hD => ?_⟩
    have naD : a ≠ D := ne_of_none ha hD
    refine comp_list (K := K) (a := a) (xs := xs) (fun i _ σ H2 => ∃ o1 o2, σ = [o1, o2, some (.int m)] ∧ Same H H2 ∧ H2 D = some (.lst (((ss.take i).map (inS m)).map V.bl)))
      ⟨none, none, rfl, (Same.refl H).upd hD, upd_same⟩ (fun i _ σ H2 _ ⟨_, _, _, sm, _⟩ => SqL.of (sm _ _ ha)) ?_ ?_
    · rintro i x _ σ H2 hx ⟨o1, o2, rfl, sm, h2⟩
      obtain ⟨q, hq, t, rfl, ht⟩ := paired_at hs hx
      refine ⟨t, _, rfl, SqT.of (sm _ _ ht), rfl, _, _, rfl, _, _, rfl, rfl, ?_⟩
      refine ⟨_, rfl, _, rfl, _, rfl, q.1, q.2, m, rfl, _, h2, ?_, [], _, _, rfl, fun b o e => ?_, ?_⟩
      · have : ((ss.take i).map (inS m)).length ≤ 1000 := by rw [List.length_map, List.length_take]; omega
        exact small1000 (by rw [List.length_map]; exact this)
      · rw [upd_ne (ne_of_none e hD)]; exact sm b o e
      · rw [upd_same, take_snoc hq]
        simp
    · rintro _ σ H2 ⟨o1, o2, rfl, sm, h2⟩
      rw [hl, List.take_length] at h2
      refine ⟨D, ss.map (inS m), rfl, SqL.of h2, ?_⟩
      have e : (ss.map (inS m)).any id = inSpan m ss := by rw [List.any_map]; rfl
      rw [e]
      exact k H2 sm
/-! ### bounds_of -/
def sp_bounds_of : Sp := fun vs H Q _ => ∃ (a : Addr) (ss : List Stt), vs = [.ref a] ∧ SpanAt H a ss ∧ ss.length ≤ 400 ∧ ∀ (p : Addr) (H' : Hp), Same H H' → H p = none → H' p = some (.lst ((bnds ss).map V.int)) → Q (.ref p) H'
theorem sc_bounds_of : FnScope ["span", "bounds", "start", "end"] ["span"] (defScope st_bounds_of) := ⟨rfl, rfl, rfl, by decide +kernel, rfl, by decide +kernel, by decide +kernel⟩
theorem ok_bounds_of {f : Addr} {fd : FuncData} (F : Fun K "bounds_of" "bounds_of" st_bounds_of f fd) : FnOk P w K mg base CX0 1 f fd ["span"] sp_bounds_of := by
  refine F.okJ sc_bounds_of (fun vs H Q E h => ?_) (fun cdv A outer s H vs Q E hr h => ?_)
  · obtain ⟨_, _, rfl, _⟩ := h
    rfl
  · obtain ⟨a, ss, rfl, ⟨xs, ha, hs⟩, hz, k⟩ := h
    have nd : (["bound"] : List Str).Nodup := by decide +kernel
    refine ⟨_, (b_cons (s_set 1 sc_bounds_of.nd (e_lst a0))
      (b_cons (s_for (i_list (e_v 0)) (g_tup (gs_cons (g_n 2 sc_bounds_of.nd) (gs_cons (g_n 3 sc_bounds_of.nd) gs_nil)))
        (b_one (s_ext (e_v 1) (a1c (e_comp (Nc := ["bound"]) (js := [none]) (g := (gName 0)) (tt := (tB (tNotN (tVar 0)))) (te := (tVar 0))
      (comp_mk rfl rfl rfl rfl (fun x c h => by cases h) rfl rfl rfl) (i_tup (e_tup (ac (e_v 2) (a1 (e_v 3)))))
      (fun pins C s3 H3 fp => ⟨(g_n 0 nd), .inr ⟨_, rfl, (t_notN (e_v 0))⟩, (e_v 0)⟩))))))
      (b_one (s_ret (e_v 1))))), ?_⟩
    refine ⟨Nat.zero_le _, fun b hb => ?_⟩
    have s0 : Same H (upd H b (.lst [])) := (Same.refl H).upd hb
    have lxs : xs.length = ss.length := Paired.length hs
    refine ⟨_, rfl, a, rfl, ⟨xs, SqL.of (s0 _ _ ha)⟩, for_list (K := K) (a := a) (xs := xs) (fun i σ H' => ∃ (o1 o2 : Option V), σ = [some (.ref a), some (.ref b), o1, o2] ∧ Same H H' ∧ H' b = some (.lst ((bnds (ss.take i)).map V.int)))
      ⟨none, none, rfl, s0, upd_same⟩ (fun i σ H' _ ⟨_, _, _, sm, _⟩ => SqL.of (sm _ _ ha)) ?_ ?_⟩
    · rintro i x σ H2 hx ⟨o1, o2, rfl, sm, h2⟩
      obtain ⟨q, hq, t, rfl, ht⟩ := paired_at hs hx
      refine ⟨t, _, rfl, SqT.of (sm _ _ ht), rfl, _, _, rfl, _, _, rfl, rfl, ?_⟩
      refine ⟨_, rfl, .inl ⟨rfl, _, SqL.of h2⟩, _, rfl, _, rfl, by show 2 ≤ sizeLine; decide, fun t' ht' => ?_⟩
      have s1 : Same H2 (upd H2 t' (.tup [vO q.1, vO q.2])) := (Same.refl _).upd ht'
      have g1 : upd H2 t' (.tup [vO q.1, vO q.2]) t' = some (.tup (([q.1, q.2] : List (Option Int)).map vO)) := upd_same
      generalize upd H2 t' (.tup [vO q.1, vO q.2]) = H3 at s1 g1 ⊢
      refine ⟨t', rfl, ⟨_, SqT.of g1⟩, fun D hD => ?_⟩
      have hi : i < ss.length := (List.getElem?_eq_some_iff.mp hq).1
      refine comp_tup (K := K) (a := t') (xs := ([q.1, q.2] : List (Option Int)).map vO) (fun j σ H4 => ∃ o, σ = [o] ∧ Same H3 H4 ∧ H4 D = some (.lst (((([q.1, q.2] : List (Option Int)).take j).flatMap Option.toList).map V.int)))
        ⟨none, rfl, (Same.refl H3).upd hD, upd_same⟩ (fun j σ H4 _ ⟨_, _, sm4, _⟩ => SqT.of (sm4 _ _ g1)) ?_ ?_
      · rintro j y σ H4 hy ⟨o, rfl, sm4, h4⟩
        obtain ⟨oy, ey, rfl⟩ := map_at hy
        have hj : j < 2 := (List.getElem?_eq_some_iff.mp ey).1
        refine ⟨_, rfl, _, rfl, ?_⟩
        cases oy with
        | none =>
          refine iteF ⟨_, rfl, sm4, ?_⟩
          rw [h4, take_snoc ey, List.flatMap_append]
          simp
        | some n =>
          refine iteT ⟨_, rfl, _, h4, ?_, _, rfl, sm4.upd hD, ?_⟩
          · refine small1000 ?_
            have : ((([q.1, q.2] : List (Option Int)).take j).flatMap Option.toList).length ≤ 2 := by
              rcases q with ⟨x, y⟩
              rcases j with _ | _ | j <;> cases x <;> cases y <;> simp
            rw [List.length_map]
            omega
          · rw [upd_same, take_snoc ey, List.flatMap_append]
            simp [vO]
      · rintro σ H4 ⟨o, rfl, sm4, h4⟩
        have s4 := s1.trans sm4
        have nbD : b ≠ D := ne_of_none (s1 _ _ h2) hD
        refine ⟨b, D, _, _, rfl, rfl, s4 _ _ h2, h4, ?_, _, _, rfl, (sm.trans s4).upd hb, ?_⟩
        · have l1 := bnds_take_len ss i
          have : ((([q.1, q.2] : List (Option Int)).take 2).flatMap Option.toList).length ≤ 2 := by
            rcases q with ⟨x, y⟩
            cases x <;> cases y <;> simp
          have e : (([q.1, q.2] : List (Option Int)).map vO).length = 2 := rfl
          rw [List.length_map, List.length_map, e]
          refine Nat.le_of_lt (small1000 ?_)
          omega
        · rw [upd_same, bnds_take hq]
          simp
    · rintro σ H2 ⟨o1, o2, rfl, sm, h2⟩
      rw [lxs, List.take_length] at h2
      exact ⟨_, rfl, k b H2 sm hb h2⟩
end
end Prf

set_option maxHeartbeats 4000000
namespace L2
open PySem Wr
/-! ### sheets -/
def EntAt (H : Hp) (v : V) (e : List Int × List Stt) : Prop := ∃ t p q, v = .ref t ∧ H t = some (.tup [.ref p, .ref q]) ∧ H p = some (.tup (e.1.map V.int)) ∧ SpanAt H q e.2
def SheetAt (H : Hp) (a : Addr) (es : List (List Int × List Stt)) : Prop := ∃ xs, H a = some (.lst xs) ∧ Paired (EntAt H) xs es
theorem EntAt.same {H H' : Hp} {v : V} {e : List Int × List Stt} (s : Same H H') (h : EntAt H v e) : EntAt H' v e := by
  obtain ⟨t, p, q, h1, h2, h3, h4⟩ := h
  exact ⟨t, p, q, h1, s _ _ h2, s _ _ h3, h4.same s⟩
theorem SheetAt.same {H H' : Hp} {a : Addr} {es : List (List Int × List Stt)} (s : Same H H') (h : SheetAt H a es) : SheetAt H' a es := by
  obtain ⟨xs, h1, h2⟩ := h
  exact ⟨xs, s _ _ h1, Paired.mapP h2 fun _ _ q => q.same s⟩
theorem rows_wr {H : Hp} {l : Addr} {o : HO} {ys : List V} {rs : List (List Int)} (hl : ∀ xs, H l ≠ some (.tup xs)) (h : Paired (RowAt H) ys rs) : Paired (RowAt (upd H l o)) ys rs := Paired.mapP h fun _ _ ⟨t, e1, e2⟩ => ⟨t, e1, by
  rw [upd_ne (fun z => hl _ (by rw [← z]; exact e2))]; exact e2⟩
theorem rows_same {H H' : Hp} {ys : List V} {rs : List (List Int)} (s : Same H H') (h : Paired (RowAt H) ys rs) : Paired (RowAt H') ys rs := Paired.mapP h fun _ _ q => q.same s
end L2
namespace Prf
open PySem L2 Wr
section
variable {P : Program} {w : World} {K : PySem.W.Frag} {mg : Str → Option Value} {base : Heap}
/-! ### cut_at -/
def sp_cut_at : Sp := fun vs H Q _ => ∃ (a : Addr) (es : List (List Int × List Stt)) (m : Int), vs = [.ref a, .int m] ∧ SheetAt H a es ∧ es.length ≤ 900 ∧ (∀ e ∈ es, e.2.length < 1000) ∧
  ∀ (D : Addr) (H' : Hp) (ys : List V), Same H H' → H D = none → H' D = some (.lst ys) → Paired (RowAt H') ys ((es.filter fun e => inSpan m e.2).map (·.1)) → Q (.ref D) H'
theorem sc_cut_at : FnScope ["sheet", "moment"] ["sheet", "moment"] (defScope st_cut_at) := ⟨rfl, rfl, rfl, by decide +kernel, rfl, by decide +kernel, by decide +kernel⟩
theorem ok_cut_at {f : Addr} {fd : FuncData} (F : Fun K "cut_at" "cut_at" st_cut_at f fd) (F_lies_in : FnP P w K mg base 2 "lies_in" ["span", "moment"] spLies) : FnOk P w K mg base CX0 3 f fd ["sheet", "moment"] sp_cut_at := by
  refine F.okJ sc_cut_at (fun vs H Q E h => ?_) (fun cdv A outer s H vs Q E hr h => ?_)
  · obtain ⟨_, _, _, rfl, _⟩ := h
    rfl
  · obtain ⟨a, es, m, rfl, ⟨xs, ha, hs⟩, hz, few, k⟩ := h
    have nd : (["row", "span", "moment"] : List Str).Nodup := by decide +kernel
    refine ⟨_, (b_one (s_ret (e_comp (Nc := ["row", "span", "moment"]) (js := [none, none, some 1]) (g := (gTup K 2 (gCons (gName 0) (gCons (gName 1) gNil)))) (tt := (tB (tCall spLies [] E0 (tCons (tVar 1) (tCons (tVar 2) tNil))))) (te := (tVar 0))
      (comp_mk rfl rfl rfl rfl (fun x c h => by obtain ⟨rfl, rfl⟩ : x = _ ∧ c = _ := by simpa using h
                                                rfl) rfl rfl rfl) (i_list (e_v 0))
      (fun pins C s3 H3 fp => ⟨(g_tup (gs_cons (g_n 0 nd) (gs_cons (g_n 1 nd) gs_nil))), .inr ⟨_, rfl, (t_val (e_fn F_lies_in hr (ac (e_v 1) (a1 (e_v 2)))))⟩, (e_v 0)⟩)))), ?_⟩
    have lx : xs.length = es.length := Paired.length hs
    refine ⟨_, rfl, a, rfl, ⟨xs, SqL.of ha⟩, fun D hD => ?_⟩
    refine comp_list (K := K) (a := a) (xs := xs) (fun i _ σ H2 => ∃ o1 o2 ys, σ = [o1, o2, some (.int m)] ∧ Same H H2 ∧ H2 D = some (.lst ys) ∧ Paired (RowAt H2) ys (((es.take i).filter fun e => inSpan m e.2).map (·.1)))
      ⟨none, none, [], rfl, (Same.refl H).upd hD, upd_same, .nil⟩ (fun i _ σ H2 _ ⟨_, _, _, _, sm, _⟩ => SqL.of (sm _ _ ha)) ?_ ?_
    · rintro i x _ σ H2 hx ⟨o1, o2, ys, rfl, sm, h2, pr⟩
      obtain ⟨e, he, t, p, q, rfl, ht, hp, hq⟩ := paired_at hs hx
      have hem : e ∈ es := List.mem_of_getElem? he
      refine ⟨t, _, rfl, SqT.of (sm _ _ ht), rfl, _, _, rfl, _, _, rfl, rfl, ?_⟩
      refine ⟨_, rfl, _, rfl, q, e.2, m, rfl, hq.same sm, few e hem, fun H3 sm3 => ⟨_, rfl, ?_⟩⟩
      have s3 := sm.trans sm3
      cases hin : inSpan m e.2 with
      | false =>
        refine iteF ⟨[], _, _, ys, rfl, s3, sm3 _ _ h2, ?_⟩
        rw [take_snoc he, List.filter_append, List.map_append]
        simp only [List.filter_cons, hin, Bool.false_eq_true, if_false, List.filter_nil, List.map_nil, List.append_nil]
        exact rows_same sm3 pr
      | true =>
        have ly := Paired.length pr
        have lf : ((es.take i).filter fun e => inSpan m e.2).length ≤ 900 := by
          have := List.length_filter_le (fun e : List Int × List Stt => inSpan m e.2) (es.take i)
          rw [List.length_take] at this
          omega
        rw [List.length_map] at ly
        refine iteT ⟨_, rfl, ys, sm3 _ _ h2, small1000 (by omega), [], _, _, ys ++ [.ref p], rfl, s3.upd hD, upd_same, ?_⟩
        rw [take_snoc he, List.filter_append, List.map_append]
        simp only [List.filter_cons, hin, if_true, List.filter_nil, List.map_cons, List.map_nil]
        refine paired_snoc (R := RowAt (upd H3 D (.lst (ys ++ [.ref p])))) ⟨p, rfl, ?_⟩ (rows_wr (no_tup (sm3 _ _ h2)) (rows_same sm3 pr))
        rw [upd_ne (fun z => by have := s3 _ _ hp; rw [z, sm3 _ _ h2] at this; cases this)]
        exact s3 _ _ hp
    · rintro _ σ H2 ⟨o1, o2, ys, rfl, sm, h2, pr⟩
      rw [lx, List.take_length] at pr
      exact k D H2 ys sm hD h2 pr
/-! ### sheet_bounds -/
def sp_sheet_bounds : Sp := fun vs H Q _ => ∃ (a : Addr) (es : List (List Int × List Stt)) (g : List Int), vs = [.ref a] ∧ SheetAt H a es ∧ es.length ≤ 63 ∧ (∀ e ∈ es, e.2.length ≤ 50) ∧ g.length < 64 ∧ (∀ e ∈ es, ∀ x ∈ bnds e.2, x ∈ g) ∧
  ∀ (D : Addr) (H' : Hp) (bs : List Int), Same H H' → H D = none → H' D = some (.lst (bs.map V.int)) → Inc bs → (∀ x, x ∈ bs ↔ ∃ e ∈ es, x ∈ bnds e.2) → Q (.ref D) H'
theorem sc_sheet_bounds : FnScope ["sheet", "bounds", "entry"] ["sheet"] (defScope st_sheet_bounds) := ⟨rfl, rfl, rfl, by decide +kernel, rfl, by decide +kernel, by decide +kernel⟩
theorem ok_sheet_bounds {f : Addr} {fd : FuncData} (F : Fun K "sheet_bounds" "sheet_bounds" st_sheet_bounds f fd) (B : Blts mg) (F_bounds_of : FnP P w K mg base 1 "bounds_of" ["span"] sp_bounds_of) : FnOk P w K mg base CX0 2 f fd ["sheet"] sp_sheet_bounds := by
  refine F.okJ sc_sheet_bounds (fun vs H Q E h => ?_) (fun cdv A outer s H vs Q E hr h => ?_)
  · obtain ⟨_, _, _, rfl, _⟩ := h
    rfl
  · obtain ⟨a, es, g, rfl, ⟨xs, ha, hs⟩, hz, few, g64, sub, k⟩ := h
    refine ⟨_, (b_cons (s_set 1 sc_sheet_bounds.nd (e_lst a0))
      (b_cons (s_for (i_list (e_v 0)) (g_n 2 sc_sheet_bounds.nd)
        (b_one (s_ext (e_v 1) (a1 (e_fn F_bounds_of hr (a1 (e_ix x_tup (e_v 2) e_i)))))))
      (b_one (s_ret (e_cb (c_sortS w) B.sorted PyProof.Rows.boot_sorted (a1 (e_ct (c_setLi w) B.set PyProof.Rows.boot_set (a1 (e_v 1))))))))), ?_⟩
    refine ⟨Nat.zero_le _, fun b hb => ?_⟩
    have s0 : Same H (upd H b (.lst [])) := (Same.refl H).upd hb
    have lx : xs.length = es.length := Paired.length hs
    refine ⟨_, rfl, a, rfl, ⟨xs, SqL.of (s0 _ _ ha)⟩, for_list (K := K) (a := a) (xs := xs) (fun i σ H2 => ∃ (o : Option V) (vals : List Int), σ = [some (.ref a), some (.ref b), o] ∧ Same H H2 ∧ H2 b = some (.lst (vals.map V.int)) ∧ (∀ x, x ∈ vals ↔ ∃ e ∈ es.take i, x ∈ bnds e.2) ∧ vals.length ≤ 100 * i)
      ⟨none, [], rfl, s0, upd_same, fun x => by simp, Nat.le_refl _⟩ (fun i σ H2 _ ⟨_, _, _, sm, _⟩ => SqL.of (sm _ _ ha)) ?_ ?_⟩
    · rintro i x σ H2 hx ⟨o, vals, rfl, sm, h2, mem, len⟩
      obtain ⟨e, he, t, p, q, rfl, ht, hp, hq⟩ := paired_at hs hx
      have hi : i < es.length := (List.getElem?_eq_some_iff.mp he).1
      have le := few e (List.mem_of_getElem? he)
      have lb := bnds_len e.2
      refine ⟨_, rfl, .inl ⟨rfl, _, SqL.of h2⟩, _, rfl, t, _, 1, _, rfl, rfl, SqT.of (sm _ _ ht), rfl, q, e.2, rfl, hq.same sm, by omega, fun p3 H3 sm3 hp3 h3 => ?_⟩
      refine ⟨b, p3, _, _, rfl, rfl, sm3 _ _ h2, h3, ?_, _, vals ++ bnds e.2, rfl, (sm.trans sm3).upd hb, by rw [upd_same]; simp, fun x => ?_, by rw [List.length_append]; omega⟩
      · rw [List.length_map, List.length_map]
        have : vals.length + (bnds e.2).length ≤ 7000 := by omega
        exact Nat.le_trans this (by decide)
      · rw [take_snoc he, List.mem_append, mem]
        constructor
        · rintro (⟨e', h1, h2⟩ | h1)
          · exact ⟨e', List.mem_append_left _ h1, h2⟩
          · exact ⟨e, List.mem_append_right _ (by simp), h1⟩
        · rintro ⟨e', h1, h2⟩
          rcases List.mem_append.mp h1 with h1 | h1
          · exact .inl ⟨e', h1, h2⟩
          · rw [List.mem_singleton.mp h1] at h2; exact .inr h2
    · rintro σ H2 ⟨o, vals, rfl, sm, h2, mem, len⟩
      rw [lx, List.take_length] at mem
      have inG : ∀ v ∈ vals, v ∈ g := fun v hv => by obtain ⟨e, h1, h3⟩ := (mem v).mp hv; exact sub e h1 v h3
      refine ⟨_, rfl, b, vals, g, rfl, SqL.of h2, inG, by omega, fun p ms hp mm nd => ⟨p, ms, rfl, upd_same, ?_, fun D bs hD pm inc => ?_⟩⟩
      · have := len_sub nd fun x hx => inG x ((mm x).mp hx)
        omega
      · refine k D _ bs (sm.trans (((Same.refl H2).upd hp).trans ((Same.refl _).upd hD))) ?_ upd_same inc fun x => ?_
        · exact sm.free (((Same.refl H2).upd hp).free hD)
        · rw [pm.mem_iff, mm, mem]
end
end Prf

set_option maxHeartbeats 4000000
namespace Prf
open PySem L2 Wr
section
variable {P : Program} {w : World} {K : PySem.W.Frag} {mg : Str → Option Value} {base : Heap}
/-! ### mix -/
def spMix : Sp := fun vs H Q _ => ∃ (c j : Int), vs = [.int c, .int j] ∧ 0 ≤ j ∧ j ≤ 1000 ∧ ∀ r : Int, 0 ≤ r → Q (.int r) H
theorem scMix : FnScope ["_law_cell", "_law_j", "_law_number"] ["_law_cell", "_law_j"] (defScope st__law_mix) := ⟨rfl, rfl, rfl, by decide +kernel, rfl, by decide +kernel, by decide +kernel⟩
theorem ok_mix {f : Addr} {fd : FuncData} (F : Fun K "_law_mix" "_law_mix" st__law_mix f fd) : FnOk P w K mg base CX0 1 f fd ["_law_cell", "_law_j"] spMix := by
  refine F.okJ scMix (fun vs H Q E h => ?_) (fun cdv A outer s H vs Q E hr h => ?_)
  · obtain ⟨c, j, rfl, _⟩ := h
    rfl
  · obtain ⟨c, j, rfl, j0, j1, k⟩ := h
    refine ⟨_, b_cons (s_if (JW.jt (w_and (t_cmp o_eq (e_op o_mod (e_v 0) e_i) e_i) (w_and1 (t_cmp o_ne (e_op o_shr (e_v 0) e_i) e_i))))
        (b_one (s_ret (e_op o_mod (e_op o_shr (e_v 0) (e_op o_add e_i (e_op o_mul e_i (e_v 1)))) e_i))) b_nil)
      (b_cons (s_set 2 scMix.nd (e_op o_mod (e_op o_add (e_op o_mul (e_v 0) (e_op o_add (e_op o_mul e_i (e_v 1)) e_i)) (e_v 1)) e_i))
      (b_cons (s_set 2 scMix.nd (e_op o_mod (e_op o_mul (e_op o_add (e_op o_mul (e_v 2) (e_v 2)) e_i) e_i) e_i))
      (b_one (s_ret (e_op o_mod (e_op o_mul (e_v 2) (e_v 2)) e_i))))), ?_⟩
    -- the second way
    have two : ∀ D : Ends, D.rt = Q → tSeq (tAsg (tOp (rI (fun _ j => 0 < j) fun i j => .int (i % j)) (tOp (rI0 fun i j => .int (i + j)) (tOp (rI CMul fun i j => .int (i * j)) (tVar 0) (tOp (rI0 fun i j => .int (i + j)) (tOp (rI CMul fun i j => .int (i * j)) (tC (.int 2)) (tVar 1)) (tC (.int 3)))) (tVar 1)) (tC (.int 2147483629))) (gName 2))
        (tSeq (tAsg (tOp (rI (fun _ j => 0 < j) fun i j => .int (i % j)) (tOp (rI CMul fun i j => .int (i * j)) (tOp (rI0 fun i j => .int (i + j)) (tOp (rI CMul fun i j => .int (i * j)) (tVar 2) (tVar 2)) (tC (.int 1))) (tC (.int 48271))) (tC (.int 2147483629))) (gName 2))
        (tRet (tOp (rI (fun _ j => 0 < j) fun i j => .int (i % j)) (tOp (rI CMul fun i j => .int (i * j)) (tVar 2) (tVar 2)) (tC (.int 2147483587))))) D [some (.int c), some (.int j), none] H := by
      intro D hD
      refine ⟨_, rfl, _, rfl, _, _, rfl, rfl, .inl ⟨by decide, by decide⟩, _, _, rfl, rfl, _, _, rfl, rfl, .inr ⟨by omega, by omega⟩, _, rfl, _, _, rfl, rfl, _, _, rfl, rfl, pz, ?_⟩
      have a1 : 0 ≤ (c * (2 * j + 3) + j) % 2147483629 := Int.emod_nonneg _ (by decide)
      have a2 : (c * (2 * j + 3) + j) % 2147483629 < 2147483629 := Int.emod_lt_of_pos _ (by decide)
      generalize (c * (2 * j + 3) + j) % 2147483629 = n1 at a1 a2 ⊢
      refine ⟨_, rfl, _, rfl, _, _, rfl, rfl, .inl ⟨by omega, by omega⟩, _, _, rfl, rfl, _, _, rfl, rfl, .inr ⟨by decide, by decide⟩, _, _, rfl, rfl, pz, ?_⟩
      have b1 : 0 ≤ (n1 * n1 + 1) * 48271 % 2147483629 := Int.emod_nonneg _ (by decide)
      have b2 : (n1 * n1 + 1) * 48271 % 2147483629 < 2147483629 := Int.emod_lt_of_pos _ (by decide)
      generalize (n1 * n1 + 1) * 48271 % 2147483629 = n2 at b1 b2 ⊢
      refine ⟨_, rfl, _, rfl, _, _, rfl, rfl, .inl ⟨by omega, by omega⟩, _, _, rfl, rfl, pz, ?_⟩
      show D.rt _ _
      rw [hD]
      exact k _ (Int.emod_nonneg _ (by decide))
    refine ⟨_, rfl, _, _, rfl, rfl, pz, rfl, _, rfl, ?_⟩
    refine ite2 (fun _ => ?_) (fun _ => iteF (two _ rfl))
    refine ⟨_, rfl, _, _, rfl, rfl, pn, rfl, _, rfl, ?_⟩
    refine ite2 (fun _ => ?_) (fun _ => two _ rfl)
    refine ⟨_, rfl, _, rfl, _, _, rfl, rfl, .inl ⟨by decide, by decide⟩, _, _, rfl, rfl, _, _, rfl, rfl, by omega, _, _, rfl, rfl, pz, ?_⟩
    exact k _ (Int.emod_nonneg _ (by decide))
end
theorem inc_snoc {g : List Int} {y x : Int} (hg : Inc g) {i : Nat} (hi : i + 1 = g.length) (hy : g[i]? = some y) (h : y < x) : Inc (g ++ [x]) := by
  refine List.pairwise_append.mpr ⟨hg, List.pairwise_singleton _ _, fun a ha b hb => ?_⟩
  rw [List.mem_singleton.mp hb]
  obtain ⟨j, hj, rfl⟩ := List.mem_iff_getElem.mp ha
  by_cases e : j = i
  · subst e
    obtain ⟨h1, e1⟩ := List.getElem?_eq_some_iff.mp hy
    omega
  · have := inc_lt hg (i := j) (j := i) (x := g[j]) (by simp [hj]) hy (by omega)
    omega
section
variable {P : Program} {w : World} {K : PySem.W.Frag} {mg : Str → Option Value} {base : Heap}
/-! ### grid -/
def spGrid : Sp := fun vs H Q _ => ∃ (c : Int), vs = [.int c] ∧ ∀ (a : Addr) (H' : Hp) (g : List Int), Same H H' → H a = none → H' a = some (.lst (g.map V.int)) → Inc g → 2 ≤ g.length → g.length ≤ 39 → (∀ x ∈ g, -(10 ^ 60 - 1) < x ∧ x < 10 ^ 60 - 1) → Q (.ref a) H'
theorem scGrid : FnScope ["_law_cell", "_law_many", "_law_wide", "_law_start", "_law_found", "_law_k"] ["_law_cell"] (defScope st__law_grid) := ⟨rfl, rfl, rfl, by decide +kernel, rfl, by decide +kernel, by decide +kernel⟩
theorem ok_grid {f : Addr} {fd : FuncData} (F : Fun K "_law_grid" "_law_grid" st__law_grid f fd) (mr : mg "range" = none) (FM : FnP P w K mg base 1 "_law_mix" ["_law_cell", "_law_j"] spMix) : FnOk P w K mg base CX0 2 f fd ["_law_cell"] spGrid := by
  refine F.okJ scGrid (fun vs H Q E h => ?_) (fun cdv A outer s H vs Q E hr h => ?_)
  · obtain ⟨c, rfl, _⟩ := h
    rfl
  · obtain ⟨c, rfl, k⟩ := h
    refine ⟨_, b_cons (s_set 1 scGrid.nd (e_ix x_list (e_lst (ac e_i (ac e_i (ac e_i (ac e_i (ac e_i (a1 e_i))))))) (e_op o_mod (e_fn FM hr (ac (e_v 0) (a1 e_i))) e_i)))
      (b_cons (s_set 2 scGrid.nd (e_ix x_list (e_lst (ac e_i (ac e_i (ac e_i (a1 (e_op o_pow e_i e_i)))))) (e_op o_mod (e_fn FM hr (ac (e_v 0) (a1 e_i))) e_i)))
      (b_cons (s_set 3 scGrid.nd (e_op o_mod (e_v 0) (e_op o_pow e_i e_i)))
      (b_cons (s_if (t_cmp o_eq (e_op o_mod (e_fn FM hr (ac (e_v 0) (a1 e_i))) e_i) e_i) (b_one (s_set 3 scGrid.nd (e_un o_neg (e_v 3)))) b_nil)
      (b_cons (s_set 4 scGrid.nd (e_lst (a1 (e_v 3))))
      (b_cons (s_for (i_rng1 mr (a1 (e_op o_sub (e_v 1) e_i))) (g_n 5 scGrid.nd)
        (b_one (s_app (e_v 4) (e_op o_add (e_op o_add (e_ix x_list (e_v 4) (e_v 5)) e_i) (e_op o_mod (e_fn FM hr (ac (e_v 0) (a1 (e_op o_add e_i (e_v 5))))) (e_v 2))))))
      (b_one (s_ret (e_v 4)))))))), ?_⟩
    -- many
    refine ⟨by show 6 ≤ sizeLine; decide, fun p1 h1 => ?_⟩
    refine ⟨_, rfl, c, 1, rfl, by decide, by decide, fun r hr1 => ⟨_, _, rfl, rfl, pz, ?_⟩⟩
    have r1 : 0 ≤ r % 6 := Int.emod_nonneg _ (by decide)
    have r2 : r % 6 < 6 := Int.emod_lt_of_pos _ (by decide)
    obtain ⟨many, hm, em⟩ := atI_menu (ns := [2, 3, 5, 8, 12, 39]) r1 (by simpa using r2)
    refine ⟨p1, _, _, _, rfl, rfl, SqL.of upd_same, em, ?_⟩
    have hm2 : 2 ≤ many ∧ many ≤ 39 := by simp at hm; omega
    have s1 : Same H (upd H p1 (.lst [.int 2, .int 3, .int 5, .int 8, .int 12, .int 39])) := (Same.refl H).upd h1
    generalize upd H p1 (.lst [.int 2, .int 3, .int 5, .int 8, .int 12, .int 39]) = H1 at s1 ⊢
    -- wide
    refine ⟨_, _, rfl, rfl, ⟨by decide, by decide, by decide⟩, by show 4 ≤ sizeLine; decide, fun p2 h2 => ?_⟩
    refine ⟨_, rfl, c, 2, rfl, by decide, by decide, fun r' hr2 => ⟨_, _, rfl, rfl, pz, ?_⟩⟩
    have r3 : 0 ≤ r' % 4 := Int.emod_nonneg _ (by decide)
    have r4 : r' % 4 < 4 := Int.emod_lt_of_pos _ (by decide)
    obtain ⟨wide, hw, ew⟩ := atI_menu (ns := [1, 2, 3, 10 ^ (20 : Int).toNat]) r3 (by simpa using r4)
    refine ⟨p2, _, _, _, rfl, rfl, SqL.of upd_same, ew, ?_⟩
    have hw2 : 0 < wide := by
      simp at hw
      rcases hw with z | z | z | z
      · omega
      · omega
      · omega
      · rw [z]; decide
    have hw3 : wide ≤ 10 ^ 20 := by
      simp at hw
      rcases hw with z | z | z | z
      · rw [z]; decide
      · rw [z]; decide
      · rw [z]; decide
      · rw [z]; decide
    have s2 : Same H (upd H1 p2 (.lst [.int 1, .int 2, .int 3, .int (10 ^ (20 : Int).toNat)])) := s1.trans ((Same.refl H1).upd h2)
    generalize upd H1 p2 (.lst [.int 1, .int 2, .int 3, .int (10 ^ (20 : Int).toNat)]) = H2 at s2 ⊢
    -- start
    refine ⟨_, rfl, _, _, rfl, rfl, ⟨by decide, by decide, by decide⟩, _, _, rfl, rfl, by show (0 : Int) < 10 ^ (59 : Int).toNat; decide, ?_⟩
    refine ⟨_, rfl, c, 3, rfl, by decide, by decide, fun r5 hr5 => ⟨_, _, rfl, rfl, pz, rfl, _, rfl, ?_⟩⟩
    -- from here on whatever the start is
    have rest : ∀ st : Int, -(10 ^ 59) ≤ st → st ≤ 10 ^ 59 → tSeq (tAsg (tLst (tCons (tVar 3) tNil)) (gName 4)) (tSeq (tFor (iRng1 (tCons (tOp (rI0 fun i j => .int (i - j)) (tVar 1) (tC (.int 1))) tNil)) (gName 5)
        (tDrop (tBM K "list" rAppend (tVar 4) (tCons (tOp (rI0 fun i j => .int (i + j)) (tOp (rI0 fun i j => .int (i + j)) (tOp (rIxL K) (tVar 4) (tVar 5)) (tC (.int 1)))
          (tOp (rI (fun _ j => 0 < j) fun i j => .int (i % j)) (tCall spMix [] E0 (tCons (tVar 0) (tCons (tOp (rI0 fun i j => .int (i + j)) (tC (.int 4)) (tVar 5)) tNil))) (tVar 2))) tNil)))) (tRet (tVar 4)))
        { nx := fun _ H' => Q .non H', rt := Q } [some (.int c), some (.int many), some (.int wide), some (.int st), none, none] H2 := by
      intro st b1 b2
      refine ⟨_, rfl, by show 1 ≤ sizeLine; decide, fun p3 h3 => ?_⟩
      refine ⟨_, rfl, _, _, rfl, rfl, _, rfl, by omega, by omega, for_range (n := (many - 1).toNat) (fun i σ H3 => ∃ (g : List Int) (o : Option V), σ = [some (.int c), some (.int many), some (.int wide), some (.int st), some (.ref p3), o] ∧ Same H2 H3 ∧ H3 p3 = some (.lst (g.map V.int)) ∧ Inc g ∧ g.length = i + 1 ∧ ∀ x ∈ g, -(10 ^ 59) ≤ x ∧ x ≤ 10 ^ 59 + i * 10 ^ 20)
        ⟨[st], none, rfl, (Same.refl _).upd h3, upd_same, List.pairwise_singleton _ _, rfl, fun x hx => by rw [List.mem_singleton.mp hx]; exact ⟨b1, by simpa using b2⟩⟩ ?_ ?_⟩
      · rintro i σ H3 hi ⟨g, o, rfl, sm, hp, inc, hlen, bd⟩
        have hil : i < g.length := by omega
        have hgi : g[i]? = some g[i] := by simp [hil]
        have e0 : (0 : Int) + (i : Int) = ((i : Nat) : Int) := by omega
        have hat : atI (g.map V.int) (0 + (i : Int)) = some (.int g[i]) := by rw [e0]; exact atI_nat (by simp [hil])
        refine ⟨_, rfl, .inl ⟨rfl, _, SqL.of hp⟩, ?_⟩
        refine ⟨_, rfl, _, rfl, p3, _, _, _, rfl, rfl, SqL.of hp, hat, _, _, rfl, rfl, _, rfl, _, rfl, _, _, rfl, rfl, c, _, rfl, by omega, by omega, fun r6 hr6 => ?_⟩
        refine ⟨_, rfl, _, _, rfl, rfl, hw2, _, _, rfl, rfl, p3, _, _, rfl, rfl, hp, small1000 (by rw [List.length_map]; omega), ?_⟩
        have hx : g[i] < g[i] + 1 + r6 % wide := by
          have := Int.emod_nonneg r6 (show wide ≠ 0 by omega)
          omega
        refine ⟨g ++ [g[i] + 1 + r6 % wide], _, rfl, sm.upd h3, ?_, inc_snoc inc (by omega) hgi hx, by rw [List.length_append, List.length_singleton]; omega, fun x hxx => ?_⟩
        · rw [upd_same]
          simp
        · have m1 := Int.emod_lt_of_pos r6 hw2
          have m2 := Int.emod_nonneg r6 (show wide ≠ 0 by omega)
          have bi := bd g[i] (List.getElem_mem hil)
          have ei : ((i + 1 : Nat) : Int) * 10 ^ 20 = (i : Int) * 10 ^ 20 + 10 ^ 20 := by rw [Int.natCast_add, Int.add_mul]; simp
          have p20 : (0 : Int) ≤ 10 ^ 20 := by decide
          rw [ei]
          generalize (i : Int) * 10 ^ 20 = A at *
          generalize (10 : Int) ^ 20 = B at *
          generalize (10 : Int) ^ 59 = C at *
          generalize r6 % wide = D at *
          rcases List.mem_append.mp hxx with z | z
          · have := bd x z; omega
          · rw [List.mem_singleton.mp z]; omega
      · rintro σ H3 ⟨g, o, rfl, sm, hp, inc, hlen, bd⟩
        refine ⟨_, rfl, k p3 H3 g (s2.trans sm) (s2.free h3) hp inc (by omega) (by omega) fun x hx => ?_⟩
        have bx := bd x hx
        have hm : (((many - 1).toNat : Nat) : Int) * 10 ^ 20 ≤ 38 * 10 ^ 20 := Int.mul_le_mul_of_nonneg_right (by omega) (by decide)
        have q1 : (38 : Int) * 10 ^ 20 ≤ 10 ^ 59 := by decide
        have q2 : (10 : Int) ^ 60 = 10 * 10 ^ 59 := by decide
        have q3 : (1 : Int) < 10 ^ 59 := by decide
        rw [q2]
        generalize (((many - 1).toNat : Nat) : Int) * 10 ^ 20 = A at *
        generalize (38 : Int) * 10 ^ 20 = B at *
        generalize (10 : Int) ^ 59 = C at *
        omega
    have c1 : 0 ≤ c % 10 ^ (59 : Int).toNat := Int.emod_nonneg _ (by decide)
    have c2 : c % 10 ^ (59 : Int).toNat < 10 ^ (59 : Int).toNat := Int.emod_lt_of_pos _ (by decide)
    have e59 : (10 : Int) ^ (59 : Int).toNat = 10 ^ 59 := rfl
    refine ite2 (fun _ => ?_) (fun _ => rest _ (by rw [e59] at *; omega) (by rw [e59] at *; omega))
    exact ⟨_, rfl, _, rfl, rest _ (by rw [e59] at *; omega) (by rw [e59] at *; omega)⟩

/-! ### stretch -/
def spStr : Sp := fun vs H Q _ => ∃ (a : Addr) (g : List Int) (f l : Nat), vs = [.ref a, .int f, .int l] ∧ H a = some (.lst (g.map V.int)) ∧ f ≤ g.length ∧ ∀ t, H t = none → Q (.ref t) (upd H t (.tup [vO (stt g f l).1, vO (stt g f l).2]))
theorem scStr : FnScope ["_law_grid_here", "_law_first", "_law_last", "_law_start", "_law_end"] ["_law_grid_here", "_law_first", "_law_last"] (defScope st__law_stretch) := ⟨rfl, rfl, rfl, by decide +kernel, rfl, by decide +kernel, by decide +kernel⟩
theorem ok_str {f : Addr} {fd : FuncData} (F : Fun K "_law_stretch" "_law_stretch" st__law_stretch f fd) (ml : mg "len" = none) : FnOk P w K mg base CX0 1 f fd ["_law_grid_here", "_law_first", "_law_last"] spStr := by
  refine F.okJ scStr (fun vs H Q E h => ?_) (fun cdv A outer s H vs Q E hr h => ?_)
  · obtain ⟨a, g, f, l, rfl, _⟩ := h
    rfl
  · obtain ⟨a, g, f, l, rfl, ha, hf, k⟩ := h
    refine ⟨_, b_cons (s_set 3 scStr.nd e_n) (b_cons (s_set 4 scStr.nd e_n)
      (b_cons (s_if (t_cmp o_gt (e_v 1) e_i) (b_one (s_set 3 scStr.nd (e_ix x_list (e_v 0) (e_op o_sub (e_v 1) e_i)))) b_nil)
      (b_cons (s_if (t_cmp o_lt (e_v 2) (e_cb c_len ml PySem.boot_len (a1 (e_v 0)))) (b_one (s_set 4 scStr.nd (e_ix x_list (e_v 0) (e_v 2)))) b_nil)
      (b_one (s_ret (e_tup (ac (e_v 3) (a1 (e_v 4))))))))), ?_⟩
    have second : ∀ v : V, v = vO (stt g f l).1 → tSeq (tIfS (tTest (tOp (rI0 fun i j => .bl (decide (i < j))) (tVar 2) (tCB (fun xs H Q => ∃ p ys, xs = [.ref p] ∧ (SqL K H p ys ∨ SqT K H p ys) ∧ Q (.int ys.length) H) (tCons (tVar 0) tNil))))
        (tAsg (tOp (rIxL K) (tVar 0) (tVar 2)) (gName 4)) tNext) (tRet (tTup (tCons (tVar 3) (tCons (tVar 4) tNil)))) { nx := fun _ H' => Q .non H', rt := Q } [some (.ref a), some (.int f), some (.int l), some v, some .non] H := by
      intro v hv
      refine ⟨_, rfl, _, rfl, a, _, rfl, .inl (SqL.of ha), _, _, rfl, rfl, _, rfl, ?_⟩
      refine ite2 (fun hc => ?_) (fun hc => ?_)
      · have hl : l < g.length := by
          have := of_decide_eq_true hc
          rw [List.length_map] at this
          omega
        refine ⟨_, rfl, _, rfl, a, _, _, _, rfl, rfl, SqL.of ha, atI_nat (v := .int g[l]) (by simp [hl]), ?_⟩
        refine ⟨_, rfl, _, rfl, by show 2 ≤ sizeLine; decide, fun t ht => ?_⟩
        have e2 : (V.int g[l]) = vO (stt g f l).2 := by show _ = vO (g[l]?); simp [hl, vO]
        rw [hv, e2]
        exact k t ht
      · have hl : ¬ l < g.length := by
          intro z
          refine hc (decide_eq_true ?_)
          rw [List.length_map]
          omega
        refine ⟨_, rfl, _, rfl, by show 2 ≤ sizeLine; decide, fun t ht => ?_⟩
        have e2 : V.non = vO (stt g f l).2 := by show _ = vO (g[l]?); rw [List.getElem?_eq_none (by omega)]; rfl
        rw [hv, e2]
        exact k t ht
    refine ⟨_, rfl, _, _, rfl, rfl, _, rfl, ?_⟩
    refine ite2 (fun hc => ?_) (fun hc => ?_)
    · have h0 : 0 < f := by have := of_decide_eq_true hc; omega
      have hl : f - 1 < g.length := by omega
      have e1 : ((f : Nat) : Int) - 1 = ((f - 1 : Nat) : Int) := by omega
      refine ⟨_, rfl, _, rfl, _, _, rfl, rfl, a, _, _, _, rfl, rfl, SqL.of ha, (by rw [e1]; exact atI_nat (v := .int g[f - 1]) (by simp [hl])), second _ ?_⟩
      show _ = vO (if f = 0 then none else g[f - 1]?)
      rw [if_neg (by omega)]
      simp [hl, vO]
    · have h0 : f = 0 := by
        refine Nat.eq_zero_of_not_pos fun z => hc (decide_eq_true ?_)
        omega
      refine second _ ?_
      show _ = vO (if f = 0 then none else g[f - 1]?)
      rw [if_pos h0]
      rfl
end
theorem kit_int_bool (K : PySem.W.Frag) : PySem.W.kitOne K (.type "int") (.type "bool") = some false := by
  first | rfl | (with_unfolding_all rfl) | (unfold PySem.W.kitOne; rw [if_neg (by decide)]; with_unfolding_all rfl)
section
variable {P : Program} {w : World} {K : PySem.W.Frag} {mg : Str → Option Value} {base : Heap}
/-! ### span -/
def spSpan : Sp := fun vs H Q _ => ∃ (a b : Addr) (g : List Int) (lit : List Bool), vs = [.ref a, .ref b] ∧ H a = some (.lst (g.map V.int)) ∧ H b = some (.lst (lit.map V.bl)) ∧ Inc g ∧ lit.length = g.length + 1 ∧ g.length ≤ 39 ∧
  ∀ (r : Addr) (H' : Hp) (zs : List Stt), Same H H' → H r = none → SpanAt H' r zs → zs.length ≤ 50 → Can zs → (∀ m, inSpan m zs = (lit[piece g m]?).getD false) → Q (.ref r) H'
theorem scSpan : FnScope ["_law_grid_here", "_law_lit", "_law_found", "_law_first", "_law_last"] ["_law_grid_here", "_law_lit"] (defScope st__law_span) := ⟨rfl, rfl, rfl, by decide +kernel, rfl, by decide +kernel, by decide +kernel⟩
theorem ok_span {f : Addr} {fd : FuncData} (F : Fun K "_law_span" "_law_span" st__law_span f fd) (ml : mg "len" = none) (FS : FnP P w K mg base 1 "_law_stretch" ["_law_grid_here", "_law_first", "_law_last"] spStr) : FnOk P w K mg base CX0 2 f fd ["_law_grid_here", "_law_lit"] spSpan := by
  refine F.okJ scSpan (fun vs H Q E h => ?_) (fun cdv A outer s H vs Q E hr h => ?_)
  · obtain ⟨a, b, g, lit, rfl, _⟩ := h
    rfl
  · obtain ⟨a, b, g, lit, rfl, ha, hb, inc, hlen, h39, k⟩ := h
    refine ⟨_, b_cons (s_set 2 scSpan.nd (e_lst a0)) (b_cons (s_set 3 scSpan.nd e_i)
      (b_cons (s_while (t_cmp o_lt (e_v 3) (e_cb c_len ml PySem.boot_len (a1 (e_v 1))))
        (b_cons (s_set 4 scSpan.nd (e_v 3))
        (b_cons (s_while (JW.jt (w_and (t_cmp o_lt (e_v 4) (e_cb c_len ml PySem.boot_len (a1 (e_v 1)))) (w_and1 (t_tru (e_ix x_list (e_v 1) (e_v 4)))))) (b_one (s_set 4 scSpan.nd (e_op o_add (e_v 4) e_i))))
        (b_cons (s_if (t_cmp o_gt (e_v 4) (e_v 3)) (b_one (s_app (e_v 2) (e_fn FS hr (ac (e_v 0) (ac (e_v 3) (a1 (e_op o_sub (e_v 4) e_i))))))) b_nil)
        (b_one (s_set 3 scSpan.nd (e_op o_add (e_v 4) e_i)))))))
      (b_one (s_ret (e_v 2))))), ?_⟩
    refine ⟨Nat.zero_le _, fun r hr0 => ?_⟩
    refine ⟨fun m σ H2 => ∃ (n : Nat) (R : List (Nat × Nat)) (zs : List V) (o : Option V), m = lit.length + 1 - n ∧ n ≤ lit.length + 1 ∧ σ = [some (.ref a), some (.ref b), some (.ref r), some (.int n), o] ∧ Same H H2 ∧ H2 r = some (.lst zs) ∧
        StsAt H2 zs (R.map fun q => stt g q.1 q.2) ∧ Runs lit R n ∧ zs.length ≤ n,
      ⟨_, 0, [], [], none, rfl, Nat.zero_le _, rfl, (Same.refl H).upd hr0, upd_same, .nil, runs_start lit, Nat.le_refl _⟩, ?_⟩
    rintro m σ H2 ⟨n, R, zs, o, rfl, hn1, rfl, sm, hz, st, runs, hzl⟩
    have hb2 : H2 b = some (.lst (lit.map V.bl)) := sm _ _ hb
    refine ⟨_, rfl, _, rfl, b, _, rfl, .inl (SqL.of hb2), _, _, rfl, rfl, _, rfl, ?_⟩
    refine ite2 (fun hc => ?_) (fun hc => ?_)
    · have hn : n < lit.length := by
        have := of_decide_eq_true hc
        rw [List.length_map] at this
        omega
      refine ⟨fun σ' H' => ∃ (n' : Nat) (R : List (Nat × Nat)) (zs : List V) (o : Option V), n < n' ∧ n' ≤ lit.length + 1 ∧ σ' = [some (.ref a), some (.ref b), some (.ref r), some (.int n'), o] ∧ Same H H' ∧ H' r = some (.lst zs) ∧
          StsAt H' zs (R.map fun q => stt g q.1 q.2) ∧ Runs lit R n' ∧ zs.length ≤ n', fun σ' H' ⟨n', R', zs', o', h1, h2, h3, h4⟩ => ⟨_, by omega, n', R', zs', o', rfl, h2, h3, h4⟩, ?_⟩
      refine ⟨_, rfl, ?_⟩
      -- behind the inner while
      have tail : ∀ last : Nat, n ≤ last → last ≤ lit.length → (∀ k, n ≤ k → k < last → lit[k]? = some true) → (last < lit.length → lit[last]? = some false) →
          tSeq (tIfS (tTest (tOp (rI0 fun i j => .bl (decide (j < i))) (tVar 4) (tVar 3))) (tDrop (tBM K "list" rAppend (tVar 2) (tCons (tCall spStr [] E0 (tCons (tVar 0) (tCons (tVar 3) (tCons (tOp (rI0 fun i j => .int (i - j)) (tVar 4) (tC (.int 1))) tNil)))) tNil))) tNext)
            (tAsg (tOp (rI0 fun i j => .int (i + j)) (tVar 4) (tC (.int 1))) (gName 3))
            { nx := fun σ' H' => ∃ (n' : Nat) (R : List (Nat × Nat)) (zs : List V) (o : Option V), n < n' ∧ n' ≤ lit.length + 1 ∧ σ' = [some (.ref a), some (.ref b), some (.ref r), some (.int n'), o] ∧ Same H H' ∧ H' r = some (.lst zs) ∧
                StsAt H' zs (R.map fun q => stt g q.1 q.2) ∧ Runs lit R n' ∧ zs.length ≤ n', rt := Q,
              bk := fun σ H => tRet (tVar 2) { nx := fun _ H' => Q .non H', rt := Q } σ H,
              ct := fun σ' H' => ∃ (n' : Nat) (R : List (Nat × Nat)) (zs : List V) (o : Option V), n < n' ∧ n' ≤ lit.length + 1 ∧ σ' = [some (.ref a), some (.ref b), some (.ref r), some (.int n'), o] ∧ Same H H' ∧ H' r = some (.lst zs) ∧
                StsAt H' zs (R.map fun q => stt g q.1 q.2) ∧ Runs lit R n' ∧ zs.length ≤ n' }
            [some (.ref a), some (.ref b), some (.ref r), some (.int n), some (.int last)] H2 := by
        intro last h1 h2 ht hf
        refine ⟨_, rfl, _, rfl, _, _, rfl, rfl, _, rfl, ?_⟩
        have ein : ((last : Nat) : Int) + 1 = ((last + 1 : Nat) : Int) := by omega
        refine ite2 (fun hc => ?_) (fun hc => ?_)
        · have hlt : n < last := by have := of_decide_eq_true hc; omega
          have e1 : ((last : Nat) : Int) - 1 = ((last - 1 : Nat) : Int) := by omega
          refine ⟨_, rfl, .inl ⟨rfl, _, SqL.of hz⟩, _, rfl, _, rfl, _, rfl, _, _, rfl, rfl, a, g, n, last - 1, ?_, sm _ _ ha, by omega, fun t ht' => ?_⟩
          · show [V.ref a, V.int n, V.int ((last : Int) - 1)] = _
            rw [e1]
          have sm3 : Same H2 (upd H2 t (.tup [vO (stt g n (last - 1)).1, vO (stt g n (last - 1)).2])) := (Same.refl _).upd ht'
          refine ⟨r, zs, _, rfl, rfl, sm3 _ _ hz, small1000 (by omega), ?_⟩
          refine ⟨_, rfl, _, _, rfl, rfl, last + 1, R ++ [(n, last - 1)], zs ++ [.ref t], some (.int last), by omega, by omega, ?_, fun c u e => ?_, upd_same, ?_, runs_more runs hlt h2 ht hf, by rw [List.length_append, List.length_singleton]; omega⟩
          · show [some (V.ref a), some (V.ref b), some (V.ref r), some (V.int ((last : Int) + 1)), some (V.int last)] = _
            rw [ein]
          · rw [upd_ne (ne_of_none e hr0)]; exact sm3 _ _ (sm c u e)
          · rw [List.map_append]
            exact StsAt.wr (no_tup (sm3 _ _ hz)) (paired_snoc (R := StAt (upd H2 t (.tup [vO (stt g n (last - 1)).1, vO (stt g n (last - 1)).2]))) ⟨t, rfl, upd_same⟩ (StsAt.same sm3 st))
        · have hlt : last = n := by
            have : ¬ n < last := fun z => hc (decide_eq_true (by omega))
            omega
          subst hlt
          refine ⟨_, rfl, _, _, rfl, rfl, last + 1, R, zs, some (.int last), by omega, by omega, ?_, sm, hz, st, runs_none runs hf, by omega⟩
          show [some (V.ref a), some (V.ref b), some (V.ref r), some (V.int ((last : Int) + 1)), some (V.int last)] = _
          rw [ein]
      refine ⟨fun m σ H3 => ∃ last : Nat, m = lit.length - last ∧ σ = [some (.ref a), some (.ref b), some (.ref r), some (.int n), some (.int last)] ∧ H3 = H2 ∧ n ≤ last ∧ last ≤ lit.length ∧ ∀ k, n ≤ k → k < last → lit[k]? = some true,
        ⟨_, n, rfl, rfl, rfl, Nat.le_refl _, by omega, fun k h1 h2 => by omega⟩, ?_⟩
      rintro m σ H3 ⟨last, rfl, rfl, rfl, h1, h2, h3⟩
      refine ⟨_, rfl, _, rfl, b, _, rfl, .inl (SqL.of hb2), _, _, rfl, rfl, _, rfl, ?_⟩
      refine ite2 (fun hc => ?_) (fun hc => ?_)
      · have hl : last < lit.length := by
          have := of_decide_eq_true hc
          rw [List.length_map] at this
          omega
        refine ⟨_, rfl, _, rfl, b, _, _, .bl lit[last], rfl, rfl, SqL.of hb2, atI_nat (by simp [hl]), lit[last], rfl, ?_⟩
        cases e : lit[last] with
        | true =>
          refine iteT ?_
          refine ⟨_, fun σ' H' z => z, _, rfl, _, _, rfl, rfl, lit.length - (last + 1), by omega, last + 1, rfl, ?_, rfl, by omega, by omega, fun k k1 k2 => ?_⟩
          · have ein : ((last : Nat) : Int) + 1 = ((last + 1 : Nat) : Int) := by omega
            show [some (V.ref a), some (V.ref b), some (V.ref r), some (V.int n), some (V.int ((last : Int) + 1))] = _
            rw [ein]
          · by_cases hk : k < last
            · exact h3 k k1 hk
            · obtain rfl : k = last := by omega
              simp [hl, e]
        | false =>
          refine iteF ?_
          exact tail last h1 h2 h3 fun _ => by simp [hl, e]
      · refine iteF ?_
        have hl : ¬ last < lit.length := fun z => hc (decide_eq_true (by rw [List.length_map]; omega))
        exact tail last h1 h2 h3 fun z => absurd z hl
    · have hn : lit.length ≤ n := by
        have : ¬ n < lit.length := fun z => hc (decide_eq_true (by rw [List.length_map]; omega))
        omega
      obtain ⟨c1, c2⟩ := runs_can inc hlen hn runs
      have l1 : zs.length = R.length := by have := Paired.length st; rw [List.length_map] at this; exact this
      exact ⟨_, rfl, k r H2 _ sm hr0 ⟨zs, hz, st⟩ (by rw [List.length_map]; omega) c1 c2⟩
end
end Prf

set_option maxHeartbeats 4000000
namespace Prf
open PySem L2 Wr
section
variable {P : Program} {w : World} {K : PySem.W.Frag} {mg : Str → Option Value} {base : Heap}
/-! ### row -/
def sp__law_row : Sp := fun vs H Q _ => ∃ (d n : Int), vs = [.int d, .int n] ∧ ∀ (t : Addr) (H' : Hp) (row : List Int), Same H H' → H t = none → H' t = some (.tup (row.map V.int)) → row ≠ [] → Q (.ref t) H'
theorem sc__law_row : FnScope ["_law_drawn", "_law_number", "_law_far", "_law_some", "_law_digits"] ["_law_drawn", "_law_number"] (defScope st__law_row) := ⟨rfl, rfl, rfl, by decide +kernel, rfl, by decide +kernel, by decide +kernel⟩
theorem ok__law_row {f : Addr} {fd : FuncData} (F : Fun K "_law_row" "_law_row" st__law_row f fd) (B : Blts mg) (FM : FnP P w K mg base 1 "_law_mix" ["_law_cell", "_law_j"] spMix) : FnOk P w K mg base CX0 2 f fd ["_law_drawn", "_law_number"] sp__law_row := by
  refine F.okJ sc__law_row (fun vs H Q E h => ?_) (fun cdv A outer s H vs Q E hr h => ?_)
  · obtain ⟨_, _, rfl, _⟩ := h
    rfl
  · obtain ⟨d, n, rfl, k⟩ := h
    have nd : (["_law_digit", "_law_some"] : List Str).Nodup := by decide +kernel
    refine ⟨_, (b_cons (s_set 2 sc__law_row.nd (e_op o_add e_i (e_op o_mod (e_v 0) (e_op o_sub (e_op o_pow e_i e_i) e_i))))
      (b_cons (s_set 3 sc__law_row.nd (e_lst (ac (e_v 2) (ac (e_un o_neg (e_v 2)) (a1 (e_ix x_list (e_lst (ac e_i (a1 (e_op o_add (e_v 2) e_i)))) (e_op o_mod (e_fn FM hr (ac (e_v 0) (a1 e_i))) e_i)))))))
      (b_cons (s_set 4 sc__law_row.nd (e_lst (ac (e_op o_mod (e_v 1) e_i) (ac (e_op o_mod (e_op o_fdiv (e_v 1) e_i) e_i) (ac (e_op o_mod (e_op o_fdiv (e_v 1) e_i) e_i) (ac (e_op o_mod (e_v 1) e_i) (a1 (e_op o_mod (e_op o_fdiv (e_v 1) e_i) e_i))))))))
      (b_one (s_ret (e_ct c_tuple B.tuple PyProof.Rows.boot_tuple (a1c (e_comp (Nc := ["_law_digit", "_law_some"]) (js := [none, some 3]) (g := (gName 0)) (tt := tYes) (te := (tOp (rIxL K) (tVar 1) (tVar 0)))
      (comp_mk rfl rfl rfl rfl (fun x c h => by obtain ⟨rfl, rfl⟩ : x = _ ∧ c = _ := by simpa using h
                                                rfl) rfl rfl rfl) (i_list (e_upto (e_v 4) (e_op o_add e_i (e_op o_mod (e_fn FM hr (ac (e_v 0) (a1 e_i))) e_i))))
      (fun pins C s3 H3 fp => ⟨(g_n 0 nd), .inl ⟨rfl, rfl⟩, (e_ix x_list (e_v 1) (e_v 0))⟩))))))))), ?_⟩
    -- far
    refine ⟨_, rfl, _, _, rfl, rfl, ⟨by decide, by decide, by decide⟩, _, _, rfl, rfl, _, _, rfl, rfl, by show (0 : Int) < 10 ^ (60 : Int).toNat - 3; decide, _, _, rfl, rfl, ?_⟩
    show tSeq _ _ _ [some (.int d), some (.int n), some (.int (2 + d % (10 ^ (60 : Int).toNat - 3))), none, none] H
    generalize 2 + d % (10 ^ (60 : Int).toNat - 3) = far
    -- some
    refine ⟨_, rfl, _, rfl, _, rfl, _, rfl, _, _, rfl, rfl, by show 2 ≤ sizeLine; decide, fun p1 h1 => ?_⟩
    refine ⟨_, rfl, d, 60, rfl, by decide, by decide, fun r hr1 => ⟨_, _, rfl, rfl, pz, ?_⟩⟩
    have r1 : 0 ≤ r % 2 := Int.emod_nonneg _ (by decide)
    have r2 : r % 2 < 2 := Int.emod_lt_of_pos _ (by decide)
    obtain ⟨third, _, et⟩ := atI_menu (ns := [0, far + 1]) r1 (by simpa using r2)
    refine ⟨p1, _, _, _, rfl, rfl, SqL.of upd_same, et, ?_⟩
    have s1 : Same H (upd H p1 (.lst [.int 0, .int (far + 1)])) := (Same.refl H).upd h1
    generalize upd H p1 (.lst [.int 0, .int (far + 1)]) = H1 at s1 ⊢
    refine ⟨by show 3 ≤ sizeLine; decide, fun ps hps => ?_⟩
    have s2 : Same H1 (upd H1 ps (.lst [.int far, .int (-far), .int third])) := (Same.refl H1).upd hps
    have g2 : upd H1 ps (.lst [.int far, .int (-far), .int third]) ps = some (.lst (([far, -far, third] : List Int).map V.int)) := upd_same
    generalize upd H1 ps (.lst [.int far, .int (-far), .int third]) = H2 at s2 g2 ⊢
    -- digits
    refine ⟨_, rfl, _, _, rfl, rfl, pz, _, rfl, _, _, rfl, rfl, ⟨by decide, by decide⟩, _, _, rfl, rfl, pz, _, rfl, _, _, rfl, rfl, ⟨by decide, by decide⟩, _, _, rfl, rfl, pz, _, rfl, _, _, rfl, rfl, pz, _, rfl, _, _, rfl, rfl, ⟨by decide, by decide⟩, _, _, rfl, rfl, pz, by show 5 ≤ sizeLine; decide, fun pd hpd => ?_⟩
    have s3 : Same H2 (upd H2 pd (.lst [.int (n % 3), .int (n / 3 % 3), .int (n / 9 % 3), .int (n % 3), .int (n / 3 % 3)])) := (Same.refl H2).upd hpd
    have g3 : upd H2 pd (.lst [.int (n % 3), .int (n / 3 % 3), .int (n / 9 % 3), .int (n % 3), .int (n / 3 % 3)]) pd = some (.lst (([n % 3, n / 3 % 3, n / 9 % 3, n % 3, n / 3 % 3] : List Int).map V.int)) := upd_same
    generalize upd H2 pd (.lst [.int (n % 3), .int (n / 3 % 3), .int (n / 9 % 3), .int (n % 3), .int (n / 3 % 3)]) = H3 at s3 g3 ⊢
    have dig : ∀ x ∈ ([n % 3, n / 3 % 3, n / 9 % 3, n % 3, n / 3 % 3] : List Int), 0 ≤ x ∧ x < 3 := by
      intro x hx
      simp only [List.mem_cons, List.not_mem_nil, or_false] at hx
      rcases hx with rfl | rfl | rfl | rfl | rfl <;> exact ⟨Int.emod_nonneg _ (by decide), Int.emod_lt_of_pos _ (by decide)⟩
    have dl : ([n % 3, n / 3 % 3, n / 9 % 3, n % 3, n / 3 % 3] : List Int).length = 5 := rfl
    generalize ([n % 3, n / 3 % 3, n / 9 % 3, n % 3, n / 3 % 3] : List Int) = ds at g3 dig dl
    -- the slice
    refine ⟨_, rfl, _, rfl, d, 61, rfl, by decide, by decide, fun r' hr2 => ⟨_, _, rfl, rfl, pz, _, _, rfl, rfl, _, rfl, pd, _, rfl, SqL.of g3, fun pq hpq => ?_⟩⟩
    obtain ⟨c, ec, hc⟩ : ∃ c : Nat, 1 + r' % 5 = (c : Int) ∧ 1 ≤ c := by
      have := Int.emod_nonneg r' (show (5 : Int) ≠ 0 by decide)
      exact ⟨(1 + r' % 5).toNat, by omega, by omega⟩
    rw [ec, cut_ints]
    have s4 : Same H3 (upd H3 pq (.lst ((ds.take c).map V.int))) := (Same.refl H3).upd hpq
    have g4 : upd H3 pq (.lst ((ds.take c).map V.int)) pq = some (.lst ((ds.take c).map V.int)) := upd_same
    generalize upd H3 pq (.lst ((ds.take c).map V.int)) = H4 at s4 g4 ⊢
    have ne : ds.take c ≠ [] := fun z => by have := congrArg List.length z; rw [List.length_take, List.length_nil] at this; omega
    have dig' : ∀ x ∈ ds.take c, 0 ≤ x ∧ x < 3 := fun x hx => dig x (List.mem_of_mem_take hx)
    have l5 : (ds.take c).length ≤ 5 := by rw [List.length_take]; omega
    generalize ds.take c = es at g4 ne dig' l5
    have gs := s4 _ _ (s3 _ _ g2)
    refine ⟨pq, rfl, ⟨_, SqL.of g4⟩, fun D hD => ?_⟩
    refine comp_list (K := K) (a := pq) (xs := es.map V.int) (fun i _ σ H5 => ∃ (o : Option V) (row : List Int), σ = [o, some (.ref ps)] ∧ Same H4 H5 ∧ H5 D = some (.lst (row.map V.int)) ∧ row.length = i)
      ⟨none, [], rfl, (Same.refl H4).upd hD, upd_same, rfl⟩ (fun i _ σ H5 _ ⟨_, _, _, sm, _⟩ => SqL.of (sm _ _ g4)) ?_ ?_
    · rintro i x _ σ H5 hx ⟨o, row, rfl, sm, h5, lr⟩
      obtain ⟨v, ev, rfl⟩ := map_at hx
      have hi : i < es.length := (List.getElem?_eq_some_iff.mp ev).1
      obtain ⟨b1, b2⟩ := dig' v (List.mem_of_getElem? ev)
      obtain ⟨q, _, eq⟩ := atI_menu (ns := [far, -far, third]) b1 (by simpa using b2)
      refine ⟨_, rfl, _, rfl, ps, _, _, _, rfl, rfl, SqL.of (sm _ _ gs), eq, _, h5, small1000 (by rw [List.length_map]; omega), [], _, row ++ [q], rfl, sm.upd hD, by rw [upd_same]; simp, by rw [List.length_append, List.length_singleton]; omega⟩
    · rintro _ σ H5 ⟨o, row, rfl, sm, h5, lr⟩
      rw [List.length_map] at lr
      have s05 := s1.trans (s2.trans (s3.trans (s4.trans sm)))
      refine ⟨D, _, rfl, .inl ⟨SqL.of h5, fun t ht => k t _ row (s05.trans ((Same.refl H5).upd ht)) (s05.free ht) upd_same fun z => ne ?_⟩⟩
      rw [z, List.length_nil] at lr
      exact List.eq_nil_of_length_eq_zero lr.symm
end
end Prf

set_option maxHeartbeats 4000000
namespace Prf
open PySem L2 Wr
/-! ### what is known: rows, the lists of what is lit -/
abbrev Kn := List (List Int × Addr × List Bool)
def knKvs (kn : Kn) : List (List Key × V) := kn.map fun q => (q.1.map Sum.inl, .ref q.2.1)
structure KnownAt (H : Hp) (d : Addr) (kn : Kn) : Prop where
  at' : Rd H d (.dT (knKvs kn))
  nd : (kn.map (·.1)).Nodup
  ne : ∀ q ∈ kn, q.1 ≠ []
  lit : ∀ q ∈ kn, H q.2.1 = some (.lst (q.2.2.map V.bl))
theorem inl_inj {a b : List Int} (h : (a.map Sum.inl : List Key) = b.map Sum.inl) : a = b := by
  induction a generalizing b with
  | nil => cases b with | nil => rfl | cons _ _ => cases h
  | cons x a ih => cases b with
    | nil => cases h
    | cons y b =>
      simp only [List.map_cons, List.cons.injEq, Sum.inl.injEq] at h
      rw [h.1, ih h.2]
theorem kn_val : ∀ {kn : Kn} {q : List Int × Addr × List Bool}, (kn.map (·.1)).Nodup → q ∈ kn → valV (knKvs kn) (q.1.map Sum.inl) = some (.ref q.2.1)
  | [], _, _, h => by cases h
  | p :: kn, q, nd, h => by
    simp only [List.map_cons, List.nodup_cons] at nd
    rcases List.mem_cons.mp h with rfl | h
    · exact valV_pos rfl
    · refine (valV_neg fun z => ?_).trans (kn_val nd.2 h)
      have e : p.1 = q.1 := inl_inj z
      exact nd.1 (by rw [e]; exact List.mem_map_of_mem h)
theorem kn_none : ∀ {kn : Kn} {r : List Int}, r ∉ kn.map (·.1) → valV (knKvs kn) (r.map Sum.inl) = none
  | [], _, _ => rfl
  | p :: kn, r, h => by
    refine (valV_neg fun z => ?_).trans (kn_none fun z => h (List.mem_cons_of_mem _ z))
    have e : p.1 = r := inl_inj z
    exact h (by rw [List.map_cons, e]; exact List.mem_cons_self)
def KnownAt.tdict {H : Hp} {d : Addr} {kn : Kn} (h : KnownAt H d kn) : TDict H d (knKvs kn) (kn.map (·.1)) := ⟨h.at', by unfold knKvs; rw [List.map_map, List.map_map]; rfl, fun k hk => by obtain ⟨q, h1, rfl⟩ := List.mem_map.mp hk; exact h.ne q h1⟩
theorem Rd.same {H H' : Hp} {a : Addr} {u : HO} (s : Same H H') (h : Rd H a u) : Rd H' a u := h.imp (s _ _) fun ⟨o, e⟩ => ⟨o, s _ _ e⟩
theorem KnownAt.same {H H' : Hp} {d : Addr} {kn : Kn} (s : Same H H') (h : KnownAt H d kn) : KnownAt H' d kn := ⟨Rd.same s h.at', h.nd, h.ne, fun q hq => s _ _ (h.lit q hq)⟩
/-- lists that rise are the same if they hold the same -/
theorem sorted_ext : ∀ {l m : List (List Int)}, l.Perm m → (l.Pairwise fun a b => lexI b a = false) → (m.Pairwise fun a b => lexI b a = false) → l = m
  | [], m, p, _, _ => p.symm.eq_nil.symm
  | x :: l, [], p, _, _ => by have := p.eq_nil; cases this
  | x :: l, y :: m, p, h1, h2 => by
    obtain ⟨a1, a2⟩ := List.pairwise_cons.mp h1
    obtain ⟨b1, b2⟩ := List.pairwise_cons.mp h2
    have e : x = y := by
      rcases List.mem_cons.mp (p.mem_iff.mp List.mem_cons_self) with z | z
      · exact z
      · rcases List.mem_cons.mp (p.symm.mem_iff.mp (List.mem_cons_self : y ∈ y :: m)) with w | w
        · exact w.symm
        · exact lexI_total (b1 x z) (a1 y w)
    subst e
    rw [sorted_ext (List.Perm.cons_inv p) a2 b2]
/-- whether the row is lit at k -/
def bitOf (kn : Kn) (k : Nat) (r : List Int) : Bool := ((((kn.find? fun q => decide (q.1 = r)).map (·.2.2)).getD [])[k]?).getD false
theorem bit_at : ∀ {kn : Kn} {q : List Int × Addr × List Bool}, (kn.map (·.1)).Nodup → q ∈ kn → ∀ k, bitOf kn k q.1 = (q.2.2[k]?).getD false
  | [], _, _, h, _ => by cases h
  | p :: kn, q, nd, h, k => by
    simp only [List.map_cons, List.nodup_cons] at nd
    rcases List.mem_cons.mp h with rfl | h
    · simp [bitOf]
    · have e : p.1 ≠ q.1 := fun z => nd.1 (by rw [z]; exact List.mem_map_of_mem h)
      have := bit_at nd.2 h k
      unfold bitOf at *
      rw [List.find?_cons, decide_eq_false e]
      exact this
theorem filter_rows {es : List (List Int × List Stt)} {m : Int} {b : List Int → Bool} (h : ∀ e ∈ es, inSpan m e.2 = b e.1) : (es.filter fun e => inSpan m e.2).map (·.1) = (es.map (·.1)).filter b := by
  induction es with
  | nil => rfl
  | cons e es ih =>
    have h1 := h e List.mem_cons_self
    have h2 := ih fun x hx => h x (List.mem_cons_of_mem _ hx)
    simp only [List.filter_cons, List.map_cons, h1]
    cases b e.1 <;> simp [h2]
section
variable {P : Program} {w : World} {K : PySem.W.Frag} {mg : Str → Option Value} {base : Heap}
/-! ### at -/
def sp__law_at : Sp := fun vs H Q _ => ∃ (a d : Addr) (m : Int) (k : Nat) (es : List (List Int × List Stt)) (kn : Kn), vs = [.ref a, .ref d, .int m, .int k] ∧ SheetAt H a es ∧ KnownAt H d kn ∧ kn.length < 64 ∧ (∀ e ∈ es, e.2.length < 1000) ∧
  (∀ q ∈ kn, k < q.2.2.length) ∧ (es.map (·.1)).Perm (kn.map (·.1)) ∧ ((es.map (·.1)).Pairwise fun a b => lexI b a = false) ∧ (∀ e ∈ es, inSpan m e.2 = bitOf kn k e.1) ∧ ∀ H', Same H H' → Q (.bl true) H'
theorem sc__law_at : FnScope ["_law_sheet", "_law_known", "_law_moment", "_law_k", "_law_found", "_law_due"] ["_law_sheet", "_law_known", "_law_moment", "_law_k"] (defScope st__law_at) := ⟨rfl, rfl, rfl, by decide +kernel, rfl, by decide +kernel, by decide +kernel⟩
theorem ok__law_at {f : Addr} {fd : FuncData} (F : Fun K "_law_at" "_law_at" st__law_at f fd) (B : Blts mg) (F_cut_at : FnP P w K mg base 3 "cut_at" ["sheet", "moment"] sp_cut_at) : FnOk P w K mg base CX0 4 f fd ["_law_sheet", "_law_known", "_law_moment", "_law_k"] sp__law_at := by
  refine F.okJ sc__law_at (fun vs H Q E h => ?_) (fun cdv A outer s H vs Q E hr h => ?_)
  · obtain ⟨_, _, _, _, _, _, rfl, _⟩ := h
    rfl
  · obtain ⟨a, d, m, k, es, kn, rfl, hsh, hkn, k64, few, kl, pm, pw, bits, kk⟩ := h
    have nd1 : (["_law_row_here"] : List Str).Nodup := by decide +kernel
    have nd3 : (["_law_row_here", "_law_k", "_law_known"] : List Str).Nodup := by decide +kernel
    refine ⟨_, (b_cons (s_set 4 sc__law_at.nd (e_fn F_cut_at hr (ac (e_v 0) (a1 (e_v 2)))))
      (b_cons (s_setc 5 sc__law_at.nd (Nc := ["_law_row_here", "_law_k", "_law_known"]) (js := [none, some 3, some 1]) (g := (gName 0)) (tt := (tB (tOp (rIxL K) (tDGet (tVar 2) (tVar 0)) (tVar 1)))) (te := (tVar 0))
      (comp_mk rfl rfl rfl rfl (fun x c h => by simp at h; rcases h with ⟨rfl, rfl⟩ | ⟨rfl, rfl⟩ <;> rfl) rfl rfl rfl) (i_list (e_cb c_sortT B.sorted PyProof.Rows.boot_sorted (a1 (e_keys (e_v 1)))))
      (fun pins C s3 H3 fp => ⟨(g_n 0 nd3), .inr ⟨_, rfl, (t_val (e_ix x_list (e_dget hr (e_v 2) (e_v 0)) (e_v 1)))⟩, (e_v 0)⟩))
      (b_cons (s_if (JW.jt (w_or (t_not (t_val (e_cb c_isI B.isinstance PyProof.Rows.boot_isinstance (ac (e_v 4) (a1 (e_ty B.list PyProof.Rows.boot_list)))))) (w_or1 (t_cmp (o_neD hr) (e_v 4) (e_v 5))))) (b_one (s_ret e_b)) b_nil)
      (b_cons (s_if (t_cmp (o_neD hr) (e_comp (Nc := ["_law_row_here"]) (js := [none]) (g := (gName 0)) (tt := (tNot (tB (tCB (rIsI K) (tCons (tVar 0) (tCons (tC (.ty "tuple")) tNil)))))) (te := (tVar 0))
      (comp_mk rfl rfl rfl rfl (fun x c h => by cases h) rfl rfl rfl) (i_list (e_v 4))
      (fun pins C s3 H3 fp => ⟨(g_n 0 nd1), .inr ⟨_, rfl, (t_not (t_val (e_cb c_isI B.isinstance PyProof.Rows.boot_isinstance (ac (e_v 0) (a1 (e_ty B.tuple PyProof.Rows.boot_tuple))))))⟩, (e_v 0)⟩)) (e_lst a0)) (b_one (s_ret e_b)) b_nil)
      (b_cons (s_app (e_v 4) e_n)
      (b_one (s_ret e_b))))))), ?_⟩
    have les : es.length < 64 := by have := pm.length_eq; rw [List.length_map, List.length_map] at this; omega
    -- found
    refine ⟨_, rfl, _, rfl, a, es, m, rfl, hsh, by omega, few, fun D1 H1 ys1 s1 hD1 h1 p1 => ?_⟩
    have kn1 := hkn.same s1
    -- due
    refine ⟨_, rfl, d, _, rfl, kn1.at', fun v hv => ?_⟩
    have s2 : Same H1 (upd H1 v (vwO v d)) := (Same.refl H1).upd hv
    have g2 : upd H1 v (vwO v d) v = some (vwO v d) := upd_same
    generalize upd H1 v (vwO v d) = H2 at s2 g2 ⊢
    have kn2 := kn1.same s2
    have lk : (knKvs kn).length < 64 := by unfold knKvs; rw [List.length_map]; exact k64
    refine ⟨v, d, _, _, rfl, kn2.tdict, .inr g2, lk, fun D2 ys2 ks' hD2 p2 pm2 pw2 => ?_⟩
    have s3 : Same H2 (upd H2 D2 (.lst ys2)) := (Same.refl H2).upd hD2
    have g3 : upd H2 D2 (.lst ys2) D2 = some (.lst ys2) := upd_same
    have p3 := rows_same s3 p2
    generalize upd H2 D2 (.lst ys2) = H3 at s3 g3 p3 ⊢
    have kn3 := kn2.same s3
    obtain rfl : ks' = es.map (·.1) := sorted_ext (pm2.trans pm.symm) pw2 pw
    have ly2 : ys2.length = es.length := by have := Paired.length p3; rwa [List.length_map] at this
    refine ⟨D2, rfl, ⟨_, SqL.of g3⟩, fun D3 hD3 => ?_⟩
    refine comp_list (K := K) (a := D2) (xs := ys2) (fun i _ σ H4 => ∃ o ys, σ = [o, some (.int k), some (.ref d)] ∧ Same H3 H4 ∧ H4 D3 = some (.lst ys) ∧ Paired (RowAt H4) ys (((es.map (·.1)).take i).filter (bitOf kn k)))
      ⟨none, [], rfl, (Same.refl H3).upd hD3, upd_same, .nil⟩ (fun i _ σ H4 _ ⟨_, _, _, sm, _⟩ => SqL.of (sm _ _ g3)) ?_ ?_
    · rintro i x _ σ H4 hx ⟨o, ys, rfl, sm, h4, pr⟩
      obtain ⟨row, er, t, rfl, ht⟩ := paired_at p3 hx
      have hrow : row ∈ kn.map (·.1) := pm.mem_iff.mp (List.mem_of_getElem? er)
      obtain ⟨q, hq, rfl⟩ := List.mem_map.mp hrow
      have kn4 := kn3.same sm
      have hv := kn_val kn4.nd hq
      have ht4 : H4 t = some (.tup ((q.1.map Sum.inl : List Key).map kV)) := by rw [kV_ints]; exact sm _ _ ht
      have hk := kl q hq
      have hb := bit_at kn4.nd hq k
      have hb2 : (q.2.2[k]?).getD false = q.2.2[k] := by simp [hk]
      refine ⟨_, rfl, _, rfl, d, _, rfl, .inr ⟨_, _, t, kn4.at', rfl, ht4, hv.symm⟩, _, rfl, q.2.1, _, _, .bl q.2.2[k], rfl, rfl, SqL.of (kn4.lit q hq), atI_nat (by simp [hk]), _, rfl, ?_⟩
      have eb : bitOf kn k q.1 = q.2.2[k] := hb.trans hb2
      cases hbit : q.2.2[k] with
      | false =>
        refine iteF ⟨[], _, ys, rfl, sm, h4, ?_⟩
        rw [take_snoc er, List.filter_append]
        simp only [List.filter_cons, eb, hbit, Bool.false_eq_true, if_false, List.filter_nil, List.append_nil]
        exact pr
      | true =>
        have ly := Paired.length pr
        have lf : (((es.map (·.1)).take i).filter (bitOf kn k)).length ≤ 64 := by
          have := List.length_filter_le (bitOf kn k) ((es.map (·.1)).take i)
          rw [List.length_take, List.length_map] at this
          omega
        refine iteT ⟨_, rfl, ys, h4, small1000 (by omega), [], _, ys ++ [.ref t], rfl, sm.upd hD3, upd_same, ?_⟩
        rw [take_snoc er, List.filter_append]
        simp only [List.filter_cons, eb, hbit, if_true, List.filter_nil]
        refine paired_snoc (R := RowAt (upd H4 D3 (.lst (ys ++ [.ref t])))) ⟨t, rfl, ?_⟩ (rows_wr (no_tup h4) pr)
        rw [upd_ne (fun z => by have := sm _ _ ht; rw [z, h4] at this; cases this)]
        exact sm _ _ ht
    rintro _ σ H4 ⟨o, ys, rfl, sm4, h4, pr4⟩
    rw [ly2, List.take_of_length_le (by rw [List.length_map]; omega)] at pr4
    have s14 : Same H1 H4 := s2.trans (s3.trans sm4)
    have p14 := rows_same s14 p1
    rw [filter_rows bits] at p14
    have h14 := s14 _ _ h1
    generalize (es.map (·.1)).filter (bitOf kn k) = rows at pr4 p14
    -- found is due
    refine ⟨_, rfl, _, _, _, _, rfl, .lst h14, kit_same K "list", _, rfl, iteF ?_⟩
    refine ⟨_, rfl, _, rfl, _, _, .lst (SqL.of h14) (rows_den p14), .lst (SqL.of h4) (rows_den pr4), shaped_rows _, shaped_rows _, _, rfl, ?_⟩
    rw [eqv_rowsL, decide_eq_true rfl]
    refine iteF ?_
    -- all are tuples
    refine ⟨_, rfl, D1, rfl, ⟨_, SqL.of h14⟩, fun D5 hD5 => ?_⟩
    refine comp_list (K := K) (a := D1) (xs := ys1) (fun i _ σ H5 => ∃ o, σ = [o] ∧ Same H4 H5 ∧ H5 D5 = some (.lst [])) ⟨none, rfl, (Same.refl H4).upd hD5, upd_same⟩ (fun i _ σ H5 _ ⟨_, _, sm, _⟩ => SqL.of (sm _ _ h14)) ?_ ?_
    · rintro i x _ σ H5 hx ⟨o, rfl, sm, h5⟩
      obtain ⟨row, _, t, rfl, ht⟩ := paired_at p14 hx
      exact ⟨_, rfl, _, _, _, _, rfl, .tup (sm _ _ ht), kit_same K "tuple", _, rfl, iteF ⟨[], _, rfl, sm, h5⟩⟩
    rintro _ σ H5 ⟨o, rfl, sm5, h5⟩
    refine ⟨Nat.zero_le _, fun e1 he1 => ?_⟩
    have s6 : Same H5 (upd H5 e1 (.lst [])) := (Same.refl H5).upd he1
    have g6 : upd H5 e1 (.lst []) e1 = some (.lst []) := upd_same
    generalize upd H5 e1 (.lst []) = H6 at s6 g6 ⊢
    refine ⟨_, _, .lst (SqL.of (s6 _ _ h5)) (rows_den (rs := []) .nil), .lst (SqL.of g6) (rows_den (rs := []) .nil), shaped_rows [], shaped_rows [], _, rfl, ?_⟩
    rw [eqv_rowsL, decide_eq_true rfl]
    refine iteF ?_
    -- append
    have s46 := sm5.trans s6
    have ly1 : ys1.length ≤ 64 := by
      have := Paired.length p1
      rw [List.length_map] at this
      have := List.length_filter_le (fun e : List Int × List Stt => inSpan m e.2) es
      omega
    refine ⟨_, rfl, .inl ⟨rfl, _, SqL.of (s46 _ _ h14)⟩, D1, ys1, _, rfl, rfl, s46 _ _ h14, small1000 (by omega), kk _ ?_⟩
    exact (s1.trans (s14.trans s46)).upd hD1
end
end Prf

set_option maxHeartbeats 4000000
namespace L2
open PySem PySem.Spec PyProof.Rows
section
variable {X : Cx} {e : Expr} {es : List Expr} {te : TE} {t : TA}
theorem acn (ha : JE X e te) (hr : JA X es t) (hn : Nst e := by first | exact Nst.comp .. | exact Nst.lam .. | exact Nst.pln (by constructor)) : JA X (e :: es) (tCons te t) := ⟨pa_cons ha.h hr.h (hn.star _ _), .cons hn hr.pl⟩
theorem s_setD {x : Str} {dp pos pos' : Pos} (i : Nat) (hN : X.N.Nodup) (he : JE X (.Dict [] [] dp) te) (hi : X.N[i]? = some x := by rfl) (hx : Loc X.env.scope x := by first | exact Or.inl rfl | exact Or.inr rfl)
    (hf : X.fn x = true ∨ X.env.scope.names.lookup x = some .local := by first | exact .inl rfl | exact .inr rfl) : JS X (.Assign [.Name x pos'] (.Dict [] [] dp) pos) (tAsg te (gName i)) := ⟨ps_set hN hi hx he.h rfl hf⟩
end
end L2
namespace Prf
open PySem L2 Wr
theorem piece_full {g : List Int} {m : Int} (h : ∀ x ∈ g, x ≤ m) : piece g m = g.length := by
  unfold piece
  rw [List.filter_eq_self.mpr fun x hx => decide_eq_true (h x hx)]
theorem par_still : ∀ {bs : List Int} {s : Bool} {b : Int}, b ∉ bs → par s bs b = par s bs (b - 1)
  | [], _, _, _ => rfl
  | x :: bs, s, b, h => by
    have hx : x ≠ b := fun e => h (e ▸ List.mem_cons_self)
    have hb : b ∉ bs := fun e => h (List.mem_cons_of_mem _ e)
    show par (s != decide (x ≤ b)) bs b = par (s != decide (x ≤ b - 1)) bs (b - 1)
    have : decide (x ≤ b) = decide (x ≤ b - 1) := by rw [Bool.eq_iff_iff, decide_eq_true_iff, decide_eq_true_iff]; omega
    rw [this]
    exact par_still hb
/-- the bounds are the grid's points at which what is lit turns -/
theorem bnd_iff {g : List Int} {l : List Stt} {lit : List Bool} (hg : Inc g) (hl : Can l) (h : ∀ m, inSpan m l = (lit[piece g m]?).getD false) (x : Int) : x ∈ bnds l ↔ ∃ k, g[k]? = some x ∧ (lit[k]?).getD false ≠ (lit[k + 1]?).getD false := by
  constructor
  · intro hx
    have hxg := bnds_grid hl (φ := fun k => (lit[k]?).getD false) h x hx
    obtain ⟨k, hk, e⟩ := List.mem_iff_getElem.mp hxg
    have ek : g[k]? = some x := by simp [hk, e]
    refine ⟨k, ek, fun z => ?_⟩
    have t := par_turn (s := fe l) (can_bnds hl) hx
    rw [← in_par hl, ← in_par hl, h, h, piece_at hg ek, piece_ahead hg ek] at t
    exact t z.symm
  · rintro ⟨k, ek, ne⟩
    by_cases hx : x ∈ bnds l
    · exact hx
    · have t := par_still (s := fe l) hx
      rw [← in_par hl, ← in_par hl, h, h, piece_at hg ek, piece_ahead hg ek] at t
      exact absurd t.symm ne
/-! ### sheets as data -/
def dEnt (e : List Int × List Stt) : PyData := .tuple [dRow e.1, .list (e.2.map dS)]
theorem EntAt.den {K : PySem.W.Frag} {H : Hp} {v : V} {e : List Int × List Stt} (h : EntAt H v e) : Den K H v (dEnt e) := by
  obtain ⟨t, p, q, rfl, h2, h3, h4⟩ := h
  exact .tup (SqT.of h2) (.cons (RowAt.den ⟨p, rfl, h3⟩) (.cons h4.den .nil))
theorem ents_den {K : PySem.W.Frag} {H : Hp} : ∀ {vs : List V} {es : List (List Int × List Stt)}, Paired (EntAt H) vs es → DenAll K H vs (es.map dEnt)
  | _, _, .nil => .nil
  | _, _, .cons r t => .cons (EntAt.den r) (ents_den t)
theorem span_shape (ss : List Stt) : PyData.canLay0 (.list (ss.map dS)) = true ∧ PyData.depth (.list (ss.map dS)) ≤ 2 := by
  have h1 : ∀ o, (dO o).canLay0 = true ∧ (dO o).depth = 0 := fun o => by cases o <;> simp [dO, PyData.canLay0, PyData.depth]
  have all : ∀ ss : List Stt, PyData.canLayAll0 (ss.map dS) = true ∧ PyData.depthAll (ss.map dS) ≤ 1 := by
    intro ss
    induction ss with
    | nil => simp [PyData.canLayAll0, PyData.depthAll]
    | cons s ss ih =>
      have e1 := h1 s.1
      have e2 := h1 s.2
      rw [List.map_cons]
      simp only [PyData.canLayAll0, PyData.depthAll, dS, PyData.canLay0, PyData.depth, e1, e2, ih.1]
      refine ⟨by simp, ?_⟩
      have := ih.2
      omega
  have := all ss
  simp only [PyData.canLay0, PyData.depth, this.1, true_and]
  omega
theorem ents_shape : ∀ es : List (List Int × List Stt), PyData.canLayAll0 (es.map dEnt) = true ∧ PyData.depthAll (es.map dEnt) ≤ 3
  | [] => by simp [PyData.canLayAll0, PyData.depthAll]
  | e :: es => by
    have ih := ents_shape es
    have e1 := ints_shape e.1
    have e2 := span_shape e.2
    have d1 : PyData.depth (dRow e.1) = 1 := by simp [dRow, PyData.depth, e1.2]
    have c1 : PyData.canLay0 (dRow e.1) = true := by simp [dRow, PyData.canLay0, e1.1]
    have d2 : PyData.depth (dEnt e) ≤ 3 := by
      simp only [dEnt, PyData.depth, PyData.depthAll, d1]
      have := e2.2
      simp only [PyData.depth] at this
      omega
    have c2 : PyData.canLay0 (dEnt e) = true := by
      have := e2.1
      simp only [dEnt, PyData.canLay0, PyData.canLayAll0, c1, Bool.true_and, Bool.and_true] at this ⊢
      exact this
    rw [List.map_cons]
    simp only [PyData.canLayAll0, PyData.depthAll, c2, ih.1]
    exact ⟨rfl, by have := ih.2; omega⟩
theorem shaped_ents (es : List (List Int × List Stt)) : SeqAt.shaped (.list (es.map dEnt)) = true := by
  have e := ents_shape es
  unfold SeqAt.shaped
  simp only [PyData.canLay0, PyData.depth, e.1, Bool.true_and]
  exact decide_eq_true (by have := e.2; omega)
theorem eqv_ents : ∀ es : List (List Int × List Stt), PyData.eqvAll (es.map dEnt) (es.map dEnt) = true
  | [] => by simp [PyData.eqvAll]
  | e :: es => by
    have h1 := eqv_span e.2 e.2
    have h2 := eqv_intsA e.1 e.1
    simp only [PyData.eqv, decide_true] at h1
    simp only [decide_true] at h2
    simp [PyData.eqvAll, dEnt, PyData.eqv, dRow, h1, h2, eqv_ents es]
theorem eqv_sheet (es : List (List Int × List Stt)) : PyData.eqv (.list (es.map dEnt)) (.list (es.map dEnt)) = true := by rw [PyData.eqv]; exact eqv_ents es
theorem rep_bl (n : Nat) : List.replicate n (V.bl false) = (List.replicate n false).map V.bl := by simp
/-- what is known while the cells are read -/
structure KnI (H2 H' : Hp) (d : Addr) (n : Nat) (kn : Kn) : Prop where
  at' : H' d = some (.dT (knKvs kn))
  nd : (kn.map (·.1)).Nodup
  ne : ∀ q ∈ kn, q.1 ≠ []
  lit : ∀ q ∈ kn, H' q.2.1 = some (.lst (q.2.2.map V.bl))
  ad : (kn.map (·.2.1)).Nodup
  len : ∀ q ∈ kn, q.2.2.length = n + 1
  fresh : ∀ q ∈ kn, H2 q.2.1 = none
  same : Same H2 H'
  dn : H2 d = none
/-- an entry whose span is another list than l -/
def EntX (H : Hp) (l : Addr) (v : V) (e : List Int × List Stt) : Prop := ∃ t p q, v = .ref t ∧ H t = some (.tup [.ref p, .ref q]) ∧ H p = some (.tup (e.1.map V.int)) ∧ SpanAt H q e.2 ∧ q ≠ l
theorem EntX.ent {H : Hp} {l : Addr} {v : V} {e : List Int × List Stt} (h : EntX H l v e) : EntAt H v e := let ⟨t, p, q, a, b, c, d, _⟩ := h; ⟨t, p, q, a, b, c, d⟩
theorem EntX.same {H H' : Hp} {l : Addr} {v : V} {e : List Int × List Stt} (s : Same H H') (h : EntX H l v e) : EntX H' l v e := let ⟨t, p, q, a, b, c, d, f⟩ := h; ⟨t, p, q, a, s _ _ b, s _ _ c, d.same s, f⟩
theorem EntX.wr {H : Hp} {l : Addr} {o : HO} {v : V} {e : List Int × List Stt} (hl : ∀ xs, H l ≠ some (.tup xs)) (h : EntX H l v e) : EntX (upd H l o) l v e := by
  obtain ⟨t, p, q, a, b, c, d, f⟩ := h
  exact ⟨t, p, q, a, by rw [upd_ne (fun z => hl _ (by rw [← z]; exact b))]; exact b, by rw [upd_ne (fun z => hl _ (by rw [← z]; exact c))]; exact c, d.wr hl f, f⟩
/-- an entry as what is known asks -/
def GoodE (kn : Kn) (g : List Int) (e : List Int × List Stt) : Prop := ∃ q ∈ kn, q.1 = e.1 ∧ Can e.2 ∧ e.2.length ≤ 50 ∧ ∀ m, inSpan m e.2 = (q.2.2[piece g m]?).getD false
theorem KnI.sm {H2 H' H'' : Hp} {d : Addr} {n : Nat} {kn : Kn} (h : KnI H2 H' d n kn) (s : Same H' H'') : KnI H2 H'' d n kn := ⟨s _ _ h.at', h.nd, h.ne, fun q hq => s _ _ (h.lit q hq), h.ad, h.len, h.fresh, h.same.trans s, h.dn⟩
theorem KnI.known {H2 H' : Hp} {d : Addr} {n : Nat} {kn : Kn} (h : KnI H2 H' d n kn) : KnownAt H' d kn := ⟨.inl h.at', h.nd, h.ne, h.lit⟩
theorem KnI.add {H2 H' : Hp} {d D : Addr} {n : Nat} {kn : Kn} {row : List Int} {l : List Bool} (h : KnI H2 H' d n kn) (hr : row ∉ kn.map (·.1)) (ne : row ≠ []) (hD : H' D = some (.lst (l.map V.bl))) (hl : l.length = n + 1) (fr : H2 D = none) (hn : D ∉ kn.map (·.2.1)) :
    KnI H2 (upd H' d (.dT (putK (knKvs kn) (row.map Sum.inl) (.ref D)))) d n (kn ++ [(row, D, l)]) := by
  have dD : D ≠ d := fun z => by rw [z, h.at'] at hD; cases hD
  have dq : ∀ q ∈ kn, q.2.1 ≠ d := fun q hq z => by have := h.lit q hq; rw [z, h.at'] at this; cases this
  refine ⟨?_, ?_, fun q hq => ?_, fun q hq => ?_, ?_, fun q hq => ?_, fun q hq => ?_, h.same.upd h.dn, h.dn⟩
  · rw [upd_same, putK_new _ (kn_none hr)]; unfold knKvs; rw [List.map_append]; rfl
  · rw [List.map_append]; exact List.nodup_append.mpr ⟨h.nd, by simp, fun x hx y hy z => hr ((show y = row from by simpa using hy) ▸ z ▸ hx)⟩
  · rcases List.mem_append.mp hq with z | z
    · exact h.ne q z
    · rw [List.mem_singleton.mp z]; exact ne
  · rcases List.mem_append.mp hq with z | z
    · rw [upd_ne (dq q z)]; exact h.lit q z
    · rw [List.mem_singleton.mp z]; show upd H' d _ D = _; rw [upd_ne dD]; exact hD
  · rw [List.map_append]; exact List.nodup_append.mpr ⟨h.ad, by simp, fun x hx y hy z => hn ((show y = D from by simpa using hy) ▸ z ▸ hx)⟩
  · rcases List.mem_append.mp hq with z | z
    · exact h.len q z
    · rw [List.mem_singleton.mp z]; exact hl
  · rcases List.mem_append.mp hq with z | z
    · exact h.fresh q z
    · rw [List.mem_singleton.mp z]; exact fr
theorem KnI.set {H2 H' : Hp} {d : Addr} {n : Nat} {kn : Kn} {q : List Int × Addr × List Bool} (h : KnI H2 H' d n kn) (hq : q ∈ kn) (j : Nat) :
    KnI H2 (upd H' q.2.1 (.lst ((q.2.2.set j true).map V.bl))) d n (kn.map fun p => if p.2.1 = q.2.1 then (p.1, p.2.1, p.2.2.set j true) else p) := by
  have dq : d ≠ q.2.1 := fun z => by have := h.lit q hq; rw [← z, h.at'] at this; cases this
  have uniq : ∀ {kn : Kn} {p : List Int × Addr × List Bool}, (kn.map (·.2.1)).Nodup → p ∈ kn → q ∈ kn → p.2.1 = q.2.1 → p = q := by
    intro kn
    induction kn with
    | nil => intro p _ h; cases h
    | cons r kn ih =>
      intro p nd hp hq e
      simp only [List.map_cons, List.nodup_cons] at nd
      rcases List.mem_cons.mp hp with hp1 | hp1
      · rcases List.mem_cons.mp hq with hq1 | hq1
        · rw [hp1, hq1]
        · exact absurd (by rw [← hp1, e]; exact List.mem_map_of_mem hq1) nd.1
      · rcases List.mem_cons.mp hq with hq1 | hq1
        · exact absurd (by rw [← hq1, ← e]; exact List.mem_map_of_mem hp1) nd.1
        · exact ih nd.2 hp1 hq1 e
  have e1 : ∀ p : List Int × Addr × List Bool, (if p.2.1 = q.2.1 then (p.1, p.2.1, p.2.2.set j true) else p).1 = p.1 := fun p => by split <;> rfl
  have e2 : ∀ p : List Int × Addr × List Bool, (if p.2.1 = q.2.1 then (p.1, p.2.1, p.2.2.set j true) else p).2.1 = p.2.1 := fun p => by split <;> rfl
  have m1 : ((kn.map fun p => if p.2.1 = q.2.1 then (p.1, p.2.1, p.2.2.set j true) else p).map (·.1)) = kn.map (·.1) := by rw [List.map_map]; exact List.map_congr_left fun p _ => e1 p
  have m2 : ((kn.map fun p => if p.2.1 = q.2.1 then (p.1, p.2.1, p.2.2.set j true) else p).map (·.2.1)) = kn.map (·.2.1) := by rw [List.map_map]; exact List.map_congr_left fun p _ => e2 p
  have m3 : knKvs (kn.map fun p => if p.2.1 = q.2.1 then (p.1, p.2.1, p.2.2.set j true) else p) = knKvs kn := by unfold knKvs; rw [List.map_map]; exact List.map_congr_left fun p _ => by show (_, _) = (_, _); rw [e1, e2]
  refine ⟨by rw [upd_ne dq, m3]; exact h.at', by rw [m1]; exact h.nd, fun p hp => ?_, fun p hp => ?_, by rw [m2]; exact h.ad, fun p hp => ?_, fun p hp => ?_, h.same.upd (h.fresh q hq), h.dn⟩
  · obtain ⟨p, hp1, rfl⟩ := List.mem_map.mp hp; rw [e1]; exact h.ne p hp1
  · obtain ⟨p, hp1, rfl⟩ := List.mem_map.mp hp
    rw [e2]
    by_cases z : p.2.1 = q.2.1
    · rw [if_pos z, uniq h.ad hp1 hq z, upd_same]
    · rw [if_neg z, upd_ne z]; exact h.lit p hp1
  · obtain ⟨p, hp1, rfl⟩ := List.mem_map.mp hp
    split
    · rw [List.length_set]; exact h.len p hp1
    · exact h.len p hp1
  · obtain ⟨p, hp1, rfl⟩ := List.mem_map.mp hp; rw [e2]; exact h.fresh p hp1
theorem kn_set_mem {kn : Kn} {q : List Int × Addr × List Bool} {j : Nat} : (kn.map fun p => if p.2.1 = q.2.1 then (p.1, p.2.1, p.2.2.set j true) else p).length = kn.length := List.length_map ..
theorem rd_ne_lst {H1 : Hp} {d b : Addr} {kvs : List (List Key × V)} {xs : List V} (h : Rd H1 d (.dT kvs)) (hb : H1 b = some (.lst xs)) : b ≠ d := fun z => by
  rw [z] at hb
  rcases h with h | ⟨o, h⟩ <;> rw [h] at hb <;> cases hb
theorem rd_ne_tup {H1 : Hp} {d b : Addr} {kvs : List (List Key × V)} {xs : List V} (h : Rd H1 d (.dT kvs)) (hb : H1 b = some (.tup xs)) : b ≠ d := fun z => by
  rw [z] at hb
  rcases h with h | ⟨o, h⟩ <;> rw [h] at hb <;> cases hb
/-- a sheet none of whose lists is l -/
def SheetX (H : Hp) (a l : Addr) (es : List (List Int × List Stt)) : Prop := ∃ xs, H a = some (.lst xs) ∧ Paired (EntX H l) xs es ∧ a ≠ l
theorem SheetX.of {H : Hp} {a l : Addr} {es : List (List Int × List Stt)} (h : SheetAt H a es) (hl : H l = none) : SheetX H a l es := by
  obtain ⟨xs, h1, h2⟩ := h
  exact ⟨xs, h1, Paired.mapP h2 fun v e ⟨t, p, q, a1, a2, a3, ys, a4, a5⟩ => ⟨t, p, q, a1, a2, a3, ⟨ys, a4, a5⟩, ne_of_none a4 hl⟩, ne_of_none h1 hl⟩
theorem SheetX.at' {H : Hp} {a l : Addr} {es : List (List Int × List Stt)} (h : SheetX H a l es) : SheetAt H a es := let ⟨xs, h1, h2, _⟩ := h; ⟨xs, h1, Paired.mapP h2 fun _ _ z => z.ent⟩
theorem SheetX.sm {H H' : Hp} {a l : Addr} {es : List (List Int × List Stt)} (h : SheetX H a l es) (s : Same H H') : SheetX H' a l es := let ⟨xs, h1, h2, h3⟩ := h; ⟨xs, s _ _ h1, Paired.mapP h2 fun _ _ z => z.same s, h3⟩
theorem SheetX.wr {H : Hp} {a l : Addr} {o : HO} {es : List (List Int × List Stt)} (h : SheetX H a l es) (hl : ∀ xs, H l ≠ some (.tup xs)) : SheetX (upd H l o) a l es := let ⟨xs, h1, h2, h3⟩ := h; ⟨xs, by rw [upd_ne h3]; exact h1, Paired.mapP h2 fun _ _ z => z.wr hl, h3⟩
theorem SheetX.off {H1 H2 : Hp} {a l : Addr} {es : List (List Int × List Stt)} (h : SheetX H1 a l es) (fl : ∀ b xs, H1 b = some (.lst xs) → H2 b = some (.lst xs)) (ft : ∀ b xs, H1 b = some (.tup xs) → H2 b = some (.tup xs)) : SheetX H2 a l es := by
  obtain ⟨xs, h1, h2, h3⟩ := h
  exact ⟨xs, fl _ _ h1, Paired.mapP h2 fun v e ⟨t, p, q, a1, a2, a3, ⟨ys, a4, a5⟩, a6⟩ => ⟨t, p, q, a1, ft _ _ a2, ft _ _ a3, ⟨ys, fl _ _ a4, Paired.mapP a5 fun v s ⟨t, b1, b2⟩ => ⟨t, b1, ft _ _ b2⟩⟩, a6⟩, h3⟩
theorem ents_ext : ∀ {es es' : List (List Int × List Stt)}, es.map (·.1) = es'.map (·.1) → (∀ e ∈ es, ∀ e' ∈ es', e.1 = e'.1 → e.2 = e'.2) → es = es'
  | [], [], _, _ => rfl
  | [], _ :: _, h, _ => by cases h
  | _ :: _, [], h, _ => by cases h
  | e :: es, e' :: es', h, k => by
    simp only [List.map_cons, List.cons.injEq] at h
    have h2 := k e List.mem_cons_self e' List.mem_cons_self h.1
    rw [ents_ext h.2 fun x hx y hy => k x (List.mem_cons_of_mem _ hx) y (List.mem_cons_of_mem _ hy)]
    obtain ⟨a, b⟩ := e
    obtain ⟨c, d⟩ := e'
    have q1 : a = c := h.1
    have q2 : b = d := h2
    rw [q1, q2]
theorem good_bit {kn : Kn} {g : List Int} {e : List Int × List Stt} (nd : (kn.map (·.1)).Nodup) (h : GoodE kn g e) (m : Int) : inSpan m e.2 = bitOf kn (piece g m) e.1 := by
  obtain ⟨q, hq, e1, _, _, e2⟩ := h
  rw [e2 m, ← e1, bit_at nd hq]
def dueL (g : List Int) (turn : Nat → Bool) : Nat → List Int
  | 0 => []
  | i + 1 => dueL g turn i ++ (if turn i = true then [g.getD i 0] else [])
theorem dueL_mem {g : List Int} {turn : Nat → Bool} {x : Int} : ∀ {i : Nat}, i ≤ g.length → (x ∈ dueL g turn i ↔ ∃ k, k < i ∧ turn k = true ∧ g[k]? = some x)
  | 0, _ => by simp [dueL]
  | i + 1, h => by
    have ih := dueL_mem (g := g) (turn := turn) (x := x) (i := i) (by omega)
    have hi : i < g.length := by omega
    have gi : g.getD i 0 = g[i] := by simp [hi]
    have gi' : g[i]? = some g[i] := by simp [hi]
    rw [dueL, List.mem_append, ih]
    constructor
    · rintro (⟨k, h1, h2, h3⟩ | h1)
      · exact ⟨k, by omega, h2, h3⟩
      · by_cases ht : turn i = true
        · rw [if_pos ht, List.mem_singleton] at h1
          exact ⟨i, by omega, ht, by rw [gi', h1, gi]⟩
        · rw [if_neg ht] at h1; cases h1
    · rintro ⟨k, h1, h2, h3⟩
      by_cases e : k = i
      · subst e
        rw [if_pos h2, List.mem_singleton]
        rw [gi'] at h3
        exact .inr (by rw [gi]; exact (Option.some.inj h3).symm)
      · exact .inl ⟨k, by omega, h2, h3⟩
theorem dueL_inc {g : List Int} {turn : Nat → Bool} (hg : Inc g) : ∀ {i : Nat}, i ≤ g.length → Inc (dueL g turn i)
  | 0, _ => List.Pairwise.nil
  | i + 1, h => by
    have ih := dueL_inc (turn := turn) hg (i := i) (by omega)
    have hi : i < g.length := by omega
    have gi : g.getD i 0 = g[i] := by simp [hi]
    rw [dueL]
    by_cases ht : turn i = true
    · rw [if_pos ht, gi]
      refine List.pairwise_append.mpr ⟨ih, List.pairwise_singleton _ _, fun x hx y hy => ?_⟩
      obtain ⟨k, k1, _, k3⟩ := (dueL_mem (by omega)).mp hx
      rw [List.mem_singleton.mp hy]
      exact inc_lt hg k3 (show g[i]? = some g[i] by simp [hi]) k1
    · rw [if_neg ht, List.append_nil]; exact ih
theorem dueL_len {g : List Int} {turn : Nat → Bool} : ∀ i : Nat, (dueL g turn i).length ≤ i
  | 0 => Nat.le_refl _
  | i + 1 => by
    have := dueL_len (g := g) (turn := turn) i
    rw [dueL, List.length_append]
    split <;> simp <;> omega
section
variable {P : Program} {w : World} {K : PySem.W.Frag} {mg : Str → Option Value} {base : Heap}
def sp_law (K : PySem.W.Frag) : Sp := fun vs H Q _ => ∃ (a : Addr) (ns : List Int), vs = [.ref a] ∧ SqL K H a (ns.map V.int) ∧ ns.length ≤ 63 ∧ ∀ H', Q (.bl true) H'
abbrev spLaw (K : PySem.W.Frag) : Sp := sp_law K
theorem sc_law : FnScope ["_law_script", "_law_cells", "_law_drawn", "_law_grid_here", "_law_known", "_law_cell", "_law_row_here", "_law_lit", "_law_sheet", "_law_k", "_law_due", "_law_found", "_law_kept"] ["_law_script"] (defScope st_law) := ⟨rfl, rfl, rfl, by decide +kernel, rfl, by decide +kernel, by decide +kernel⟩
theorem ok_law {f : Addr} {fd : FuncData} (F : Fun K "law" "law" st_law f fd) (B : Blts mg) (FM : FnP P w K mg base 1 "_law_mix" ["_law_cell", "_law_j"] spMix) (FG : FnP P w K mg base 2 "_law_grid" ["_law_cell"] spGrid)
    (FP : FnP P w K mg base 2 "_law_span" ["_law_grid_here", "_law_lit"] spSpan) (FR : FnP P w K mg base 2 "_law_row" ["_law_drawn", "_law_number"] sp__law_row) (FA : FnP P w K mg base 4 "_law_at" ["_law_sheet", "_law_known", "_law_moment", "_law_k"] sp__law_at)
    (FS : FnP P w K mg base 2 "sheet_bounds" ["sheet"] sp_sheet_bounds) : FnOk P w K mg base CX0 5 f fd ["_law_script"] (sp_law K) := by
  refine F.okJ sc_law (fun vs H Q E h => ?_) (fun cdv A outer s H vs Q E hr h => ?_)
  · obtain ⟨a, ns, rfl, _⟩ := h
    rfl
  · obtain ⟨a, ns, rfl, hS, h63, k⟩ := h
    have nd1 : (["_law_k"] : List Str).Nodup := by decide +kernel
    have nd3 : (["_law_row_here", "_law_grid_here", "_law_known"] : List Str).Nodup := by decide +kernel
    have nd4 : (["_law_row_here", "_law_k", "_law_known"] : List Str).Nodup := by decide +kernel
    refine ⟨_, (b_cons (s_set 1 sc_law.nd (e_upto (e_v 0) e_i))
      (b_cons (s_set 2 sc_law.nd (e_cb c_sum B.sum PyProof.Rows.boot_sum (a1 (e_v 1))))
      (b_cons (s_set 3 sc_law.nd (e_fn FG hr (a1 (e_v 2))))
      (b_cons (s_setD 4 sc_law.nd e_dnewT)
      (b_cons (s_for (i_list (e_v 1)) (g_n 5 sc_law.nd)
        (b_cons (s_set 6 sc_law.nd (e_fn FR hr (ac (e_v 2) (a1 (e_op o_mod (e_fn FM hr (ac (e_v 5) (a1 e_i))) e_i)))))
        (b_cons (s_set 7 sc_law.nd (e_setdef hr (e_v 4) (ac (e_v 6) (acn (e_comp (Nc := ["_law_k"]) (js := [none]) (g := (gName 0)) (tt := tYes) (te := (tC (.bl false)))
      (comp_mk rfl rfl rfl rfl (fun x c h => by cases h) rfl rfl rfl) (i_rng1 B.range (a1 (e_op o_add (e_cb c_len B.len PySem.boot_len (a1 (e_v 3))) e_i)))
      (fun pins C s3 H3 fp => ⟨(g_n 0 nd1), .inl ⟨rfl, rfl⟩, e_b⟩)) a0))))
        (b_one (s_asg e_b (g_sub (e_v 7) (e_op o_mod (e_fn FM hr (ac (e_v 5) (a1 e_i))) (e_cb c_len B.len PySem.boot_len (a1 (e_v 7)))) w_list))))))
      (b_cons (s_setc 8 sc_law.nd (Nc := ["_law_row_here", "_law_grid_here", "_law_known"]) (js := [none, some 3, some 4]) (g := (gName 0)) (tt := tYes) (te := (tTup (tCons (tVar 0) (tCons (tCall spSpan [] E0 (tCons (tVar 1) (tCons (tDGet (tVar 2) (tVar 0)) tNil))) tNil))))
      (comp_mk rfl rfl rfl rfl (fun x c h => by simp at h; rcases h with ⟨rfl, rfl⟩ | ⟨rfl, rfl⟩ <;> rfl) rfl rfl rfl) (i_list (e_cb c_sortT B.sorted PyProof.Rows.boot_sorted (a1 (e_keys (e_v 4)))))
      (fun pins C s3 H3 fp => ⟨(g_n 0 nd3), .inl ⟨rfl, rfl⟩, (e_tup (ac (e_v 0) (a1 (e_fn FP hr (ac (e_v 1) (a1 (e_dget hr (e_v 2) (e_v 0))))))))⟩))
      (b_cons (s_for (i_rng1 B.range (a1 (e_cb c_len B.len PySem.boot_len (a1 (e_v 3))))) (g_n 9 sc_law.nd)
        (b_one (s_if (JW.jt (w_or (t_not (t_val (e_fn FA hr (ac (e_v 8) (ac (e_v 4) (ac (e_ix x_list (e_v 3) (e_v 9)) (a1 (e_op o_add (e_v 9) e_i)))))))) (w_or1 (t_not (t_val (e_fn FA hr (ac (e_v 8) (ac (e_v 4) (ac (e_op o_sub (e_ix x_list (e_v 3) (e_v 9)) e_i) (a1 (e_v 9))))))))))) (b_one (s_ret e_b)) b_nil)))
      (b_cons (s_if (JW.jt (w_or (t_not (t_val (e_fn FA hr (ac (e_v 8) (ac (e_v 4) (ac (e_un o_neg (e_op o_sub (e_op o_pow e_i e_i) e_i)) (a1 e_i))))))) (w_or1 (t_not (t_val (e_fn FA hr (ac (e_v 8) (ac (e_v 4) (ac (e_op o_sub (e_op o_pow e_i e_i) e_i) (a1 (e_cb c_len B.len PySem.boot_len (a1 (e_v 3))))))))))))) (b_one (s_ret e_b)) b_nil)
      (b_cons (s_set 10 sc_law.nd (e_lst a0))
      (b_cons (s_for (i_rng1 B.range (a1 (e_cb c_len B.len PySem.boot_len (a1 (e_v 3))))) (g_n 9 sc_law.nd)
        (b_one (s_if (t_cmp (o_neD hr) (e_comp (Nc := ["_law_row_here", "_law_k", "_law_known"]) (js := [none, some 9, some 4]) (g := (gName 0)) (tt := (tTest (tOp rNe (tOp (rIxL K) (tDGet (tVar 2) (tVar 0)) (tVar 1)) (tOp (rIxL K) (tDGet (tVar 2) (tVar 0)) (tOp (rI0 fun i j => .int (i + j)) (tVar 1) (tC (.int 1))))))) (te := (tVar 0))
      (comp_mk rfl rfl rfl rfl (fun x c h => by simp at h; rcases h with ⟨rfl, rfl⟩ | ⟨rfl, rfl⟩ <;> rfl) rfl rfl rfl) (i_keysR (e_keys (e_v 4)))
      (fun pins C s3 H3 fp => ⟨(g_n 0 nd4), .inr ⟨_, rfl, (t_cmp o_ne (e_ix x_list (e_dget hr (e_v 2) (e_v 0)) (e_v 1)) (e_ix x_list (e_dget hr (e_v 2) (e_v 0)) (e_op o_add (e_v 1) e_i)))⟩, (e_v 0)⟩)) (e_lst a0)) (b_one (s_app (e_v 10) (e_ix x_list (e_v 3) (e_v 9)))) b_nil)))
      (b_cons (s_set 11 sc_law.nd (e_fn FS hr (a1 (e_v 8))))
      (b_cons (s_if (JW.jt (w_or (t_not (t_val (e_cb c_isI B.isinstance PyProof.Rows.boot_isinstance (ac (e_v 11) (a1 (e_ty B.list PyProof.Rows.boot_list)))))) (w_or1 (t_cmp (o_neD hr) (e_v 11) (e_v 10))))) (b_one (s_ret e_b)) b_nil)
      (b_cons (s_app (e_v 11) e_n)
      (b_cons (s_setc 12 sc_law.nd (Nc := ["_law_row_here", "_law_grid_here", "_law_known"]) (js := [none, some 3, some 4]) (g := (gName 0)) (tt := tYes) (te := (tTup (tCons (tVar 0) (tCons (tCall spSpan [] E0 (tCons (tVar 1) (tCons (tDGet (tVar 2) (tVar 0)) tNil))) tNil))))
      (comp_mk rfl rfl rfl rfl (fun x c h => by simp at h; rcases h with ⟨rfl, rfl⟩ | ⟨rfl, rfl⟩ <;> rfl) rfl rfl rfl) (i_list (e_cb c_sortT B.sorted PyProof.Rows.boot_sorted (a1 (e_keys (e_v 4)))))
      (fun pins C s3 H3 fp => ⟨(g_n 0 nd3), .inl ⟨rfl, rfl⟩, (e_tup (ac (e_v 0) (a1 (e_fn FP hr (ac (e_v 1) (a1 (e_dget hr (e_v 2) (e_v 0))))))))⟩))
      (b_one (s_ret (e_and (e_cmp (o_eqD hr) (e_v 8) (e_v 12)) (e_one (e_cmp (o_eqD hr) (e_fn FS hr (a1 (e_v 8))) (e_v 10)))))))))))))))))))), ?_⟩
    -- cells
    refine ⟨_, rfl, 63, rfl, a, _, rfl, hS, fun pc hpc => ?_⟩
    have e63 : cutV (ns.map V.int) none (some 63) = (ns.take 63).map V.int := cut_ints ns 63
    rw [e63]
    have s1 : Same H (upd H pc (.lst ((ns.take 63).map V.int))) := (Same.refl H).upd hpc
    have c63 : (ns.take 63).length ≤ 63 := by rw [List.length_take]; omega
    generalize ns.take 63 = cs at s1 c63 ⊢
    have hc1 : upd H pc (.lst (cs.map V.int)) pc = some (.lst (cs.map V.int)) := upd_same
    generalize upd H pc (.lst (cs.map V.int)) = H1 at s1 hc1 ⊢
    -- drawn, grid
    refine ⟨_, rfl, pc, cs, rfl, SqL.of hc1, ?_⟩
    refine ⟨_, rfl, _, rfl, fun pg H2 g sm2 hpg hg inc g2 g39 gb => ?_⟩
    have hc2 := sm2 _ _ hc1
    have en : (((g.map V.int).length : Int) + 1).toNat = g.length + 1 := by rw [List.length_map]; omega
    have litC : ∀ (H2 : Hp) (Q' : VK) (D : Addr), H2 D = none → (∀ H3, Same H2 H3 → H3 D = some (.lst ((List.replicate (g.length + 1) false).map V.bl)) → Q' (.ref D) H3) → CompW (Itr 0 (((g.map V.int).length : Int) + 1).toNat) (gName 0) tYes (tC (.bl false)) D Q' [none] (upd H2 D (.lst [])) := by
      intro H2 Q' D hD hq
      rw [en]
      refine comp_range (n := g.length + 1) (fun i σ H3 => ∃ o, σ = [o] ∧ Same H2 H3 ∧ H3 D = some (.lst (List.replicate i (V.bl false)))) ⟨none, rfl, (Same.refl _).upd hD, upd_same⟩ ?_ ?_
      · rintro i σ H3 hi ⟨o, rfl, sm, h3⟩
        refine ⟨_, h3, small1000 (by rw [List.length_replicate]; omega), _, rfl, sm.upd hD, ?_⟩
        rw [upd_same, List.replicate_succ']
      · rintro σ H3 ⟨o, rfl, sm3, hl3⟩
        rw [rep_bl] at hl3
        exact hq H3 sm3 hl3
    -- known
    refine fun pd hpd => ?_
    have kn0 : KnI H2 (upd H2 pd (.dT [])) pd g.length [] := ⟨upd_same, .nil, (fun q h => nomatch h), (fun q h => nomatch h), .nil, (fun q h => nomatch h), (fun q h => nomatch h), (Same.refl H2).upd hpd, hpd⟩
    refine ⟨_, rfl, pc, rfl, ⟨_, SqL.of (kn0.same _ _ hc2)⟩, for_list (K := K) (a := pc) (xs := cs.map V.int) (fun i σ H' => ∃ (kn : Kn) (dr : Int) (o5 o6 o7 : Option V), σ = [some (.ref a), some (.ref pc), some (.int dr), some (.ref pg), some (.ref pd), o5, o6, o7, none, none, none, none, none] ∧ KnI H2 H' pd g.length kn ∧ kn.length ≤ i)
      ⟨[], _, none, none, none, rfl, kn0, Nat.le_refl _⟩ (fun i σ H' _ ⟨_, _, _, _, _, _, h, _⟩ => SqL.of (h.same _ _ hc2)) ?_ ?_⟩
    · rintro i x σ H' hx ⟨kn, dr, o5, o6, o7, rfl, I, hkl⟩
      obtain ⟨c, rfl⟩ := at_int hx
      have hi : i < cs.length := by simpa using (List.getElem?_eq_some_iff.mp hx).1
      refine ⟨_, rfl, _, rfl, c, 50, rfl, by decide, by decide, fun r1 hr1 => ⟨_, _, rfl, rfl, pz, dr, _, rfl, fun t H3 row s3 ht h3 ne => ?_⟩⟩
      have I3 := I.sm s3
      have hg3 := I3.same _ _ hg
      refine ⟨_, rfl, .inr (.inr (.inl ⟨rfl, .inr ⟨_, I3.at'⟩⟩)), _, rfl, _, rfl, pg, _, rfl, .inl (SqL.of hg3), _, _, rfl, rfl, _, rfl, by rw [List.length_map]; omega, by rw [List.length_map]; omega, fun D hD => litC H3 _ D hD fun H4 s4 h4 => ?_⟩
      have I4 := I3.sm s4
      -- the store, at whatever list
      have store : ∀ (H5 : Hp) (kn5 : Kn) (q : List Int × Addr × List Bool), KnI H2 H5 pd g.length kn5 → q ∈ kn5 → kn5.length ≤ i + 1 → ∀ (E' : Ends), (∀ σ H', (∃ (kn : Kn) (dr : Int) (o5 o6 o7 : Option V), σ = [some (.ref a), some (.ref pc), some (.int dr), some (.ref pg), some (.ref pd), o5, o6, o7, none, none, none, none, none] ∧ KnI H2 H' pd g.length kn ∧ kn.length ≤ i + 1) → E'.nx σ H') →
          tAsg (tC (.bl true)) (gSub (tVar 7) (tOp (rI (fun _ j => 0 < j) fun i j => .int (i % j)) (tCall spMix [] E0 (tCons (tVar 5) (tCons (tC (.int 51)) tNil))) (tCB (fun xs H Q => ∃ p ys, xs = [.ref p] ∧ (SqL K H p ys ∨ SqT K H p ys) ∧ Q (.int ys.length) H) (tCons (tVar 7) tNil))) rSetL) E' [some (.ref a), some (.ref pc), some (.int dr), some (.ref pg), some (.ref pd), some (.int c), some (.ref t), some (.ref q.2.1), none, none, none, none, none] H5 := by
        intro H5 kn5 q I5 hq hk5 E' nx
        have hl := I5.lit q hq
        have ll := I5.len q hq
        refine ⟨_, rfl, _, rfl, c, 51, rfl, by decide, by decide, fun r2 hr2 => ?_⟩
        have pos0 : (0 : Int) < ((q.2.2.map V.bl).length : Int) := by rw [List.length_map, ll]; omega
        have h1 := Int.emod_nonneg r2 (show ((q.2.2.map V.bl).length : Int) ≠ 0 by omega)
        have h2 := Int.emod_lt_of_pos r2 pos0
        refine ⟨_, rfl, q.2.1, _, rfl, .inl (SqL.of hl), _, _, rfl, rfl, pos0, q.2.1, _, _, (r2 % ((q.2.2.map V.bl).length : Int)).toNat, rfl, rfl, hl, ?_, ?_⟩
        · unfold ixN
          rw [if_pos h1, if_pos h2]
        · rw [← List.map_set (f := V.bl) (a := true)]
          exact nx _ _ ⟨_, dr, _, _, _, rfl, I5.set hq _, by rw [kn_set_mem]; exact hk5⟩
      have lk : (knKvs kn).length < sizeLine := by unfold knKvs; rw [List.length_map]; exact small1000 (by omega)
      have htup : H4 t = some (.tup ((row.map Sum.inl : List Key).map kV)) := by rw [kV_ints]; exact s4 _ _ h3
      refine ⟨pd, t, .ref D, knKvs kn, row.map Sum.inl, rfl, rfl, I4.at', htup, lk, ?_⟩
      by_cases hr' : row ∈ kn.map (·.1)
      · obtain ⟨q, hq, rfl⟩ := List.mem_map.mp hr'
        rw [kn_val I4.nd hq]
        exact store H4 kn q I4 hq (by omega) _ fun σ H' h => h
      · rw [kn_none hr']
        have fD : H2 D = none := I3.same.free hD
        have nD : D ∉ kn.map (·.2.1) := fun z => by
          obtain ⟨q, hq, e⟩ := List.mem_map.mp z
          have := I3.lit q hq
          rw [e, hD] at this
          cases this
        exact store _ _ (row, D, List.replicate (g.length + 1) false) (I4.add hr' ne h4 List.length_replicate fD nD) (List.mem_append_right _ (by simp)) (by rw [List.length_append, List.length_singleton]; omega) _ fun σ H' h => h
    rintro σ H3 ⟨kn, dr, o5, o6, o7, rfl, I3, hkl⟩
    have kn64 : kn.length < 64 := by rw [List.length_map] at hkl; omega
    have lk : (knKvs kn).length < 64 := by unfold knKvs; rw [List.length_map]; exact kn64
    have klen := I3.len
    -- the sheet, made anew
    have sheetC : ∀ (H0 : Hp) (s0 s1 s2 s5 s6 s7 s8 s9 s10 s11 s12 : Option V) (Q' : VK), KnownAt H0 pd kn → H0 pg = some (.lst (g.map V.int)) →
        (∀ (D : Addr) (H' : Hp) (es : List (List Int × List Stt)), Same H0 H' → H0 D = none → SheetAt H' D es → (es.map (·.1)).Perm (kn.map (·.1)) → ((es.map (·.1)).Pairwise fun a b => lexI b a = false) → (∀ e ∈ es, GoodE kn g e) → Q' (.ref D) H') →
        tComp [none, some 3, some 4] (iList K (tCB rSortT (tCons (tKeys (tVar 4)) tNil))) (gName 0) tYes (tTup (tCons (tVar 0) (tCons (tCall spSpan [] E0 (tCons (tVar 1) (tCons (tDGet (tVar 2) (tVar 0)) tNil))) tNil))) [s0, s1, s2, some (.ref pg), some (.ref pd), s5, s6, s7, s8, s9, s10, s11, s12] H0 Q' := by
      intro H0 s0 s1 s2 s5 s6 s7 s8 s9 s10 s11 s12 Q' hk hg0 fin
      refine ⟨_, rfl, pd, _, rfl, hk.at', fun v hv => ?_⟩
      have t2 : Same H0 (upd H0 v (vwO v pd)) := (Same.refl H0).upd hv
      have u2 : upd H0 v (vwO v pd) v = some (vwO v pd) := upd_same
      generalize upd H0 v (vwO v pd) = Ha at t2 u2 ⊢
      have hka := hk.same t2
      refine ⟨v, pd, _, _, rfl, hka.tdict, .inr u2, lk, fun D2 ys2 ks' hD2 p2 pm2 pw2 => ?_⟩
      have t3 : Same Ha (upd Ha D2 (.lst ys2)) := (Same.refl Ha).upd hD2
      have u3 : upd Ha D2 (.lst ys2) D2 = some (.lst ys2) := upd_same
      have p3 := rows_same t3 p2
      generalize upd Ha D2 (.lst ys2) = Hb at t3 u3 p3 ⊢
      have t03 := t2.trans t3
      have hkb := hka.same t3
      have hgb := t03 _ _ hg0
      have ly2 : ys2.length = ks'.length := Paired.length p3
      have lks : ks'.length < 64 := by rw [pm2.length_eq, List.length_map]; exact kn64
      refine ⟨D2, rfl, ⟨_, SqL.of u3⟩, fun D3 hD3 => ?_⟩
      refine comp_list (K := K) (a := D2) (xs := ys2) (fun i _ σ H4 => ∃ (o : Option V) (xs : List V) (es : List (List Int × List Stt)), σ = [o, some (.ref pg), some (.ref pd)] ∧ Same Hb H4 ∧ H4 D3 = some (.lst xs) ∧ Paired (EntX H4 D3) xs es ∧ es.map (·.1) = ks'.take i ∧ ∀ e ∈ es, GoodE kn g e)
        ⟨none, [], [], rfl, (Same.refl Hb).upd hD3, upd_same, .nil, rfl, fun e h => nomatch h⟩ (fun i _ σ H4 _ ⟨_, _, _, _, sm, _⟩ => SqL.of (sm _ _ u3)) ?_ ?_
      · rintro i x _ σ H4 hx ⟨o, xs, es, rfl, sm, h4, pr, em, good⟩
        obtain ⟨row, er, t, rfl, ht⟩ := paired_at p3 hx
        have hrow : row ∈ kn.map (·.1) := pm2.mem_iff.mp (List.mem_of_getElem? er)
        obtain ⟨q, hq, rfl⟩ := List.mem_map.mp hrow
        have hk4 := hkb.same sm
        have hv := kn_val hk4.nd hq
        have ht4 : H4 t = some (.tup ((q.1.map Sum.inl : List Key).map kV)) := by rw [kV_ints]; exact sm _ _ ht
        refine ⟨_, rfl, _, rfl, _, rfl, _, rfl, pd, _, rfl, .inr ⟨_, _, t, hk4.at', rfl, ht4, hv.symm⟩, pg, q.2.1, g, q.2.2, rfl, sm _ _ hgb, hk4.lit q hq, inc, klen q hq, g39, fun r H5 zs s5 hr5 hspan lz can eqz => ⟨by show 2 ≤ sizeLine; decide, fun u hu => ?_⟩⟩
        have s6 : Same H5 (upd H5 u (.tup [.ref t, .ref r])) := (Same.refl H5).upd hu
        have u6 : upd H5 u (.tup [.ref t, .ref r]) u = some (.tup [.ref t, .ref r]) := upd_same
        generalize upd H5 u (.tup [.ref t, .ref r]) = H6 at s6 u6 ⊢
        have s46 := s5.trans s6
        have h6 := s46 _ _ h4
        have lx : xs.length = es.length := Paired.length pr
        have le : es.length = (ks'.take i).length := by rw [← em, List.length_map]
        rw [List.length_take] at le
        have nr : r ≠ D3 := fun z => by rw [z, h4] at hr5; cases hr5
        refine ⟨xs, h6, small1000 (by omega), [], _, xs ++ [.ref u], es ++ [(q.1, zs)], rfl, (sm.trans s46).upd hD3, upd_same, ?_, by rw [List.map_append, em, take_snoc er]; rfl, fun e he => ?_⟩
        · refine paired_snoc (R := EntX (upd H6 D3 (.lst (xs ++ [.ref u]))) D3) (EntX.wr (e := (q.1, zs)) (no_tup h6) ⟨u, t, r, rfl, u6, (sm.trans s46) _ _ ht, hspan.same s6, nr⟩) (Paired.mapP pr fun _ _ z => (z.same s46).wr (no_tup h6))
        · rcases List.mem_append.mp he with z | z
          · exact good e z
          · rw [List.mem_singleton.mp z]; exact ⟨q, hq, rfl, can, lz, eqz⟩
      · rintro _ σ H4 ⟨o, xs, es, rfl, sm, h4, pr, em, good⟩
        rw [ly2, List.take_length] at em
        exact fin D3 H4 es (t03.trans sm) (t03.free hD3) ⟨xs, h4, Paired.mapP pr fun _ _ z => z.ent⟩ (by rw [em]; exact pm2) (by rw [em]; exact pw2) good
    refine sheetC H3 _ _ _ _ _ _ _ _ _ _ _ _ I3.known (I3.same _ _ hg) fun ps H4 es s4 hps hsh pm pw good => ?_
    have kn4 := I3.known.same s4
    have hg4 := s4 _ _ (I3.same _ _ hg)
    have few : ∀ e ∈ es, e.2.length < 1000 := fun e he => by obtain ⟨q, _, _, _, l, _⟩ := good e he; omega
    have atB : ∀ (m : Int) (k : Nat), piece g m = k → ∀ e ∈ es, inSpan m e.2 = bitOf kn k e.1 := fun m k hp e he => by
      obtain ⟨q, hq, e1, _, _, e2⟩ := good e he
      rw [e2 m, hp, ← e1, bit_at kn4.nd hq]
    have atL : ∀ k : Nat, k ≤ g.length → ∀ q ∈ kn, k < q.2.2.length := fun k hk q hq => by rw [klen q hq]; omega
    have en2 : (((g.map V.int).length : Int)).toNat = g.length := by rw [List.length_map]; omega
    -- at each point of the grid
    refine ⟨_, rfl, pg, _, rfl, .inl (SqL.of hg4), _, rfl, by rw [List.length_map]; omega, by rw [List.length_map]; omega, ?_⟩
    rw [en2]
    refine for_range (n := g.length) (fun i σ H' => ∃ (o5 o6 o7 o9 : Option V), σ = [some (.ref a), some (.ref pc), some (.int dr), some (.ref pg), some (.ref pd), o5, o6, o7, some (.ref ps), o9, none, none, none] ∧ Same H4 H') ⟨_, _, _, none, rfl, Same.refl _⟩ ?_ ?_
    · rintro i σ H' hi ⟨o5, o6, o7, o9, rfl, sm⟩
      have hgi : g[i]? = some g[i] := by simp [hi]
      have e0 : (0 : Int) + (i : Int) = ((i : Nat) : Int) := by omega
      have e1 : (0 : Int) + (i : Int) + 1 = ((i + 1 : Nat) : Int) := by omega
      have hat : atI (g.map V.int) (0 + (i : Int)) = some (.int g[i]) := by rw [e0]; exact atI_nat (by simp [hi])
      refine ⟨_, rfl, _, rfl, _, rfl, _, rfl, pg, _, _, .int g[i], rfl, rfl, SqL.of (sm _ _ hg4), hat, _, rfl, _, _, rfl, rfl, ?_⟩
      refine ⟨ps, pd, g[i], i + 1, es, kn, congrArg (fun z => [V.ref ps, V.ref pd, V.int g[i], V.int z]) e1, hsh.same sm, kn4.same sm, kn64, few, atL _ (by omega), pm, pw, atB _ _ (piece_at inc hgi), fun H'' s2 => ⟨_, rfl, iteF ?_⟩⟩
      have sm2' := sm.trans s2
      refine ⟨_, rfl, _, rfl, _, rfl, _, rfl, pg, _, _, .int g[i], rfl, rfl, SqL.of (sm2' _ _ hg4), hat, _, _, rfl, rfl, _, rfl, ?_⟩
      exact ⟨ps, pd, g[i] - 1, i, es, kn, congrArg (fun z => [V.ref ps, V.ref pd, V.int (g[i] - 1), V.int z]) e0, hsh.same sm2', kn4.same sm2', kn64, few, atL _ (by omega), pm, pw, atB _ _ (piece_ahead inc hgi), fun H3' s3 => ⟨_, rfl, iteF ⟨_, _, _, _, rfl, sm2'.trans s3⟩⟩⟩
    rintro σ H5 ⟨o5, o6, o7, o9, rfl, sm5⟩
    -- at the far ends
    have z0 : piece g (-(10 ^ (60 : Int).toNat - 1)) = 0 := piece_zero fun x hx => (gb x hx).1
    have z1 : piece g (10 ^ (60 : Int).toNat - 1) = g.length := piece_full fun x hx => Int.le_of_lt (gb x hx).2
    refine ⟨_, rfl, _, rfl, _, _, rfl, rfl, ⟨by decide, by decide, by decide⟩, _, _, rfl, rfl, _, rfl, ?_⟩
    refine ⟨ps, pd, _, 0, es, kn, rfl, hsh.same sm5, kn4.same sm5, kn64, few, atL _ (by omega), pm, pw, atB _ _ z0, fun H6 s6 => ⟨_, rfl, iteF ?_⟩⟩
    have sm6 := sm5.trans s6
    refine ⟨_, rfl, _, rfl, _, _, rfl, rfl, ⟨by decide, by decide, by decide⟩, _, _, rfl, rfl, _, rfl, pg, _, rfl, .inl (SqL.of (sm6 _ _ hg4)), ?_⟩
    refine ⟨ps, pd, _, g.length, es, kn, congrArg (fun z : Nat => [V.ref ps, V.ref pd, V.int (10 ^ (60 : Int).toNat - 1), V.int (z : Int)]) (List.length_map (f := V.int) (as := g)), hsh.same sm6, kn4.same sm6, kn64, few, atL _ (Nat.le_refl _), pm, pw, atB _ _ z1, fun H7 s7 => ⟨_, rfl, iteF ?_⟩⟩
    have sm7 := sm6.trans s7
    -- due
    refine ⟨Nat.zero_le _, fun pu hpu => ?_⟩
    have s8 : Same H7 (upd H7 pu (.lst [])) := (Same.refl H7).upd hpu
    have u8 : upd H7 pu (.lst []) pu = some (.lst []) := upd_same
    generalize upd H7 pu (.lst []) = H8 at s8 u8 ⊢
    have sm8 := sm7.trans s8
    refine ⟨_, rfl, pg, _, rfl, .inl (SqL.of (sm8 _ _ hg4)), _, rfl, by rw [List.length_map]; omega, by rw [List.length_map]; omega, ?_⟩
    rw [en2]
    have npg : pg ≠ pu := ne_of_none (sm7 _ _ hg4) hpu
    have nlit : ∀ q ∈ kn, q.2.1 ≠ pu := fun q hq => ne_of_none ((kn4.same sm7).lit q hq) hpu
    have npd : pd ≠ pu := fun z => by
      rcases (kn4.same sm7).at' with y | ⟨w, y⟩ <;> rw [z, hpu] at y <;> cases y
    have kkeys : (knKvs kn).map (·.1) = (kn.map (·.1)).map (·.map Sum.inl) := kn4.tdict.keys
    refine for_range (n := g.length) (fun i σ H' => ∃ (o5 o6 o7 o9 : Option V), σ = [some (.ref a), some (.ref pc), some (.int dr), some (.ref pg), some (.ref pd), o5, o6, o7, some (.ref ps), o9, some (.ref pu), none, none] ∧ SheetX H' ps pu es ∧ KnownAt H' pd kn ∧ H' pg = some (.lst (g.map V.int)) ∧
        H' pu = some (.lst ((dueL g (fun k => kn.any fun q => (q.2.2[k]?).getD false != (q.2.2[k + 1]?).getD false) i).map V.int))) ⟨_, _, _, _, rfl, (SheetX.of (hsh.same sm7) hpu).sm s8, kn4.same sm8, sm8 _ _ hg4, u8⟩ ?_ ?_
    · rintro i σ H' hi ⟨o5, o6, o7, o9, rfl, hs', hk', hg', hu'⟩
      have e0 : (0 : Int) + (i : Int) = ((i : Nat) : Int) := by omega
      have e1 : (0 : Int) + (i : Int) + 1 = ((i + 1 : Nat) : Int) := by omega
      refine ⟨_, rfl, pd, _, rfl, hk'.at', fun v hv => ?_⟩
      have t1 : Same H' (upd H' v (vwO v pd)) := (Same.refl H').upd hv
      have uv : upd H' v (vwO v pd) v = some (vwO v pd) := upd_same
      generalize upd H' v (vwO v pd) = Hv at t1 uv ⊢
      have hkv := hk'.same t1
      refine ⟨v, pd, knKvs kn, rfl, .inr uv, hkv.at', fun o H5 hf off D hD => ?_⟩
      have fl : ∀ b xs, Hv b = some (.lst xs) → H5 b = some (.lst xs) := fun b xs e => by rw [off b (rd_ne_lst hkv.at' e)]; exact e
      have ft : ∀ b xs, Hv b = some (.tup xs) → H5 b = some (.tup xs) := fun b xs e => by rw [off b (rd_ne_tup hkv.at' e)]; exact e
      have hs5 : SheetX H5 ps pu es := (hs'.sm t1).off fl ft
      have hk5 : KnownAt H5 pd kn := ⟨.inr ⟨o, hf⟩, hkv.nd, hkv.ne, fun q hq => fl _ _ (hkv.lit q hq)⟩
      have hg5 := fl _ _ (t1 _ _ hg')
      have hu5 := fl _ _ (t1 _ _ hu')
      refine comp_keys kkeys (fun j σ H6 => ∃ (o : Option V) (ys : List V), σ = [o, some (.int (0 + (i : Int))), some (.ref pd)] ∧ Same H5 H6 ∧ H6 D = some (.lst ys) ∧ Paired (RowAt H6) ys (((kn.map (·.1)).take j).filter fun r => bitOf kn i r != bitOf kn (i + 1) r))
        ⟨none, [], rfl, (Same.refl H5).upd hD, upd_same, .nil⟩ (fun j σ H6 _ ⟨_, _, _, sm, _⟩ => sm _ _ hf) ?_ ?_
      · rintro j x row σ H6 er ⟨t, rfl, ht⟩ ⟨o', ys, rfl, sm, h6, pr⟩
        obtain ⟨q, hq, rfl⟩ := List.mem_map.mp (List.mem_of_getElem? er)
        have hk6 := hk5.same sm
        have hv6 := kn_val hk6.nd hq
        have ht6 : H6 t = some (.tup ((q.1.map Sum.inl : List Key).map kV)) := by rw [kV_ints]; exact ht
        have ll := klen q hq
        have l0 : i < q.2.2.length := by omega
        have l1 : i + 1 < q.2.2.length := by omega
        have b0 : bitOf kn i q.1 = q.2.2[i] := (bit_at hk6.nd hq i).trans (by simp [l0])
        have b1 : bitOf kn (i + 1) q.1 = q.2.2[i + 1] := (bit_at hk6.nd hq (i + 1)).trans (by simp [l1])
        refine ⟨_, rfl, _, rfl, pd, _, rfl, .inr ⟨_, _, t, hk6.at', rfl, ht6, hv6.symm⟩, _, rfl, q.2.1, _, _, .bl q.2.2[i], rfl, rfl, SqL.of (hk6.lit q hq), (by rw [e0]; exact atI_nat (by simp [l0])), _, rfl, _, rfl, pd, _, rfl, .inr ⟨_, _, t, hk6.at', rfl, ht6, hv6.symm⟩, _, rfl, _, _, rfl, rfl, q.2.1, _, _, .bl q.2.2[i + 1], rfl, rfl, SqL.of (hk6.lit q hq), (by rw [e1]; exact atI_nat (by simp [l1])), rfl, _, rfl, ?_⟩
        rw [dB]
        have lf : (((kn.map (·.1)).take j).filter fun r => bitOf kn i r != bitOf kn (i + 1) r).length ≤ 64 := by
          have := List.length_filter_le (fun r => bitOf kn i r != bitOf kn (i + 1) r) ((kn.map (·.1)).take j)
          rw [List.length_take, List.length_map] at this
          omega
        have ly := Paired.length pr
        by_cases hb : q.2.2[i] = q.2.2[i + 1]
        · rw [decide_eq_true hb]
          refine iteF ⟨_, ys, rfl, sm, h6, ?_⟩
          rw [take_snoc er, List.filter_append]
          have : (bitOf kn i q.1 != bitOf kn (i + 1) q.1) = false := by rw [b0, b1, hb]; simp
          simp only [List.filter_cons, this, Bool.false_eq_true, if_false, List.filter_nil, List.append_nil]
          exact pr
        · rw [decide_eq_false hb]
          refine iteT ⟨_, rfl, ys, h6, small1000 (by omega), _, ys ++ [.ref t], rfl, sm.upd hD, upd_same, ?_⟩
          rw [take_snoc er, List.filter_append]
          have : (bitOf kn i q.1 != bitOf kn (i + 1) q.1) = true := by rw [b0, b1]; simpa using hb
          simp only [List.filter_cons, this, if_true, List.filter_nil]
          refine paired_snoc (R := RowAt (upd H6 D (.lst (ys ++ [.ref t])))) ⟨t, rfl, ?_⟩ (rows_wr (no_tup h6) pr)
          rw [upd_ne (fun z => by rw [z, h6] at ht; cases ht)]
          exact ht
      · rintro σ H6 ⟨o', ys, rfl, sm, h6, pr⟩
        rw [List.take_of_length_le (by rw [List.length_map]; exact Nat.le_refl _)] at pr
        refine ⟨Nat.zero_le _, fun e1' he1 => ?_⟩
        have s9 : Same H6 (upd H6 e1' (.lst [])) := (Same.refl H6).upd he1
        have u9 : upd H6 e1' (.lst []) e1' = some (.lst []) := upd_same
        generalize upd H6 e1' (.lst []) = H9 at s9 u9 ⊢
        have s59 := sm.trans s9
        refine ⟨_, _, .lst (SqL.of (s9 _ _ h6)) (rows_den (rows_same s9 pr)), .lst (SqL.of u9) (rows_den (rs := []) .nil), shaped_rows _, shaped_rows [], _, rfl, ?_⟩
        rw [eqv_rowsL]
        have hdl := dueL_len (g := g) (turn := fun k => kn.any fun q => (q.2.2[k]?).getD false != (q.2.2[k + 1]?).getD false) i
        by_cases ht : (kn.any fun q => (q.2.2[i]?).getD false != (q.2.2[i + 1]?).getD false) = true
        · have ne : ((kn.map (·.1)).filter fun r => bitOf kn i r != bitOf kn (i + 1) r) ≠ [] := by
            obtain ⟨q, hq, hb⟩ := List.any_eq_true.mp ht
            refine List.ne_nil_of_mem (a := q.1) (List.mem_filter.mpr ⟨List.mem_map_of_mem hq, ?_⟩)
            rw [bit_at hk5.nd hq, bit_at hk5.nd hq]
            exact hb
          rw [decide_eq_false ne]
          refine iteT ⟨_, rfl, .inl ⟨rfl, _, SqL.of (s59 _ _ hu5)⟩, _, rfl, _, rfl, pg, _, _, .int g[i], rfl, rfl, SqL.of (s59 _ _ hg5), (by rw [e0]; exact atI_nat (by simp [hi])), pu, _, _, rfl, rfl, s59 _ _ hu5, small1000 (by rw [List.length_map]; omega), ?_⟩
          have hk9 := hk5.same s59
          refine ⟨_, _, _, _, rfl, (hs5.sm s59).wr (no_tup (s59 _ _ hu5)), ⟨?_, hk9.nd, hk9.ne, fun q hq => ?_⟩, by rw [upd_ne npg]; exact s59 _ _ hg5, ?_⟩
          · rcases hk9.at' with z | ⟨w, z⟩
            · exact .inl (by rw [upd_ne npd]; exact z)
            · exact .inr ⟨w, by rw [upd_ne npd]; exact z⟩
          · rw [upd_ne (nlit q hq)]; exact hk9.lit q hq
          · rw [upd_same, dueL, if_pos ht]
            simp [hi]
        · have em : ((kn.map (·.1)).filter fun r => bitOf kn i r != bitOf kn (i + 1) r) = [] := by
            refine List.filter_eq_nil_iff.mpr fun r hr => ?_
            obtain ⟨q, hq, rfl⟩ := List.mem_map.mp hr
            rw [bit_at hk5.nd hq, bit_at hk5.nd hq]
            intro z
            exact ht (List.any_eq_true.mpr ⟨q, hq, z⟩)
          rw [decide_eq_true em]
          refine iteF ⟨_, _, _, _, rfl, hs5.sm s59, hk5.same s59, s59 _ _ hg5, ?_⟩
          rw [s59 _ _ hu5, dueL, if_neg ht, List.append_nil]
    rintro σ H9 ⟨o5, o6, o7, o9, rfl, hs9, hk9, hg9, hu9⟩
    have les : es.length ≤ 63 := by have := pm.length_eq; rw [List.length_map, List.length_map] at this; omega
    have few50 : ∀ e ∈ es, e.2.length ≤ 50 := fun e he => by obtain ⟨q, _, _, _, l, _⟩ := good e he; exact l
    have sub : ∀ e ∈ es, ∀ x ∈ bnds e.2, x ∈ g := fun e he x hx => by
      obtain ⟨q, _, _, c, _, eq⟩ := good e he
      exact bnds_grid c (φ := fun k => (q.2.2[k]?).getD false) eq x hx
    have mem : ∀ x, (∃ e ∈ es, x ∈ bnds e.2) ↔ x ∈ dueL g (fun k => kn.any fun q => (q.2.2[k]?).getD false != (q.2.2[k + 1]?).getD false) g.length := fun x => by
      rw [dueL_mem (Nat.le_refl _)]
      constructor
      · rintro ⟨e, he, hx⟩
        obtain ⟨q, hq, _, c, _, eq⟩ := good e he
        obtain ⟨k, k1, k2⟩ := (bnd_iff inc c eq x).mp hx
        exact ⟨k, (List.getElem?_eq_some_iff.mp k1).1, List.any_eq_true.mpr ⟨q, hq, by simpa using k2⟩, k1⟩
      · rintro ⟨k, k1, k2, k3⟩
        obtain ⟨q, hq, hb⟩ := List.any_eq_true.mp k2
        obtain ⟨e, he, ee⟩ := List.mem_map.mp (pm.mem_iff.mpr (List.mem_map_of_mem hq))
        obtain ⟨q', hq', e1, c, _, eq⟩ := good e he
        refine ⟨e, he, (bnd_iff inc c eq x).mpr ⟨k, k3, ?_⟩⟩
        have b1 : ∀ j, (q'.2.2[j]?).getD false = (q.2.2[j]?).getD false := fun j => by rw [← bit_at kn4.nd hq', ← bit_at kn4.nd hq, e1, ee]
        rw [b1, b1]
        simpa using hb
    -- found
    refine ⟨_, rfl, ps, es, g, rfl, hs9.at', les, few50, by omega, sub, fun pf H10 bs s10 hpf hbs incb memb => ?_⟩
    obtain rfl : bs = dueL g (fun k => kn.any fun q => (q.2.2[k]?).getD false != (q.2.2[k + 1]?).getD false) g.length := inc_ext incb (dueL_inc inc (Nat.le_refl _)) fun x => (memb x).trans (mem x)
    have hdl := dueL_len (g := g) (turn := fun k => kn.any fun q => (q.2.2[k]?).getD false != (q.2.2[k + 1]?).getD false) g.length
    refine ⟨_, rfl, _, _, _, _, rfl, .lst hbs, kit_same K "list", _, rfl, iteF ?_⟩
    refine ⟨_, rfl, _, rfl, _, _, .lst (SqL.of hbs) (den_int _), .lst (SqL.of (s10 _ _ hu9)) (den_int _), shaped_intsL _, shaped_intsL _, _, rfl, ?_⟩
    rw [eqv_intsL, decide_eq_true rfl]
    refine iteF ?_
    refine ⟨_, rfl, .inl ⟨rfl, _, SqL.of hbs⟩, pf, _, _, rfl, rfl, hbs, small1000 (by rw [List.length_map]; omega), ?_⟩
    have s11 : Same H9 (upd H10 pf (.lst ((dueL g (fun k => kn.any fun q => (q.2.2[k]?).getD false != (q.2.2[k + 1]?).getD false) g.length).map V.int ++ [.non]))) := s10.upd hpf
    generalize upd H10 pf (.lst ((dueL g (fun k => kn.any fun q => (q.2.2[k]?).getD false != (q.2.2[k + 1]?).getD false) g.length).map V.int ++ [.non])) = H11 at s11 ⊢
    -- kept
    refine sheetC H11 _ _ _ _ _ _ _ _ _ _ _ _ (hk9.same s11) (s11 _ _ hg9) fun pq H12 es' s12 hpq hsh' pm' pw' good' => ?_
    have s912 := s11.trans s12
    obtain rfl : es' = es := ents_ext (sorted_ext (pm'.trans pm.symm) pw' pw) fun e he e' he' eq => by
      obtain ⟨_, _, _, c1, _, _⟩ := good' e he
      obtain ⟨_, _, _, c2, _, _⟩ := good e' he'
      exact can_ext c1 c2 fun m => by rw [good_bit kn4.nd (good' e he), good_bit kn4.nd (good e' he'), eq]
    obtain ⟨xs1, x1, x2⟩ := id (hs9.at'.same s912)
    obtain ⟨xs2, y1, y2⟩ := id hsh'
    refine ⟨_, rfl, _, rfl, _, _, .lst (SqL.of x1) (ents_den x2), .lst (SqL.of y1) (ents_den y2), shaped_ents _, shaped_ents _, _, rfl, ?_⟩
    rw [eqv_sheet]
    refine iteT ⟨_, rfl, ps, es', g, rfl, hs9.at'.same s912, les, few50, by omega, sub, fun pf' H13 bs' s13 hpf' hbs' incb' memb' => ?_⟩
    obtain rfl : bs' = dueL g (fun k => kn.any fun q => (q.2.2[k]?).getD false != (q.2.2[k + 1]?).getD false) g.length := inc_ext incb' (dueL_inc inc (Nat.le_refl _)) fun x => (memb' x).trans (mem x)
    refine ⟨_, rfl, _, _, .lst (SqL.of hbs') (den_int _), .lst (SqL.of (s13 _ _ (s912 _ _ hu9))) (den_int _), shaped_intsL _, shaped_intsL _, ?_⟩
    rw [eqv_intsL, decide_eq_true rfl]
    exact k _
end
end Prf

set_option maxHeartbeats 4000000
namespace Prf
open PySem L2 Wr
theorem all_mk {l : PySem.W.OpenLaw} {w : World} {K : PySem.W.Frag} {h : Heap} {mg : Str → Option Value} {fa f0 f1 f2 f3 f4 f5 f6 f7 f8 f9 f10 f11 : Addr} (X : K.In h) (G : h.Ns mainGlobals mg) (hfa : mg "law" = some (.ref fa))
    {od0 an0 od1 an1 od2 an2 od3 an3 od4 an4 od5 an5 od6 an6 od7 an7 od8 an8 od9 an9 od10 an10 od11 an11 : Option Addr} {sl0 sl1 sl2 sl3 sl4 sl5 sl6 sl7 sl8 sl9 sl10 sl11 : Array (Option Value)} {oc0 kV0 dc0 pm0 cd0 ct0 oc1 kV1 dc1 pm1 cd1 ct1 oc2 kV2 dc2 pm2 cd2 ct2 oc3 kV3 dc3 pm3 cd3 ct3 oc4 kV4 dc4 pm4 cd4 ct4 oc5 kV5 dc5 pm5 cd5 ct5 oc6 kV6 dc6 pm6 cd6 ct6 oc7 kV7 dc7 pm7 cd7 ct7 oc8 kV8 dc8 pm8 cd8 ct8 oc9 kV9 dc9 pm9 cd9 ct9 oc10 kV10 dc10 pm10 cd10 ct10 oc11 kV11 dc11 pm11 cd11 ct11 : Value}
    (a0 : PySem.W.nsIn K mainGlobals "lies_in" = some (some (.ref f0))) (l0 : K.lookup f0 = some ⟨oc0, od0, .func (PySem.W.fnOf "lies_in" "lies_in" (defArgs (top 1)) (defBody (top 1)) (defScope (top 1)) .none kV0 dc0 pm0 an0 cd0 ct0), sl0⟩) (c0 : PySem.W.codeIn K cd0 "lies_in" = true) (k0 : PySem.W.keepIn K (.ref f0) = true)
    (a1 : PySem.W.nsIn K mainGlobals "holds_at" = some (some (.ref f1))) (l1 : K.lookup f1 = some ⟨oc1, od1, .func (PySem.W.fnOf "holds_at" "holds_at" (defArgs (top 2)) (defBody (top 2)) (defScope (top 2)) .none kV1 dc1 pm1 an1 cd1 ct1), sl1⟩) (c1 : PySem.W.codeIn K cd1 "holds_at" = true) (k1 : PySem.W.keepIn K (.ref f1) = true)
    (a2 : PySem.W.nsIn K mainGlobals "bounds_of" = some (some (.ref f2))) (l2 : K.lookup f2 = some ⟨oc2, od2, .func (PySem.W.fnOf "bounds_of" "bounds_of" (defArgs (top 3)) (defBody (top 3)) (defScope (top 3)) .none kV2 dc2 pm2 an2 cd2 ct2), sl2⟩) (c2 : PySem.W.codeIn K cd2 "bounds_of" = true) (k2 : PySem.W.keepIn K (.ref f2) = true)
    (a3 : PySem.W.nsIn K mainGlobals "cut_at" = some (some (.ref f3))) (l3 : K.lookup f3 = some ⟨oc3, od3, .func (PySem.W.fnOf "cut_at" "cut_at" (defArgs (top 5)) (defBody (top 5)) (defScope (top 5)) .none kV3 dc3 pm3 an3 cd3 ct3), sl3⟩) (c3 : PySem.W.codeIn K cd3 "cut_at" = true) (k3 : PySem.W.keepIn K (.ref f3) = true)
    (a4 : PySem.W.nsIn K mainGlobals "sheet_bounds" = some (some (.ref f4))) (l4 : K.lookup f4 = some ⟨oc4, od4, .func (PySem.W.fnOf "sheet_bounds" "sheet_bounds" (defArgs (top 6)) (defBody (top 6)) (defScope (top 6)) .none kV4 dc4 pm4 an4 cd4 ct4), sl4⟩) (c4 : PySem.W.codeIn K cd4 "sheet_bounds" = true) (k4 : PySem.W.keepIn K (.ref f4) = true)
    (a5 : PySem.W.nsIn K mainGlobals "_law_mix" = some (some (.ref f5))) (l5 : K.lookup f5 = some ⟨oc5, od5, .func (PySem.W.fnOf "_law_mix" "_law_mix" (defArgs (top 8)) (defBody (top 8)) (defScope (top 8)) .none kV5 dc5 pm5 an5 cd5 ct5), sl5⟩) (c5 : PySem.W.codeIn K cd5 "_law_mix" = true) (k5 : PySem.W.keepIn K (.ref f5) = true)
    (a6 : PySem.W.nsIn K mainGlobals "_law_grid" = some (some (.ref f6))) (l6 : K.lookup f6 = some ⟨oc6, od6, .func (PySem.W.fnOf "_law_grid" "_law_grid" (defArgs (top 9)) (defBody (top 9)) (defScope (top 9)) .none kV6 dc6 pm6 an6 cd6 ct6), sl6⟩) (c6 : PySem.W.codeIn K cd6 "_law_grid" = true) (k6 : PySem.W.keepIn K (.ref f6) = true)
    (a7 : PySem.W.nsIn K mainGlobals "_law_stretch" = some (some (.ref f7))) (l7 : K.lookup f7 = some ⟨oc7, od7, .func (PySem.W.fnOf "_law_stretch" "_law_stretch" (defArgs (top 10)) (defBody (top 10)) (defScope (top 10)) .none kV7 dc7 pm7 an7 cd7 ct7), sl7⟩) (c7 : PySem.W.codeIn K cd7 "_law_stretch" = true) (k7 : PySem.W.keepIn K (.ref f7) = true)
    (a8 : PySem.W.nsIn K mainGlobals "_law_span" = some (some (.ref f8))) (l8 : K.lookup f8 = some ⟨oc8, od8, .func (PySem.W.fnOf "_law_span" "_law_span" (defArgs (top 11)) (defBody (top 11)) (defScope (top 11)) .none kV8 dc8 pm8 an8 cd8 ct8), sl8⟩) (c8 : PySem.W.codeIn K cd8 "_law_span" = true) (k8 : PySem.W.keepIn K (.ref f8) = true)
    (a9 : PySem.W.nsIn K mainGlobals "_law_row" = some (some (.ref f9))) (l9 : K.lookup f9 = some ⟨oc9, od9, .func (PySem.W.fnOf "_law_row" "_law_row" (defArgs (top 12)) (defBody (top 12)) (defScope (top 12)) .none kV9 dc9 pm9 an9 cd9 ct9), sl9⟩) (c9 : PySem.W.codeIn K cd9 "_law_row" = true) (k9 : PySem.W.keepIn K (.ref f9) = true)
    (a10 : PySem.W.nsIn K mainGlobals "_law_at" = some (some (.ref f10))) (l10 : K.lookup f10 = some ⟨oc10, od10, .func (PySem.W.fnOf "_law_at" "_law_at" (defArgs (top 13)) (defBody (top 13)) (defScope (top 13)) .none kV10 dc10 pm10 an10 cd10 ct10), sl10⟩) (c10 : PySem.W.codeIn K cd10 "_law_at" = true) (k10 : PySem.W.keepIn K (.ref f10) = true)
    (a11 : PySem.W.nsIn K mainGlobals "law" = some (some (.ref f11))) (l11 : K.lookup f11 = some ⟨oc11, od11, .func (PySem.W.fnOf "law" "law" (defArgs (top 14)) (defBody (top 14)) (defScope (top 14)) .none kV11 dc11 pm11 an11 cd11 ct11), sl11⟩) (c11 : PySem.W.codeIn K cd11 "law" = true) (k11 : PySem.W.keepIn K (.ref f11) = true)
    (z0 : PySem.W.nsIn K mainGlobals "sorted" = some none)
    (z1 : PySem.W.nsIn K mainGlobals "max" = some none)
    (z2 : PySem.W.nsIn K mainGlobals "min" = some none)
    (z3 : PySem.W.nsIn K mainGlobals "any" = some none)
    (z4 : PySem.W.nsIn K mainGlobals "all" = some none)
    (z5 : PySem.W.nsIn K mainGlobals "sum" = some none)
    (z6 : PySem.W.nsIn K mainGlobals "len" = some none)
    (z7 : PySem.W.nsIn K mainGlobals "range" = some none)
    (z8 : PySem.W.nsIn K mainGlobals "isinstance" = some none)
    (z9 : PySem.W.nsIn K mainGlobals "list" = some none)
    (z10 : PySem.W.nsIn K mainGlobals "tuple" = some none)
    (z11 : PySem.W.nsIn K mainGlobals "int" = some none)
    (z12 : PySem.W.nsIn K mainGlobals "bool" = some none)
    (z13 : PySem.W.nsIn K mainGlobals "str" = some none)
    (z14 : PySem.W.nsIn K mainGlobals "dict" = some none)
    (z15 : PySem.W.nsIn K mainGlobals "set" = some none)
    (z16 : PySem.W.nsIn K mainGlobals "zip" = some none)
    (z17 : PySem.W.nsIn K mainGlobals "enumerate" = some none)
    (z18 : PySem.W.nsIn K mainGlobals "reversed" = some none)
    : ∃ fd : FuncData, (∀ (s : Shared) (v : Value), BindsTo s fd ⟨[v], []⟩ [("_law_script", v)]) ∧ ∀ base : Heap, K.In base → base.Ns mainGlobals mg → FnOk l.prog w K mg base CX0 5 fa fd ["_law_script"] (spLaw K) := by
  have e := hfa.symm.trans (PySem.W.mg_of X G a11)
  cases e
  have F0 : Fun K "lies_in" "lies_in" st_lies_in f0 (PySem.W.fnOf "lies_in" "lies_in" (defArgs st_lies_in) (defBody st_lies_in) (defScope st_lies_in) .none kV0 dc0 pm0 an0 cd0 ct0) := fun_mk (st := st_lies_in) l0 c0 k0
  have b0 := F0.binds (ps := ["span", "moment"]) fun _ _ _ _ _ _ us hl => match us, hl with | [_, _], _ => rfl
  have F1 : Fun K "holds_at" "holds_at" st_holds_at f1 (PySem.W.fnOf "holds_at" "holds_at" (defArgs st_holds_at) (defBody st_holds_at) (defScope st_holds_at) .none kV1 dc1 pm1 an1 cd1 ct1) := fun_mk (st := st_holds_at) l1 c1 k1
  have b1 := F1.binds (ps := ["start", "end", "moment"]) fun _ _ _ _ _ _ us hl => match us, hl with | [_, _, _], _ => rfl
  have F2 : Fun K "bounds_of" "bounds_of" st_bounds_of f2 (PySem.W.fnOf "bounds_of" "bounds_of" (defArgs st_bounds_of) (defBody st_bounds_of) (defScope st_bounds_of) .none kV2 dc2 pm2 an2 cd2 ct2) := fun_mk (st := st_bounds_of) l2 c2 k2
  have b2 := F2.binds (ps := ["span"]) fun _ _ _ _ _ _ us hl => match us, hl with | [_], _ => rfl
  have F3 : Fun K "cut_at" "cut_at" st_cut_at f3 (PySem.W.fnOf "cut_at" "cut_at" (defArgs st_cut_at) (defBody st_cut_at) (defScope st_cut_at) .none kV3 dc3 pm3 an3 cd3 ct3) := fun_mk (st := st_cut_at) l3 c3 k3
  have b3 := F3.binds (ps := ["sheet", "moment"]) fun _ _ _ _ _ _ us hl => match us, hl with | [_, _], _ => rfl
  have F4 : Fun K "sheet_bounds" "sheet_bounds" st_sheet_bounds f4 (PySem.W.fnOf "sheet_bounds" "sheet_bounds" (defArgs st_sheet_bounds) (defBody st_sheet_bounds) (defScope st_sheet_bounds) .none kV4 dc4 pm4 an4 cd4 ct4) := fun_mk (st := st_sheet_bounds) l4 c4 k4
  have b4 := F4.binds (ps := ["sheet"]) fun _ _ _ _ _ _ us hl => match us, hl with | [_], _ => rfl
  have F5 : Fun K "_law_mix" "_law_mix" st__law_mix f5 (PySem.W.fnOf "_law_mix" "_law_mix" (defArgs st__law_mix) (defBody st__law_mix) (defScope st__law_mix) .none kV5 dc5 pm5 an5 cd5 ct5) := fun_mk (st := st__law_mix) l5 c5 k5
  have b5 := F5.binds (ps := ["_law_cell", "_law_j"]) fun _ _ _ _ _ _ us hl => match us, hl with | [_, _], _ => rfl
  have F6 : Fun K "_law_grid" "_law_grid" st__law_grid f6 (PySem.W.fnOf "_law_grid" "_law_grid" (defArgs st__law_grid) (defBody st__law_grid) (defScope st__law_grid) .none kV6 dc6 pm6 an6 cd6 ct6) := fun_mk (st := st__law_grid) l6 c6 k6
  have b6 := F6.binds (ps := ["_law_cell"]) fun _ _ _ _ _ _ us hl => match us, hl with | [_], _ => rfl
  have F7 : Fun K "_law_stretch" "_law_stretch" st__law_stretch f7 (PySem.W.fnOf "_law_stretch" "_law_stretch" (defArgs st__law_stretch) (defBody st__law_stretch) (defScope st__law_stretch) .none kV7 dc7 pm7 an7 cd7 ct7) := fun_mk (st := st__law_stretch) l7 c7 k7
  have b7 := F7.binds (ps := ["_law_grid_here", "_law_first", "_law_last"]) fun _ _ _ _ _ _ us hl => match us, hl with | [_, _, _], _ => rfl
  have F8 : Fun K "_law_span" "_law_span" st__law_span f8 (PySem.W.fnOf "_law_span" "_law_span" (defArgs st__law_span) (defBody st__law_span) (defScope st__law_span) .none kV8 dc8 pm8 an8 cd8 ct8) := fun_mk (st := st__law_span) l8 c8 k8
  have b8 := F8.binds (ps := ["_law_grid_here", "_law_lit"]) fun _ _ _ _ _ _ us hl => match us, hl with | [_, _], _ => rfl
  have F9 : Fun K "_law_row" "_law_row" st__law_row f9 (PySem.W.fnOf "_law_row" "_law_row" (defArgs st__law_row) (defBody st__law_row) (defScope st__law_row) .none kV9 dc9 pm9 an9 cd9 ct9) := fun_mk (st := st__law_row) l9 c9 k9
  have b9 := F9.binds (ps := ["_law_drawn", "_law_number"]) fun _ _ _ _ _ _ us hl => match us, hl with | [_, _], _ => rfl
  have F10 : Fun K "_law_at" "_law_at" st__law_at f10 (PySem.W.fnOf "_law_at" "_law_at" (defArgs st__law_at) (defBody st__law_at) (defScope st__law_at) .none kV10 dc10 pm10 an10 cd10 ct10) := fun_mk (st := st__law_at) l10 c10 k10
  have b10 := F10.binds (ps := ["_law_sheet", "_law_known", "_law_moment", "_law_k"]) fun _ _ _ _ _ _ us hl => match us, hl with | [_, _, _, _], _ => rfl
  have F11 : Fun K "law" "law" st_law _ (PySem.W.fnOf "law" "law" (defArgs st_law) (defBody st_law) (defScope st_law) .none kV11 dc11 pm11 an11 cd11 ct11) := fun_mk (st := st_law) l11 c11 k11
  have y0 := PySem.W.mg_none_of X G z0
  have y1 := PySem.W.mg_none_of X G z1
  have y2 := PySem.W.mg_none_of X G z2
  have y3 := PySem.W.mg_none_of X G z3
  have y4 := PySem.W.mg_none_of X G z4
  have y5 := PySem.W.mg_none_of X G z5
  have y6 := PySem.W.mg_none_of X G z6
  have y7 := PySem.W.mg_none_of X G z7
  have y8 := PySem.W.mg_none_of X G z8
  have y9 := PySem.W.mg_none_of X G z9
  have y10 := PySem.W.mg_none_of X G z10
  have y11 := PySem.W.mg_none_of X G z11
  have y12 := PySem.W.mg_none_of X G z12
  have y13 := PySem.W.mg_none_of X G z13
  have y14 := PySem.W.mg_none_of X G z14
  have y15 := PySem.W.mg_none_of X G z15
  have y16 := PySem.W.mg_none_of X G z16
  have y17 := PySem.W.mg_none_of X G z17
  have y18 := PySem.W.mg_none_of X G z18
  refine ⟨PySem.W.fnOf "law" "law" (defArgs st_law) (defBody st_law) (defScope st_law) .none kV11 dc11 pm11 an11 cd11 ct11, fun s v => .of_eq rfl, fun base _ _ => ?_⟩
  have B : Blts mg := ⟨y0, y1, y2, y3, y4, y5, y6, y7, y8, y9, y10, y11, y12, y13, y14, y15, y16, y17, y18⟩
  have F_holds_at : FnP l.prog w K mg base 1 "holds_at" ["start", "end", "moment"] spHolds := ⟨_, _, ok_holds F1, PySem.W.mg_of X G a1, k1, b1⟩
  have F_lies_in : FnP l.prog w K mg base 2 "lies_in" ["span", "moment"] spLies := ⟨_, _, ok_lies F0 B.any F_holds_at, PySem.W.mg_of X G a0, k0, b0⟩
  have F_bounds_of : FnP l.prog w K mg base 1 "bounds_of" ["span"] sp_bounds_of := ⟨_, _, ok_bounds_of F2, PySem.W.mg_of X G a2, k2, b2⟩
  have F_cut_at : FnP l.prog w K mg base 3 "cut_at" ["sheet", "moment"] sp_cut_at := ⟨_, _, ok_cut_at F3 F_lies_in, PySem.W.mg_of X G a3, k3, b3⟩
  have F_sheet_bounds : FnP l.prog w K mg base 2 "sheet_bounds" ["sheet"] sp_sheet_bounds := ⟨_, _, ok_sheet_bounds F4 B F_bounds_of, PySem.W.mg_of X G a4, k4, b4⟩
  have F__law_mix : FnP l.prog w K mg base 1 "_law_mix" ["_law_cell", "_law_j"] spMix := ⟨_, _, ok_mix F5, PySem.W.mg_of X G a5, k5, b5⟩
  have F__law_grid : FnP l.prog w K mg base 2 "_law_grid" ["_law_cell"] spGrid := ⟨_, _, ok_grid F6 B.range F__law_mix, PySem.W.mg_of X G a6, k6, b6⟩
  have F__law_stretch : FnP l.prog w K mg base 1 "_law_stretch" ["_law_grid_here", "_law_first", "_law_last"] spStr := ⟨_, _, ok_str F7 B.len, PySem.W.mg_of X G a7, k7, b7⟩
  have F__law_span : FnP l.prog w K mg base 2 "_law_span" ["_law_grid_here", "_law_lit"] spSpan := ⟨_, _, ok_span F8 B.len F__law_stretch, PySem.W.mg_of X G a8, k8, b8⟩
  have F__law_row : FnP l.prog w K mg base 2 "_law_row" ["_law_drawn", "_law_number"] sp__law_row := ⟨_, _, ok__law_row F9 B F__law_mix, PySem.W.mg_of X G a9, k9, b9⟩
  have F__law_at : FnP l.prog w K mg base 4 "_law_at" ["_law_sheet", "_law_known", "_law_moment", "_law_k"] sp__law_at := ⟨_, _, ok__law_at F10 B F_cut_at, PySem.W.mg_of X G a10, k10, b10⟩
  exact ok_law F11 B F__law_mix F__law_grid F__law_span F__law_row F__law_at F_sheet_bounds
theorem walk {l : PySem.W.OpenLaw} {q : Program} {loose : List Str} {XP : (Str → Option Value) → Heap → Prop} {YP : World → Heap → Prop} {d : DefRec} {K : Params → PySem.W.Frag} (hn : l.most = some 63) (hdf : d.params.defaults = [])
    (hY : ∀ (w : World) (h : Heap), YP w h → (K w.params).In h) (F : ∀ (w : World) (mg : Str → Option Value) (fa : Addr) (h : Heap), (K w.params).In h → h.Ns mainGlobals mg → mg d.name = some (.ref fa) →
      ∃ fd : FuncData, (∀ (s : Shared) (u : Value), BindsTo s fd ⟨[u], []⟩ [("_law_script", u)]) ∧ ∀ base : Heap, (K w.params).In base → base.Ns mainGlobals mg → FnOk l.prog w (K w.params) mg base CX0 5 fa fd ["_law_script"] (spLaw (K w.params))) :
    PySem.W.WalkO q loose XP YP l.row.toRowW d [] (fun f vs => PySem.call f vs) :=
  L2.walk_of (n := 63) (k := 5) (x := "_law_script") (CX := fun _ => CX0) (sp := fun w => spLaw (K w.params)) hn (by decide) hdf ⟨rfl, by decide, by decide⟩ hY F (fun _ _ a ns hl _ hS => ⟨a, ns, rfl, hS, hl, fun _ => rfl⟩) fun _ _ _ _ _ z => z
end Prf
open PySem PySem.W PyProof.Rows
set_option maxRecDepth 100000 in
set_option maxHeartbeats 0 in
theorem PySem.Challenge.cw_whenrows_k12_cut_at_holds : PySem.Challenge.rw_whenrows_k12_cut_at.Holds := by
  w_on; o_law; k_head; (case hw => w_witness2)
  k_fill
  refine Prf.walk (l := PySem.Challenge.rw_whenrows_k12_cut_at) rfl rfl (fun w h Y => PySem.W.kIn_of Y) ?F
  case F =>
    intro w mg fa h KX G hmg
    refine' Prf.all_mk KX G hmg ?a0 ?l0 ?c0 ?k0 ?a1 ?l1 ?c1 ?k1 ?a2 ?l2 ?c2 ?k2 ?a3 ?l3 ?c3 ?k3 ?a4 ?l4 ?c4 ?k4 ?a5 ?l5 ?c5 ?k5 ?a6 ?l6 ?c6 ?k6 ?a7 ?l7 ?c7 ?k7 ?a8 ?l8 ?c8 ?k8 ?a9 ?l9 ?c9 ?k9 ?a10 ?l10 ?c10 ?k10 ?a11 ?l11 ?c11 ?k11 ?z0 ?z1 ?z2 ?z3 ?z4 ?z5 ?z6 ?z7 ?z8 ?z9 ?z10 ?z11 ?z12 ?z13 ?z14 ?z15 ?z16 ?z17 ?z18
    (case a0 => k_is); (case l0 => k_is); (case c0 => k_is); (case k0 => k_is)
    (case a1 => k_is); (case l1 => k_is); (case c1 => k_is); (case k1 => k_is)
    (case a2 => k_is); (case l2 => k_is); (case c2 => k_is); (case k2 => k_is)
    (case a3 => k_is); (case l3 => k_is); (case c3 => k_is); (case k3 => k_is)
    (case a4 => k_is); (case l4 => k_is); (case c4 => k_is); (case k4 => k_is)
    (case a5 => k_is); (case l5 => k_is); (case c5 => k_is); (case k5 => k_is)
    (case a6 => k_is); (case l6 => k_is); (case c6 => k_is); (case k6 => k_is)
    (case a7 => k_is); (case l7 => k_is); (case c7 => k_is); (case k7 => k_is)
    (case a8 => k_is); (case l8 => k_is); (case c8 => k_is); (case k8 => k_is)
    (case a9 => k_is); (case l9 => k_is); (case c9 => k_is); (case k9 => k_is)
    (case a10 => k_is); (case l10 => k_is); (case c10 => k_is); (case k10 => k_is)
    (case a11 => k_is); (case l11 => k_is); (case c11 => k_is); (case k11 => k_is)
    (case z0 => k_is); (case z1 => k_is); (case z2 => k_is); (case z3 => k_is); (case z4 => k_is); (case z5 => k_is); (case z6 => k_is); (case z7 => k_is); (case z8 => k_is); (case z9 => k_is); (case z10 => k_is); (case z11 => k_is); (case z12 => k_is); (case z13 => k_is); (case z14 => k_is); (case z15 => k_is); (case z16 => k_is); (case z17 => k_is); (case z18 => k_is)
