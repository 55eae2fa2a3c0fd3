import PyProof.Rows.All
import Wide.All
import OpenK.AllK
import Wide.FinOn
import Lean
import PyProof.EqAt
import PyProof.EqKinds
import PyProof.TupleCall
import KE.KSortTup
import KE.KLam
import PySem.SetTable
import PyProof.SetScanFacts
import PyProof.SetKind
import PyProof.SetRoads
import PyProof.DictKinds
import PyProof.SetNew
import PyProof.Rows.SetFrom
import PyProof.CollectWalk
import PyProof.MeetsSeq2
import PyProof.Walks
import PyProof.DictIter
import PyProof.FactsAll.set_1
import PyProof.FactsAll.set_2
import PyProof.Rows.SortWalk
import PyProof.FactsAll.subtypes_5
import PyProof.AttrMiss
import PyProof.IsiH_list
import PyProof.Rows.SortShell
import KE.KDictOf
import PyProof.ConsumeS
import PyProof.ZipIter
import PyProof.Rows.SortShellK
import PyProof.DictWalks
import KE.KDictList
import PyProof.EnumStmt
import PyProof.EnumMake
import PyProof.Rows.EnumRows
import PySem.Challenge.RW_whenrows_k72_sheets_as_texts
set_option Elab.async false
set_option linter.all false
set_option maxRecDepth 100000
namespace L2
open PySem PySem.Spec PyProof.Rows
theorem exg {α : Sort _} {p q : α → Prop} (w : α) (h : p w) (k : q w) : ∃ v, p v ∧ q v := ⟨w, h, k⟩
theorem zaa {p : Prop} (h : let G := p; G) : p := h
abbrev Key := Sum Int Str
def zfJ : Key → Value → Bool
 | .inl k, v => Value.isInt k v
 | .inr x, v => Value.isStrOf x v
def keyH (w : World) : Key → Int
 | .inl k => hashInt k
 | .inr x => hashStr w x
theorem zaE : ∀ {k : Key} {v : Value}, zfJ k v = true → (∃ i t, k = Sum.inl i ∧ v = Value.int i t) ∨ (∃ x t, k = Sum.inr x ∧ v = Value.str x t)
 | .inl i, v, h => by
  obtain ⟨t, e⟩ := Value.isInt_shape (k := i) (v := v) h
  exact .inl ⟨i, t, rfl, e⟩
 | .inr x, v, h => by
  obtain ⟨t, e⟩ := Value.isStrOf_shape (x := x) (v := v) h
  exact .inr ⟨x, t, rfl, e⟩
theorem zgB (i : Int) (t : Tok) : zfJ (.inl i) (.int i t) = true := by simp [zfJ, Value.isInt]
theorem zgC (x : Str) (t : Tok) : zfJ (.inr x) (.str x t) = true := by simp [zfJ, Value.isStrOf]
theorem zkz (a b : Int) : decide ((Sum.inl a : Key) = Sum.inl b) = (a == b) := by
 by_cases e : a = b
 ·subst e; simp
 ·have h : ¬ (Sum.inl a : Key) = Sum.inl b := fun q => e (Sum.inl.inj q)
  rw [decide_eq_false h]
  exact (beq_eq_false_iff_ne.mpr e).symm
theorem zkh (a b : Str) : decide ((Sum.inr a : Key) = Sum.inr b) = decide (a = b) := by
 by_cases e : a = b
 ·subst e; simp
 ·have h : ¬ (Sum.inr a : Key) = Sum.inr b := fun q => e (Sum.inr.inj q)
  rw [decide_eq_false h, decide_eq_false e]
theorem zk2 (a : Int) (b : Str) : decide ((Sum.inl a : Key) = Sum.inr b) = false := decide_eq_false (fun q => nomatch q)
theorem zkS (a : Str) (b : Int) : decide ((Sum.inr a : Key) = Sum.inl b) = false := decide_eq_false (fun q => nomatch q)
def zbb (prog : Program) (w : World) : PySem.KeyKind prog w Key where
 is := zfJ
 hash := keyH w
 inj := fun v a b ha hb => by
  rcases zaE ha with ⟨i, t, rfl, rfl⟩ | ⟨x, t, rfl, rfl⟩
  ·rcases zaE hb with ⟨j, u, rfl, e⟩ | ⟨y, u, rfl, e⟩
   ·injection e with e1 _; rw [e1]
   ·exact nomatch e
  ·rcases zaE hb with ⟨j, u, rfl, e⟩ | ⟨y, u, rfl, e⟩
   ·exact nomatch e
   ·injection e with e1 _; rw [e1]
 byValue := fun k v h => by
  rcases zaE h with ⟨i, t, rfl, rfl⟩ | ⟨x, t, rfl, rfl⟩ <;> rfl
 pyHash := fun hv h => by
  rcases zaE hv with ⟨i, t, rfl, rfl⟩ | ⟨x, t, rfl, rfl⟩
  ·exact wpAny_pyHash_int h
  ·exact wpAny_pyHash_str h
 eqBool := fun hu hv h => by
  rcases zaE hu with ⟨i, t, rfl, rfl⟩ | ⟨x, t, rfl, rfl⟩
  ·rcases zaE hv with ⟨j, u, rfl, rfl⟩ | ⟨y, u, rfl, rfl⟩
   ·rw [zkz] at h; exact wpAny_eqBool_int h
   ·rw [zk2] at h; exact SeqAt.EqAt.int_str i t y u _ _ _ _ h
  ·rcases zaE hv with ⟨j, u, rfl, rfl⟩ | ⟨y, u, rfl, rfl⟩
   ·rw [zkS] at h; exact SeqAt.EqAt.str_int x t j u _ _ _ _ h
   ·rw [zkh] at h; exact wpAny_eqBool_str h
 «strs» := fun k x t v h => by
  rcases zaE h with ⟨i, u, rfl, e⟩ | ⟨y, u, rfl, e⟩
  ·exact nomatch e
  ·injection e with e1 _
   subst e1
   cases v <;> rfl
theorem ze5 (prog : Program) (w : World) (i : Int) (t : Tok) : (zbb prog w).is (.inl i) (.int i t) = true := zgB i t
theorem ze3 (prog : Program) (w : World) (x : Str) (t : Tok) : (zbb prog w).is (.inr x) (.str x t) = true := zgC x t
end L2
namespace L2
open PySem PySem.Spec PyProof.Rows
inductive V where
 | non | bl (b : Bool) | int (i : Int) | str (x : Str) | byt (b : Array UInt8) | flt (b : UInt64) | ref (a : Addr) | ty (n : String)
 deriving DecidableEq
def RelV : V → Value → Prop
 | .non, u => u = Value.none
 | .bl b, u => u = Value.bool b
 | .int i, u => ∃ t, u = Value.int i t
 | .str x, u => ∃ t, u = Value.str x t
 | .byt b, u => ∃ t, u = Value.bytes b t
 | .flt b, u => ∃ t, u = Value.float b t
 | .ref a, u => u = Value.ref a
 | .ty n, u => u = Value.type n
abbrev Vals : List V → List Value → Prop := Paired RelV
theorem Vals.length {xs : List V} {us : List Value} (r : Vals xs us) : xs.length = us.length := Paired.length r
theorem Vals.get : ∀ {xs : List V} {us : List Value} {i : Nat} {x : V}, Vals xs us → xs[i]? = some x → ∃ u, us[i]? = some u ∧ RelV x u := by
 intro xs us i x h
 induction h generalizing i with
 | nil => intro e; simp at e
 | cons r t ih =>
  intro e
  cases i with
  | zero => simp at e; subst e; exact (exg _ rfl r)
  | succ i => obtain ⟨u, h1, h2⟩ := ih (i := i) (by simpa using e); exact ⟨u, by simpa using h1, h2⟩
theorem Vals.set {x : V} {u : Value} (r : RelV x u) : ∀ {xs : List V} {us : List Value} (i : Nat), Vals xs us → Vals (xs.set i x) (us.set i u) := by
 intro xs us i h
 induction h generalizing i with
 | nil => exact .nil
 | cons q t ih => cases i with | zero => exact .cons r t | succ i => exact .cons q (ih i)
theorem Vals.append : ∀ {xs ys : List V} {us ws : List Value}, Vals xs us → Vals ys ws → Vals (xs ++ ys) (us ++ ws) := by
 intro xs ys us ws h s
 induction h with
 | nil => exact s
 | cons r t ih => exact .cons r ih
theorem Vals.take : ∀ {xs : List V} {us : List Value} (n : Nat), Vals xs us → Vals (xs.take n) (us.take n) := by
 intro xs us n h
 induction h generalizing n with
 | nil => cases n <;> exact .nil
 | cons r t ih => cases n with | zero => exact .nil | succ n => exact .cons r (ih n)
theorem Vals.drop : ∀ {xs : List V} {us : List Value} (n : Nat), Vals xs us → Vals (xs.drop n) (us.drop n) := by
 intro xs us n h
 induction h generalizing n with
 | nil => cases n <;> exact .nil
 | cons r t ih => cases n with | zero => exact .cons r t | succ n => exact ih n
def RelO : Option V → Option Value → Prop
 | some v, some u => RelV v u
 | none, none => True
 | _, _ => False
def KV {κ : Type} : List (κ × V) → List (κ × Value) → Prop := Paired fun (p : κ × V) (q : κ × Value) => p.1 = q.1 ∧ RelV p.2 q.2
def kV : Key → V
 | .inl i => .int i
 | .inr x => .str x
inductive HO where
  | lst (xs : List V)
  | tup (xs : List V)
  | dK (kvs : List (Key × V)) | dT (kvs : List (List Key × V))
  | set (S : Int → Bool) (n : Nat)
  | ins (C dx : Addr) (fs : List (Str × V))
  | own (x : Addr)
  | xd (fs : List (Str × V))
  | met (f x : Addr)
  | rng (lo hi : Int)
  | frz (o : Obj) (u : HO)
  | tbl (ps : Array Value)
  | ext (φ : Heap → Prop)
abbrev Hp := Addr → Option HO
def upd (H : Hp) (a : Addr) (o : HO) : Hp := fun b => if b = a then some o else H b
theorem zac {H : Hp} {a : Addr} {o : HO} : upd H a o a = some o := by unfold upd; rw [if_pos rfl]
theorem zaj {H : Hp} {a b : Addr} {o : HO} (h : b ≠ a) : upd H a o b = H b := by unfold upd; rw [if_neg h]
theorem zlC {H : Hp} {a b : Addr} {o u : HO} (h : H a = some o) (h' : H b = some u) (d : o ≠ u) : a ≠ b := by
 intro e; subst e; rw [h] at h'; exact d (Option.some.inj h')
theorem zal {H : Hp} {a b : Addr} {o : HO} (h : H a = some o) (h' : H b = none) : a ≠ b := by
 intro e; subst e; rw [h] at h'; cases h'
section
variable (P : Program) (w : World)
def ObjOk (H : Hp) (h : Heap) (a : Addr) : HO → Prop
 | .lst xs => xs.length ≤ sizeLine ∧ ∃ (its : List Value) (n : Nat), Vals xs its ∧ h.get? a = some { cls := .type "list", data := .seq its.toArray n }
 | .tup xs => xs.length ≤ sizeLine ∧ ∃ its : List Value, Vals xs its ∧ IsTup h a its.toArray
 | .dK kvs => kvs.length ≤ sizeLine ∧ (a == sysModules) = false ∧ ∃ vs, KV kvs vs ∧ h.DictOf (zbb P w) a vs
 | .dT kvs => kvs.length ≤ sizeLine ∧ (a == sysModules) = false ∧ ∃ xs : List (List Key × Addr × Value),
   Paired (fun (p : List Key × V) (q : List Key × Addr × Value) => p.1 = q.1 ∧ H q.2.1 = some (.tup (p.1.map kV)) ∧ RelV p.2 q.2.2) kvs xs ∧
   ∃ o es ep, h.get? a = some o ∧ o.ExactDict ∧ o.data = .dict es ep ∧ es.toList = xs.map (entryOfKey (tupleKind (zbb P w))) ∧ (xs.map (·.1)).Nodup
 | .set S n => h.SetOf (intKind P w) a S n
 | .ins C dx fs => H dx = some (.own a) ∧ fs.length ≤ 1000 ∧ dx ≠ a ∧ h.get? a = some (PySem.W.instObj C dx) ∧
   ∃ mA, h.Ns1 dx mA ∧ (∀ f, RelO (fs.lookup f) (mA f)) ∧ PySem.Within mA (fs.map (·.1))
 | .own _ => ∃ o, h.get? a = some o
 | .xd fs => ∃ mA, h.Ns1 a mA ∧ ∀ f, RelO (fs.lookup f) (mA f)
 | .rng lo hi => ∃ t u v, h.get? a = some { cls := .type "range", data := .fields #[.int lo t, .int hi u, .int 1 v] }
 | .frz o u => h.get? a = some o ∧ ObjOk H h a u
 | .tbl ps => h.get? a = some { cls := .none, data := .fields ps }
 | .met f x => h.get? a = some (PySem.W.methodObj (.ref f) (.ref x))
 | .ext φ => φ h ∧ (∃ o, h.get? a = some o) ∧ ∀ h1 h2 : Heap, φ h1 → (∀ o, h1.get? a = some o → h2.get? a = some o) → φ h2
def HOk (H : Hp) (h : Heap) : Prop := ∀ a o, H a = some o → ObjOk P w H h a o
end
section
variable {P : Program} {w : World} {H H' : Hp} {h h' : Heap} {a : Addr} {o : HO}
theorem ObjOk.lt (x : ObjOk P w H h a o) : a < h.objs.size := by
 cases o with
 | lst xs => obtain ⟨_, _, _, _, e⟩ := x; exact Heap.lt_size e
 | tup xs => obtain ⟨_, _, _, p⟩ := x; exact p.lt
 | dK kvs => obtain ⟨_, _, _, _, o, _, _, e, _⟩ := x; exact Heap.lt_size e
 | dT kvs => obtain ⟨_, _, _, _, o, _, _, e, _⟩ := x; exact Heap.lt_size e
 | set S n => obtain ⟨o, _, _, _, e, _⟩ := x; exact Heap.lt_size e
 | ins C dx fs => obtain ⟨_, _, _, e, _⟩ := x; exact Heap.lt_size e
 | own y => obtain ⟨_, e⟩ := x; exact Heap.lt_size e
 | xd fs => obtain ⟨_, ⟨_, _, _, e, _⟩, _⟩ := x; exact Heap.lt_size e
 | rng lo hi => obtain ⟨_, _, _, e⟩ := x; exact Heap.lt_size e
 | frz ob u => obtain ⟨e, _⟩ := x; exact Heap.lt_size e
 | tbl ps => exact Heap.lt_size (show h.get? a = some _ from x)
 | met f y => exact Heap.lt_size (show h.get? a = some _ from x)
 | ext φ => obtain ⟨_, ⟨_, e⟩, _⟩ := x; exact Heap.lt_size e
theorem Paired.mapP {α β : Type} {F G : α → β → Prop} : ∀ {l₁ : List α} {l₂ : List β}, Paired F l₁ l₂ → (∀ a b, F a b → G a b) → Paired G l₁ l₂ := by
 intro l₁ l₂ h f
 induction h with
 | nil => exact .nil
 | cons r t ih => exact .cons (f _ _ r) ih
theorem ObjOk.stay (x : ObjOk P w H h a o) (k : ∀ b u, (b = a ∨ H b = some (.own a)) → h.get? b = some u → h'.get? b = some u)
  (ho : ∀ b, H b = some (.own a) → H' b = some (.own a)) (ht : ∀ b xs, H b = some (.tup xs) → H' b = some (.tup xs)) : ObjOk P w H' h' a o := by
 induction o with
 | lst xs => obtain ⟨z, its, n, r, e⟩ := x; exact ⟨z, its, n, r, k _ _ (.inl rfl) e⟩
 | tup xs => obtain ⟨z, its, r, ob, e, c⟩ := x; exact ⟨z, its, r, ob, k _ _ (.inl rfl) e, c⟩
 | dK kvs => obtain ⟨z, y, vs, r, ob, es, ep, e, c⟩ := x; exact ⟨z, y, vs, r, ob, es, ep, k _ _ (.inl rfl) e, c⟩
 | dT kvs =>
  refine zaa ?_; intro G_; obtain ⟨z, y, xs, r, ob, es, ep, e, c⟩ := x
  exact ⟨z, y, xs, Paired.mapP r fun p q z => ⟨z.1, ht _ _ z.2.1, z.2.2⟩, ob, es, ep, k _ _ (.inl rfl) e, c⟩
 | set S n => obtain ⟨ob, es, ep, t, e, c⟩ := x; exact ⟨ob, es, ep, t, k _ _ (.inl rfl) e, c⟩
 | ins C dx fs =>
  refine zaa ?_; intro G_; obtain ⟨d, z, ne, e, mA, ⟨od, es, ep, e2, c⟩, r⟩ := x
  exact ⟨ho _ d, z, ne, k _ _ (.inl rfl) e, mA, ⟨od, es, ep, k _ _ (.inr d) e2, c⟩, r⟩
 | own y => obtain ⟨ob, e⟩ := x; exact ⟨ob, k _ _ (.inl rfl) e⟩
 | xd fs => obtain ⟨mA, ⟨od, es, ep, e, c⟩, r⟩ := x; exact ⟨mA, ⟨od, es, ep, k _ _ (.inl rfl) e, c⟩, r⟩
 | rng lo hi => obtain ⟨t, u, v, e⟩ := x; exact ⟨t, u, v, k _ _ (.inl rfl) e⟩
 | frz ob u ih => obtain ⟨e, q⟩ := x; exact ⟨k _ _ (.inl rfl) e, ih q⟩
 | tbl ps =>
  have e : h.get? a = some { cls := .none, data := .fields ps } := x
  show h'.get? a = some { cls := .none, data := .fields ps }
  exact k a _ (.inl rfl) e
 | met f y =>
  have e : h.get? a = some (PySem.W.methodObj (.ref f) (.ref y)) := x
  show h'.get? a = some (PySem.W.methodObj (.ref f) (.ref y))
  exact k a _ (.inl rfl) e
 | ext φ => obtain ⟨p, ⟨o, e⟩, st⟩ := x; exact ⟨st _ _ p fun o q => k _ _ (.inl rfl) q, ⟨o, k _ _ (.inl rfl) e⟩, st⟩
theorem HOk.lt (x : HOk P w H h) (e : H a = some o) : a < h.objs.size := (x a o e).lt
theorem HOk.fresh (x : HOk P w H h) (e : h.objs.size ≤ a) : H a = none := by
 cases q : H a with
 | none => rfl
 | some u => exact absurd (Nat.lt_of_lt_of_le (x.lt q) e) (Nat.lt_irrefl _)
theorem HOk.kept (x : HOk P w H h) (k : ∀ b u, h.get? b = some u → h'.get? b = some u) : HOk P w H h' := fun a o e =>
 (x a o e).stay (fun b u _ q => k b u q) (fun _ q => q) fun _ _ q => q
theorem HOk.laid (x : HOk P w H h) (k : ∀ b u, h.get? b = some u → h'.get? b = some u) (hp : h.objs.size ≤ a) (new : ObjOk P w (upd H a o) h' a o) : HOk P w (upd H a o) h' := fun b u e => by
 have hn := x.fresh hp
 by_cases hb : b = a
 ·subst hb; rw [zac] at e; cases e; exact new
 ·rw [zaj hb] at e
  exact (x b u e).stay (fun c v _ q => k c v q) (fun c q => by rw [zaj (zal q hn)]; exact q) fun c xs q => by rw [zaj (zal q hn)]; exact q
end
def Rd (H : Hp) (a : Addr) (u : HO) : Prop := H a = some u ∨ ∃ o, H a = some (.frz o u)
theorem Rd.ok {P : Program} {w : World} {H : Hp} {h : Heap} {a : Addr} {u : HO} (r : Rd H a u) (x : HOk P w H h) : ObjOk P w H h a u := by
 rcases r with r | ⟨o, r⟩
 ·exact x a u r
 ·obtain ⟨_, q⟩ := x a _ r
  exact q
def Mut : Option HO → Prop
 | some (.lst _) => True
 | some (.dK _) => True
 | some (.dT _) => True
 | some (.set _ _) => True
 | some (.ins _ _ _) => True
 | some (.ext _) => True
 | _ => False
section
variable {P : Program} {w : World} {H : Hp} {h h' : Heap} {x e : Addr} {o' : HO}
theorem HOk.write (ok : HOk P w H h) (mu : Mut (H x)) (he : e = x ∨ H e = some (.own x)) (k : ∀ b u, b ≠ e → h.get? b = some u → h'.get? b = some u) (heo : ∃ u, h'.get? e = some u)
  (new : ObjOk P w (upd H x o') h' x o') : HOk P w (upd H x o') h' := fun b u q => by
 have nown : ∀ c y, H c = some (.own y) → c ≠ x := fun c y r z => by subst z; rw [r] at mu; exact mu
 have ntup : ∀ c xs, H c = some (.tup xs) → c ≠ x := fun c xs r z => by subst z; rw [r] at mu; exact mu
 by_cases hb : b = x
 ·subst hb; rw [zac] at q; cases q; exact new
 ·rw [zaj hb] at q
  by_cases hbe : b = e
  ·have q' : H b = some (.own x) := by
    rcases he with z | z
    ·exact absurd (hbe.trans z) hb
    ·rw [hbe]; exact z
   rw [q] at q'; cases q'
   obtain ⟨v, hv⟩ := heo
   exact ⟨v, by rw [hbe]; exact hv⟩
  ·refine (ok b u q).stay (fun c v hc r => k c v ?_ r) (fun c r => by rw [zaj (nown c b r)]; exact r) fun c xs r => by rw [zaj (ntup c xs r)]; exact r
   rcases hc with rfl | hc
   ·exact hbe
   ·rintro rfl
    rcases he with z | z
    ·exact nown c b hc z
    ·rw [hc] at z; cases z; exact hb rfl
end
structure Un (fs ex : List Addr) (H H' : Hp) (h h' : Heap) : Prop where
 keep : ∀ b o, h.get? b = some o → H b = none → b ∉ fs → b ∉ ex → h'.get? b = some o
 slot : ∀ b o, h.get? b = some o → H b = none → b ∈ fs → b ∉ ex → ∃ sl, h'.get? b = some { o with slots := sl }
 free : ∀ b o, h.get? b = some o → H b = none → b ∉ ex → H' b = none
 there : ∀ b o, h.get? b = some o → b ∉ ex → ∃ o', h'.get? b = some o'
 tups : ∀ b xs, H b = some (.tup xs) → H' b = some (.tup xs)
 frzs : ∀ b o u, H b = some (.frz o u) → H' b = some (.frz o u)
 tbls : ∀ b ps, H b = some (.tbl ps) → ∃ more, H' b = some (.tbl (ps ++ more))
section
variable {fs fs' ex ex' : List Addr} {H H1 H2 : Hp} {h h1 h2 h' : Heap} {a x e : Addr} {o : HO}
theorem Un.any (u : Un fs ex H H1 h h1) {b : Addr} {ob : Obj} (q : h.get? b = some ob) (n : H b = none) (hx : b ∉ ex) : ∃ sl, h1.get? b = some { ob with slots := sl } := by
 by_cases hb : b ∈ fs
 ·exact u.slot b ob q n hb hx
 ·exact ⟨ob.slots, u.keep b ob q n hb hx⟩
theorem Un.kept (k : ∀ b u, h.get? b = some u → h'.get? b = some u) : Un fs ex H H h h' :=
 ⟨fun b ob q _ _ _ => k b ob q, fun b ob q _ _ _ => ⟨ob.slots, k b ob q⟩, fun _ _ _ n _ => n, fun b ob q _ => ⟨ob, k b ob q⟩, fun _ _ q => q, fun _ _ _ q => q, fun _ ps q => ⟨#[], by rw [q]; simp⟩⟩
theorem Un.refl : Un fs ex H H h h := Un.kept fun _ _ q => q
theorem Un.laid (k : ∀ b u, h.get? b = some u → h'.get? b = some u) (hp : h.objs.size ≤ a) (hn : H a = none) : Un fs ex H (upd H a o) h h' where
 keep := fun b u q _ _ _ => k b u q
 slot := fun b u q _ _ _ => ⟨u.slots, k b u q⟩
 free := fun b u q n _ => by rw [zaj (Nat.ne_of_lt (Nat.lt_of_lt_of_le (Heap.lt_size q) hp))]; exact n
 there := fun b u q _ => ⟨u, k b u q⟩
 tups := fun b xs q => by rw [zaj (zal q hn)]; exact q
 frzs := fun b u xs q => by rw [zaj (zal q hn)]; exact q
 tbls := fun b ps q => ⟨#[], by rw [zaj (zal q hn), q]; simp⟩
theorem Un.write (mu : Mut (H x)) (he : e = x ∨ H e = some (.own x)) (k : ∀ b u, b ≠ e → h.get? b = some u → h'.get? b = some u) (heo : ∃ u, h'.get? e = some u) : Un fs ex H (upd H x o) h h' := by
 have hx : ∀ b, H b = none → b ≠ x := fun b n z => by subst z; rw [n] at mu; exact mu
 have hb : ∀ b, H b = none → b ≠ e := fun b n z => by
  subst z
  rcases he with r | r
  ·exact hx b n r
  ·rw [n] at r; cases r
 have hm : ∀ b u, H b = some u → ¬ Mut (some u) → b ≠ x := fun b u q nm z => by subst z; rw [q] at mu; exact nm mu
 refine ⟨fun b u q n _ _ => k b u (hb b n) q, fun b u q n _ _ => ⟨u.slots, k b u (hb b n) q⟩, fun b u q n _ => by rw [zaj (hx b n)]; exact n, fun b u q _ => ?_,
  fun b xs q => by rw [zaj (hm b _ q fun z => z)]; exact q, fun b u xs q => by rw [zaj (hm b _ q fun z => z)]; exact q, fun b ps q => ⟨#[], by rw [zaj (hm b _ q fun z => z), q]; simp⟩⟩
 by_cases hbe : b = e
 ·subst hbe; exact heo
 ·exact ⟨u, k b u hbe q⟩
end
def trk (h : Heap) (H : Hp) : List Addr := (List.range h.objs.size).filter fun a => (H a).isSome
def hidT (h : Heap) (H : Hp) : Heap := PySem.W.hideAll h (trk h H)
theorem zhk (h : Heap) (H : Hp) : (hidT h H).objs.size = h.objs.size := PySem.W.hideAll_size _ _
theorem zhZ {h : Heap} {H : Hp} {b : Addr} {o : Obj} (e : h.get? b = some o) (n : H b = none) : (hidT h H).get? b = some o :=
 PySem.W.hideAll_get _ e fun hm => by
  have q : (H b).isSome = true := (List.mem_filter.mp hm).2
  rw [n] at q; simp at q
theorem zjM {h : Heap} {H : Hp} {b : Addr} {o : Obj} (e : (hidT h H).get? b = some o) : h.get? b = some o ∧ H b = none := by
 have e' : h.get? b = some o := PySem.W.of_hideAll (trk h H) e
 refine ⟨e', ?_⟩
 cases q : H b with
 | none => rfl
 | some x =>
  have hm : b ∈ trk h H := List.mem_filter.mpr ⟨List.mem_range.mpr (Heap.lt_size e'), by simp [q]⟩
  have z : (hidT h H).get? b = none := PySem.W.hideAll_none (trk h H) hm
  rw [z] at e; cases e
def zi5 (g h : Heap) (L : Addr) : List (Addr × Obj) := (List.range h.objs.size).filterMap fun a => if a = L ∨ (g.get? a).isSome = true then none else (h.get? a).map fun o => (a, o)
def rest (g h : Heap) (L d : Addr) : List (Addr × Obj) := (zi5 g h L).filter fun p => decide (p.1 ≠ d)
end L2
namespace L2
open PySem PySem.Spec PyProof.Rows
structure Mod (K : PySem.W.Frag) (mg : Str → Option Value) (base : Heap) : Prop where
 kin : K.In base
 glob : base.Ns mainGlobals mg
 blt : ∃ mb, base.Ns builtinsNs mb ∧ ∀ x : Str, x ≠ "__name__" → mb x = bootBuiltins x
 nolimit : base.NoLimit
structure Cx where
 prog : Program
 w : World
 K : PySem.W.Frag
 mg : Str → Option Value
 base : Heap
 A : Around
 N : List Str
 s₀ : Shared
 H₀ : Hp
 env : Env
 outer : List Env
 stack : List Env
 ex : List Addr
 fn : Str → Bool
 calm : Bool
 pn : List (Addr × Obj)
 xe : Value → Shared → Prop
def frs (l : List Env) : List Addr := l.filterMap (·.frame)
abbrev Cx.fs (X : Cx) : List Addr := frs X.outer
def Vis (sc : Scope) (x : Str) : Prop := sc.names.lookup x = some .local ∨ sc.names.lookup x = some .cell ∨ sc.names.lookup x = some .free
def Loc (sc : Scope) (x : Str) : Prop := sc.names.lookup x = some .local ∨ sc.names.lookup x = some .cell
def Look (env : Env) (h : Heap) (m : Str → Option Value) (x : Str) (u : Value) : Prop :=
 (env.kindOf x = some .local ∧ m x = some u) ∨ ((env.kindOf x = some .cell ∨ env.kindOf x = some .free) ∧ ∃ c, env.cells.lookup x = some c ∧ h.IsCell c (some u))
structure Cx.Ok (X : Cx) : Prop where
 mod : Mod X.K X.mg X.base
 kind : X.env.scope.kind = .function
 glob : X.env.globals = mainGlobals
 blt : X.env.builtins = builtinsNs
 above : X.s₀.heap.objs.size ≤ X.env.locals
 inj : ∀ x y c, X.env.cells.lookup x = some c → X.env.cells.lookup y = some c → x = y
 has : ∀ x, (X.env.kindOf x = some .cell ∨ X.env.kindOf x = some .free) → ∃ c, X.env.cells.lookup x = some c
 cab : ∀ x c, X.fn x = true → X.env.cells.lookup x = some c → X.s₀.heap.objs.size ≤ c
 hd : X.calm = true → X.A.handled = none
 frames : X.A.frames = some X.stack
 stk : X.stack = X.outer ∨ (X.stack = X.env :: X.outer ∧ X.env.frame = some X.env.locals)
 exf : ∀ b ∈ X.ex, b ≠ X.env.locals ∧ ∀ x c, X.env.cells.lookup x = some c → c ≠ b
 bs : ∀ b o, X.base.get? b = some o → X.s₀.heap.get? b = some o ∧ X.H₀ b = none
 bsz : X.base.objs.size ≤ X.s₀.heap.objs.size
 noex : ∀ b o, X.base.get? b = some o → b ∉ X.ex
 exfs : ∀ b ∈ X.ex, b ∉ X.fs
 funs : X.s₀.heap.FunFrames X.base X.outer
 frf : ∀ b ∈ X.fs, X.H₀ b = none
structure Inv (X : Cx) (pins : List (Addr × Obj)) (σ : List (Option V)) (H : Hp) (s : Shared) : Prop where
 ok : X.Ok
 os : s.os = X.s₀.os
 bare : AllBare s.gens
 base : Un X.fs X.ex X.H₀ H X.s₀.heap s.heap
 loc : ∃ m, s.heap.Ns X.env.locals m ∧ ∀ (i : Nat) (x : Str) (v : V), X.N[i]? = some x → σ[i]? = some (some v) → Vis X.env.scope x → ∃ u, RelV v u ∧ Look X.env s.heap m x u
 cell : ∀ x c, X.env.cells.lookup x = some c → ∃ v, s.heap.IsCell c v
 free : H X.env.locals = none
 freeC : ∀ x c, X.env.cells.lookup x = some c → H c = none
 pin : ∀ p ∈ X.pn ++ pins, s.heap.get? p.1 = some p.2 ∧ H p.1 = none ∧ p.1 ≠ X.env.locals ∧ p.1 ∉ X.fs ∧ ∀ v, p.2.data ≠ .cell v
 hok : HOk X.prog X.w H s.heap
 len : σ.length = X.N.length
section
variable {X : Cx} {pins : List (Addr × Obj)} {σ : List (Option V)} {H H' : Hp} {s : Shared} {h' : Heap}
theorem Cx.Ok.nofr (ok : X.Ok) {b : Addr} {o : Obj} (e : X.base.get? b = some o) : b ∉ X.fs := fun hb => by
 have := (ok.funs.mem hb).1
 rw [e] at this; cases this
theorem Inv.bs (I : Inv X pins σ H s) : ∀ b o, X.base.get? b = some o → s.heap.get? b = some o ∧ H b = none := fun b o e =>
 ⟨I.base.keep b o (I.ok.bs b o e).1 (I.ok.bs b o e).2 (I.ok.nofr e) (I.ok.noex b o e), I.base.free b o (I.ok.bs b o e).1 (I.ok.bs b o e).2 (I.ok.noex b o e)⟩
theorem Inv.bk (I : Inv X pins σ H s) : ∀ b o, X.base.get? b = some o → s.heap.get? b = some o := fun b o e => (I.bs b o e).1
theorem Inv.mod (I : Inv X pins σ H s) : Mod X.K X.mg X.base := I.ok.mod
theorem Inv.kIn (I : Inv X pins σ H s) : X.K.In s.heap := I.ok.mod.kin.keeps I.bk
theorem Inv.nolimit (I : Inv X pins σ H s) : s.heap.NoLimit := I.ok.mod.nolimit.keeps I.bk
theorem Inv.fr (I : Inv X pins σ H s) : ∃ m, Fr X.base X.env.locals s.heap m :=
 let ⟨m, hn, _⟩ := I.loc
 ⟨m, hn, I.bk, Nat.le_trans I.ok.bsz I.ok.above⟩
theorem Inv.lt (I : Inv X pins σ H s) : X.env.locals < s.heap.objs.size := let ⟨_, hn, _⟩ := I.loc; hn.lt
theorem Inv.sz (I : Inv X pins σ H s) : X.s₀.heap.objs.size ≤ s.heap.objs.size := Nat.le_trans I.ok.above (Nat.le_of_lt I.lt)
theorem Inv.nofs (I : Inv X pins σ H s) {a : Addr} (h : s.heap.objs.size ≤ a) : a ∉ X.fs := fun hb => by
 refine zaa ?_; intro G_; obtain ⟨_, o, ho, _⟩ := I.ok.funs.mem hb
 exact absurd (Nat.lt_of_lt_of_le (Heap.lt_size ho) (Nat.le_trans I.sz h)) (Nat.lt_irrefl _)
theorem Inv.cne (I : Inv X pins σ H s) : ∀ x c, X.env.cells.lookup x = some c → c ≠ X.env.locals := fun x c e z => by
 refine zaa ?_; intro G_; obtain ⟨v, o, ho, hd⟩ := I.cell x c e
 refine zaa ?_; intro G_; obtain ⟨m, ⟨o', es, ep, ho', hd', _⟩, _⟩ := I.loc
 rw [z, ho'] at ho; cases ho; rw [hd'] at hd; cases hd
theorem Inv.funs (I : Inv X pins σ H s) : s.heap.FunFrames X.base X.outer := by
 have all : ∀ (l : List Env), (∀ b ∈ frs l, b ∈ X.fs) → X.s₀.heap.FunFrames X.base l → s.heap.FunFrames X.base l := by
  intro l
  induction l with
  | nil => intro _ _; trivial
  | cons env r ih =>
   intro hs hl
   refine zaa ?_; intro G_; obtain ⟨hk, ⟨L, o, hf, hn, ho, hd⟩, hr⟩ := hl
   have hL : L ∈ X.fs := hs L (by unfold frs; rw [List.filterMap_cons, hf]; exact List.mem_cons_self)
   obtain ⟨sl, e⟩ := I.base.slot L o ho (I.ok.frf L hL) hL fun z => I.ok.exfs L z hL
   exact ⟨hk, ⟨L, _, hf, hn, e, hd⟩, ih (fun b hb => hs b (by unfold frs; rw [List.filterMap_cons, hf]; exact List.mem_cons_of_mem _ hb)) hr⟩
 exact all X.outer (fun _ hb => hb) I.ok.funs
theorem Inv.stack (I : Inv X pins σ H s) : s.heap.FunFrames X.base X.stack := by
 rcases I.ok.stk with e | ⟨e, hf⟩
 ·rw [e]; exact I.funs
 ·rw [e]
  refine zaa ?_; intro G_; obtain ⟨m, hn, _⟩ := I.loc
  refine .cons (by rw [I.ok.kind]; decide) hf hn ?_ I.funs
  exact Heap.get?_none_of_le (Nat.le_trans I.ok.bsz I.ok.above)
theorem Inv.stkSub (I : Inv X pins σ H s) : ∀ b ∈ frs X.stack, b ∈ X.env.locals :: X.fs := fun b hb => by
 rcases I.ok.stk with e | ⟨e, hf⟩
 ·rw [e] at hb; exact List.mem_cons_of_mem _ hb
 ·rw [e] at hb
  unfold frs at hb
  rw [List.filterMap_cons, hf] at hb
  exact hb
theorem Inv.stkFree (I : Inv X pins σ H s) : ∀ b ∈ frs X.stack, H b = none := fun b hb => by
 rcases List.mem_cons.mp (I.stkSub b hb) with e | hb
 ·rw [e]; exact I.free
 ·refine zaa ?_; intro G_; obtain ⟨_, o, ho, _⟩ := I.ok.funs.mem hb
  exact I.base.free b o ho (I.ok.frf b hb) fun z => I.ok.exfs b z hb
theorem Inv.step {g' : Array GenState} {t' : Nat} {d' : Drawn} {ch : List Addr} (I : Inv X pins σ H s)
  (hch : ∀ b ∈ ch, (b ∈ X.ex ∨ X.s₀.heap.objs.size ≤ b) ∧ b ≠ X.env.locals ∧ (∀ x c, X.env.cells.lookup x = some c → c ≠ b) ∧ ∀ p ∈ X.pn ++ pins, p.1 ≠ b)
  (keep : ∀ b o, b ≠ X.env.locals → b ∉ X.fs → b ∉ ch → s.heap.get? b = some o → H b = none → h'.get? b = some o)
  (slot : ∀ b o, b ≠ X.env.locals → b ∈ X.fs → b ∉ ch → s.heap.get? b = some o → H b = none → ∃ sl, h'.get? b = some { o with slots := sl }) (free : ∀ b o, b ∉ ch → s.heap.get? b = some o → H b = none → H' b = none)
  (there : ∀ b o, b ∉ ch → s.heap.get? b = some o → ∃ o', h'.get? b = some o')
  (tups : ∀ b xs, H b = some (.tup xs) → H' b = some (.tup xs)) (frzs : ∀ b o u, H b = some (.frz o u) → H' b = some (.frz o u)) (tbls : ∀ b ps, H b = some (.tbl ps) → ∃ more, H' b = some (.tbl (ps ++ more)))
  (ns : ∀ m, s.heap.Ns X.env.locals m → h'.Ns X.env.locals m) (hok : HOk X.prog X.w H' h') (hg : AllBare g') :
  Inv X pins σ H' { s with heap := h', gens := g', drawn := d', toks := t' } := by
 have neL : ∀ b o, X.s₀.heap.get? b = some o → b ≠ X.env.locals := fun b o e => Nat.ne_of_lt (Nat.lt_of_lt_of_le (Heap.lt_size e) I.ok.above)
 have neC : ∀ b o, X.s₀.heap.get? b = some o → b ∉ X.ex → b ∉ ch := fun b o e hx hb => by
  rcases (hch b hb).1 with z | z
  ·exact hx z
  ·exact absurd (Nat.lt_of_lt_of_le (Heap.lt_size e) z) (Nat.lt_irrefl _)
 have cellK : ∀ x c, X.env.cells.lookup x = some c → ∀ v, s.heap.IsCell c v → h'.IsCell c v := fun x c e v ⟨o, ho, hd⟩ => by
  have nch : c ∉ ch := fun z => (hch c z).2.2.1 x c e rfl
  by_cases hc : c ∈ X.fs
  ·obtain ⟨sl, q⟩ := slot c o (I.cne x c e) hc nch ho (I.freeC x c e)
   exact ⟨_, q, hd⟩
  ·exact ⟨o, keep c o (I.cne x c e) hc nch ho (I.freeC x c e), hd⟩
 refine ⟨I.ok, I.os, hg, ⟨fun b o e n hb hx => ?_, fun b o e n hb hx => ?_, fun b o e n hx => ?_, fun b o e hx => ?_, fun b xs e => tups b xs (I.base.tups b xs e), fun b o xs e => frzs b o xs (I.base.frzs b o xs e), fun b ps e => ?_⟩, ?_, fun x c e => ?_, ?_, fun x c e => ?_, fun p hp => ?_, hok, I.len⟩
 ·exact keep b o (neL b o e) hb (neC b o e hx) (I.base.keep b o e n hb hx) (I.base.free b o e n hx)
 ·obtain ⟨sl, e1⟩ := I.base.slot b o e n hb hx
  obtain ⟨sl', e2⟩ := slot b _ (neL b o e) hb (neC b o e hx) e1 (I.base.free b o e n hx)
  exact ⟨sl', e2⟩
 ·obtain ⟨o', e1⟩ := I.base.there b o e hx
  exact free b o' (neC b o e hx) e1 (I.base.free b o e n hx)
 ·obtain ⟨o', e1⟩ := I.base.there b o e hx
  exact there b o' (neC b o e hx) e1
 ·obtain ⟨m1, e1⟩ := I.base.tbls b ps e
  obtain ⟨m2, e2⟩ := tbls b _ e1
  exact ⟨m1 ++ m2, by rw [e2, Array.append_assoc]⟩
 ·refine zaa ?_; intro G_; obtain ⟨m, hn, hl⟩ := I.loc
  refine ⟨m, ns m hn, fun i x v e1 e2 e3 => ?_⟩
  refine zaa ?_; intro G_; obtain ⟨u, r, l⟩ := hl i x v e1 e2 e3
  refine ⟨u, r, ?_⟩
  rcases l with l | ⟨k, c, e, z⟩
  ·exact .inl l
  ·exact .inr ⟨k, c, e, cellK x c e _ z⟩
 ·obtain ⟨v, z⟩ := I.cell x c e
  exact ⟨v, cellK x c e v z⟩
 ·refine zaa ?_; intro G_; obtain ⟨m, ⟨o, _, _, ho, _⟩, _⟩ := I.loc
  exact free _ o (fun z => (hch _ z).2.1 rfl) ho I.free
 ·refine zaa ?_; intro G_; obtain ⟨v, o, ho, hd⟩ := I.cell x c e
  exact free c o (fun z => (hch c z).2.2.1 x c e rfl) ho (I.freeC x c e)
 ·refine zaa ?_; intro G_; obtain ⟨e, n, ne, nf, d⟩ := I.pin p hp
  have nch : p.1 ∉ ch := fun z => (hch p.1 z).2.2.2 p hp rfl
  exact ⟨keep p.1 p.2 ne nf nch e n, free p.1 p.2 nch e n, ne, nf, d⟩
theorem Inv.un {t' : Nat} (I : Inv X pins σ H s) (u : Un X.fs [] H H' s.heap h') (hok : HOk X.prog X.w H' h') : Inv X pins σ H' { s with heap := h', toks := t' } := by
 refine zaa ?_; intro G_; obtain ⟨m, ⟨o, es, ep, ho, r⟩, _⟩ := id I.loc
 obtain ⟨sl, hL⟩ := u.any ho I.free (by simp)
 exact I.step (g' := s.gens) (d' := s.drawn) (ch := []) (fun _ z => nomatch z) (fun b o _ hb _ e n => u.keep b o e n hb (by simp)) (fun b o _ hb _ e n => u.slot b o e n hb (by simp)) (fun b o _ e n => u.free b o e n (by simp)) (fun b o _ e => u.there b o e (by simp)) u.tups u.frzs u.tbls (fun m' hm => by
  refine zaa ?_; intro G_; obtain ⟨o', es', ep', ho', r'⟩ := hm
  rw [ho] at ho'; cases ho'
  exact ⟨_, es', ep', hL, r'⟩) hok I.bare
theorem Inv.call {g' : Array GenState} {t' : Nat} {d' : Drawn} {ch : List Addr} (I : Inv X pins σ H s) (u : Un (frs X.stack) ch H H' s.heap h') (hok : HOk X.prog X.w H' h') (hg : AllBare g')
  (hch : ∀ b ∈ ch, (b ∈ X.ex ∨ X.s₀.heap.objs.size ≤ b) ∧ b ≠ X.env.locals ∧ (∀ x c, X.env.cells.lookup x = some c → c ≠ b) ∧ ∀ p ∈ X.pn ++ pins, p.1 ≠ b) :
  Inv X pins σ H' { s with heap := h', gens := g', drawn := d', toks := t' } := by
 refine zaa ?_; intro G_; obtain ⟨m, ⟨o, es, ep, ho, r⟩, _⟩ := id I.loc
 obtain ⟨sl, hL⟩ := u.any ho I.free fun z => (hch _ z).2.1 rfl
 exact I.step (ch := ch) hch (fun b o hL hb hc e n => u.keep b o e n (fun z => (List.mem_cons.mp (I.stkSub b z)).elim hL hb) hc) (fun b o _ _ hc e n => u.any e n hc) (fun b o hc e n => u.free b o e n hc) (fun b o hc e => u.there b o e hc) u.tups u.frzs u.tbls (fun m' hm => by
  refine zaa ?_; intro G_; obtain ⟨o', es', ep', ho', r'⟩ := hm
  rw [ho] at ho'; cases ho'
  exact ⟨_, es', ep', hL, r'⟩) hok hg
theorem Inv.turned {t' : Nat} {it : Addr} (I : Inv X pins σ H s) (k : ∀ b o, b ≠ it → s.heap.get? b = some o → h'.get? b = some o) (hn : H it = none) (hL : it ≠ X.env.locals)
  (h1 : it ∈ X.ex ∨ X.s₀.heap.objs.size ≤ it) (h2 : ∀ x c, X.env.cells.lookup x = some c → c ≠ it) (h3 : ∀ p ∈ X.pn ++ pins, p.1 ≠ it) : Inv X pins σ H { s with heap := h', toks := t' } := by
 have nit : ∀ b u, H b = some u → b ≠ it := fun b u e z => by rw [z, hn] at e; cases e
 refine I.step (g' := s.gens) (d' := s.drawn) (ch := [it]) (fun b hb => ?_) (fun b o _ _ hc e _ => k b o (fun z => hc (by simp [z])) e) (fun b o _ _ hc e _ => ⟨o.slots, k b o (fun z => hc (by simp [z])) e⟩) (fun _ _ _ _ n => n)
  (fun b o hc e => ⟨o, k b o (fun z => hc (by simp [z])) e⟩) (fun _ _ e => e) (fun _ _ _ e => e) (fun b ps e => ⟨#[], by rw [e]; simp⟩) (fun m hm => ?_) (fun b u e => ?_) I.bare
 ·have e : b = it := by simpa using hb
  subst e
  exact ⟨h1, hL, h2, h3⟩
 ·refine zaa ?_; intro G_; obtain ⟨o, es, ep, ho, r⟩ := hm
  exact ⟨o, es, ep, k _ o (Ne.symm hL) ho, r⟩
 ·refine (I.hok b u e).stay (fun c v hc q => k c v ?_ q) (fun _ q => q) fun _ _ q => q
  rcases hc with z | z
  ·rw [z]; exact nit b u e
  ·exact nit c _ z
theorem Inv.tok (I : Inv X pins σ H s) (t : Nat) : Inv X pins σ H { s with toks := t } := I.un (h' := s.heap) (t' := t) Un.refl I.hok
theorem Inv.kept {t' : Nat} (I : Inv X pins σ H s) (k : ∀ b u, s.heap.get? b = some u → h'.get? b = some u) : Inv X pins σ H { s with heap := h', toks := t' } := I.un (Un.kept k) (I.hok.kept k)
theorem Inv.laid {a : Addr} {o : HO} {t' : Nat} (I : Inv X pins σ H s) (k : ∀ b u, s.heap.get? b = some u → h'.get? b = some u) (hp : s.heap.objs.size ≤ a) (new : ObjOk X.prog X.w (upd H a o) h' a o) :
  Inv X pins σ (upd H a o) { s with heap := h', toks := t' } := I.un (Un.laid k hp (I.hok.fresh hp)) (I.hok.laid k hp new)
theorem Inv.write {x e : Addr} {o : HO} {t' : Nat} (I : Inv X pins σ H s) (mu : Mut (H x)) (he : e = x ∨ H e = some (.own x)) (k : ∀ b u, b ≠ e → s.heap.get? b = some u → h'.get? b = some u) (heo : ∃ u, h'.get? e = some u)
  (new : ObjOk X.prog X.w (upd H x o) h' x o) : Inv X pins σ (upd H x o) { s with heap := h', toks := t' } := I.un (Un.write mu he k heo) (I.hok.write mu he k heo new)
theorem Inv.pins_of {pins' : List (Addr × Obj)} (I : Inv X pins σ H s) (h : ∀ p ∈ pins', s.heap.get? p.1 = some p.2 ∧ H p.1 = none ∧ p.1 ≠ X.env.locals ∧ p.1 ∉ X.fs ∧ ∀ v, p.2.data ≠ .cell v) : Inv X pins' σ H s :=
 ⟨I.ok, I.os, I.bare, I.base, I.loc, I.cell, I.free, I.freeC, fun p hp => (List.mem_append.mp hp).elim (fun z => I.pin p (List.mem_append_left _ z)) (h p), I.hok, I.len⟩
theorem zfn {N : List Str} (hN : N.Nodup) {i j : Nat} {x : Str} (a : N[i]? = some x) (b : N[j]? = some x) : i = j := by
 obtain ⟨h1, e1⟩ := List.getElem?_eq_some_iff.mp a
 obtain ⟨h2, e2⟩ := List.getElem?_eq_some_iff.mp b
 exact (List.getElem_inj hN).mp (e1.trans e2.symm)
theorem zha {M : Model} {A : Around} {E : Value → Shared → Prop} {i : Nat} {x : Str} {v : V} {u : Value} {Q : Unit → Shared → Prop} (I : Inv X pins σ H s) (hN : X.N.Nodup) (hi : X.N[i]? = some x) (hx : Loc X.env.scope x) (r : RelV v u)
  (h : ∀ s', Inv X pins (σ.set i (some v)) H s' → (∃ a, Heap.SameBut a s.heap s'.heap ∧ (a = X.env.locals ∨ X.env.cells.lookup x = some a)) → Q () s') (hf : X.fn x = true ∨ X.env.scope.names.lookup x = some .local := by first | exact .inl rfl | exact .inr rfl | assumption) : wpAny M A (storeName X.env x u) Q E s := by
 refine zaa ?_; intro G_; obtain ⟨m, hn, hl⟩ := id I.loc
 have hcls : (X.env.scope.kind == .class || (X.env.scope.kind == .module && X.env.locals != X.env.globals)) = false := by rw [I.ok.kind]; rfl
 have hiσ : i < σ.length := by rw [I.len]; exact (List.getElem?_eq_some_iff.mp hi).1
 have cne := I.cne
 have tracked : ∀ {a : Addr} {h' : Heap}, (∃ o, s.heap.get? a = some o ∧ H a = none) → Heap.SameBut a s.heap h' → HOk X.prog X.w H h' := fun {a h'} ha hs b ob e => by
  refine zaa ?_; intro G_; obtain ⟨_, _, hfree⟩ := ha
  refine (I.hok b ob e).stay (fun c w' hc q => (hs.2 c ?_).trans q) (fun _ q => q) fun _ _ q => q
  rintro rfl
  rcases hc with rfl | hc
  ·rw [hfree] at e; cases e
  ·rw [hfree] at hc; cases hc
 rcases hx with hk | hk
 ·refine wpAny_storeName_local hk hn (fun h' hn' hs => ?_) hcls
  refine zaa ?_; intro G_; obtain ⟨oL, _, _, hoL, _⟩ := id hn
  refine h _ ⟨I.ok, I.os, I.bare, ⟨fun b o e n hb hx => ?_, fun b o e n hb hx => ?_, I.base.free, fun b o e hx => ?_, I.base.tups, I.base.frzs, I.base.tbls⟩, ⟨_, hn', fun j y v' e1 e2 e3 => ?_⟩, fun y c e => ?_, I.free, I.freeC, fun p hp => ?_, tracked ⟨oL, hoL, I.free⟩ hs, by simpa using I.len⟩ ⟨_, hs, .inl rfl⟩
  ·exact (hs.2 b (Nat.ne_of_lt (Nat.lt_of_lt_of_le (Heap.lt_size e) I.ok.above))).trans (I.base.keep b o e n hb hx)
  ·obtain ⟨sl, e1⟩ := I.base.slot b o e n hb hx
   exact ⟨sl, (hs.2 b (Nat.ne_of_lt (Nat.lt_of_lt_of_le (Heap.lt_size e) I.ok.above))).trans e1⟩
  ·obtain ⟨o', e1⟩ := I.base.there b o e hx
   exact ⟨o', (hs.2 b (Nat.ne_of_lt (Nat.lt_of_lt_of_le (Heap.lt_size e) I.ok.above))).trans e1⟩
  ·by_cases hj : j = i
   ·subst hj
    rw [hi] at e1; cases e1
    rw [List.getElem?_set_self hiσ] at e2
    cases e2
    exact ⟨u, r, .inl ⟨hk, by simp⟩⟩
   ·rw [List.getElem?_set_ne (Ne.symm hj)] at e2
    refine zaa ?_; intro G_; obtain ⟨u', r', q⟩ := hl j y v' e1 e2 e3
    refine ⟨u', r', ?_⟩
    rcases q with ⟨k, e⟩ | ⟨k, c, e, z⟩
    ·refine .inl ⟨k, ?_⟩
     have : y ≠ x := fun e => hj (zfn hN e1 (e ▸ hi))
     simp [this, e]
    ·exact .inr ⟨k, c, e, z.sameBut hs (cne y c e)⟩
  ·obtain ⟨w', z⟩ := I.cell y c e
   exact ⟨w', z.sameBut hs (cne y c e)⟩
  ·refine zaa ?_; intro G_; obtain ⟨e, n, ne, nf, d⟩ := I.pin p hp
   exact ⟨(hs.2 p.1 ne).trans e, n, ne, nf, d⟩
 ·have hfn : X.fn x = true := by
   rcases hf with z | z
   ·exact z
   ·rw [z] at hk; cases hk
  obtain ⟨c, hc⟩ := I.ok.has x (.inl hk)
  obtain ⟨w', z⟩ := I.cell x c hc
  refine wpAny_storeName_cell I.ok.kind hk hc z (fun h' hc' hs => ?_)
  refine zaa ?_; intro G_; obtain ⟨oc, hoc, hocd⟩ := id z
  refine h { s with heap := h' } ⟨I.ok, I.os, I.bare, ⟨fun b o e n hb hx => ?_, fun b o e n hb hx => ?_, I.base.free, fun b o e hx => ?_, I.base.tups, I.base.frzs, I.base.tbls⟩, ⟨m, hn.sameBut hs (Ne.symm (cne x c hc)), fun j y v' e1 e2 e3 => ?_⟩, fun y c' e => ?_, I.free, I.freeC, fun p hp => ?_, tracked ⟨oc, hoc, I.freeC x c hc⟩ hs, by simpa using I.len⟩ ⟨c, hs, .inr hc⟩
  ·exact (hs.2 b (Nat.ne_of_lt (Nat.lt_of_lt_of_le (Heap.lt_size e) (I.ok.cab x c hfn hc)))).trans (I.base.keep b o e n hb hx)
  ·obtain ⟨sl, e1⟩ := I.base.slot b o e n hb hx
   exact ⟨sl, (hs.2 b (Nat.ne_of_lt (Nat.lt_of_lt_of_le (Heap.lt_size e) (I.ok.cab x c hfn hc)))).trans e1⟩
  ·obtain ⟨o', e1⟩ := I.base.there b o e hx
   exact ⟨o', (hs.2 b (Nat.ne_of_lt (Nat.lt_of_lt_of_le (Heap.lt_size e) (I.ok.cab x c hfn hc)))).trans e1⟩
  ·by_cases hj : j = i
   ·subst hj
    rw [hi] at e1; cases e1
    rw [List.getElem?_set_self hiσ] at e2
    cases e2
    exact ⟨u, r, .inr ⟨.inl hk, c, hc, hc'⟩⟩
   ·rw [List.getElem?_set_ne (Ne.symm hj)] at e2
    refine zaa ?_; intro G_; obtain ⟨u', r', q⟩ := hl j y v' e1 e2 e3
    refine ⟨u', r', ?_⟩
    rcases q with q | ⟨k, c', e, z'⟩
    ·exact .inl q
    ·refine .inr ⟨k, c', e, z'.sameBut hs ?_⟩
     rintro rfl
     exact hj (zfn hN e1 (I.ok.inj _ _ _ e hc ▸ hi))
  ·by_cases hcc : c' = c
   ·subst hcc; exact ⟨_, hc'⟩
   ·obtain ⟨w2, z2⟩ := I.cell y c' e
    exact ⟨w2, z2.sameBut hs hcc⟩
  ·refine zaa ?_; intro G_; obtain ⟨e, n, ne, nf, d⟩ := I.pin p hp
   refine ⟨(hs.2 p.1 ?_).trans e, n, ne, nf, d⟩
   intro q
   rw [q, hoc] at e
   have q' : oc = p.2 := Option.some.inj e
   exact d w' (by rw [← q']; exact hocd)
theorem zfo {M : Model} {A : Around} {E : Value → Shared → Prop} {i : Nat} {x : Str} {v : V} {u : Value} {Q : Unit → Shared → Prop} (I : Inv X pins σ H s) (hN : X.N.Nodup) (hi : X.N[i]? = some x) (hx : Loc X.env.scope x) (r : RelV v u)
  (h : ∀ s', Inv X pins (σ.set i (some v)) H s' → Q () s') (hf : X.fn x = true ∨ X.env.scope.names.lookup x = some .local := by first | exact .inl rfl | exact .inr rfl | assumption) : wpAny M A (storeName X.env x u) Q E s :=
 zha I hN hi hx r (fun s' I' _ => h s' I') hf
theorem Inv.call' {s' : Shared} {ch : List Addr} (I : Inv X pins σ H s) (ho : s'.os = s.os) (u : Un (frs X.stack) ch H H' s.heap s'.heap) (hok : HOk X.prog X.w H' s'.heap) (hg : AllBare s'.gens)
  (hch : ∀ b ∈ ch, (b ∈ X.ex ∨ X.s₀.heap.objs.size ≤ b) ∧ b ≠ X.env.locals ∧ (∀ x c, X.env.cells.lookup x = some c → c ≠ b) ∧ ∀ p ∈ X.pn ++ pins, p.1 ≠ b) : Inv X pins σ H' s' := by
 refine zaa ?_; intro G_; obtain ⟨h', g', d', t', o'⟩ := s'
 have e : o' = s.os := ho
 subst e
 exact I.call (g' := g') (t' := t') (d' := d') u hok hg hch
end
abbrev XK := Value → Option Addr → Hp → Prop
abbrev St := List (Option V)
abbrev VK := V → Hp → Prop
abbrev TE := St → Hp → VK → Prop
abbrev TT := St → Hp → (Bool → Hp → Prop) → Prop
abbrev TA := St → Hp → (List V → Hp → Prop) → Prop
structure Ends where
 nx : St → Hp → Prop
 rt : VK
 bk : St → Hp → Prop := fun _ _ => False
 ct : St → Hp → Prop := fun _ _ => False
abbrev TS := Ends → St → Hp → Prop
def EP (X : Cx) (pins : List (Addr × Obj)) (σ : St) (Q : VK) (u : Value) (s' : Shared) : Prop := ∃ v H', Inv X pins σ H' s' ∧ RelV v u ∧ Q v H'
def TP (X : Cx) (pins : List (Addr × Obj)) (σ : St) (Q : Bool → Hp → Prop) (b : Bool) (s' : Shared) : Prop := ∃ H', Inv X pins σ H' s' ∧ Q b H'
def AP (X : Cx) (pins : List (Addr × Obj)) (σ : St) (Q : List V → Hp → Prop) (us : List Value) (s' : Shared) : Prop := ∃ vs H', Inv X pins σ H' s' ∧ Vals vs us ∧ Q vs H'
def SP (X : Cx) (pins : List (Addr × Obj)) (D : Ends) (f : Flow) (s' : Shared) : Prop :=
 match f with
 | .next => ∃ σ' H', Inv X pins σ' H' s' ∧ D.nx σ' H'
 | .brk => ∃ σ' H', Inv X pins σ' H' s' ∧ D.bk σ' H'
 | .cont => ∃ σ' H', Inv X pins σ' H' s' ∧ D.ct σ' H'
 | .ret u => ∃ v σ' H', Inv X pins σ' H' s' ∧ RelV v u ∧ D.rt v H'
def PE (X : Cx) (e : Expr) (t : TE) : Prop :=
 ∀ (pins : List (Addr × Obj)) (s : Shared) (σ : St) (H : Hp) (Q : VK), Inv X pins σ H s → t σ H Q → wpAny (model X.prog X.w) X.A (eval e X.env) (EP X pins σ Q) X.xe s
def PT (X : Cx) (e : Expr) (t : TT) : Prop :=
 ∀ (pins : List (Addr × Obj)) (s : Shared) (σ : St) (H : Hp) (Q : Bool → Hp → Prop), Inv X pins σ H s → t σ H Q → wpAny (model X.prog X.w) X.A (isTrue e X.env (eval e X.env)) (TP X pins σ Q) X.xe s
def PW (X : Cx) (e : Expr) (t : TT) : Prop :=
 ∀ (whole : Sem Value) (pins : List (Addr × Obj)) (s : Shared) (σ : St) (H : Hp) (Q : Bool → Hp → Prop), Inv X pins σ H s → t σ H Q → wpAny (model X.prog X.w) X.A (isTrue e X.env whole) (TP X pins σ Q) X.xe s
theorem PW.pt {X : Cx} {e : Expr} {t : TT} (h : PW X e t) : PT X e t := h _
def PA (X : Cx) (es : List Expr) (t : TA) : Prop :=
 ∀ (pos : Pos) (pins : List (Addr × Obj)) (s : Shared) (σ : St) (H : Hp) (Q : List V → Hp → Prop), Inv X pins σ H s → t σ H Q → wpAny (model X.prog X.w) X.A (spliced (backTo pos (starEach es X.env))) (AP X pins σ Q) X.xe s
def PS (X : Cx) (st : Stmt) (t : TS) : Prop :=
 ∀ (pins : List (Addr × Obj)) (s : Shared) (σ : St) (H : Hp) (D : Ends), Inv X pins σ H s → t D σ H → wpAny (model X.prog X.w) X.A (exec st X.env) (SP X pins D) X.xe s
def PSs (X : Cx) (st : List Stmt) (t : TS) : Prop :=
 ∀ (pins : List (Addr × Obj)) (s : Shared) (σ : St) (H : Hp) (D : Ends), Inv X pins σ H s → t D σ H → wpAny (model X.prog X.w) X.A (execs st X.env) (SP X pins D) X.xe s
theorem thn {α : Type} {t : Sem α} {Q Q' : α → Shared → Prop} {M : Model} {A : Around} {E : Value → Shared → Prop} {s : Shared} (h : wpAny M A t Q E s) (hQ : ∀ a s, Q a s → Q' a s) : wpAny M A t Q' E s := wpAny_mono h hQ fun _ _ x => x
end L2
namespace L2
open PySem PySem.Spec PyProof.Rows
section
variable {X : Cx}
theorem bin {a b : Expr} {ta tb : TE} (ha : PE X a ta) (hb : PE X b tb) {pins : List (Addr × Obj)} {s : Shared} {σ : St} {H : Hp} {R : V → V → Hp → Prop} (I : Inv X pins σ H s) (h : ta σ H fun x H1 => tb σ H1 fun y H2 => R x y H2)
  {α : Type} {Q : α → Shared → Prop} {f : Value → Value → Sem α}
  (hf : ∀ v u s2 x y H2, Inv X pins σ H2 s2 → RelV x v → RelV y u → R x y H2 → wpAny (model X.prog X.w) X.A (f v u) Q X.xe s2) :
  wpAny (model X.prog X.w) X.A (eval a X.env) (fun v s₁ => wpAny (model X.prog X.w) X.A (eval b X.env) (fun u s₂ => wpAny (model X.prog X.w) X.A (f v u) Q X.xe s₂) X.xe s₁) X.xe s := by
 refine thn (ha pins s σ H _ I h) fun v s1 ⟨x, H1, I1, r1, q1⟩ => ?_
 refine thn (hb pins s1 σ H1 _ I1 q1) fun u s2 ⟨y, H2, I2, r2, q2⟩ => ?_
 exact hf v u s2 x y H2 I2 r1 r2 q2
def tVar (i : Nat) : TE := fun σ H Q => ∃ v, σ[i]? = some (some v) ∧ Q v H
def tC (v : V) : TE := fun _ H Q => Q v H
theorem zkJ {i : Nat} {x : Str} {pos : Pos} (hN : X.N[i]? = some x) (hv : Vis X.env.scope x) (hd : (x == ("__debug__" : Str)) = false := by decide) (hcd : (x == ("__classdict__" : Str)) = false := by decide) : PE X (.Name x pos) (tVar i) := by
 intro pins s σ H Q I h
 refine zaa ?_; intro G_; obtain ⟨v, e, h⟩ := h
 refine zaa ?_; intro G_; obtain ⟨m, hn, hl⟩ := I.loc
 refine zaa ?_; intro G_; obtain ⟨u, r, l⟩ := hl i x v hN e hv
 have fin : EP X pins σ Q u s := ⟨v, H, I, r, h⟩
 rcases l with ⟨hk, hm⟩ | ⟨hk, c, hc, hcell⟩
 ·exact wpAny_Name (wpAny_loadName_local I.ok.kind hk hn hm fin) hd
 ·rcases hk with hk | hk
  ·exact wpAny_Name (wpAny_loadName_cell I.ok.kind hk hc hcell fin) hd
  ·exact wpAny_Name (wpAny_loadName_free I.ok.kind hk hc hcell fin hcd) hd
theorem zkx {i j pos} : PE X (.Constant (.int i) j pos) (tC (.int i)) := fun _ _ _ H _ I h => wpAny_Constant_int ⟨.int i, H, I.tok _, ⟨_, rfl⟩, h⟩
theorem zlO {b j pos} : PE X (.Constant (.bool b) j pos) (tC (.bl b)) := fun _ _ _ H _ I h => Constant_bool ⟨.bl b, H, I, rfl, h⟩
theorem zjW {j pos} : PE X (.Constant .none j pos) (tC .non) := fun _ _ _ H _ I h => Constant_none ⟨.non, H, I, rfl, h⟩
theorem zjO {x j pos} : PE X (.Constant (.str x) j pos) (tC (.str x)) := fun _ _ _ H _ I h => Calls.Constant_str ⟨.str x, H, I.tok _, ⟨_, rfl⟩, h⟩
def Gl (X : Cx) (x : Str) : Prop := X.env.kindOf x = some .globalImplicit
theorem zdV {E : Value → Shared → Prop} {pins : List (Addr × Obj)} {s : Shared} {σ : St} {H : Hp} {x : Str} {u : Value} {pos : Pos} {Q : Value → Shared → Prop} (I : Inv X pins σ H s) (hg : Gl X x) (hm : X.mg x = some u) (h : Q u s)
  (hd : (x == ("__debug__" : Str)) = false := by decide) : wpAny (model X.prog X.w) X.A (eval (.Name x pos) X.env) Q E s :=
 Calls.Name_function_global I.ok.kind hg (Calls.loadGlobal_global (by rw [I.ok.glob]; exact I.mod.glob.keeps I.bk) hm h) hd
theorem zdr {E : Value → Shared → Prop} {pins : List (Addr × Obj)} {s : Shared} {σ : St} {H : Hp} {x : Str} {u : Value} {pos : Pos} {Q : Value → Shared → Prop} (I : Inv X pins σ H s) (hg : Gl X x) (hm : X.mg x = none) (hv : bootBuiltins x = some u) (h : Q u s)
  (hn : x ≠ "__name__" := by decide) (hd : (x == ("__debug__" : Str)) = false := by decide) : wpAny (model X.prog X.w) X.A (eval (.Name x pos) X.env) Q E s := by
 refine zaa ?_; intro G_; obtain ⟨mb, h1, h2⟩ := I.mod.blt
 exact Calls.Name_function_global I.ok.kind hg (Calls.loadGlobal_builtin (by rw [I.ok.glob]; exact I.mod.glob.keeps I.bk) hm (by rw [I.ok.blt]; exact h1.keeps I.bk) ((h2 x hn).trans hv) h) hd
theorem zgy {x : Str} {v : V} {u : Value} {pos : Pos} (hg : Gl X x) (hm : X.mg x = some u) (r : RelV v u) (hd : (x == ("__debug__" : Str)) = false := by decide) : PE X (.Name x pos) (tC v) :=
 fun _ _ _ H _ I h => zdV I hg hm ⟨v, H, I, r, h⟩ hd
theorem ziM {x : Str} {v : V} {u : Value} {pos : Pos} (hg : Gl X x) (hm : X.mg x = none) (hv : bootBuiltins x = some u) (r : RelV v u) (hn : x ≠ "__name__" := by decide) (hd : (x == ("__debug__" : Str)) = false := by decide) : PE X (.Name x pos) (tC v) :=
 fun _ _ _ H _ I h => zdr I hg hm hv ⟨v, H, I, r, h⟩ hn hd
variable {a b : Expr} {ta tb : TE} {pos : Pos}
def PC (X : Cx) (op : CmpOp) (a b : Expr) (t : TE) : Prop :=
 ∀ (pins : List (Addr × Obj)) (s : Shared) (σ : St) (H : Hp) (Q : VK), Inv X pins σ H s → t σ H Q →
  wpAny (model X.prog X.w) X.A (eval a X.env) (fun v s₁ => wpAny (model X.prog X.w) X.A (eval b X.env) (fun u s₂ => wpAny (model X.prog X.w) X.A (compareOp op v u) (EP X pins σ Q) X.xe s₂) X.xe s₁) X.xe s
theorem zcE (b : Expr) {op : CmpOp} (h : op ≠ .In) (h2 : op ≠ .NotIn) : behindInMarks op b = false := by
 have e1 : (op == CmpOp.In) = false := by cases op <;> first | rfl | exact absurd rfl h
 have e2 : (op == CmpOp.NotIn) = false := by cases op <;> first | rfl | exact absurd rfl h2
 cases b <;> simp [behindInMarks, e1, e2]
def tIsN (ta : TE) : TE := fun σ H Q => ta σ H fun x H1 => Q (.bl (decide (x = .non))) H1
theorem RelV.none_iff {x : V} {v : Value} (r : RelV x v) : (v == Value.none) = decide (x = .non) := by
 cases x with
 | non => cases r; rfl
 | bl _ => cases r; rfl
 | int _ => obtain ⟨t, rfl⟩ := r; rfl
 | str _ => obtain ⟨t, rfl⟩ := r; rfl
 | byt _ => obtain ⟨t, rfl⟩ := r; rfl
 | flt _ => obtain ⟨t, rfl⟩ := r; rfl
 | ref _ => cases r; rfl
 | ty _ => cases r; rfl
theorem zir {j pos'} (ha : PE X a ta) : PC X .Is a (.Constant .none j pos') (tIsN ta) := by
 intro pins s σ H Q I h
 refine thn (ha pins s σ H _ I h) fun v s1 ⟨x, H1, I1, r1, q1⟩ => ?_
 exact Constant_none (is_none_gen ⟨.bl _, H1, I1, by rw [r1.none_iff]; rfl, q1⟩)
def tB (t : TE) : TT := fun σ H Q => t σ H fun x H1 => ∃ c, x = .bl c ∧ Q c H1
theorem zkT {op : CmpOp} {t : TE} (h : PC X op a b t) (h1 : behindInMarks op b = false := by first | exact zcE _ (by decide) (by decide) | rfl) : PE X (.Compare a [op] [b] pos) t := fun pins s σ H Q I hw => wpAny_Compare1 (h pins s σ H Q I hw) h1
theorem zkt {op : CmpOp} {t : TE} (h : PC X op a b t) (h1 : behindInMarks op b = false := by first | exact zcE _ (by decide) (by decide) | rfl) : PT X (.Compare a [op] [b] pos) (tB t) := by
 intro pins s σ H Q I hw
 refine wpAny_isTrue_Compare1 (thn (h pins s σ H _ I hw) fun v s1 h1 => thn h1 fun u s2 h2 => thn h2 fun c s3 ⟨x, H1, I1, r1, q1⟩ => ?_) h1
 refine zaa ?_; intro G_; obtain ⟨d, rfl, q⟩ := q1
 cases r1
 exact wpAny_truthy_bool ⟨H1, I1, q⟩
theorem zkd {e : Expr} {t : TE} (h : PE X e t) (he : ∀ whole, isTrue e X.env whole = (do let v ← whole; standAt e.pos; holding [v] (truthy v)) := by intro _; rfl) : PT X e (tB t) := by
 intro pins s σ H Q I hw
 refine isTrue_plain (thn (h pins s σ H _ I hw) fun v s1 ⟨x, H1, I1, r1, q1⟩ => ?_) (he _)
 refine zaa ?_; intro G_; obtain ⟨d, rfl, q⟩ := q1
 cases r1
 exact wpAny_truthy_bool ⟨H1, I1, q⟩
variable {tA tB' : TT} {rest : List Expr}
def tAnd (t u : TT) : TT := fun σ H Q => t σ H fun c H1 => if c = true then u σ H1 Q else Q false H1
def tOr (t u : TT) : TT := fun σ H Q => t σ H fun c H1 => if c = true then Q true H1 else u σ H1 Q
def tNot (t : TT) : TT := fun σ H Q => t σ H fun c H1 => Q (!c) H1
theorem zjq (ha : PT X a tA) : PW X (.BoolOp .And [a] pos) tA := by
 intro wh pins s σ H Q I h
 refine isTrue_and (thn (ha pins s σ H Q I h) fun c s1 e => ?_)
 cases c with
 | true => exact isTrue_and_nil e
 | false => exact e
theorem zld (ha : PT X a tA) : PW X (.BoolOp .Or [a] pos) tA := by
 intro wh pins s σ H Q I h
 refine isTrue_or (thn (ha pins s σ H Q I h) fun c s1 e => ?_)
 cases c with
 | false => exact isTrue_or_nil e
 | true => exact e
theorem zjX (ha : PT X a tA) (hb : PW X (.BoolOp .And (b :: rest) pos) tB') : PW X (.BoolOp .And (a :: b :: rest) pos) (tAnd tA tB') := by
 intro wh pins s σ H Q I h
 refine isTrue_and (thn (ha pins s σ H _ I h) fun c s1 ⟨H1, I1, q1⟩ => ?_)
 cases c with
 | true => exact hb wh pins s1 σ H1 Q I1 q1
 | false => exact ⟨H1, I1, q1⟩
theorem zlu (ha : PT X a tA) (hb : PW X (.BoolOp .Or (b :: rest) pos) tB') : PW X (.BoolOp .Or (a :: b :: rest) pos) (tOr tA tB') := by
 intro wh pins s σ H Q I h
 refine isTrue_or (thn (ha pins s σ H _ I h) fun c s1 ⟨H1, I1, q1⟩ => ?_)
 cases c with
 | true => exact ⟨H1, I1, q1⟩
 | false => exact hb wh pins s1 σ H1 Q I1 q1
theorem zkU (ha : PT X a tA) : PT X (.UnaryOp .Not a pos) (tNot tA) := by
 intro pins s σ H Q I h
 exact isTrue_not (ha pins s σ H (fun c H1 => Q (!c) H1) I h)
def zkV (ta tb : TE) : TE := fun σ H Q => ta σ H fun x H1 => ∃ c, x = .bl c ∧ if c = true then tb σ H1 Q else Q (.bl false) H1
def tOrV (ta tb : TE) : TE := fun σ H Q => ta σ H fun x H1 => ∃ c, x = .bl c ∧ if c = true then Q (.bl true) H1 else tb σ H1 Q
def zjf (ta : TE) : TE := fun σ H Q => ta σ H fun x H1 => ∃ c, x = .bl c ∧ Q (.bl (!c)) H1
theorem zk1 {op} {t : TE} (h : PE X a t) : PE X (.BoolOp op [a] pos) t := fun pins s σ H Q I hw => BoolOp_one (h pins s σ H Q I hw)
theorem zlg (ha : PE X a ta) (hb : PE X (.BoolOp .And (b :: rest) pos) tb) : PE X (.BoolOp .And (a :: b :: rest) pos) (zkV ta tb) := by
 intro pins s σ H Q I h
 refine BoolOp_and (thn (ha pins s σ H _ I h) fun v s1 ⟨x, H1, I1, r1, q1⟩ => ?_)
 refine zaa ?_; intro G_; obtain ⟨c, rfl, q1⟩ := q1
 cases r1
 refine wpAny_truthy_bool ?_
 cases c with
 | true => exact hb pins s1 σ H1 Q I1 q1
 | false => exact ⟨.bl false, H1, I1, rfl, q1⟩
theorem zln (ha : PE X a ta) (hb : PE X (.BoolOp .Or (b :: rest) pos) tb) : PE X (.BoolOp .Or (a :: b :: rest) pos) (tOrV ta tb) := by
 intro pins s σ H Q I h
 refine BoolOp_or (thn (ha pins s σ H _ I h) fun v s1 ⟨x, H1, I1, r1, q1⟩ => ?_)
 refine zaa ?_; intro G_; obtain ⟨c, rfl, q1⟩ := q1
 cases r1
 refine wpAny_truthy_bool ?_
 cases c with
 | false => exact hb pins s1 σ H1 Q I1 q1
 | true => exact ⟨.bl true, H1, I1, rfl, q1⟩
theorem zj0 (ha : PE X a ta) : PE X (.UnaryOp .Not a pos) (zjf ta) := by
 intro pins s σ H Q I h
 refine UnaryOp_ (thn (ha pins s σ H _ I h) fun v s1 ⟨x, H1, I1, r1, q1⟩ => ?_)
 refine zaa ?_; intro G_; obtain ⟨c, rfl, q1⟩ := q1
 cases r1
 exact not_of (wpAny_truthy_bool ⟨.bl (!c), H1, I1, rfl, q1⟩)
def tIf (t : TT) (ta tb : TE) : TE := fun σ H Q => t σ H fun c H1 => if c = true then ta σ H1 Q else tb σ H1 Q
theorem zhD {c : Expr} (hc : PT X c tA) (ha : PE X a ta) (hb : PE X b tb) : PE X (.IfExp c a b pos) (tIf tA ta tb) := by
 intro pins s σ H Q I h
 refine wpAny_IfExp (thn (hc pins s σ H _ I h) fun d s1 ⟨H1, I1, q1⟩ => ?_)
 cases d with
 | true => exact ha pins s1 σ H1 Q I1 q1
 | false => exact hb pins s1 σ H1 Q I1 q1
end
end L2
namespace L2
open PySem PySem.Spec PyProof.Rows
def SqL (K : PySem.W.Frag) (H : Hp) (a : Addr) (xs : List V) : Prop :=
 Rd H a (.lst xs) ∨
  ∃ (o : Obj) (its : Array Value) (n : Nat), K.lookup a = some o ∧ o.cls = .type "list" ∧ o.dict = none ∧ o.data = .seq its n ∧ its.size ≤ sizeLine ∧ Vals xs its.toList
def SqT (K : PySem.W.Frag) (H : Hp) (a : Addr) (xs : List V) : Prop :=
 Rd H a (.tup xs) ∨
  ∃ (o : Obj) (its : Array Value) (n : Nat), K.lookup a = some o ∧ o.cls = .type "tuple" ∧ o.data = .seq its n ∧ its.size ≤ sizeLine ∧ Vals xs its.toList
def absV : Value → Option V
 | .none => some .non
 | .bool b => some (.bl b)
 | .int i _ => some (.int i)
 | .str x _ => some (.str x)
 | .bytes b _ => some (.byt b)
 | .float b _ => some (.flt b)
 | .ref a => some (.ref a)
 | .type n => some (.ty n)
 | _ => none
theorem RelV.abs {x : V} {u : Value} (r : RelV x u) : absV u = some x := by
 cases x with
 | non => cases r; rfl
 | bl _ => cases r; rfl
 | int _ => obtain ⟨t, rfl⟩ := r; rfl
 | str _ => obtain ⟨t, rfl⟩ := r; rfl
 | byt _ => obtain ⟨t, rfl⟩ := r; rfl
 | flt _ => obtain ⟨t, rfl⟩ := r; rfl
 | ref _ => cases r; rfl
 | ty _ => cases r; rfl
theorem RelV.inj {x y : V} {u : Value} (r : RelV x u) (q : RelV y u) : x = y := Option.some.inj (r.abs.symm.trans q.abs)
theorem Vals.inj : ∀ {xs ys : List V} {us : List Value}, Vals xs us → Vals ys us → xs = ys := by
 intro xs ys us h
 induction h generalizing ys with
 | nil => intro g; cases g; rfl
 | cons r t ih => intro g; cases g with | cons r' t' => rw [r.inj r', ih t']
section
variable {X : Cx} {pins : List (Addr × Obj)} {σ : St} {H : Hp} {s : Shared} {a : Addr} {xs ys : List V}
theorem SqL.of {K : PySem.W.Frag} (h : H a = some (.lst xs)) : SqL K H a xs := .inl (.inl h)
theorem SqT.of {K : PySem.W.Frag} (h : H a = some (.tup xs)) : SqT K H a xs := .inl (.inl h)
theorem Inv.list (I : Inv X pins σ H s) (h : SqL X.K H a xs) : ∃ its : List Value, Vals xs its ∧ PlainL s.heap a its.toArray ∧ xs.length ≤ sizeLine := by
 rcases h with h | ⟨o, its, n, hk, hc, hd, hs, hz, r⟩
 ·refine zaa ?_; intro G_; obtain ⟨z, its, n, r, e⟩ := h.ok I.hok
  exact ⟨its, r, ⟨_, n, e, rfl, rfl, rfl⟩, z⟩
 ·refine ⟨its.toList, r, ⟨o, n, I.kIn a o hk, hc, hd, by simpa using hs⟩, ?_⟩
  have e := r.length
  simp only [Array.length_toList] at e
  lia
theorem Inv.tuple (I : Inv X pins σ H s) (h : SqT X.K H a xs) : ∃ its : List Value, Vals xs its ∧ IsTup s.heap a its.toArray ∧ xs.length ≤ sizeLine := by
 rcases h with h | ⟨o, its, n, hk, hc, hs, hz, r⟩
 ·refine zaa ?_; intro G_; obtain ⟨z, its, r, p⟩ := h.ok I.hok
  exact ⟨its, r, p, z⟩
 ·refine ⟨its.toList, r, ⟨o, I.kIn a o hk, hc, n, by simpa using hs⟩, ?_⟩
  have e := r.length
  simp only [Array.length_toList] at e
  lia
theorem Inv.list_inj (I : Inv X pins σ H s) (h : SqL X.K H a xs) (h' : SqL X.K H a ys) : xs = ys := by
 refine zaa ?_; intro G_; obtain ⟨its, r, ⟨o, n, e, _, _, d⟩, _⟩ := I.list h
 refine zaa ?_; intro G_; obtain ⟨its', r', ⟨o', n', e', _, _, d'⟩, _⟩ := I.list h'
 rw [e] at e'; cases e'
 rw [d] at d'
 injection d' with d1 _
 have : its = its' := by simpa using congrArg Array.toList d1
 subst this
 exact r.inj r'
theorem Inv.tuple_inj (I : Inv X pins σ H s) (h : SqT X.K H a xs) (h' : SqT X.K H a ys) : xs = ys := by
 refine zaa ?_; intro G_; obtain ⟨its, r, ⟨o, e, _, n, d⟩, _⟩ := I.tuple h
 refine zaa ?_; intro G_; obtain ⟨its', r', ⟨o', e', _, n', d'⟩, _⟩ := I.tuple h'
 rw [e] at e'; cases e'
 rw [d] at d'
 injection d' with d1 _
 have : its = its' := by simpa using congrArg Array.toList d1
 subst this
 exact r.inj r'
end
abbrev Cx.wish (X : Cx) (E : Value → Shared → Prop) : Cx := { X with xe := E }
abbrev Cx.nox (X : Cx) : Cx := X.wish fun _ _ => False
theorem Cx.Ok.wish {X : Cx} (ok : X.Ok) (E : Value → Shared → Prop) : (X.wish E).Ok :=
 ⟨ok.mod, ok.kind, ok.glob, ok.blt, ok.above, ok.inj, ok.has, ok.cab, ok.hd, ok.frames, ok.stk, ok.exf, ok.bs, ok.bsz, ok.noex, ok.exfs, ok.funs, ok.frf⟩
theorem Cx.Ok.unwish {X : Cx} {E : Value → Shared → Prop} (ok : (X.wish E).Ok) : X.Ok :=
 ⟨ok.mod, ok.kind, ok.glob, ok.blt, ok.above, ok.inj, ok.has, ok.cab, ok.hd, ok.frames, ok.stk, ok.exf, ok.bs, ok.bsz, ok.noex, ok.exfs, ok.funs, ok.frf⟩
section
variable {X : Cx} {pins : List (Addr × Obj)} {σ : St} {H : Hp} {s : Shared} {E : Value → Shared → Prop}
theorem Inv.wish (I : Inv X pins σ H s) (E : Value → Shared → Prop) : Inv (X.wish E) pins σ H s := ⟨I.ok.wish E, I.os, I.bare, I.base, I.loc, I.cell, I.free, I.freeC, I.pin, I.hok, I.len⟩
theorem Inv.unwish (I : Inv (X.wish E) pins σ H s) : Inv X pins σ H s := ⟨I.ok.unwish, I.os, I.bare, I.base, I.loc, I.cell, I.free, I.freeC, I.pin, I.hok, I.len⟩
theorem SP.unwish {D : Ends} {f : Flow} {s' : Shared} (h : SP (X.wish E) pins D f s') : SP X pins D f s' := by
 cases f with
 | next => obtain ⟨σ', H', I, q⟩ := h; exact ⟨σ', H', I.unwish, q⟩
 | brk => obtain ⟨σ', H', I, q⟩ := h; exact ⟨σ', H', I.unwish, q⟩
 | cont => obtain ⟨σ', H', I, q⟩ := h; exact ⟨σ', H', I.unwish, q⟩
 | ret u => obtain ⟨v, σ', H', I, r, q⟩ := h; exact ⟨v, σ', H', I.unwish, r, q⟩
theorem PSs.nox {st : List Stmt} {t : TS} (h : PSs X.nox st t) : PSs X st t := fun pins s σ H D I hw =>
 wpAny_mono (h pins s σ H D (I.wish _) hw) (fun _ _ q => q.unwish) fun _ _ z => False.elim z
end
section
variable {X : Cx} {st : Stmt} {rest : List Stmt} {t u : TS} {e : Expr} {te : TE} {pos : Pos}
def zfK : TS := fun D σ H => D.nx σ H
def tSeq (t u : TS) : TS := fun D σ H => t { D with nx := u D } σ H
theorem zjC : PSs X [] zfK := fun _ _ σ H _ I h => wpAny_execs_nil ⟨σ, H, I, h⟩
theorem zh4 (h1 : PS X st t) (h2 : PSs X rest u) : PSs X (st :: rest) (tSeq t u) := by
 intro pins s σ H D I h
 refine wpAny_execs_cons (thn (h1 pins s σ H { D with nx := u D } I h) fun f s1 q => ?_)
 cases f with
 | next =>
  refine zaa ?_; intro G_; obtain ⟨σ', H', I', q⟩ := q
  exact h2 pins s1 σ' H' D I' q
 | ret v => exact q
 | brk => exact q
 | cont => exact q
theorem ziW (h1 : PS X st t) : PSs X [st] t := by
 intro pins s σ H D I h
 refine wpAny_execs_cons (thn (h1 pins s σ H D I h) fun f s1 q => ?_)
 cases f with
 | next => exact wpAny_execs_nil q
 | ret v => exact q
 | brk => exact q
 | cont => exact q
theorem Inv.quiet {pins : List (Addr × Obj)} {σ : St} {H : Hp} {s : Shared} (I : Inv X pins σ H s) : interactive X.env = false := by simp [interactive, I.ok.kind]
def zem (te : TE) : TS := fun D σ H => te σ H fun _ H1 => D.nx σ H1
theorem zfc (he : PE X e te) (hs : swapsWith e none pos.line X.env = pure false := by rfl) : PS X (.Expr e pos) (zem te) := by
 intro pins s σ H D I h
 exact wpAny_Expr_any (thn (he pins s σ H _ I h) (by rintro v s1 ⟨x, H1, I1, r1, q1⟩; exact ⟨σ, H1, I1, q1⟩)) I.quiet hs
def tRet (te : TE) : TS := fun D σ H => te σ H D.rt
theorem zjY (he : PE X e te) : PS X (.Return (some e) pos) (tRet te) := by
 intro pins s σ H D I h
 exact wpAny_Return_some (thn (he pins s σ H _ I h) (by rintro v s1 ⟨x, H1, I1, r1, q1⟩; exact ⟨x, σ, H1, I1, r1, q1⟩))
def tIfS (c : TT) (t u : TS) : TS := fun D σ H => c σ H fun b H1 => if b = true then t D σ H1 else u D σ H1
theorem zlz {c : Expr} {a b : List Stmt} {tc : TT} (hc : PT X c tc) (ha : PSs X a t) (hb : PSs X b u) : PS X (.If c a b pos) (tIfS tc t u) := by
 intro pins s σ H D I h
 refine wpAny_If (thn (hc pins s σ H _ I h) fun d s1 ⟨H1, I1, q1⟩ => ?_)
 cases d with
 | true => exact ha pins s1 σ H1 D I1 q1
 | false => exact hb pins s1 σ H1 D I1 q1
end
abbrev TG := V → St → Hp → (St → Hp → Prop) → Prop
abbrev TGs := List V → St → Hp → (St → Hp → Prop) → Prop
def PG (X : Cx) (target : Expr) (t : TG) : Prop :=
 ∀ (pins : List (Addr × Obj)) (s : Shared) (σ : St) (H : Hp) (v : V) (u : Value) (Q : St → Hp → Prop), Inv X pins σ H s → RelV v u → t v σ H Q →
  wpAny (model X.prog X.w) X.A (assign target X.env u) (fun _ s' => ∃ σ' H', Inv X pins σ' H' s' ∧ Q σ' H') X.xe s
def PGs (X : Cx) (ts : List Expr) (t : TGs) : Prop :=
 ∀ (pins : List (Addr × Obj)) (s : Shared) (σ : St) (H : Hp) (vs : List V) (us : List Value) (Q : St → Hp → Prop), Inv X pins σ H s → Vals vs us → t vs σ H Q →
  wpAny (model X.prog X.w) X.A (assignInOrder ((assignEach ts X.env).map (·.2)) us) (fun _ s' => ∃ σ' H', Inv X pins σ' H' s' ∧ Q σ' H') X.xe s
abbrev TSet := V → V → V → Hp → (Hp → Prop) → Prop
def PSet (X : Cx) (t : TSet) : Prop :=
 ∀ (pins : List (Addr × Obj)) (s : Shared) (σ : St) (H : Hp) (o i v : V) (ov iv u : Value) (Q : Hp → Prop), Inv X pins σ H s → RelV o ov → RelV i iv → RelV v u → t o i v H Q →
  wpAny (model X.prog X.w) X.A (setItem ov iv u) (fun _ s' => ∃ H', Inv X pins σ H' s' ∧ Q H') X.xe s
section
variable {X : Cx} {pos : Pos}
def za5 (i : Nat) : TG := fun v σ H Q => Q (σ.set i (some v)) H
theorem zi7 {i : Nat} {x : Str} (hN : X.N.Nodup) (hi : X.N[i]? = some x) (hx : Loc X.env.scope x) (hf : X.fn x = true ∨ X.env.scope.names.lookup x = some .local := by first | exact .inl rfl | exact .inr rfl | assumption) : PG X (.Name x pos) (za5 i) := by
 intro pins s σ H v u Q I r h
 exact wpAny_assign_Name (zfo I hN hi hx r (fun s' I' => ⟨_, H, I', h⟩) hf)
def gNil : TGs := fun vs σ H Q => vs = [] ∧ Q σ H
def zeW (t : TG) (u : TGs) : TGs := fun vs σ H Q => ∃ v r, vs = v :: r ∧ t v σ H fun σ' H' => u r σ' H' Q
theorem zjJ : PGs X [] gNil := by
 intro pins s σ H vs us Q I r h
 obtain ⟨e, h⟩ := h
 subst e
 cases r
 exact assignInOrder_nil ⟨σ, H, I, h⟩
theorem zhs {e : Expr} {es : List Expr} {t : TG} {u : TGs} (h1 : PG X e t) (h2 : PGs X es u)
  (hs : (assignEach (e :: es) X.env).map (·.2) = assign e X.env :: (assignEach es X.env).map (·.2) := by rfl) : PGs X (e :: es) (zeW t u) := by
 intro pins s σ H vs us Q I r h
 obtain ⟨v, vr, e1, h⟩ := h
 subst e1
 cases r with
 | cons r rr =>
  rw [hs]
  refine assignInOrder_cons (thn (h1 pins s σ H _ _ _ I r h) fun _ s1 ⟨σ1, H1, I1, q1⟩ => ?_)
  exact h2 pins s1 σ1 H1 _ _ Q I1 rr q1
def gTup (K : PySem.W.Frag) (n : Nat) (t : TGs) : TG := fun v σ H Q => ∃ a xs, v = .ref a ∧ SqT K H a xs ∧ xs.length = n ∧ t xs σ H Q
theorem zkM {es : List Expr} {k : Nat} {t : TGs} {n : Nat} (hc : X.calm = true) (h : PGs X es t)
  (hn : (assignEach es X.env).length = n := by rfl) (hst : (assignEach es X.env).findIdx? (·.1) = none := by rfl) : PG X (.Tuple es k pos) (gTup X.K n t) := by
 intro pins s σ H v u Q I r hw
 refine zaa ?_; intro G_; obtain ⟨a, xs, e1, hq, hl, hw⟩ := hw
 subst e1
 cases r
 refine zaa ?_; intro G_; obtain ⟨its, rv, ht, hz⟩ := I.tuple hq
 refine assign_Tuple_tuple (I.ok.hd hc) ht (by simp [hn, ← hl, rv.length]) hst fun h' hx => ?_
 have I1 : Inv X pins σ H { s with heap := h' } := I.kept (t' := s.toks) fun b o e => hx b o (Nat.ne_of_lt (Heap.lt_size e)) e
 exact h pins _ σ H xs _ Q I1 (by simpa using rv) hw
def gSub (to ti : TE) (t : TSet) : TG := fun v σ H Q => to σ H fun o H1 => ti σ H1 fun i H2 => t o i v H2 fun H3 => Q σ H3
theorem zjZ {o i : Expr} {to ti : TE} {t : TSet} (ho : PE X o to) (hi : PE X i ti) (hs : PSet X t)
  (ha : ∀ v, assign (.Subscript o i pos) X.env v = (do
   let ov ← holding [v] (eval o X.env)
   let iv ← holding [v, ov] (eval i X.env)
   standAt pos
   holding [v, ov, iv] (setItem ov iv v)
   release [v, ov, iv] []) := by intro _; rfl) : PG X (.Subscript o i pos) (gSub to ti t) := by
 intro pins s σ H v u Q I r h
 rw [ha]
 refine wpAny_bind (wpAny_holding (thn (ho pins s σ H _ I h) fun ov s1 ⟨x, H1, I1, r1, q1⟩ => ?_))
 refine wpAny_bind (wpAny_holding (thn (hi pins s1 σ H1 _ I1 q1) fun iv s2 ⟨y, H2, I2, r2, q2⟩ => ?_))
 refine wpAny_bind (wpAny_standAt (wpAny_bind (wpAny_holding (thn (hs pins s2 σ H2 x y v ov iv u _ I2 r1 r2 r q2) fun _ s3 ⟨H3, I3, q3⟩ => ?_))))
 exact wpAny_release ⟨σ, H3, I3, q3⟩
def tAsg (te : TE) (g : TG) : TS := fun D σ H => te σ H fun x H1 => g x σ H1 D.nx
theorem zk5 {tg e : Expr} {te : TE} {g : TG} (he : PE X e te) (hg : PG X tg g) (hs : swapsWithSole [tg] e pos.line X.env = pure false := by rfl) (hw : swappedStores [tg] e X.env = pure none := by rfl)
  (h1 : (assignEach [tg] X.env).map (·.2) = [assign tg X.env] := by rfl) : PS X (.Assign [tg] e pos) (tAsg te g) := by
 intro pins s σ H D I h
 refine wpAny_Assign_stores (thn (he pins s σ H _ I h) fun v s1 ⟨x, H1, I1, r1, q1⟩ => ?_) hs hw
 rw [h1]
 exact thn (hg pins s1 σ H1 x v _ I1 r1 q1) fun _ s2 q => q
theorem zgs {i : Nat} {x : Str} {e : Expr} {te : TE} {pos' : Pos} (hN : X.N.Nodup) (hi : X.N[i]? = some x) (hx : Loc X.env.scope x) (he : PE X e te) (hs : swapsWith e (some (.Name x pos')) pos.line X.env = pure false := by rfl) (hf : X.fn x = true ∨ X.env.scope.names.lookup x = some .local := by first | exact .inl rfl | exact .inr rfl | assumption) :
  PS X (.Assign [.Name x pos'] e pos) (tAsg te (za5 i)) := by
 intro pins s σ H D I h
 refine wpAny_Assign_Name (thn (he pins s σ H _ I h) fun v s1 ⟨y, H1, I1, r1, q1⟩ => ?_) hs
 exact zfo I1 hN hi hx r1 (fun s2 I2 => ⟨_, H1, I2, q1⟩) hf
end
section
variable {X : Cx} {pos : Pos}
def ziC (c : TT) (tb : TS) : TS := fun D σ H => ∃ W : Nat → St → Hp → Prop, (∃ m, W m σ H) ∧ ∀ m σ H, W m σ H →
 c σ H fun b H1 => if b = true then ∃ N : St → Hp → Prop, (∀ σ' H', N σ' H' → ∃ m', m' < m ∧ W m' σ' H') ∧ tb { D with nx := N, ct := N, bk := D.nx } σ H1 else D.nx σ H1
theorem zih {c : Expr} {body : List Stmt} {tc : TT} {tb : TS} (hp : PassesOwn (model X.prog X.w) X.A X.env X.xe) (hc : PT X c tc) (hb : PSs X body tb) : PS X (.While c body [] pos) (ziC tc tb) := by
 intro pins s σ H D I h
 refine zaa ?_; intro G_; obtain ⟨W, ⟨m0, w0⟩, turn⟩ := h
 refine wpAny_While (codeAny_whileLoop (fun n s' => ∃ σ' H', Inv X pins σ' H' s' ∧ W n σ' H') ?_ m0 ⟨σ, H, I, w0⟩)
 intro n s1 h_
 refine zaa ?_; intro G_; obtain ⟨σ1, H1, I1, w1⟩ := h_
 refine wpAny_passesOwn hp (thn (hc pins s1 σ1 H1 _ I1 (turn n σ1 H1 w1)) fun b s2 ⟨H2, I2, q2⟩ => ?_)
 cases b with
 | true =>
  obtain ⟨N, hN, q2⟩ := q2
  rw [if_pos rfl]
  refine wpAny_passesOwn hp (thn (hb pins s2 σ1 H2 _ I2 q2) fun f s3 q3 => ?_)
  cases f with
  | next =>
   refine zaa ?_; intro G_; obtain ⟨σ3, H3, I3, n3⟩ := q3
   refine zaa ?_; intro G_; obtain ⟨m', hm, w3⟩ := hN σ3 H3 n3
   exact ⟨m', hm, σ3, H3, I3, w3⟩
  | cont =>
   refine zaa ?_; intro G_; obtain ⟨σ3, H3, I3, n3⟩ := q3
   refine zaa ?_; intro G_; obtain ⟨m', hm, w3⟩ := hN σ3 H3 n3
   exact ⟨m', hm, σ3, H3, I3, w3⟩
  | brk => exact q3
  | ret v => exact q3
 | false =>
  rw [if_neg Bool.false_ne_true]
  exact wpAny_execs_nil ⟨σ1, H2, I2, q2⟩
end
structure It where
 go : Nat → Hp → Prop
 yld : Nat → Hp → V → Hp → Prop
 stop : Nat → Hp → Prop
def FpOk (X : Cx) (pins : List (Addr × Obj)) (H : Hp) (b : Addr) : Prop :=
 H b = none ∧ b ≠ X.env.locals ∧ b ∉ X.fs ∧ (b ∈ X.ex ∨ X.s₀.heap.objs.size ≤ b) ∧ (∀ x c, X.env.cells.lookup x = some c → c ≠ b) ∧ ∀ p ∈ X.pn ++ pins, p.1 ≠ b
theorem Inv.fpOk {X : Cx} {pins : List (Addr × Obj)} {σ : St} {H H' : Hp} {s : Shared} {b : Addr} (I : Inv X pins σ H s) (hb : s.heap.objs.size ≤ b) (hn : H' b = none) : FpOk X pins H' b := by
 refine ⟨hn, Nat.ne_of_gt (Nat.lt_of_lt_of_le I.lt hb), I.nofs hb, .inr (Nat.le_trans I.sz hb), fun x c e z => ?_, fun p hp z => ?_⟩
 ·obtain ⟨v, q⟩ := I.cell x c e
  exact absurd (Nat.lt_of_lt_of_le q.lt (by rw [z]; exact hb)) (Nat.lt_irrefl _)
 ·exact absurd (Nat.lt_of_lt_of_le (Heap.lt_size (I.pin p hp).1) (by rw [z]; exact hb)) (Nat.lt_irrefl _)
structure Turn (P : Program) (w : World) (K : PySem.W.Frag) (tg : Expr) (J : It) (fp : List Addr) (it : Addr) (tn : Nat → Heap → Prop) : Prop where
 mem : it ∈ fp
 obj : ∀ i h, tn i h → ∀ b ∈ fp, ∃ o, h.get? b = some o ∧ ∀ v, o.data ≠ .cell v
 keep : ∀ i h h', tn i h → (∀ b ∈ fp, ∀ o, h.get? b = some o → h'.get? b = some o) → tn i h'
 item : ∀ (X : Cx), X.prog = P → X.w = w → X.K = K → X.calm = true → ∀ (i : Nat) (pins : List (Addr × Obj)) (s : Shared) (σ : St) (H : Hp) (E : Value → Shared → Prop), Inv X pins σ H s → (∀ b ∈ fp, FpOk X pins H b) → tn i s.heap → J.go i H →
  wpAny (model P w) X.A (pyNext (.ref it)) (fun r s1 => ∃ u, r = some u ∧
   wpAny (model P w) X.A (letOwnedTupleGo tg (.ref it) u) (fun _ s2 => ∃ x H', Inv X pins σ H' s2 ∧ RelV x u ∧ J.yld i H x H' ∧ tn (i + 1) s2.heap ∧ ∀ b ∈ fp, H' b = none) E s1) E s
 done : ∀ (X : Cx), X.prog = P → X.w = w → X.K = K → X.calm = true → ∀ (i : Nat) (pins : List (Addr × Obj)) (s : Shared) (σ : St) (H : Hp) (E : Value → Shared → Prop), Inv X pins σ H s → (∀ b ∈ fp, FpOk X pins H b) → tn i s.heap → J.stop i H →
  wpAny (model P w) X.A (pyNext (.ref it)) (fun r s1 => r = none ∧ Inv X pins σ H s1) E s
 self : ∀ (A : Around) (i : Nat) (s : Shared) (Q : Value → Shared → Prop) (E : Value → Shared → Prop), tn i s.heap → Q (.ref it) s → wpAny (model P w) A (pyIter (.ref it)) Q E s
abbrev TI := St → Hp → (It → Hp → Prop) → Prop
def PIE (X : Cx) (pins : List (Addr × Obj)) (σ : St) (tg : Expr) (R : It → Hp → Prop) (itv : Value) (s2 : Shared) : Prop :=
 ∃ (it : Addr) (fp : List Addr) (tn : Nat → Heap → Prop) (J : It) (H' : Hp), itv = .ref it ∧ Inv X pins σ H' s2 ∧ Turn X.prog X.w X.K tg J fp it tn ∧ tn 0 s2.heap ∧ (∀ b ∈ fp, FpOk X pins H' b) ∧ R J H'
def PI (X : Cx) (tg iter : Expr) (wi : TI) : Prop :=
 ∀ (pins : List (Addr × Obj)) (s : Shared) (σ : St) (H : Hp) (R : It → Hp → Prop), Inv X pins σ H s → wi σ H R →
  wpAny (model X.prog X.w) X.A (eval iter X.env) (fun v s1 => wpAny (model X.prog X.w) X.A (pyIter v) (PIE X pins σ tg R) X.xe s1) X.xe s
theorem zhG {M : Model} {A : Around} {E : Value → Shared → Prop} {s : Shared} {tg : Expr} {it : Addr} {u : Value} {o : Obj} {n : String} {vs : Array Value} {Q : Unit → Shared → Prop} (ho : s.heap.get? it = some o) (hc : o.cls = .type n) (hd : o.data = .fields vs)
    (hn : ["enumerate", "zip", "dict_itemiterator", "dict_reverseitemiterator", "odict_iterator", "itertools.zip_longest", "itertools.pairwise"].contains n = false) (hQ : Q () s) : wpAny M A (letOwnedTupleGo tg (.ref it) u) Q E s := by
  unfold letOwnedTupleGo
  cases tg <;> first
    | exact wpAny_pure hQ
    | (cases u <;> first
        | exact wpAny_pure hQ
        | (refine wpAny_bind (wpAny_load ho ?_)
           rw [hc, hd]
           show wpAny M A (if (["enumerate", "zip", "dict_itemiterator", "dict_reverseitemiterator", "odict_iterator", "itertools.zip_longest", "itertools.pairwise"].contains n && vs[0]? == some (rawInt _)) = true then _ else _) Q E s
           rw [if_neg (by intro h; rw [hn, Bool.false_and] at h; cases h)]
           exact wpAny_pure hQ))
def Itl (K : PySem.W.Frag) (a : Addr) : It :=
 ⟨fun i H => ∃ xs x, SqL K H a xs ∧ xs[i]? = some x, fun i H x H' => H' = H ∧ ∀ xs, SqL K H a xs → xs[i]? = some x, fun i H => ∃ xs, SqL K H a xs ∧ xs.length ≤ i⟩
def Itt (K : PySem.W.Frag) (a : Addr) : It :=
 ⟨fun i H => ∃ xs x, SqT K H a xs ∧ xs[i]? = some x, fun i H x H' => H' = H ∧ ∀ xs, SqT K H a xs → xs[i]? = some x, fun i H => ∃ xs, SqT K H a xs ∧ xs.length ≤ i⟩
def Itr (lo : Int) (n : Nat) : It := ⟨fun i _ => i < n, fun i H x H' => H' = H ∧ x = .int (lo + i), fun i _ => n ≤ i⟩
theorem zg3 {P : Program} {w : World} {K : PySem.W.Frag} {tg : Expr} (a it : Addr) : Turn P w K tg (Itl K a) [it] it (fun i h => h.IsListIter it a i) where
 mem := by simp
 obj := fun i h st b hb => by
  have e : b = it := by simpa using hb
  subst e
  refine zaa ?_; intro G_; obtain ⟨o, e, c, d⟩ := st
  exact ⟨o, e, fun v z => by rw [d] at z; cases z⟩
 keep := fun i h h' st k => st.at fun o e => k it (by simp) o e
 item := by
  intro X hP hw hK hc i pins s σ H E I hf st hg
  subst hP hw hK
  refine zaa ?_; intro G_; obtain ⟨xs, x, hq, hx⟩ := hg
  refine zaa ?_; intro G_; obtain ⟨its, rv, p, hz⟩ := I.list hq
  refine zaa ?_; intro G_; obtain ⟨u, hu, ru⟩ := rv.get hx
  refine zaa ?_; intro G_; obtain ⟨f0, f1, f2, f3, f4, f5⟩ := hf it (by simp)
  refine wpAny_pyNext_list_item st p.isList (x := u) (by simpa using hu) fun h' st' sb => ?_
  have I1 : Inv X pins σ H { s with heap := h' } := I.turned (t' := s.toks) (fun b o hb e => (sb.2 b hb).trans e) f0 f1 f3 f4 f5
  refine zaa ?_; intro G_; obtain ⟨o, e, c, d⟩ := id st'
  exact ⟨u, rfl, zhG (s := { s with heap := h' }) e c d (by decide) ⟨x, H, I1, ru, ⟨rfl, fun ys hy => by rw [I.list_inj hy hq]; exact hx⟩, st', fun b hb => (hf b hb).1⟩⟩
 done := by
  intro X hP hw hK hc i pins s σ H E I hf st hg
  subst hP hw hK
  refine zaa ?_; intro G_; obtain ⟨xs, hq, hx⟩ := hg
  refine zaa ?_; intro G_; obtain ⟨its, rv, p, hz⟩ := I.list hq
  refine zaa ?_; intro G_; obtain ⟨f0, f1, f2, f3, f4, f5⟩ := hf it (by simp)
  have hl := rv.length
  exact wpAny_pyNext_list_end (I.ok.hd hc) st p.isList (by simp; lia) fun h' eb => ⟨rfl, I.turned (t' := s.toks) (fun b o hb e => eb b o hb e) f0 f1 f3 f4 f5⟩
 self := fun _ _ _ _ _ st h => wpAny_pyIter_listiter st h
theorem zfT {P : Program} {w : World} {K : PySem.W.Frag} {tg : Expr} (a it : Addr) : Turn P w K tg (Itt K a) [it] it (fun i h => h.IsTupleIter it a i) where
 mem := by simp
 obj := fun i h st b hb => by
  have e : b = it := by simpa using hb
  subst e
  refine zaa ?_; intro G_; obtain ⟨o, e, c, d⟩ := st
  exact ⟨o, e, fun v z => by rw [d] at z; cases z⟩
 keep := fun i h h' st k => st.at fun o e => k it (by simp) o e
 item := by
  intro X hP hw hK hc i pins s σ H E I hf st hg
  subst hP hw hK
  refine zaa ?_; intro G_; obtain ⟨xs, x, hq, hx⟩ := hg
  refine zaa ?_; intro G_; obtain ⟨its, rv, p, hz⟩ := I.tuple hq
  refine zaa ?_; intro G_; obtain ⟨u, hu, ru⟩ := rv.get hx
  refine zaa ?_; intro G_; obtain ⟨f0, f1, f2, f3, f4, f5⟩ := hf it (by simp)
  refine wpAny_pyNext_tuple_item st (show s.heap.IsTuple a its.toArray from p) (x := u) (by simpa using hu) fun h' st' sb => ?_
  have I1 : Inv X pins σ H { s with heap := h' } := I.turned (t' := s.toks) (fun b o hb e => (sb.2 b hb).trans e) f0 f1 f3 f4 f5
  refine zaa ?_; intro G_; obtain ⟨o, e, c, d⟩ := id st'
  exact ⟨u, rfl, zhG (s := { s with heap := h' }) e c d (by decide) ⟨x, H, I1, ru, ⟨rfl, fun ys hy => by rw [I.tuple_inj hy hq]; exact hx⟩, st', fun b hb => (hf b hb).1⟩⟩
 done := by
  intro X hP hw hK hc i pins s σ H E I hf st hg
  subst hP hw hK
  refine zaa ?_; intro G_; obtain ⟨xs, hq, hx⟩ := hg
  refine zaa ?_; intro G_; obtain ⟨its, rv, p, hz⟩ := I.tuple hq
  refine zaa ?_; intro G_; obtain ⟨f0, f1, f2, f3, f4, f5⟩ := hf it (by simp)
  have hl := rv.length
  exact wpAny_pyNext_tuple_end (I.ok.hd hc) st (show s.heap.IsTuple a its.toArray from p) (by simp; lia) fun h' eb => ⟨rfl, I.turned (t' := s.toks) (fun b o hb e => eb b o hb e) f0 f1 f3 f4 f5⟩
 self := fun _ _ _ _ _ st h => wpAny_pyIter_tupleiter st h
theorem zfD {P : Program} {w : World} {K : PySem.W.Frag} {tg : Expr} (it : Addr) (lo : Int) (n : Nat) : Turn P w K tg (Itr lo n) [it] it (fun i h => IsRangeIter h it (lo + (i : Nat) * 1) ((n : Int) - (i : Nat)) 1) where
 mem := by simp
 obj := fun i h st b hb => by
  have e : b = it := by simpa using hb
  subst e
  exact ⟨_, st, fun v z => by
   have z' : Data.fields _ = Data.cell v := z
   cases z'⟩
 keep := fun i h h' st k => k it (by simp) _ st
 item := by
  intro X hP hw hK hc i pins s σ H E I hf st hg
  subst hP hw hK
  refine zaa ?_; intro G_; obtain ⟨f0, f1, f2, f3, f4, f5⟩ := hf it (by simp)
  have W := Walks.range (prog := X.prog) (w := X.w) (I.ok.hd hc) it lo 1 n
  refine W.item i s _ _ hg st fun v h' tk hv st' kk => ?_
  obtain ⟨t, rfl⟩ := hv
  have I1 : Inv X pins σ H { s with heap := h', toks := tk } := I.turned (fun b o hb e => kk b o (by simpa using hb) e) f0 f1 f3 f4 f5
  refine (exg _ rfl (zhG (s := { s with heap := h', toks := tk }) (n := "range_iterator") st' rfl rfl (by decide) ⟨.int (lo + i), H, I1, ⟨t, ?_⟩, ⟨rfl, rfl⟩, st', fun b hb => (hf b hb).1⟩))
  rw [Int.mul_one]
 done := by
  intro X hP hw hK hc i pins s σ H E I hf st hg
  subst hP hw hK
  refine zaa ?_; intro G_; obtain ⟨f0, f1, f2, f3, f4, f5⟩ := hf it (by simp)
  exact wpAny_pyNext_range_end (I.ok.hd hc) st (by have : n ≤ i := hg; lia) fun h' eb => ⟨rfl, I.turned (t' := s.toks) (fun b o hb e => eb b o hb e) f0 f1 f3 f4 f5⟩
 self := fun _ _ _ _ _ st h => wpAny_pyIter_rangeiter st h
end L2
namespace L2
open PySem PySem.Spec PyProof.Rows
section
variable {X : Cx} {tg : Expr}
def zkY (K : PySem.W.Frag) (tl : TE) : TI := fun σ H R => tl σ H fun x H1 => ∃ a, x = .ref a ∧ (∃ xs, SqL K H1 a xs) ∧ R (Itl K a) H1
def iTup (K : PySem.W.Frag) (tl : TE) : TI := fun σ H R => tl σ H fun x H1 => ∃ a, x = .ref a ∧ (∃ xs, SqT K H1 a xs) ∧ R (Itt K a) H1
theorem zjg {l : Expr} {tl : TE} (hl : PE X l tl) : PI X tg l (zkY X.K tl) := by
 intro pins s σ H R I h
 refine thn (hl pins s σ H _ I h) fun v s1 ⟨x, H1, I1, r1, q1⟩ => ?_
 refine zaa ?_; intro G_; obtain ⟨a, e, ⟨xs, hq⟩, q⟩ := q1
 subst e
 cases r1
 refine zaa ?_; intro G_; obtain ⟨its, rv, p, hz⟩ := I1.list hq
 refine wpAny_pyIter_list p.isList ?_
 refine ⟨s1.heap.objs.size, [s1.heap.objs.size], _, _, H1, rfl, I1.kept (t' := s1.toks) fun b o e => Heap.get?_push_of_some _ e, zg3 a _, ⟨_, Heap.get?_push_size _ rfl, rfl, rfl⟩, fun b hb => ?_, q⟩
 have e : b = s1.heap.objs.size := by simpa using hb
 subst e
 exact I1.fpOk (Nat.le_refl _) (I1.hok.fresh (Nat.le_refl _))
theorem zke {l : Expr} {tl : TE} (hl : PE X l tl) : PI X tg l (iTup X.K tl) := by
 intro pins s σ H R I h
 refine thn (hl pins s σ H _ I h) fun v s1 ⟨x, H1, I1, r1, q1⟩ => ?_
 refine zaa ?_; intro G_; obtain ⟨a, e, ⟨xs, hq⟩, q⟩ := q1
 subst e
 cases r1
 refine zaa ?_; intro G_; obtain ⟨its, rv, p, hz⟩ := I1.tuple hq
 refine wpAny_pyIter_tuple (show s1.heap.IsTuple a its.toArray from p) ?_
 refine ⟨s1.heap.objs.size, [s1.heap.objs.size], _, _, H1, rfl, I1.kept (t' := s1.toks) fun b o e => Heap.get?_push_of_some _ e, zfT a _, ⟨_, Heap.get?_push_size _ rfl, rfl, rfl⟩, fun b hb => ?_, q⟩
 have e : b = s1.heap.objs.size := by simpa using hb
 subst e
 exact I1.fpOk (Nat.le_refl _) (I1.hok.fresh (Nat.le_refl _))
theorem zhB {pins : List (Addr × Obj)} {σ : St} {H : Hp} {s : Shared} {R : It → Hp → Prop} {E : Value → Shared → Prop} {lo hi : Int} {t u v : Tok} {tk : Nat} (I : Inv X pins σ H s) (h1 : -(2 ^ 62) ≤ lo) (h2 : lo < 2 ^ 62) (h3 : -(2 ^ 62) ≤ hi) (h4 : hi < 2 ^ 62)
  (q : R (Itr lo (hi - lo).toNat) H) : wpAny (model X.prog X.w) X.A (pyIter (.ref s.heap.objs.size)) (PIE X pins σ tg R) E { s with heap := s.heap.push { cls := .type "range", data := .fields #[.int lo t, .int hi u, .int 1 v] }, toks := tk } := by
 refine wpAny_pyIter_range (IsRange.new ..) (small_one h1 h2 h3 h4) ?_
 have I1 : Inv X pins σ H { s with heap := s.heap.push { cls := .type "range", data := .fields #[.int lo t, .int hi u, .int 1 v] }, toks := tk } := I.kept fun b o e => Heap.get?_push_of_some _ e
 refine ⟨(s.heap.push { cls := .type "range", data := .fields #[.int lo t, .int hi u, .int 1 v] }).objs.size, [(s.heap.push { cls := .type "range", data := .fields #[.int lo t, .int hi u, .int 1 v] }).objs.size], _, _, H, rfl,
  I1.kept (t' := tk) fun b o e => Heap.get?_push_of_some _ e, zfD _ lo (hi - lo).toNat, ?_, fun b hb => ?_, q⟩
 ·have e1 : lo + ((0 : Nat) : Int) * 1 = lo := by simp
  have e2 : (((hi - lo).toNat : Nat) : Int) - ((0 : Nat) : Int) = Builtin.Range.rangeSize lo hi 1 := by rw [rangeSize_one]; split <;> lia
  show IsRangeIter _ _ (lo + ((0 : Nat) : Int) * 1) ((((hi - lo).toNat : Nat) : Int) - ((0 : Nat) : Int)) 1
  rw [e1, e2]
  exact Heap.get?_push_size _ rfl
 ·have e : b = (s.heap.push { cls := .type "range", data := .fields #[.int lo t, .int hi u, .int 1 v] }).objs.size := by simpa using hb
  subst e
  exact I1.fpOk (Nat.le_refl _) (I1.hok.fresh (Nat.le_refl _))
def ziS (ta : TA) : TI := fun σ H R => ta σ H fun vs H1 => ∃ j : Int, vs = [.int j] ∧ -(2 ^ 62) ≤ j ∧ j < 2 ^ 62 ∧ R (Itr 0 j.toNat) H1
theorem zgq {a : Expr} {ta : TA} {p pos : Pos} (hg : Gl X "range") (hm : X.mg "range" = none) (ha : PA X [a] ta) (hs : starEach [a] X.env = [(false, eval a X.env)] := by rfl) : PI X tg (.Call (.Name "range" p) [a] [] pos) (ziS ta) := by
 intro pins s σ H R I h
 refine Call_ (zdr I hg hm boot_range (PyProof.Rows.callWith_type1 (thn (ha pos pins s σ H _ I h) fun us s1 ⟨vs, H1, I1, r1, q1⟩ => ?_) hs rfl))
 refine zaa ?_; intro G_; obtain ⟨j, e, q1, q2, q⟩ := q1
 subst e
 cases r1 with
 | cons r rr =>
  cases rr
  obtain ⟨t, rfl⟩ := r
  exact call_range_1 (zhB I1 (by lia) (by lia) q1 q2 (by simpa using q))
def tFor (wi : TI) (g : TG) (tb : TS) : TS := fun D σ H => wi σ H fun J H1 => ∃ W : Nat → Nat → St → Hp → Prop, (∃ m, W 0 m σ H1) ∧ ∀ i m σ H, W i m σ H →
 (J.stop i H ∧ D.nx σ H) ∨ (J.go i H ∧ ∃ N : St → Hp → Prop, (∀ σ' H', N σ' H' → ∃ m', m' < m ∧ W (i + 1) m' σ' H') ∧ ∀ x H', J.yld i H x H' → g x σ H' fun σ2 H2 => tb { D with nx := N, ct := N, bk := D.nx } σ2 H2)
def zez (fp : List Addr) (h : Heap) : List (Addr × Obj) := fp.filterMap fun b => (h.get? b).map fun o => (b, o)
theorem zbu {fp : List Addr} {h : Heap} {b : Addr} {o : Obj} (hb : b ∈ fp) (e : h.get? b = some o) : (b, o) ∈ zez fp h := List.mem_filterMap.mpr ⟨b, hb, by rw [e]; rfl⟩
theorem zgD {fp : List Addr} {h : Heap} {p : Addr × Obj} (hp : p ∈ zez fp h) : p.1 ∈ fp ∧ h.get? p.1 = some p.2 := by
 refine zaa ?_; intro G_; obtain ⟨b, hb, e⟩ := List.mem_filterMap.mp hp
 cases q : h.get? b with
 | none => rw [q] at e; cases e
 | some o =>
  rw [q] at e
  have e' : (b, o) = p := Option.some.inj e
  subst e'
  exact ⟨hb, q⟩
theorem Inv.pinned {pins : List (Addr × Obj)} {σ : St} {H : Hp} {s : Shared} {fp : List Addr} (I : Inv X pins σ H s) (hf : ∀ b ∈ fp, FpOk X pins H b) (ho : ∀ b ∈ fp, ∃ o, s.heap.get? b = some o ∧ ∀ v, o.data ≠ .cell v) : Inv X (pins ++ zez fp s.heap) σ H s :=
 I.pins_of fun p hp => (List.mem_append.mp hp).elim (fun z => I.pin p (List.mem_append_right _ z)) fun z => by
  obtain ⟨hb, e⟩ := zgD z
  refine zaa ?_; intro G_; obtain ⟨f0, f1, f2, _⟩ := hf p.1 hb
  refine zaa ?_; intro G_; obtain ⟨o, e', d⟩ := ho p.1 hb
  rw [e] at e'; cases e'
  exact ⟨e, f0, f1, f2, d⟩
theorem Inv.unpinned {pins pl : List (Addr × Obj)} {σ : St} {H : Hp} {s : Shared} (I : Inv X (pins ++ pl) σ H s) : Inv X pins σ H s := I.pins_of fun p hp => I.pin p (List.mem_append_right _ (List.mem_append_left _ hp))
theorem zku {iter : Expr} {body : List Stmt} {wi : TI} {g : TG} {tb : TS} {pos : Pos} (hp : PassesOwn (model X.prog X.w) X.A X.env X.xe) (hc : X.calm = true) (hi : PI X tg iter wi) (hg : PG X tg g) (hb : PSs X body tb)
  (hs : ∀ x, foldedSetIterable iter X.env x = pure x := by intro _; rfl) : PS X (.For tg iter body [] pos) (tFor wi g tb) := by
 intro pins s σ H D I h
 refine wpAny_For (thn (hi pins s σ H _ I h) fun v s1 h1 => thn h1 fun itv s2 h2 => ?_) hs
 refine zaa ?_; intro G_; obtain ⟨it, fp, tn, J, H2, e, I2, T, st2, f2, W, ⟨m0, w0⟩, turn⟩ := h2
 subst e
 have stat : ∀ {H' : Hp}, (∀ b ∈ fp, H' b = none) → ∀ b ∈ fp, FpOk X pins H' b := fun hn b hb => ⟨hn b hb, (f2 b hb).2⟩
 refine codeAny_forLoop_any (fun n s' => ∃ i σ' H', Inv X pins σ' H' s' ∧ tn i s'.heap ∧ (∀ b ∈ fp, H' b = none) ∧ W i n σ' H') ?_ m0 ⟨0, σ, H2, I2, st2, fun b hb => (f2 b hb).1, w0⟩
 intro n s3 h_
 refine zaa ?_; intro G_; obtain ⟨i, σ3, H3, I3, st3, fr3, w3⟩ := h_
 rcases turn i n σ3 H3 w3 with ⟨stop, qn⟩ | ⟨go, N, hN, step⟩
 ·refine wpAny_passesOwn hp (thn (T.done X rfl rfl rfl hc i pins s3 σ3 H3 X.xe I3 (stat fr3) st3 stop) fun r s4 ⟨hr, I4⟩ => ?_)
  subst hr
  exact wpAny_execs_nil ⟨σ3, H3, I4, qn⟩
 ·refine wpAny_passesOwn hp (thn (T.item X rfl rfl rfl hc i pins s3 σ3 H3 X.xe I3 (stat fr3) st3 go) fun r s4 ⟨u, hr, h4⟩ => ?_)
  subst hr
  refine wpAny_passesOwn hp (thn h4 fun _ s5 ⟨x, H5, I5, r5, y5, st5, fr5⟩ => ?_)
  have I5' := I5.pinned (stat fr5) (T.obj _ _ st5)
  refine wpAny_passesOwn hp (thn (hg _ s5 σ3 H5 x u _ I5' r5 (step x H5 y5)) fun _ s6 ⟨σ6, H6, I6, q6⟩ => ?_)
  refine wpAny_passesOwn hp (thn (hb _ s6 σ6 H6 _ I6 q6) fun f s7 q7 => ?_)
  have again : ∀ {σ7 : St} {H7 : Hp}, Inv X (pins ++ zez fp s5.heap) σ7 H7 s7 → N σ7 H7 → ∃ m, m < n ∧ ∃ i σ' H', Inv X pins σ' H' s7 ∧ tn i s7.heap ∧ (∀ b ∈ fp, H' b = none) ∧ W i m σ' H' := fun {σ7 H7} I7 n7 => by
   refine zaa ?_; intro G_; obtain ⟨m', hm, w7⟩ := hN σ7 H7 n7
   refine ⟨m', hm, i + 1, σ7, H7, I7.unpinned, T.keep _ _ _ st5 fun b hb o e => (I7.pin (b, o) (List.mem_append_right _ (List.mem_append_right _ (zbu hb e)))).1, fun b hb => ?_, w7⟩
   refine zaa ?_; intro G_; obtain ⟨o, e, d⟩ := T.obj _ _ st5 b hb
   exact (I7.pin (b, o) (List.mem_append_right _ (List.mem_append_right _ (zbu hb e)))).2.1
  cases f with
  | next => obtain ⟨σ7, H7, I7, n7⟩ := q7; exact again I7 n7
  | cont => obtain ⟨σ7, H7, I7, n7⟩ := q7; exact again I7 n7
  | brk => obtain ⟨σ7, H7, I7, q7⟩ := q7; exact ⟨σ7, H7, I7.unpinned, q7⟩
  | ret v => obtain ⟨x7, σ7, H7, I7, r7, q7⟩ := q7; exact ⟨x7, σ7, H7, I7.unpinned, r7, q7⟩
end
theorem zbF {K : PySem.W.Frag} {a : Addr} {xs : List V} {g : TG} {tb : TS} {D : Ends} {σ : St} {H : Hp} (Pv : Nat → St → Hp → Prop) (h0 : Pv 0 σ H) (hl : ∀ i σ H, i ≤ xs.length → Pv i σ H → SqL K H a xs)
  (hs : ∀ i x σ H, xs[i]? = some x → Pv i σ H → g x σ H fun σ2 H2 => tb { D with nx := Pv (i + 1), ct := Pv (i + 1), bk := D.nx } σ2 H2) (hd : ∀ σ H, Pv xs.length σ H → D.nx σ H) :
  ∃ W : Nat → Nat → St → Hp → Prop, (∃ m, W 0 m σ H) ∧ ∀ i m σ H, W i m σ H →
   ((Itl K a).stop i H ∧ D.nx σ H) ∨ ((Itl K a).go i H ∧ ∃ N : St → Hp → Prop, (∀ σ' H', N σ' H' → ∃ m', m' < m ∧ W (i + 1) m' σ' H') ∧ ∀ x H', (Itl K a).yld i H x H' → g x σ H' fun σ2 H2 => tb { D with nx := N, ct := N, bk := D.nx } σ2 H2) := by
 refine ⟨fun i m σ H => m = xs.length - i ∧ i ≤ xs.length ∧ Pv i σ H, ⟨xs.length, by simp, Nat.zero_le _, h0⟩, ?_⟩
 intro i m σ H h_
 refine zaa ?_; intro G_; obtain ⟨rfl, hi, p⟩ := h_
 have q := hl i σ H hi p
 by_cases hlt : i < xs.length
 ·refine .inr ⟨⟨xs, xs[i], q, by simp [hlt]⟩, Pv (i + 1), fun σ' H' p' => ⟨xs.length - (i + 1), by lia, rfl, hlt, p'⟩, fun x H' y => ?_⟩
  obtain ⟨e, y⟩ := y
  subst e
  exact hs i x σ _ (y xs q) p
 ·have e : i = xs.length := by lia
  subst e
  exact .inl ⟨⟨xs, q, Nat.le_refl _⟩, hd σ H p⟩
theorem zgA {lo : Int} {n : Nat} {g : TG} {tb : TS} {D : Ends} {σ : St} {H : Hp} (Pv : Nat → St → Hp → Prop) (h0 : Pv 0 σ H)
  (hs : ∀ i σ H, i < n → Pv i σ H → g (.int (lo + i)) σ H fun σ2 H2 => tb { D with nx := Pv (i + 1), ct := Pv (i + 1), bk := D.nx } σ2 H2) (hd : ∀ σ H, Pv n σ H → D.nx σ H) :
  ∃ W : Nat → Nat → St → Hp → Prop, (∃ m, W 0 m σ H) ∧ ∀ i m σ H, W i m σ H →
   ((Itr lo n).stop i H ∧ D.nx σ H) ∨ ((Itr lo n).go i H ∧ ∃ N : St → Hp → Prop, (∀ σ' H', N σ' H' → ∃ m', m' < m ∧ W (i + 1) m' σ' H') ∧ ∀ x H', (Itr lo n).yld i H x H' → g x σ H' fun σ2 H2 => tb { D with nx := N, ct := N, bk := D.nx } σ2 H2) := by
 refine ⟨fun i m σ H => m = n - i ∧ i ≤ n ∧ Pv i σ H, ⟨n, by simp, Nat.zero_le _, h0⟩, ?_⟩
 intro i m σ H h_
 refine zaa ?_; intro G_; obtain ⟨rfl, hi, p⟩ := h_
 by_cases hlt : i < n
 ·refine .inr ⟨hlt, Pv (i + 1), fun σ' H' p' => ⟨n - (i + 1), by lia, rfl, hlt, p'⟩, fun x H' y => ?_⟩
  obtain ⟨e, y⟩ := y
  subst e y
  exact hs i σ _ hlt p
 ·have e : i = n := by lia
  subst e
  exact .inl ⟨Nat.le_refl _, hd σ H p⟩
end L2
namespace L2
open PySem PySem.Spec PyProof.Rows
abbrev R2 := V → V → Hp → VK → Prop
def OpR (X : Cx) (f : Value → Value → Sem Value) (r : R2) : Prop :=
 ∀ (pins : List (Addr × Obj)) (s : Shared) (σ : St) (H : Hp) (x y : V) (v u : Value) (Q : VK), Inv X pins σ H s → RelV x v → RelV y u → r x y H Q →
  wpAny (model X.prog X.w) X.A (f v u) (EP X pins σ Q) X.xe s
def UnR (X : Cx) (f : Value → Sem Value) (r : V → Hp → VK → Prop) : Prop :=
 ∀ (pins : List (Addr × Obj)) (s : Shared) (σ : St) (H : Hp) (x : V) (v : Value) (Q : VK), Inv X pins σ H s → RelV x v → r x H Q →
  wpAny (model X.prog X.w) X.A (f v) (EP X pins σ Q) X.xe s
def zcA (X : Cx) (f : Value) (r : List V → Hp → VK → Prop) : Prop :=
 ∀ (pins : List (Addr × Obj)) (s : Shared) (σ : St) (H : Hp) (xs : List V) (us : List Value) (Q : VK), Inv X pins σ H s → Vals xs us → r xs H Q →
  wpAny (model X.prog X.w) X.A (call f us) (EP X pins σ Q) X.xe s
def TruR (X : Cx) (r : V → Hp → (Bool → Hp → Prop) → Prop) : Prop :=
 ∀ (pins : List (Addr × Obj)) (s : Shared) (σ : St) (H : Hp) (x : V) (v : Value) (Q : Bool → Hp → Prop), Inv X pins σ H s → RelV x v → r x H Q →
  wpAny (model X.prog X.w) X.A (truthy v) (TP X pins σ Q) X.xe s
def tOp (r : R2) (ta tb : TE) : TE := fun σ H Q => ta σ H fun x H1 => tb σ H1 fun y H2 => r x y H2 Q
def tUn (r : V → Hp → VK → Prop) (ta : TE) : TE := fun σ H Q => ta σ H fun x H1 => r x H1 Q
def rI (C : Int → Int → Prop) (g : Int → Int → V) : R2 := fun x y H Q => ∃ i j, x = .int i ∧ y = .int j ∧ C i j ∧ Q (g i j) H
def rI0 (g : Int → Int → V) : R2 := fun x y H Q => ∃ i j, x = .int i ∧ y = .int j ∧ Q (g i j) H
def rU (g : Int → V) : V → Hp → VK → Prop := fun x H Q => ∃ i, x = .int i ∧ Q (g i) H
section
variable {X : Cx} {a b c : Expr} {ta tb tc : TE} {pos : Pos}
theorem binT (ha : PE X a ta) (hb : PE X b tb) {pins : List (Addr × Obj)} {s : Shared} {σ : St} {H : Hp} {R : V → V → Hp → Prop} (I : Inv X pins σ H s)
  (h : ta σ H fun x H1 => tb σ H1 fun y H2 => R x y H2) {Q : Value → Shared → Prop} {f : Value → Value → Sem Value}
  (hf : ∀ v u s2 x y H2, Inv X pins σ H2 s2 → RelV x v → RelV y u → R x y H2 → wpAny (model X.prog X.w) X.A (f v u) Q X.xe s2) :
  wpAny (model X.prog X.w) X.A (eval a X.env) (fun v s₁ => wpAny (model X.prog X.w) X.A (eval b X.env) (fun u s₂ => wpAny (model X.prog X.w) X.A (f v u) Q X.xe s₂) X.xe s₁) X.xe s := by
 refine thn (ha pins s σ H _ I h) fun v s1 ⟨x, H1, I1, r1, q1⟩ => ?_
 refine thn (hb pins s1 σ H1 _ I1 q1) fun u s2 ⟨y, H2, I2, r2, q2⟩ => ?_
 exact hf v u s2 x y H2 I2 r1 r2 q2
theorem zlk {op : Operator} {r : R2} (ho : OpR X (binaryOp op) r) (ha : PE X a ta) (hb : PE X b tb) : PE X (.BinOp a op b pos) (tOp r ta tb) := by
 intro pins s σ H Q I h
 exact wpAny_BinOp (binT ha hb I h fun v u s2 x y H2 I2 rx ry q => ho pins s2 σ H2 x y v u Q I2 rx ry q)
theorem zlA {op : UnaryOp} {r : V → Hp → VK → Prop} (ho : UnR X (unaryOp op) r) (ha : PE X a ta) : PE X (.UnaryOp op a pos) (tUn r ta) := by
 intro pins s σ H Q I h
 exact UnaryOp_ (thn (ha pins s σ H _ I h) (by rintro v s1 ⟨x, H1, I1, r1, q1⟩; exact ho pins s1 σ H1 x v Q I1 r1 q1))
theorem opI {f : Value → Value → Sem Value} {C : Int → Int → Prop} {g : Int → Int → Int}
  (rule : ∀ (i j : Int) (t u : Tok) (s : Shared) (Q : Value → Shared → Prop) (E : Value → Shared → Prop), C i j → Q (.int (g i j) s.toks) { s with toks := s.toks + 1 } → wpAny (model X.prog X.w) X.A (f (.int i t) (.int j u)) Q E s) :
  OpR X f (rI C fun i j => .int (g i j)) := by
 intro pins s σ H x y v u Q I rx ry h
 refine zaa ?_; intro G_; obtain ⟨i, j, rfl, rfl, hc, q⟩ := h
 obtain ⟨t, rfl⟩ := rx
 obtain ⟨t', rfl⟩ := ry
 exact rule i j t t' s _ _ hc ⟨.int (g i j), H, I.tok _, ⟨_, rfl⟩, q⟩
theorem opI0 {f : Value → Value → Sem Value} {g : Int → Int → Int}
  (rule : ∀ (i j : Int) (t u : Tok) (s : Shared) (Q : Value → Shared → Prop) (E : Value → Shared → Prop), Q (.int (g i j) s.toks) { s with toks := s.toks + 1 } → wpAny (model X.prog X.w) X.A (f (.int i t) (.int j u)) Q E s) :
  OpR X f (rI0 fun i j => .int (g i j)) := by
 intro pins s σ H x y v u Q I rx ry h
 refine zaa ?_; intro G_; obtain ⟨i, j, rfl, rfl, q⟩ := h
 obtain ⟨t, rfl⟩ := rx
 obtain ⟨t', rfl⟩ := ry
 exact rule i j t t' s _ _ ⟨.int (g i j), H, I.tok _, ⟨_, rfl⟩, q⟩
theorem opB0 {f : Value → Value → Sem Value} {g : Int → Int → Bool}
  (rule : ∀ (i j : Int) (t u : Tok) (s : Shared) (Q : Value → Shared → Prop) (E : Value → Shared → Prop), Q (.bool (g i j)) s → wpAny (model X.prog X.w) X.A (f (.int i t) (.int j u)) Q E s) :
  OpR X f (rI0 fun i j => .bl (g i j)) := by
 intro pins s σ H x y v u Q I rx ry h
 refine zaa ?_; intro G_; obtain ⟨i, j, rfl, rfl, q⟩ := h
 obtain ⟨t, rfl⟩ := rx
 obtain ⟨t', rfl⟩ := ry
 exact rule i j t t' s _ _ ⟨.bl (g i j), H, I, rfl, q⟩
def CDiv (i j : Int) : Prop := 0 < j ∧ j < 1073741824
def CPow (i j : Int) : Prop := 0 ≤ j ∧ j ≤ 1000000 ∧ i.natAbs < 2 ^ 64
def CMul (i j : Int) : Prop := (-(2 ^ 64) < i ∧ i < 2 ^ 64) ∨ (-(2 ^ 64) < j ∧ j < 2 ^ 64)
theorem CMul.ok {i j : Int} (h : CMul i j) : IntMulOk i j := by
 rcases h with ⟨h1, h2⟩ | ⟨h1, h2⟩
 ·exact .of_left (intBits_le_64 h1 h2)
 ·exact .of_right (intBits_le_64 h1 h2)
theorem zfU (k : Nat) : (0 : Int) ≤ 2 ^ k := by
 rw [two_pow_cast]
 exact Int.natCast_nonneg _
theorem zkv : OpR X (binaryOp .Add) (rI0 fun i j => .int (i + j)) := opI0 fun _ _ _ _ _ _ _ q => add_int q
theorem zkC : OpR X (binaryOp .Sub) (rI0 fun i j => .int (i - j)) := opI0 fun _ _ _ _ _ _ _ q => sub_int q
theorem zkj : OpR X (binaryOp .Mult) (rI CMul fun i j => .int (i * j)) := opI fun _ _ _ _ _ _ _ hc q => mul_int q hc.ok
theorem ziR : OpR X (binaryOp .FloorDiv) (rI CDiv fun i j => .int (i / j)) := opI fun i j _ _ _ _ _ hc q => by
 have h1 : (0 : Int) < j := hc.1
 have h2 : j < 1073741824 := hc.2
 exact floordiv_int (by lia) (by rw [Int.fdiv_eq_ediv_of_nonneg i (by lia)]; exact q) (.inl (PyProof.noPylong_small (by lia)))
theorem zj2 : OpR X (binaryOp .Mod) (rI (fun _ j => 0 < j) fun i j => .int (i % j)) := opI fun i j _ _ _ _ _ hc q => by
 have h1 : (0 : Int) < j := hc
 exact mod_int' (by lia) (by rw [Int.fmod_eq_emod_of_nonneg i (by lia)]; exact q)
theorem zkk : OpR X (binaryOp .Pow) (rI CPow fun i j => .int (i ^ j.toNat)) := opI fun _ _ _ _ _ _ _ hc q => pow_int_small hc.1 hc.2.1 hc.2.2 q
theorem zkD : OpR X (binaryOp .RShift) (rI (fun _ j => 0 ≤ j) fun i j => .int (i / 2 ^ j.toNat)) := opI fun i j _ _ _ _ _ hc q =>
 rshift_int hc (by rw [Int.fdiv_eq_ediv_of_nonneg i (zfU _)]; exact q)
theorem unI {f : Value → Sem Value} {g : Int → Int}
  (rule : ∀ (i : Int) (t : Tok) (s : Shared) (Q : Value → Shared → Prop) (E : Value → Shared → Prop), Q (.int (g i) s.toks) { s with toks := s.toks + 1 } → wpAny (model X.prog X.w) X.A (f (.int i t)) Q E s) :
  UnR X f (rU fun i => .int (g i)) := by
 intro pins s σ H x v Q I rx h
 refine zaa ?_; intro G_; obtain ⟨i, rfl, q⟩ := h
 obtain ⟨t, rfl⟩ := rx
 exact rule i t s _ _ ⟨.int (g i), H, I.tok _, ⟨_, rfl⟩, q⟩
theorem zk8 : UnR X (unaryOp .USub) (rU fun i => .int (-i)) := unI fun _ _ _ _ _ q => neg_int q
end
def scal : V → V → Bool
 | .non, .non => true | .non, .int _ => true | .int _, .non => true | .non, .bl _ => true | .bl _, .non => true | .non, .str _ => true | .str _, .non => true
 | .int _, .int _ => true | .bl _, .bl _ => true | .str _, .str _ => true | .byt _, .byt _ => true
 | .int _, .str _ => true | .str _, .int _ => true | .bl _, .str _ => true | .str _, .bl _ => true
 | _, _ => false
def rEq : R2 := fun x y H Q => scal x y = true ∧ Q (.bl (decide (x = y))) H
def rNe : R2 := fun x y H Q => scal x y = true ∧ Q (.bl (!decide (x = y))) H
theorem zf8 {i j : Int} : decide (V.int i = V.int j) = (i == j) := by
 rw [Bool.eq_iff_iff]
 simp
theorem ziz {i j : Bool} : decide (V.bl i = V.bl j) = (i == j) := by
 rw [Bool.eq_iff_iff]
 simp
theorem zg5 {i j : Str} : decide (V.str i = V.str j) = (i == j) := by
 rw [Bool.eq_iff_iff]
 simp
theorem zhn {i j : Array UInt8} : decide (V.byt i = V.byt j) = (i.toList == j.toList) := by
 rw [Bool.eq_iff_iff]
 cases i
 cases j
 simp
section
variable {X : Cx} {a b c : Expr} {ta tb tc : TE} {pos : Pos}
theorem zat {pins : List (Addr × Obj)} {σ : St} {H : Hp} {s : Shared} {Q : VK} {k k' : Bool} (I : Inv X pins σ H s) (q : Q (.bl k) H) (e : k = k') : EP X pins σ Q (.bool k') s := by
 subst e
 exact ⟨.bl k, H, I, rfl, q⟩
theorem zlF : OpR X (compareOp .Eq) rEq := by
 intro pins s σ H x y v u Q I rx ry h
 obtain ⟨hs, q⟩ := h
 cases x with
 | non =>
  cases rx
  cases y with
  | non => cases ry; exact PySem.EqNone.eq_none_none (zat I q (by simp))
  | bl j => cases ry; exact PySem.EqNone.eq_none_bool (zat I q (by simp))
  | int j => obtain ⟨t', rfl⟩ := ry; exact PySem.EqNone.eq_none_int (zat I q (by simp))
  | str j => obtain ⟨t', rfl⟩ := ry; exact PySem.EqNone.eq_none_str (zat I q (by simp))
  | _ => exact absurd (show false = true from hs) Bool.false_ne_true
 | bl i =>
  cases rx
  cases y with
  | non => cases ry; exact PySem.EqNone.eq_bool_none (zat I q (by simp))
  | bl j => cases ry; exact eq_bool (zat I q ziz)
  | str j => obtain ⟨t', rfl⟩ := ry; exact PySem.EqMixed.eq_bool_str (zat I q (by simp))
  | _ => exact absurd (show false = true from hs) Bool.false_ne_true
 | int i =>
  obtain ⟨t, rfl⟩ := rx
  cases y with
  | non => cases ry; exact PySem.EqNone.eq_int_none (zat I q (by simp))
  | int j => obtain ⟨t', rfl⟩ := ry; exact eq_int (zat I q zf8)
  | str j => obtain ⟨t', rfl⟩ := ry; exact PySem.EqMixed.eq_int_str (zat I q (by simp))
  | _ => exact absurd (show false = true from hs) Bool.false_ne_true
 | str i =>
  obtain ⟨t, rfl⟩ := rx
  cases y with
  | non => cases ry; exact PySem.EqNone.eq_str_none (zat I q (by simp))
  | bl j => cases ry; exact PySem.EqMixed.eq_str_bool (zat I q (by simp))
  | int j => obtain ⟨t', rfl⟩ := ry; exact PySem.EqMixed.eq_str_int (zat I q (by simp))
  | str j => obtain ⟨t', rfl⟩ := ry; exact eq_str (zat I q zg5)
  | _ => exact absurd (show false = true from hs) Bool.false_ne_true
 | byt i =>
  obtain ⟨t, rfl⟩ := rx
  cases y with
  | byt j => obtain ⟨t', rfl⟩ := ry; exact PySem.W.eq_bytes (zat I q zhn)
  | _ => exact absurd (show false = true from hs) Bool.false_ne_true
 | _ => cases y <;> exact absurd (show false = true from hs) Bool.false_ne_true
theorem zll : OpR X (compareOp .NotEq) rNe := by
 intro pins s σ H x y v u Q I rx ry h
 obtain ⟨hs, q⟩ := h
 cases x with
 | non =>
  cases rx
  cases y with
  | non => cases ry; exact PySem.EqNone.ne_none_none (zat I q (by simp))
  | bl j => cases ry; exact PySem.EqNone.ne_none_bool (zat I q (by simp))
  | int j => obtain ⟨t', rfl⟩ := ry; exact PySem.EqNone.ne_none_int (zat I q (by simp))
  | str j => obtain ⟨t', rfl⟩ := ry; exact PySem.EqNone.ne_none_str (zat I q (by simp))
  | _ => exact absurd (show false = true from hs) Bool.false_ne_true
 | bl i =>
  cases rx
  cases y with
  | non => cases ry; exact PySem.EqNone.ne_bool_none (zat I q (by simp))
  | bl j => cases ry; exact ne_bool (zat I q (congrArg not ziz))
  | str j => obtain ⟨t', rfl⟩ := ry; exact PySem.EqMixed.ne_bool_str (zat I q (by simp))
  | _ => exact absurd (show false = true from hs) Bool.false_ne_true
 | int i =>
  obtain ⟨t, rfl⟩ := rx
  cases y with
  | non => cases ry; exact PySem.EqNone.ne_int_none (zat I q (by simp))
  | int j => obtain ⟨t', rfl⟩ := ry; exact ne_int (zat I q (congrArg not zf8))
  | str j => obtain ⟨t', rfl⟩ := ry; exact PySem.EqMixed.ne_int_str (zat I q (by simp))
  | _ => exact absurd (show false = true from hs) Bool.false_ne_true
 | str i =>
  obtain ⟨t, rfl⟩ := rx
  cases y with
  | non => cases ry; exact PySem.EqNone.ne_str_none (zat I q (by simp))
  | bl j => cases ry; exact PySem.EqMixed.ne_str_bool (zat I q (by simp))
  | int j => obtain ⟨t', rfl⟩ := ry; exact PySem.EqMixed.ne_str_int (zat I q (by simp))
  | str j => obtain ⟨t', rfl⟩ := ry; exact ne_str (zat I q (congrArg not zg5))
  | _ => exact absurd (show false = true from hs) Bool.false_ne_true
 | byt i =>
  obtain ⟨t, rfl⟩ := rx
  cases y with
  | byt j => obtain ⟨t', rfl⟩ := ry; exact PySem.W.ne_bytes (zat I q (congrArg not zhn))
  | _ => exact absurd (show false = true from hs) Bool.false_ne_true
 | _ => cases y <;> exact absurd (show false = true from hs) Bool.false_ne_true
theorem zlN : OpR X (compareOp .Lt) (rI0 fun i j => .bl (decide (i < j))) := opB0 fun _ _ _ _ _ _ _ q => lt_int q
theorem zlp : OpR X (compareOp .LtE) (rI0 fun i j => .bl (decide (i ≤ j))) := opB0 fun _ _ _ _ _ _ _ q => le_int q
theorem zlt : OpR X (compareOp .Gt) (rI0 fun i j => .bl (decide (j < i))) := opB0 fun _ _ _ _ _ _ _ q => gt_int q
theorem ziy (b : Expr) {op : CmpOp} (h : op ≠ .In := by decide) (h2 : op ≠ .NotIn := by decide) : behindInMarks op b = false := by
 have e1 : (op == CmpOp.In) = false := by cases op <;> first | rfl | exact absurd rfl h
 have e2 : (op == CmpOp.NotIn) = false := by cases op <;> first | rfl | exact absurd rfl h2
 cases b <;> simp [behindInMarks, e1, e2]
theorem zf6 {op : CmpOp} {r : R2} (ho : OpR X (compareOp op) r) (ha : PE X a ta) (hb : PE X b tb) (hm : behindInMarks op b = false) : PE X (.Compare a [op] [b] pos) (tOp r ta tb) := by
 intro pins s σ H Q I h
 exact wpAny_Compare1 (binT ha hb I h fun v u s2 x y H2 I2 rx ry q => ho pins s2 σ H2 x y v u Q I2 rx ry q) hm
def zea (t : TE) : TT := fun σ H Q => t σ H fun x H' => ∃ k, x = .bl k ∧ Q k H'
theorem ziN {op : CmpOp} {r : R2} (ho : OpR X (compareOp op) r) (ha : PE X a ta) (hb : PE X b tb) (hm : behindInMarks op b = false) : PT X (.Compare a [op] [b] pos) (zea (tOp r ta tb)) := by
 intro pins s σ H Q I h
 refine wpAny_isTrue_Compare1 (thn (ha pins s σ H _ I h) fun v s1 ⟨x, H1, I1, r1, q1⟩ => thn (hb pins s1 σ H1 _ I1 q1) fun u s2 ⟨y, H2, I2, r2, q2⟩ =>
  thn (ho pins s2 σ H2 x y v u _ I2 r1 r2 q2) fun c s3 ⟨z, H3, I3, r3, k, e, q3⟩ => ?_) hm
 subst e
 cases r3
 exact wpAny_truthy_bool ⟨H3, I3, q3⟩
def TruV (K : PySem.W.Frag) (x : V) (H : Hp) (k : Bool) : Prop :=
 match x with
 | .non => k = false
 | .bl b => k = b
 | .int i => k = (i != 0)
 | .str y => y.length ≤ sizeLine ∧ k = ((y.length : Int) != 0)
 | .byt y => y.size ≤ sizeLine ∧ k = ((y.size : Int) != 0)
 | .ref p => (∃ xs, SqL K H p xs ∧ k = !xs.isEmpty) ∨ (∃ xs, SqT K H p xs ∧ k = !xs.isEmpty) ∨ ∃ kvs, H p = some (.dK kvs) ∧ k = !kvs.isEmpty
 | _ => False
theorem zfO {κ : Type} {kvs : List (κ × V)} {vs : List (κ × Value)} (r : KV kvs vs) : (!vs.isEmpty) = !kvs.isEmpty := by
 cases r <;> rfl
theorem zdo {xs : List V} {its : List Value} (r : Vals xs its) : (!its.toArray.isEmpty) = !xs.isEmpty := by
 cases r <;> simp
theorem zc0 : (sizeLine : Nat) < 2 ^ 63 := by rw [sizeLine_eq]; decide
theorem zkF : TruR X (fun x H Q => ∃ k, TruV X.K x H k ∧ Q k H) := by
 intro pins s σ H x v Q I rx h
 refine zaa ?_; intro G_; obtain ⟨k, e, q⟩ := h
 have hl := zc0
 have hs : sizeLine = 16777216 := sizeLine_eq
 cases x with
 | non =>
  cases rx
  have e' : k = false := e
  subst e'
  exact truthy_none ⟨H, I, q⟩
 | bl b =>
  cases rx
  have e' : k = b := e
  subst e'
  exact wpAny_truthy_bool ⟨H, I, q⟩
 | int i =>
  obtain ⟨t, rfl⟩ := rx
  have e' : k = (i != 0) := e
  subst e'
  exact PySem.P.truthy_int ⟨H, I, q⟩
 | str y =>
  obtain ⟨t, rfl⟩ := rx
  obtain ⟨hy, e'⟩ : y.length ≤ sizeLine ∧ k = ((y.length : Int) != 0) := e
  subst e'
  exact PySem.P.truthy_str (by lia) ⟨H, I.tok _, q⟩
 | byt y =>
  obtain ⟨t, rfl⟩ := rx
  obtain ⟨hy, e'⟩ : y.size ≤ sizeLine ∧ k = ((y.size : Int) != 0) := e
  subst e'
  exact PySem.W.truthy_bytes (by lia) ⟨H, I.tok _, q⟩
 | ref p =>
  cases rx
  have e' : (∃ xs, SqL X.K H p xs ∧ k = !xs.isEmpty) ∨ (∃ xs, SqT X.K H p xs ∧ k = !xs.isEmpty) ∨ ∃ kvs, H p = some (.dK kvs) ∧ k = !kvs.isEmpty := e
  rcases e' with ⟨xs, hx, e'⟩ | ⟨xs, hx, e'⟩ | ⟨kvs, hx, e'⟩
  ·subst e'
   refine zaa ?_; intro G_; obtain ⟨its, r, pl, hz⟩ := I.list hx
   have hlen := r.length
   exact wpAny_truthy_list pl.isList (by simp only [List.size_toArray]; lia) ⟨H, I.tok _, by rw [zdo r]; exact q⟩
  ·subst e'
   refine zaa ?_; intro G_; obtain ⟨its, r, pl, hz⟩ := I.tuple hx
   have hlen := r.length
   exact truthy_tuple pl (by simp only [List.size_toArray]; lia) ⟨H, I.tok _, by rw [zdo r]; exact q⟩
  ·subst e'
   obtain ⟨hz, hS, vs, r, m⟩ : kvs.length ≤ sizeLine ∧ (p == sysModules) = false ∧ ∃ vs, KV kvs vs ∧ s.heap.DictOf (zbb X.prog X.w) p vs := I.hok p _ hx
   have hlen : kvs.length = vs.length := Paired.length r
   exact wpAny_truthy_dict hS m (by lia) ⟨H, I.tok _, by rw [zfO r]; exact q⟩
 | _ => exact (show False from e).elim
theorem zhU (ha : PE X a ta) (he : ∀ whole, isTrue a X.env whole = (do let v ← whole; standAt a.pos; holding [v] (truthy v))) :
  PT X a (fun σ H Q => ta σ H fun x H' => ∃ k, TruV X.K x H' k ∧ Q k H') := by
 intro pins s σ H Q I h
 exact isTrue_plain (thn (ha pins s σ H _ I h) (by rintro v s1 ⟨x, H1, I1, r1, q1⟩; exact zkF pins s1 σ H1 x v Q I1 r1 q1)) (he _)
theorem vals1 {x : V} {us : List Value} (r : Vals [x] us) : ∃ u, us = [u] ∧ RelV x u := by
 cases r with
 | cons r1 r2 => cases r2; exact (exg _ rfl r1)
theorem vals2 {x y : V} {us : List Value} (r : Vals [x, y] us) : ∃ u w', us = [u, w'] ∧ RelV x u ∧ RelV y w' := by
 cases r with
 | cons r1 r2 =>
  cases r2 with
  | cons r3 r4 => cases r4; exact ⟨_, exg _ rfl ⟨r1, r3⟩⟩
theorem zgk (hc : X.calm = true) : zcA X (.builtin "max") (fun xs H Q => ∃ i j, xs = [.int i, .int j] ∧ Q (.int (if j > i then j else i)) H) := by
 intro pins s σ H xs us Q I r h
 refine zaa ?_; intro G_; obtain ⟨i, j, rfl, q⟩ := h
 refine zaa ?_; intro G_; obtain ⟨u, w', rfl, ⟨t, rfl⟩, ⟨t', rfl⟩⟩ := vals2 r
 refine max_two_ints (I.ok.hd hc) fun h' tk k => ⟨_, H, I.kept k, ?_, q⟩
 by_cases hj : j > i
 ·rw [if_pos hj, if_pos hj]; exact ⟨_, rfl⟩
 ·rw [if_neg hj, if_neg hj]; exact ⟨_, rfl⟩
end
end L2
namespace L2
open PySem PySem.Spec PyProof.Rows
structure ObjM (h : Heap) (x dx C : Addr) (mA : Str → Option Value) : Prop where
 obj : h.get? x = some (PySem.W.instObj C dx)
 ns : h.Ns1 dx mA
 ne : dx ≠ x
theorem zgT {h : Heap} {dx : Addr} {mA : Str → Option Value} (n : h.Ns1 dx mA) : ∃ od, h.get? dx = some od ∧ ∀ name, PySem.W.lookIn name od = some (mA name) := by
 refine zaa ?_; intro G_; obtain ⟨o, es, ep, ho, hd, hk, _, hm⟩ := n
 refine ⟨o, ho, fun name => ?_⟩
 have e := hm name
 unfold nsFind findBy at e
 rw [← Array.find?_toList] at e
 unfold PySem.W.lookIn
 rw [hd]
 dsimp only
 split
 ·rename_i y q
  rw [q] at e
  exact congrArg some e
 ·rename_i q
  rw [q] at e
  have a : es.toList.any (·.refKey) = false := by
   rw [List.any_eq_false]
   intro y hy
   obtain ⟨z, t, hkey⟩ := hk y (Array.mem_toList_iff.mp hy)
   simp [DictEntry.refKey, hkey]
  have a' : ¬ es.toList.any (·.refKey) = true := by rw [a]; exact Bool.false_ne_true
  rw [if_neg a']
  exact congrArg some e
theorem ObjM.look {h : Heap} {x dx C : Addr} {mA : Str → Option Value} (I : ObjM h x dx C mA) : ∃ od, PySem.W.InstAt h x (PySem.W.instObj C dx) C (some od) ∧ ∀ name, PySem.W.lookIn name od = some (mA name) :=
 let ⟨od, ho, hl⟩ := zgT I.ns
 ⟨od, ⟨I.obj, rfl, rfl, ho⟩, hl⟩
section
variable {prog : Program} {w : World} {A : Around} {E : Value → Shared → Prop} {s : Shared} {K : PySem.W.Frag} {x dx C f : Addr} {mA : Str → Option Value} {name : Str} {v : Value}
end
theorem RelO.some_of {v : V} {o : Option Value} (r : RelO (some v) o) : ∃ u, o = some u ∧ RelV v u := by
 cases o with
 | none => exact (show False from r).elim
 | some u => exact ⟨u, rfl, r⟩
section
variable {P : Program} {w : World} {H H' : Hp} {h h' : Heap} {a C dx : Addr} {fs fs' : List (Str × V)}
theorem zjk (hok : HOk P w H h) (e : H a = some (.ins C dx fs)) : ∃ mA, ObjM h a dx C mA ∧ (∀ f, RelO (fs.lookup f) (mA f)) ∧ PySem.Within mA (fs.map (·.1)) ∧ fs.length ≤ 1000 ∧ H dx = some (.own a) := by
 refine zaa ?_; intro G_; obtain ⟨d, z, ne, ob, mA, n, r, q⟩ := (show ObjOk P w H h a (.ins C dx fs) from hok a _ e)
 exact ⟨mA, ⟨ob, n, ne⟩, r, q, z, d⟩
end
structure Cls (K : PySem.W.Frag) (C : Addr) : Prop where
 pg : PySem.W.plainGet K C Str.empty = true
 hd : PySem.W.hasDictIn K C = true
 po : PySem.W.plainOver K C = true
 sa : PySem.W.findIn K (.ref C) "__setattr__" = some (some (.builtin "object.__setattr__"))
theorem Cls.get {K : PySem.W.Frag} {C : Addr} (c : Cls K C) (f : Str) : PySem.W.plainGet K C f = true := c.pg
structure Con (K : PySem.W.Frag) (C : Addr) (f : Str) (v : V) (u : Value) : Prop where
 at_ : PySem.W.findIn K (.ref C) f = some (some u)
 rel : RelV v u
 get : PySem.W.specialIn K u "__get__" = some none
 cp : PySem.W.copiedNames.contains f = false
structure Meth (K : PySem.W.Frag) (C : Addr) (m : Str) (f : Addr) : Prop where
 at_ : PySem.W.findIn K (.ref C) m = some (some (.ref f))
 fn : PySem.W.isFn K (.ref f) = true
 kp : PySem.W.keepIn K (.ref f) = true
section
variable {X : Cx} {pins : List (Addr × Obj)} {σ : St} {H : Hp} {s : Shared} {a C dx : Addr} {fs : List (Str × V)} {f : Str} {v : V} {A : Around} {E : Value → Shared → Prop}
end
section
variable {X : Cx} {o e value : Expr} {f : Str} {pos pos' tpos : Pos} {ta tv : TE}
end
section
variable {X : Cx} {pins : List (Addr × Obj)} {σ : St} {H : Hp} {s : Shared} {A : Around} {E : Value → Shared → Prop} {Q : Value → Shared → Prop} {c : Value} {b : Bool}
inductive TyOf (K : PySem.W.Frag) (H : Hp) : V → Value → Prop where
 | non : TyOf K H .non (.type "NoneType")
 | bl (x : Bool) : TyOf K H (.bl x) (.type "bool")
 | int (i : Int) : TyOf K H (.int i) (.type "int")
 | str (x : Str) : TyOf K H (.str x) (.type "str")
 | flt (x : UInt64) : TyOf K H (.flt x) (.type "float")
 | lst {a : Addr} {xs : List V} (e : H a = some (.lst xs)) : TyOf K H (.ref a) (.type "list")
 | frz {a : Addr} {o : Obj} {xs : List V} (e : H a = some (.frz o (.lst xs))) : TyOf K H (.ref a) (.type "list")
 | tup {a : Addr} {xs : List V} (e : H a = some (.tup xs)) : TyOf K H (.ref a) (.type "tuple")
 | dK {a : Addr} {kvs : List (Key × V)} (e : H a = some (.dK kvs)) : TyOf K H (.ref a) (.type "dict")
 | dT {a : Addr} {kvs : List (List Key × V)} (e : H a = some (.dT kvs)) : TyOf K H (.ref a) (.type "dict")
 | ins {a C dx : Addr} {fs : List (Str × V)} (e : H a = some (.ins C dx fs)) (cl : Cls K C) (ha : PySem.W.findIn K (.ref C) "__class__" = some (some (.builtin "object.__class__")))
   (hn : PySem.W.specialIn K (.builtin "object.__class__") "__get__" = some (some (.builtin "getset_descriptor.__get__"))) (htk : PySem.W.takesIn K (.builtin "object.__class__") = some true)
   (hm : PySem.W.mroIn K C (.type "object") = some true) : TyOf K H (.ref a) (.ref C)
theorem zge {x : V} {u t : Value} (I : Inv X pins σ H s) (rx : RelV x u) (ty : TyOf X.K H x t) (e : PySem.W.kitOne X.K t c = some b) (h : ∀ tk, Q (.bool b) { s with toks := tk }) :
  wpAny (model X.prog X.w) A (call (.builtin "isinstance") [u, c]) Q E s := by
 cases ty with
 | non => cases (show u = Value.none from rx); exact PySem.W.kia_one PySem.W.kitx_none I.kIn True.intro e (fun z => nomatch z) h
 | bl y => cases (show u = Value.bool y from rx); exact PySem.W.kia_one PySem.W.kitx_bool I.kIn True.intro e (fun z => nomatch z) h
 | int i => obtain ⟨t, q⟩ := (show ∃ t, u = Value.int i t from rx); cases q; exact PySem.W.kia_one PySem.W.kitx_int I.kIn True.intro e (fun z => nomatch z) h
 | str y => obtain ⟨t, q⟩ := (show ∃ t, u = Value.str y t from rx); cases q; exact PySem.W.kia_one PySem.W.kitx_str I.kIn True.intro e (fun z => nomatch z) h
 | flt y => obtain ⟨t, q⟩ := (show ∃ t, u = Value.float y t from rx); cases q; exact PySem.W.kia_one PySem.W.kitx_float I.kIn True.intro e (fun z => nomatch z) h
 | @lst a xs ea =>
  cases (show u = Value.ref a from rx)
  refine zaa ?_; intro G_; obtain ⟨_, _, n, _, h1⟩ := (show ObjOk X.prog X.w H s.heap a (.lst xs) from I.hok a _ ea)
  exact PySem.W.kia_one PySem.W.kitx_list I.kIn ⟨_, h1, rfl⟩ e (fun z => nomatch z) h
 | @frz a ob xs ea =>
  cases (show u = Value.ref a from rx)
  refine zaa ?_; intro G_; obtain ⟨_, _, _, n, _, h1⟩ := (show ObjOk X.prog X.w H s.heap a (.frz ob (.lst xs)) from I.hok a _ ea)
  exact PySem.W.kia_one PySem.W.kitx_list I.kIn ⟨_, h1, rfl⟩ e (fun z => nomatch z) h
 | @tup a xs ea =>
  cases (show u = Value.ref a from rx)
  refine zaa ?_; intro G_; obtain ⟨_, _, _, p⟩ := (show ObjOk X.prog X.w H s.heap a (.tup xs) from I.hok a _ ea)
  refine zaa ?_; intro G_; obtain ⟨o, h1, h2, _⟩ := p
  exact PySem.W.kia_one PySem.W.kitx_tuple I.kIn ⟨o, h1, h2⟩ e (fun z => nomatch z) h
 | @dK a kvs ea =>
  cases (show u = Value.ref a from rx)
  refine zaa ?_; intro G_; obtain ⟨_, _, vs, _, p⟩ := (show ObjOk X.prog X.w H s.heap a (.dK kvs) from I.hok a _ ea)
  refine zaa ?_; intro G_; obtain ⟨o, es, ep, h1, h2, _⟩ := p
  exact PySem.W.kia_one PySem.W.kitx_dict I.kIn ⟨o, h1, h2.1⟩ e (fun z => nomatch z) h
 | @dT a kvs ea =>
  cases (show u = Value.ref a from rx)
  refine zaa ?_; intro G_; obtain ⟨_, _, xs, _, o, es, ep, h1, h2, _⟩ := (show ObjOk X.prog X.w H s.heap a (.dT kvs) from I.hok a _ ea)
  exact PySem.W.kia_one PySem.W.kitx_dict I.kIn ⟨o, h1, h2.1⟩ e (fun z => nomatch z) h
 | @ins a C dx fs ea cl ha hn htk hm =>
  cases (show u = Value.ref a from rx)
  refine zaa ?_; intro G_; obtain ⟨mA, O, _⟩ := zjk I.hok ea
  refine zaa ?_; intro G_; obtain ⟨od, J, _⟩ := O.look
  exact PySem.W.kia_one (PySem.W.kitx_own (cl.get _) cl.hd ha hn htk hm) I.kIn J e (fun z => nomatch z) h
end
end L2
namespace L2
open PySem PySem.Spec PyProof.Rows
structure Room (k : Nat) (A : Around) : Prop where
 hd : A.handled = none
 dp : A.depth + 3 * k + 5 < recursionLimit
 un : A.units + 16 * k + 200 < cLine
theorem Room.mono {j k : Nat} {A : Around} (r : Room k A) (h : j ≤ k) : Room j A := ⟨r.hd, by have := r.dp; lia, by have := r.un; lia⟩
theorem Room.deeper {k : Nat} {A : Around} (r : Room (k + 1) A) (env : Env) : Room k (A.deeper env) :=
 ⟨r.hd, by have := r.dp; show A.depth + 1 + 3 * k + 5 < _; lia, by have := r.un; show A.units + 3 + 16 * k + 200 < _; lia⟩
theorem Room.in1 {k : Nat} {A : Around} (r : Room (k + 1) A) : Room k A.in1 :=
 ⟨r.hd, by have := r.dp; show A.depth + 3 * k + 5 < _; lia, by have := r.un; show A.units + 1 + 16 * k + 200 < _; lia⟩
theorem Room.depth {k : Nat} {A : Around} (r : Room k A) : A.depth < recursionLimit := by have := r.dp; lia
theorem Room.units {k : Nat} {A : Around} (r : Room k A) : A.units + 64 < cLine := by have := r.un; lia
def tNil : TA := fun _ H Q => Q [] H
def zap (ta : TE) (tr : TA) : TA := fun σ H Q => ta σ H fun x H1 => tr σ H1 fun xs H2 => Q (x :: xs) H2
section
variable {X : Cx} {e : Expr} {es : List Expr} {te : TE} {t : TA} {pos : Pos}
theorem zgS : PA X [] tNil := fun _ _ _ _ H Q I h => Calls.spliced_nil ⟨[], H, I, .nil, h⟩
theorem zdM (ha : PE X e te) (hr : PA X es t) (hs : starEach (e :: es) X.env = (false, eval e X.env) :: starEach es X.env := by rfl) : PA X (e :: es) (zap te t) := by
 intro pos pins s σ H Q I h
 rw [hs]
 show wpAny _ _ (spliced ((false, eval e X.env) :: backTo pos (starEach es X.env))) _ _ s
 refine Calls.spliced_cons (thn (ha pins s σ H _ I h) fun u s1 ⟨x, H1, I1, r1, q1⟩ => ?_)
 exact thn (hr pos pins s1 σ H1 _ I1 q1) (by rintro us s2 ⟨xs, H2, I2, r2, q2⟩; exact ⟨x :: xs, H2, I2, .cons r1 r2, q2⟩)
def tTup (t : TA) : TE := fun σ H Q => t σ H fun xs H1 => xs.length ≤ sizeLine ∧ ∀ p, H1 p = none → Q (.ref p) (upd H1 p (.tup xs))
def tLst (t : TA) : TE := fun σ H Q => t σ H fun xs H1 => xs.length ≤ sizeLine ∧ ∀ p, H1 p = none → Q (.ref p) (upd H1 p (.lst xs))
theorem zkH {x1} (h : PA X es t) : PE X (.Tuple es x1 pos) (tTup t) := by
 intro pins s σ H Q I hq
 refine wpAny_Tuple_spliced (thn (h pos pins s σ H _ I hq) fun us s1 ⟨xs, H1, I1, r, z, q⟩ => ⟨by rw [← r.length]; exact z, ?_⟩)
 have hf : H1 s1.heap.objs.size = none := I1.hok.fresh (Nat.le_refl _)
 refine ⟨.ref s1.heap.objs.size, upd H1 s1.heap.objs.size (.tup xs), I1.laid (t' := s1.toks) (fun b u e => Heap.get?_push_of_some _ e) (Nat.le_refl _) ?_, rfl, q _ hf⟩
 exact ⟨z, us, r, ⟨_, Heap.get?_push_size _ rfl, rfl, _, rfl⟩⟩
theorem zj4 (h : PA X es t) : PE X (.List es pos) (tLst t) := by
 intro pins s σ H Q I hq
 refine wpAny_List_spliced (thn (h pos pins s σ H _ I hq) fun us s1 ⟨xs, H1, I1, r, z, q⟩ => ⟨by rw [← r.length]; exact z, ?_⟩)
 have hf : H1 s1.heap.objs.size = none := I1.hok.fresh (Nat.le_refl _)
 refine ⟨.ref s1.heap.objs.size, upd H1 s1.heap.objs.size (.lst xs), I1.laid (t' := s1.toks) (fun b u e => Heap.get?_push_of_some _ e) (Nat.le_refl _) ?_, rfl, q _ hf⟩
 exact ⟨z, us, 0, r, Heap.get?_push_size _ rfl⟩
end
abbrev Sp := List V → Hp → VK → XK → Prop
abbrev CXT := List Env → Hp → Shared → XK → Value → Shared → Prop
structure Env0 (P : Program) (w : World) (K : PySem.W.Frag) (mg : Str → Option Value) (base : Heap) (A : Around) (outer : List Env) (s : Shared) (H : Hp) : Prop where
 frames : A.frames = some outer
 mod : Mod K mg base
 bs : ∀ b o, base.get? b = some o → s.heap.get? b = some o ∧ H b = none
 bsz : base.objs.size ≤ s.heap.objs.size
 funs : s.heap.FunFrames base outer
 frf : ∀ b ∈ frs outer, H b = none
 hok : HOk P w H s.heap
 bare : AllBare s.gens
def CE (outer : List Env) (P : Program) (w : World) (H : Hp) (s : Shared) (Q : VK) (u : Value) (s' : Shared) : Prop :=
 ∃ v H', s'.os = s.os ∧ AllBare s'.gens ∧ Un (frs outer) [] H H' s.heap s'.heap ∧ HOk P w H' s'.heap ∧ RelV v u ∧ Q v H'
def CR (CX : CXT) (outer : List Env) (P : Program) (w : World) (H : Hp) (s : Shared) (Q : VK) (E : XK) (r : Result) (s' : Shared) : Prop :=
 match r with
 | .ok (.ret u) => CE outer P w H s Q u s'
 | .ok _ => False
 | .error e => CX outer H s E e s'
structure FnOk (P : Program) (w : World) (K : PySem.W.Frag) (mg : Str → Option Value) (base : Heap) (CX : CXT) (k : Nat) (f : Addr) (fd : FuncData) (ps : List Str) (sp : Sp) : Prop where
 len : ∀ vs H Q E, sp vs H Q E → vs.length = ps.length
 run : ∀ (A : Around) (outer : List Env) (s : Shared) (H : Hp) (args : Args) (us : List Value) (vs : List V) (Q : VK) (E : XK), Room k A → Env0 P w K mg base A outer s H → BindsTo s fd args (ps.zip us) → Vals vs us → sp vs H Q E →
  codeAny (model P w) A (.call (.ref f) args) (CR CX outer P w H s Q E) s
theorem FnOk.imp {P : Program} {w : World} {K : PySem.W.Frag} {mg : Str → Option Value} {base : Heap} {CX : CXT} {k : Nat} {f : Addr} {fd : FuncData} {ps : List Str} {sp sp' : Sp} (F : FnOk P w K mg base CX k f fd ps sp)
  (h : ∀ vs H Q E, sp' vs H Q E → sp vs H Q E) : FnOk P w K mg base CX k f fd ps sp' :=
 ⟨fun vs H Q E q => F.len vs H Q E (h _ _ _ _ q), fun A outer s H args us vs Q E hr he hb hv hs => F.run A outer s H args us vs Q E hr he hb hv (h _ _ _ _ hs)⟩
section
variable {X : Cx} {pins : List (Addr × Obj)} {σ : St} {H : Hp} {s s' : Shared}
theorem Inv.env0 (I : Inv X pins σ H s) : Env0 X.prog X.w X.K X.mg X.base X.A X.stack s H :=
 ⟨I.ok.frames, I.ok.mod, I.bs, Nat.le_trans I.ok.bsz I.sz, I.stack, I.stkFree, I.hok, I.bare⟩
theorem Inv.after {Q : VK} {u : Value} (I : Inv X pins σ H s) (h : CE X.stack X.prog X.w H s Q u s') : EP X pins σ Q u s' := by
 refine zaa ?_; intro G_; obtain ⟨v, H', os, bare, un, hok, r, q⟩ := h
 refine zaa ?_; intro G_; obtain ⟨hh, g, d, t, os'⟩ := s'
 obtain rfl : os' = s.os := os
 exact ⟨v, H', I.call (h' := hh) (g' := g) (d' := d) (t' := t) (ch := []) un hok bare (fun b z => absurd z (by simp)), r, q⟩
end
def zci (sp : Sp) (dvs : List V) (E : XK) (t : TA) : TE := fun σ H Q => t σ H fun vs H1 => sp (vs ++ dvs) H1 Q E
def Binds (K : PySem.W.Frag) (fd : FuncData) (ps : List Str) (ds : List Value) : Prop :=
 ∀ (s : Shared) (us : List Value), K.In s.heap → (us ++ ds).length = ps.length → BindsTo s fd ⟨us, []⟩ (ps.zip (us ++ ds))
theorem Binds.all {K : PySem.W.Frag} {fd : FuncData} {ps : List Str} (h : ∀ us : List Value, us.length = ps.length → bindArgs fd ⟨us, []⟩ = pure (ps.zip us)) : Binds K fd ps [] := fun s us _ hl => by
 rw [List.append_nil] at hl ⊢
 exact .of_eq (h us hl)
def Passes (CX : CXT) (X : Cx) (E : XK) : Prop := ∀ (pins : List (Addr × Obj)) (σ : St) (H : Hp) (s : Shared) (e : Value) (s' : Shared), Inv X pins σ H s → CX X.stack H s E e s' → X.xe e s'
section
variable {X : Cx} {CX : CXT} {k : Nat} {f C : Addr} {fd : FuncData} {ps : List Str} {sp : Sp} {dvs : List V} {ds : List Value} {E : XK} {x m : Str} {p pos apos : Pos} {e o : Expr} {es : List Expr} {ta : TE} {t : TA}
theorem zii {pins : List (Addr × Obj)} {σ : St} {H : Hp} {s : Shared} {Q : VK} {us : List Value} {vs : List V} (F : FnOk X.prog X.w X.K X.mg X.base CX k f fd ps sp) (hr : Room k X.A) (hb : Binds X.K fd ps ds) (hd : Vals dvs ds) (hx : Passes CX X E)
  (I : Inv X pins σ H s) (r : Vals vs us) (h : sp (vs ++ dvs) H Q E) : wpAny (model X.prog X.w) X.A (call (.ref f) us) (EP X pins σ Q) X.xe s := by
 have r2 : Vals (vs ++ dvs) (us ++ ds) := r.append hd
 have hl : (us ++ ds).length = ps.length := by rw [← r2.length]; exact F.len _ _ _ _ h
 refine wpAny_call (codeAny_mono (F.run X.A X.stack s H ⟨us, []⟩ (us ++ ds) (vs ++ dvs) Q E hr I.env0 (hb s us I.kIn hl) r2 h) fun r s' hq => ?_)
 cases r with
 | error e => exact hx pins σ H s e s' I hq
 | ok fl =>
  cases fl with
  | ret u => exact I.after hq
  | next => exact False.elim hq
  | brk => exact False.elim hq
  | cont => exact False.elim hq
theorem zjd (F : FnOk X.prog X.w X.K X.mg X.base CX k f fd ps sp) (hr : Room k X.A) (hg : Gl X x) (hm : X.mg x = some (.ref f)) (hk : PySem.W.keepIn X.K (.ref f) = true) (hb : Binds X.K fd ps ds) (hd : Vals dvs ds) (hx : Passes CX X E)
  (ha : PA X (e :: es) t) (hdb : (x == ("__debug__" : Str)) = false := by decide) (he : starEach (e :: es) X.env = (false, eval e X.env) :: starEach es X.env := by rfl) (hpl : (backTo pos (starEach es X.env)).any (·.1) = false := by rfl) :
  PE X (.Call (.Name x p) (e :: es) [] pos) (zci sp dvs E t) := by
 intro pins s σ H Q I h
 refine wpAny_Call_Name_kw (zdV I hg hm ?_ hdb)
 refine PySem.W.callWith_K (h₀ := X.base) I.ok.mod.kin hk (thn (ha pos pins s σ H _ I h) fun us s1 ⟨vs, H1, I1, r, q⟩ => ⟨I1.kIn, ?_⟩) he hpl
 exact zii F hr hb hd hx I1 r q
structure Mk (K : PySem.W.Frag) (C f : Addr) : Prop where
 makes : PySem.W.makesIn K C = true
 init : PySem.W.findIn K (.ref C) "__init__" = some (some (.ref f))
 fn : PySem.W.isFn K (.ref f) = true
 kp : PySem.W.keepIn K (.ref C) = true
end
def PK (X : Cx) (kws : List Keyword) (t : TA) : Prop :=
 ∀ (pos : Pos) (pins : List (Addr × Obj)) (s : Shared) (σ : St) (H : Hp) (Q : List V → Hp → Prop), Inv X pins σ H s → t σ H Q → wpAny (model X.prog X.w) X.A (evalAll ((backToKw pos (keywordEach kws X.env)).map (·.2))) (AP X pins σ Q) X.xe s
section
variable {X : Cx} {CX : CXT} {k : Nat} {f C : Addr} {fd : FuncData} {ps ks : List Str} {sp : Sp} {E : XK} {x m : Str} {p pos apos kpos : Pos} {e o : Expr} {es : List Expr} {kws : List Keyword} {te ta : TE} {t tk : TA} {nm : Option Str}
theorem zk0 : PK X [] tNil := fun _ _ _ _ H Q I h => wpAny_evalAll_nil ⟨[], H, I, .nil, h⟩
theorem zi3 (ha : PE X e te) (hr : PK X kws t) : PK X (⟨nm, e, kpos⟩ :: kws) (zap te t) := by
 intro pos pins s σ H Q I h
 show wpAny _ _ (evalAll ((do let v ← eval e X.env; standAt pos; pure v) :: (backToKw pos (keywordEach kws X.env)).map (·.2))) _ _ s
 refine wpAny_evalAll_cons (wpAny_bind (thn (ha pins s σ H _ I h) fun u s1 ⟨x, H1, I1, r1, q1⟩ => wpAny_bind (wpAny_standAt (wpAny_pure ?_))))
 exact thn (hr pos pins s1 σ H1 _ I1 q1) (by rintro us s2 ⟨xs, H2, I2, r2, q2⟩; exact ⟨x :: xs, H2, I2, .cons r1 r2, q2⟩)
structure KBinds (K : PySem.W.Frag) (fd : FuncData) (ps ks : List Str) (g : List Value → List Value → List Value) (gV : List V → List V → List V) : Prop where
 to : ∀ (s : Shared) (us ws : List Value), K.In s.heap → (g us ws).length = ps.length → BindsTo s fd ⟨us, ks.zip ws⟩ (ps.zip (g us ws))
 rel : ∀ {vs : List V} {us : List Value} {zs : List V} {ws : List Value}, Vals vs us → Vals zs ws → Vals (gV vs zs) (g us ws)
variable {g : List Value → List Value → List Value} {gV : List V → List V → List V}
end
structure FnScope (N P : List Str) (sc : Scope) : Prop where
 kind : sc.kind = .function
 co : sc.isCoroutine = false
 gen : sc.isGenerator = false
 nd : N.Nodup
 pre : N.take P.length = P
 par : ∀ x ∈ P, sc.names.lookup x = some .local ∨ sc.names.lookup x = some .cell
 nofree : ∀ y ∈ sc.names, y.2 ≠ .free
theorem zew {kindOf : Str → Option NameKind} {x : Str} : ∀ {binds : List (Str × Value)} {m : Str → Option Value}, (∀ v, (x, v) ∉ binds) → bindL kindOf binds m x = m x
 | [], _, _ => rfl
 | (n, v) :: r, m, h => by
  unfold bindL
  rw [zew fun w hw => h w (List.mem_cons_of_mem _ hw)]
  split
  ·have : x ≠ n := by rintro rfl; exact h v List.mem_cons_self
   simp [this]
  ·rfl
theorem zei {kindOf : Str → Option NameKind} {x : Str} : ∀ {binds : List (Str × Value)} {m : Str → Option Value}, (∀ v, (x, v) ∉ binds) → bindC kindOf binds m x = m x
 | [], _, _ => rfl
 | (n, v) :: r, m, h => by
  unfold bindC
  rw [zei fun w hw => h w (List.mem_cons_of_mem _ hw)]
  split
  ·rfl
  ·have : x ≠ n := by rintro rfl; exact h v List.mem_cons_self
   simp [this]
theorem zen {kindOf : Str → Option NameKind} {x : Str} {v : Value} : ∀ {P : List Str} {vs : List Value} {i : Nat} {m : Str → Option Value}, P.Nodup → P[i]? = some x → vs[i]? = some v → kindOf x = some .local →
  bindL kindOf (P.zip vs) m x = some v
 | [], _, _, _, _, h, _, _ => by simp at h
 | _ :: _, [], _, _, _, _, h, _ => by simp at h
 | p :: P, w :: vs, 0, m, nd, h1, h2, hk => by
  simp at h1 h2; subst h1; subst h2
  show bindL kindOf ((p, w) :: P.zip vs) m p = _
  unfold bindL
  rw [zew fun v hv => (List.nodup_cons.mp nd).1 (List.of_mem_zip hv).1, if_pos hk]
  simp
 | p :: P, w :: vs, i + 1, m, nd, h1, h2, hk => by
  show bindL kindOf ((p, w) :: P.zip vs) m x = _
  unfold bindL
  exact zen (i := i) (List.nodup_cons.mp nd).2 (by simpa using h1) (by simpa using h2) hk
theorem zeF {kindOf : Str → Option NameKind} {x : Str} {v : Value} : ∀ {P : List Str} {vs : List Value} {i : Nat} {m : Str → Option Value}, P.Nodup → P[i]? = some x → vs[i]? = some v → kindOf x ≠ some .local →
  bindC kindOf (P.zip vs) m x = some v
 | [], _, _, _, _, h, _, _ => by simp at h
 | _ :: _, [], _, _, _, _, h, _ => by simp at h
 | p :: P, w :: vs, 0, m, nd, h1, h2, hk => by
  simp at h1 h2; subst h1; subst h2
  show bindC kindOf ((p, w) :: P.zip vs) m p = _
  unfold bindC
  rw [zei fun v hv => (List.nodup_cons.mp nd).1 (List.of_mem_zip hv).1, if_neg hk]
  simp
 | p :: P, w :: vs, i + 1, m, nd, h1, h2, hk => by
  show bindC kindOf ((p, w) :: P.zip vs) m x = _
  unfold bindC
  exact zeF (i := i) (List.nodup_cons.mp nd).2 (by simpa using h1) (by simpa using h2) hk
def start (N : List Str) (vs : List V) : St := vs.map some ++ List.replicate (N.length - vs.length) none
def cxOf (CX : CXT) (P : Program) (w : World) (K : PySem.W.Frag) (mg : Str → Option Value) (base : Heap) (N : List Str) (qual : Str) (scope : Scope) (f : Addr) (cd : Value) (A : Around) (outer : List Env) (s : Shared) (H : Hp) (E : XK) : Cx where
 prog := P
 w := w
 K := K
 mg := mg
 base := base
 A := A.deeper (envOfC qual scope s.heap.objs.size f cd)
 N := N
 s₀ := s
 H₀ := H
 env := envOfC qual scope s.heap.objs.size f cd
 outer := outer
 stack := envOfC qual scope s.heap.objs.size f cd :: outer
 ex := []
 calm := true
 fn := fun _ => true
 pn := []
 xe := fun e s' => wpAny (model P w) (A.deeper (envOfC qual scope s.heap.objs.size f cd)) (leaving (envOfC qual scope s.heap.objs.size f cd) e) (fun _ s'' => CX outer H s E e s'') (fun e' s'' => CX outer H s E e' s'') s'
theorem zfh {sc : Scope} {n : Nat} {x : Str} (h : sc.names.lookup x = some .cell) : ∃ c, (cellsFrom n sc.names []).lookup x = some c := by
 have q := PySem.W.cellsFrom_some sc.names n [] (.inl h)
 exact Option.isSome_iff_exists.mp q
theorem zgV {CX : CXT} {P : Program} {w : World} {K : PySem.W.Frag} {mg : Str → Option Value} {base : Heap} {N ps : List Str} {qual : Str} {scope : Scope} {f : Addr} {cd : Value} {A : Around} {outer : List Env} {s s1 : Shared} {H : Hp} {E : XK} {us : List Value} {vs : List V}
  (S : FnScope N ps scope) (hd : A.handled = none) (e0 : Env0 P w K mg base A outer s H) (hl : vs.length = ps.length) (r : Vals vs us)
  (x : InCallC s s.heap.objs.size (bindL (envOfC qual scope s.heap.objs.size f cd).kindOf (ps.zip us) fun _ => none) (cellsFrom (s.heap.objs.size + 1) scope.names []) (bindC (envOfC qual scope s.heap.objs.size f cd).kindOf (ps.zip us) fun _ => none) s1) :
  Inv (cxOf CX P w K mg base N qual scope f cd A outer s H E) [] (start N vs) H s1 := by
 have hpl : ps.length ≤ N.length := by have := congrArg List.length S.pre; rw [List.length_take] at this; lia
 refine zaa ?_; intro G_; obtain ⟨h1, tk, rfl, hk⟩ := x.done
 have noA : ∀ b : Addr, b ∉ (cxOf CX P w K mg base N qual scope f cd A outer s H E).ex := fun b z => absurd (show b ∈ ([] : List Addr) from z) (by simp)
 refine ⟨⟨e0.mod, S.kind, rfl, rfl, Nat.le_refl _, fun y z c h1 h2 => ?_, fun y hy => ?_, fun y c _ h => ?_, fun _ => hd, Around.frames_deeper e0.frames, .inr ⟨rfl, rfl⟩, fun b z => absurd z (noA b), e0.bs, e0.bsz, fun b _ _ => noA b, fun b z => absurd z (noA b), e0.funs, e0.frf⟩,
  rfl, e0.bare, Un.kept hk, ⟨_, x.toInCall.ns, fun i y v h1 h2 h3 => ?_⟩, fun y c h => ⟨_, x.cell y c h⟩, e0.hok.fresh (Nat.le_refl _), fun y c h => ?_, fun p hp => absurd (show p ∈ ([] : List (Addr × Obj)) from hp) (by simp), e0.hok.kept hk, ?_⟩
 ·exact name_of_addr x.apart (PySem.mem_of_lookup h1) (PySem.mem_of_lookup h2)
 ·have hy : scope.names.lookup y = some .cell ∨ scope.names.lookup y = some .free := hy
  rcases hy with hy | hy
  ·exact zfh hy
  ·exact absurd rfl (S.nofree _ (PySem.mem_of_lookup hy))
 ·exact Nat.le_of_lt (x.above y c (PySem.mem_of_lookup h))
 ·have hi : i < vs.length := by
   unfold start at h2
   by_cases hi : i < vs.length
   ·exact hi
   ·rw [List.getElem?_append_right (by simpa using hi)] at h2
    rw [List.getElem?_replicate] at h2
    split at h2 <;> cases h2
  have ha : vs[i]? = some v := by
   unfold start at h2
   rw [List.getElem?_append_left (by simpa using hi), List.getElem?_map] at h2
   cases e : vs[i]? with
   | none => rw [e] at h2; cases h2
   | some a => rw [e] at h2; cases h2; rfl
  refine zaa ?_; intro G_; obtain ⟨u, hu, rv⟩ := r.get ha
  have hp : ps[i]? = some y := by
   rw [← S.pre, List.getElem?_take_of_lt (by lia)]; exact h1
  have ndP : ps.Nodup := by rw [← S.pre]; exact S.nd.sublist (List.take_sublist _ _)
  refine ⟨u, rv, ?_⟩
  rcases S.par y (List.mem_of_getElem? hp) with k | k
  ·exact .inl ⟨k, zen ndP hp hu k⟩
  ·obtain ⟨c, e⟩ := zfh (n := s.heap.objs.size + 1) k
   refine .inr ⟨.inl k, c, e, ?_⟩
   have q := x.cell y c e
   rw [zeF ndP hp hu (by show scope.names.lookup y ≠ _; rw [k]; decide)] at q
   exact q
 ·exact e0.hok.fresh (Nat.le_of_lt (x.above y c (PySem.mem_of_lookup h)))
 ·unfold start
  show _ = N.length
  rw [List.length_append, List.length_map, List.length_replicate]
  lia
theorem zkO {CX : CXT} {P : Program} {w : World} {K : PySem.W.Frag} {mg : Str → Option Value} {base : Heap} {k : Nat} {f : Addr} {name qual : Str} {params : Arguments} {body : List Stmt} {scope : Scope} {dV kV doc pm cdv ct oc : Value} {an od : Option Addr}
  {osl : Array (Option Value)} {N ps : List Str} {sp : Sp} (lk : K.lookup f = some ⟨oc, od, .func (PySem.W.fnOf name qual params body scope dV kV doc pm an cdv ct), osl⟩) (hcd : PySem.W.codeIn K cdv qual = true) (S : FnScope N ps scope)
  (len : ∀ vs H Q E, sp vs H Q E → vs.length = ps.length)
  (hbody : ∀ (A : Around) (outer : List Env) (s : Shared) (H : Hp) (vs : List V) (Q : VK) (E : XK), Room k (A.deeper (envOfC qual scope s.heap.objs.size f cdv)) → sp vs H Q E →
   ∃ t, PSs (cxOf CX P w K mg base N qual scope f cdv A outer s H E) body t ∧ t { nx := fun _ H' => Q .non H', rt := Q } (start N vs) H) :
  FnOk P w K mg base CX (k + 1) f (PySem.W.fnOf name qual params body scope dV kV doc pm an cdv ct) ps sp := by
 refine ⟨len, fun A outer s H args us vs Q E hr e0 hb r hsp => ?_⟩
 have hl := len _ _ _ _ hsp
 have KX : K.In s.heap := e0.mod.kin.keeps fun b o e => (e0.bs b o e).1
 have lim : s.heap.NoLimit := e0.mod.nolimit.keeps fun b o e => (e0.bs b o e).1
 have hkind : ∀ y ∈ ps.zip us, scope.names.lookup y.1 = some .local ∨ (scope.names.lookup y.1 = some .cell ∧ ((cellsFrom (s.heap.objs.size + 1) scope.names []).lookup y.1).isSome = true) := fun ⟨n, v⟩ hy => by
  rcases S.par n (List.of_mem_zip hy).1 with q | q
  ·exact .inl q
  ·exact .inr ⟨q, PySem.W.cellsFrom_some _ _ _ (.inl q)⟩
 refine codeAny_call_function hr.depth (KX _ _ lk) rfl S.co S.gen rfl (PySem.W.codeRec_of KX hcd) (hb _ _ _ _ ?_)
 refine wpAny_newFunctionEnv_cells S.kind hkind fun env he s1 x => ?_
 subst he
 refine ⟨lim.keeps x.toInCall.keep, codeAny_func ?_⟩
 refine zaa ?_; intro G_; obtain ⟨t, ht, hq⟩ := hbody A outer s H vs Q E (hr.deeper _) hsp
 have I : Inv (cxOf CX P w K mg base N qual scope f cdv A outer s H E) [] (start N vs) H s1 := zgV S hr.hd e0 hl r x
 refine wpAny_mono (ht [] s1 (start N vs) H _ I hq) (fun fl s' hs => ?_) fun e s' hs => hs
 have fin : ∀ {σ' : St} {H' : Hp} {v : V} {u : Value}, Inv (cxOf CX P w K mg base N qual scope f cdv A outer s H E) [] σ' H' s' → RelV v u → Q v H' → CE outer P w H s Q u s' :=
  fun {σ' H' v u} J rv q => ⟨v, H', J.os, J.bare, J.base, J.hok, rv, q⟩
 cases fl with
 | ret u =>
  refine zaa ?_; intro G_; obtain ⟨v, σ', H', J, rv, q⟩ := hs
  exact fin J rv q
 | next =>
  refine zaa ?_; intro G_; obtain ⟨σ', H', J, q⟩ := hs
  exact fin (v := V.non) (u := Value.none) J rfl q
 | brk =>
  refine zaa ?_; intro G_; obtain ⟨_, _, _, q⟩ := hs
  exact False.elim q
 | cont =>
  refine zaa ?_; intro G_; obtain ⟨_, _, _, q⟩ := hs
  exact False.elim q
end L2
namespace L2
open PySem PySem.Spec PyProof.Rows
section
variable {X : Cx} {x : Str} {p pos : Pos} {e : Expr} {es : List Expr} {t : TA} {id T : String} {r : List V → Hp → VK → Prop}
def tCB (r : List V → Hp → VK → Prop) (t : TA) : TE := fun σ H Q => t σ H fun vs H1 => r vs H1 Q
theorem zic (hc : zcA X (.builtin id) r) (hg : Gl X x) (hm : X.mg x = none) (hv : bootBuiltins x = some (.builtin id)) (ha : PA X (e :: es) t) (hn : x ≠ "__name__" := by decide) (hdb : (x == ("__debug__" : Str)) = false := by decide)
  (he : starEach (e :: es) X.env = (false, eval e X.env) :: starEach es X.env := by rfl) (hpl : (backTo pos (starEach es X.env)).any (·.1) = false := by rfl) : PE X (.Call (.Name x p) (e :: es) [] pos) (tCB r t) := by
 intro pins s σ H Q I h
 refine wpAny_Call_Name_kw (zdr I hg hm hv ?_ hn hdb)
 exact PyProof.Rows.callWith_builtin1 (thn (ha pos pins s σ H _ I h) (by rintro us s1 ⟨vs, H1, I1, r1, q1⟩; exact hc pins s1 σ H1 vs us Q I1 r1 q1)) he hpl
theorem zgY (hc : zcA X (.type T) r) (hg : Gl X x) (hm : X.mg x = none) (hv : bootBuiltins x = some (.type T)) (ha : PA X (e :: es) t) (hn : x ≠ "__name__" := by decide) (hdb : (x == ("__debug__" : Str)) = false := by decide)
  (he : starEach (e :: es) X.env = (false, eval e X.env) :: starEach es X.env := by rfl) (hpl : (backTo pos (starEach es X.env)).any (·.1) = false := by rfl) : PE X (.Call (.Name x p) (e :: es) [] pos) (tCB r t) := by
 intro pins s σ H Q I h
 refine wpAny_Call_Name_kw (zdr I hg hm hv ?_ hn hdb)
 exact PyProof.Rows.callWith_type1 (thn (ha pos pins s σ H _ I h) (by rintro us s1 ⟨vs, H1, I1, r1, q1⟩; exact hc pins s1 σ H1 vs us Q I1 r1 q1)) he hpl
end
end L2
namespace HT
open PySem PyProof.Rows
section
open PySem.SeqAt
open PySem.AutoSeq1 (wpAny_loadPart')
open PySem.MeetsSeq PySem.MeetsSeq2 PySem.MeetsSeq3
end
section
variable {prog : Program} {w : World} {A : Around} {E : Value → Shared → Prop} {s : Shared}
def sIx (n d : Nat) : Option Int → Nat
 | none => d
 | some v => if v < 0 then (v + (n : Int)).toNat else min v.toNat n
theorem sIx_nat (n d k : Nat) : sIx n d (some (k : Int)) = min k n := by
 show (if (k : Int) < 0 then ((k : Int) + (n : Int)).toNat else min (k : Int).toNat n) = min k n
 rw [if_neg (by lia), Int.toNat_natCast]
end
end HT
namespace L2
open PySem PySem.Spec PyProof.Rows
abbrev TO := St → Hp → (Option Int → Hp → Prop) → Prop
def PO (X : Cx) (e : Option Expr) (t : TO) : Prop :=
 ∀ (pins : List (Addr × Obj)) (s : Shared) (σ : St) (H : Hp) (Q : Option Int → Hp → Prop), Inv X pins σ H s → t σ H Q →
  wpAny (model X.prog X.w) X.A (evalPart e X.env) (fun u s' => ∃ o H', Inv X pins σ H' s' ∧ IsPart u o ∧ Q o H') X.xe s
def zeT : TO := fun _ H Q => Q none H
def ziT (t : TE) : TO := fun σ H Q => t σ H fun x H1 => ∃ i, x = .int i ∧ Q (some i) H1
section
variable {X : Cx} {e : Expr} {te : TE} {lo hi : Option Expr} {tl th : TO} {pos p2 : Pos}
theorem zhj : PO X none zeT := by
 intro pins s σ H Q I h
 rw [evalPart_none]
 exact wpAny_pure ⟨none, H, I, .none, h⟩
theorem zgG (h : PE X e te) : PO X (some e) (ziT te) := by
 intro pins s σ H Q I hw
 rw [evalPart_some]
 refine thn (h pins s σ H _ I hw) fun u s1 ⟨x, H1, I1, r1, q1⟩ => ?_
 refine zaa ?_; intro G_; obtain ⟨i, rfl, q⟩ := q1
 obtain ⟨t, rfl⟩ := r1
 exact ⟨some i, H1, I1, .int i t, q⟩
def SlR (X : Cx) (r : V → Option Int → Option Int → Hp → VK → Prop) : Prop :=
 ∀ (pins : List (Addr × Obj)) (s : Shared) (σ : St) (H : Hp) (x : V) (v vl vu : Value) (lo hi : Option Int) (sl : Addr) (Q : VK), Inv X pins σ H s → RelV x v → s.heap.IsSliceOf sl vl vu .none → IsPart vl lo → IsPart vu hi → r x lo hi H Q →
  ∃ T id, typeLookup (.type T) "__getitem__" = pure (some (.builtin id)) ∧ s.TypeIs v T ∧ wpAny (model X.prog X.w) X.A (getItem v (.ref sl)) (EP X pins σ Q) X.xe s
def tSl (r : V → Option Int → Option Int → Hp → VK → Prop) (te : TE) (tl th : TO) : TE := fun σ H Q => te σ H fun x H1 => tl σ H1 fun l H2 => th σ H2 fun u H3 => r x l u H3 Q
theorem zfw {r : V → Option Int → Option Int → Hp → VK → Prop} (hr : SlR X r) (he : PE X e te) (hl : PO X lo tl) (hu : PO X hi th) : PE X (.Subscript e (.Slice lo hi none p2) pos) (tSl r te tl th) := by
 intro pins s σ H Q I h
 refine Subscript_ (thn (he pins s σ H _ I h) fun v s1 ⟨x, H1, I1, r1, q1⟩ => ?_)
 refine wpAny_Slice (thn (hl pins s1 σ H1 _ I1 q1) fun vl s2 ⟨l, H2, I2, pl, q2⟩ => thn (hu pins s2 σ H2 _ I2 q2) fun vu s3 ⟨u, H3, I3, pu, q3⟩ => ?_)
 rw [evalPart_none]
 refine wpAny_pure ?_
 have I4 : Inv X pins σ H3 { s3 with heap := s3.heap.push { cls := .type "slice", data := .fields #[vl, vu, .none] } } := I3.kept (t' := s3.toks) fun b ob q => Heap.get?_push_of_some _ q
 refine zaa ?_; intro G_; obtain ⟨T, id, hT, ht, hg⟩ := hr pins { s3 with heap := s3.heap.push { cls := .type "slice", data := .fields #[vl, vu, .none] } } σ H3 x v vl vu l u s3.heap.objs.size Q I4 r1 (Heap.IsSliceOf.new ..) pl pu q3
 show wpAny (model X.prog X.w) X.A (subscriptTail e (.Slice lo hi none p2) v (.ref s3.heap.objs.size)) (EP X pins σ Q) X.xe { s3 with heap := s3.heap.push { cls := .type "slice", data := .fields #[vl, vu, .none] } }
 exact tail_any (ops := [.ref s3.heap.objs.size, v]) ht hT hg (by with_unfolding_all rfl)
def cutV (xs : List V) (lo hi : Option Int) : List V := (xs.drop (HT.sIx xs.length 0 lo)).take (HT.sIx xs.length xs.length hi - HT.sIx xs.length 0 lo)
theorem zeV (xs : List V) (lo hi : Option Int) : (cutV xs lo hi).length ≤ xs.length := by
 unfold cutV
 rw [List.length_take, List.length_drop]
 lia
end
end L2
namespace L2
open PySem PySem.Spec PyProof.Rows
def ixN (n : Nat) (i : Int) : Option Nat := if 0 ≤ i then (if i < n then some i.toNat else none) else if -(n : Int) ≤ i then some (i + n).toNat else none
def atI {α : Type} (xs : List α) (i : Int) : Option α := (ixN xs.length i).bind fun j => xs[j]?
theorem zgZ {n : Nat} {i : Int} {j : Nat} (h : ixN n i = some j) : seqIndex? i n = some j ∧ j < n ∧ -(n : Int) ≤ i ∧ i < n := by
 unfold ixN at h
 by_cases h0 : 0 ≤ i
 ·rw [if_pos h0] at h
  by_cases h1 : i < n
  ·rw [if_pos h1] at h
   have e : i.toNat = j := Option.some.inj h
   exact ⟨by rw [seqIndex_of h0 h1, e], by lia, by lia, h1⟩
  ·rw [if_neg h1] at h; cases h
 ·rw [if_neg h0] at h
  by_cases h1 : -(n : Int) ≤ i
  ·rw [if_pos h1] at h
   have e : (i + n).toNat = j := Option.some.inj h
   exact ⟨by rw [seqIndex_neg (by lia) h1, e], by lia, h1, by lia⟩
  ·rw [if_neg h1] at h; cases h
theorem zeU {α : Type} {xs : List α} {i : Int} {v : α} (h : atI xs i = some v) : ∃ j, seqIndex? i xs.length = some j ∧ xs[j]? = some v ∧ j < xs.length ∧ -(xs.length : Int) ≤ i ∧ i < xs.length := by
 unfold atI at h
 cases e : ixN xs.length i with
 | none => rw [e] at h; cases h
 | some j =>
  rw [e] at h
  refine zaa ?_; intro G_; obtain ⟨h1, h2, h3, h4⟩ := zgZ e
  exact ⟨j, h1, h, h2, h3, h4⟩
theorem zbL {α : Type} {xs : List α} {j : Nat} {v : α} (h : xs[j]? = some v) : atI xs (j : Int) = some v := by
 have hj : j < xs.length := (List.getElem?_eq_some_iff.mp h).1
 have e : ixN xs.length (j : Int) = some j := by
  unfold ixN
  rw [if_pos (by lia), if_pos (by lia)]; simp
 unfold atI; rw [e]; exact h
theorem zdJ {α : Type} (xs : List α) (v : α) : atI (xs ++ [v]) (-1) = some v := by
 have hl : (xs ++ [v]).length = xs.length + 1 := by simp
 have e : ixN (xs ++ [v]).length (-1) = some xs.length := by
  unfold ixN
  rw [hl, if_neg (by decide), if_pos (by lia)]
  congr 1
  lia
 unfold atI
 rw [e]
 show (xs ++ [v])[xs.length]? = some v
 simp
def zjx (b : Expr) : Prop := ∀ o i, subscripted b false o i = operate [o, i] (getItem o i)
def IxR (X : Cx) (r : R2) : Prop :=
 ∀ (value slice : Expr) (pins : List (Addr × Obj)) (s : Shared) (σ : St) (H : Hp) (x y : V) (v u : Value) (Q : VK), Inv X pins σ H s → RelV x v → RelV y u → r x y H Q →
  subscripted slice false v u = operate [v, u] (getItem v u) → wpAny (model X.prog X.w) X.A (subscriptTail value slice v u) (EP X pins σ Q) X.xe s
def MtR (X : Cx) (id : String) (r : V → List V → Hp → VK → Prop) : Prop :=
 ∀ (pins : List (Addr × Obj)) (s : Shared) (σ : St) (H : Hp) (x : V) (xs : List V) (v : Value) (us : List Value) (Q : VK), Inv X pins σ H s → RelV x v → Vals xs us → r x xs H Q →
  wpAny (model X.prog X.w) X.A (call (.builtin id) (v :: us)) (EP X pins σ Q) X.xe s
section
variable {X : Cx} {a b : Expr} {ta tb : TE} {pos : Pos}
theorem zlJ {r : R2} (hr : IxR X r) (ha : PE X a ta) (hb : PE X b tb) (hs : zjx b) : PE X (.Subscript a b pos) (tOp r ta tb) := by
 intro pins s σ H Q I h
 exact Subscript_ (binT ha hb I h fun v u s2 x y H2 I2 rx ry q => hr a b pins s2 σ H2 x y v u Q I2 rx ry q (hs _ _))
def rIxL (K : PySem.W.Frag) : R2 := fun x y H Q => ∃ p xs i v, x = .ref p ∧ y = .int i ∧ SqL K H p xs ∧ atI xs i = some v ∧ Q v H
def rIxT (K : PySem.W.Frag) : R2 := fun x y H Q => ∃ p xs i v, x = .ref p ∧ y = .int i ∧ SqT K H p xs ∧ atI xs i = some v ∧ Q v H
def rIxS : R2 := fun x y H Q => ∃ z i c, x = .str z ∧ y = .int i ∧ z.length ≤ sizeLine ∧ atI z.cps.toList i = some c ∧ Q (.str ⟨#[c]⟩) H
theorem zjv : IxR X (rIxL X.K) := by
 intro value slice pins s σ H x y v u Q I rx ry h hs
 refine zaa ?_; intro G_; obtain ⟨p, xs, i, z, rfl, rfl, hq, he, q⟩ := h
 cases rx
 obtain ⟨t, rfl⟩ := ry
 refine zaa ?_; intro G_; obtain ⟨its, r, pl, hz⟩ := I.list hq
 refine zaa ?_; intro G_; obtain ⟨j, h1, h2, h3, h4, h5⟩ := zeU he
 refine zaa ?_; intro G_; obtain ⟨w, ew, rw'⟩ := r.get h2
 have hl := r.length
 have hn := zc0
 have fin : EP X pins σ Q w s := ⟨z, H, I, rw', q⟩
 by_cases h0 : 0 ≤ i
 ·have hj : i.toNat = j := by
   rw [seqIndex_of h0 h5] at h1
   exact Option.some.inj h1
  exact item_listR pl.isList h0 (by lia) (by rw [hj]; simpa using ew) fin hs
 ·have hj : (i + (its.toArray.size : Int)).toNat = j := by
   rw [seqIndex_neg (by lia) h4] at h1
   rw [List.size_toArray, ← hl]
   exact Option.some.inj h1
  exact subscriptTail_builtinR (x := w) pl.isList.typeIs slot_list_getitem.lookup
   (wpAny_getItem_list_neg (Q := fun r s' => r = w ∧ EP X pins σ Q r s') pl.isList (by lia) (by rw [List.size_toArray] <;> lia) (by lia) (by rw [hj]; simpa using ew) ⟨rfl, fin⟩) hs
theorem zj8 : IxR X (rIxT X.K) := by
 intro value slice pins s σ H x y v u Q I rx ry h hs
 refine zaa ?_; intro G_; obtain ⟨p, xs, i, z, rfl, rfl, hq, he, q⟩ := h
 cases rx
 obtain ⟨t, rfl⟩ := ry
 refine zaa ?_; intro G_; obtain ⟨its, r, pl, hz⟩ := I.tuple hq
 refine zaa ?_; intro G_; obtain ⟨j, h1, h2, h3, h4, h5⟩ := zeU he
 refine zaa ?_; intro G_; obtain ⟨w, ew, rw'⟩ := r.get h2
 have hl := r.length
 have hn := zc0
 have fin : EP X pins σ Q w s := ⟨z, H, I, rw', q⟩
 exact subscriptTail_builtinR (x := w) pl.typeIs slot_tuple_getitem.lookup
  (getItem_tuple (j := j) (Q := fun r s' => r = w ∧ EP X pins σ Q r s') pl (by lia) (by lia) (by rw [List.size_toArray, ← hl]; exact h1) (by simpa using ew) ⟨rfl, fin⟩) hs
theorem zki : IxR X rIxS := by
 intro value slice pins s σ H x y v u Q I rx ry h hs
 refine zaa ?_; intro G_; obtain ⟨z, i, c, rfl, rfl, hz, he, q⟩ := h
 obtain ⟨t, rfl⟩ := rx
 obtain ⟨t', rfl⟩ := ry
 refine zaa ?_; intro G_; obtain ⟨j, h1, h2, h3, h4, h5⟩ := zeU he
 have hl : z.cps.toList.length = z.length := by simp [Str.length]
 rw [hl] at h1 h4 h5
 have hn := zc0
 exact tail_any (typeIs_str s z t) slot_str_getitem.lookup (getItem_str (c := c) (by
  have e1 : decide (i < -(2 ^ 63 : Int)) = false := decide_eq_false (by lia)
  have e2 : decide (i ≥ 2 ^ 63) = false := decide_eq_false (by lia)
  rw [e1, e2, Bool.or_false]) (by rw [h1]; simpa using h2) ⟨.str ⟨#[c]⟩, H, I.tok _, ⟨_, rfl⟩, q⟩) hs
theorem zf0 (its : List Value) (n j : Nat) (u : Value) : Obj.mapSeq (·.setIfInBounds j u) { cls := .type "list", data := .seq its.toArray n } = { cls := .type "list", data := .seq (its.set j u).toArray n } := by
 simp [Obj.mapSeq]
theorem Inv.lst {pins : List (Addr × Obj)} {σ : St} {H : Hp} {s : Shared} {p : Addr} {xs : List V} (I : Inv X pins σ H s) (h : H p = some (.lst xs)) :
  ∃ (its : List Value) (n : Nat), Vals xs its ∧ s.heap.get? p = some { cls := .type "list", data := .seq its.toArray n } ∧ xs.length ≤ sizeLine := by
 refine zaa ?_; intro G_; obtain ⟨z, its, n, r, e⟩ := I.hok p _ h
 exact ⟨its, n, r, e, z⟩
theorem Inv.lstUpd {pins : List (Addr × Obj)} {σ : St} {H : Hp} {s : Shared} {p : Addr} {xs ys : List V} {its its' : List Value} {n n' : Nat} {f : Obj → Obj} (I : Inv X pins σ H s) (h : H p = some (.lst xs))
  (ho : s.heap.get? p = some { cls := .type "list", data := .seq its.toArray n }) (hf : f { cls := .type "list", data := .seq its.toArray n } = { cls := .type "list", data := .seq its'.toArray n' }) (r : Vals ys its') (hz : ys.length ≤ sizeLine) (t : Nat) :
  Inv X pins σ (upd H p (.lst ys)) { s with heap := s.heap.update p f, toks := t } := by
 have e : (s.heap.update p f).get? p = some { cls := .type "list", data := .seq its'.toArray n' } := by
  rw [Heap.get?_update_self f ho (by rw [hf] <;> rfl), hf]
 refine I.write (x := p) (e := p) (by rw [h]; trivial) (.inl rfl) (fun b u hb q => (Heap.get?_update_other _ _ (Ne.symm hb)).trans q) ⟨_, e⟩ ?_
 exact ⟨hz, its', n', r, e⟩
def zjj : V → V → V → Hp → (Hp → Prop) → Prop := fun o i v H Q => ∃ p xs k j, o = .ref p ∧ i = .int k ∧ H p = some (.lst xs) ∧ ixN xs.length k = some j ∧ Q (upd H p (.lst (xs.set j v)))
theorem set_list : PSet X zjj := by
 intro pins s σ H o i v ov iv u Q I ro ri rv h
 refine zaa ?_; intro G_; obtain ⟨p, xs, k, j, rfl, rfl, hp, hj, q⟩ := h
 cases ro
 obtain ⟨t, rfl⟩ := ri
 refine zaa ?_; intro G_; obtain ⟨its, n, r, ho, hz⟩ := I.lst hp
 refine zaa ?_; intro G_; obtain ⟨h1, h2, h3, h4⟩ := zgZ hj
 have hl := r.length
 have hn := zc0
 have I' : Inv X pins σ (upd H p (.lst (xs.set j v))) { s with heap := s.heap.update p (Obj.mapSeq (·.setIfInBounds j u)) } :=
  I.lstUpd hp ho (zf0 its n j u) (r.set rv j) (by rw [List.length_set]; exact hz) s.toks
 by_cases h0 : 0 ≤ k
 ·have hk : k.toNat = j := by
   rw [seqIndex_of h0 h4] at h1
   exact Option.some.inj h1
  exact PySem.W.ki_setAt ho h0 (by lia) (by rw [List.size_toArray, ← hl]; exact h4) (by rw [hk]; exact ⟨_, I', q⟩)
 ·have hk : (k + (its.toArray.size : Int)).toNat = j := by
   rw [seqIndex_neg (by lia) h3] at h1
   rw [List.size_toArray, ← hl]
   exact Option.some.inj h1
  exact PySem.W.ki_setBack ho (by lia) (by rw [List.size_toArray, ← hl]; exact h3) (by lia) (by rw [hk]; exact ⟨_, I', q⟩)
theorem zef (lo hi : Option Int) (n : Nat) : (sliceBounds lo hi none n).1 = ((HT.sIx n 0 lo : Nat) : Int) ∧ (sliceBounds lo hi none n).2.1 = ((HT.sIx n n hi : Nat) : Int) ∧ (sliceBounds lo hi none n).2.2 = 1 := by
 refine ⟨?_, ?_, rfl⟩
 ·cases lo with
  | none => simp [sliceBounds, HT.sIx]
  | some i =>
   simp only [sliceBounds, HT.sIx, Option.getD_none, show (1 : Int) > 0 by decide, if_true]
   by_cases h : i < 0
   ·simp only [h, if_true] <;> lia
   ·simp only [h, if_false] <;> lia
 ·cases hi with
  | none => simp [sliceBounds, HT.sIx]
  | some i =>
   simp only [sliceBounds, HT.sIx, Option.getD_none, show (1 : Int) > 0 by decide, if_true]
   by_cases h : i < 0
   ·simp only [h, if_true] <;> lia
   ·simp only [h, if_false] <;> lia
theorem zdx (its : List Value) (lo hi : Option Int) : slicePick its.toArray lo hi none = ((its.drop (HT.sIx its.length 0 lo)).take (HT.sIx its.length its.length hi - HT.sIx its.length 0 lo)).toArray := by
 obtain ⟨h1, h2, h3⟩ := zef lo hi its.toArray.size
 unfold slicePick
 rw [h1, h2, h3]
 simp only [sliceRange_one, pick_run, List.size_toArray] <;> rfl
def rSlL (K : PySem.W.Frag) : V → Option Int → Option Int → Hp → VK → Prop := fun x lo hi H Q => ∃ a xs, x = .ref a ∧ SqL K H a xs ∧ ∀ p, H p = none → Q (.ref p) (upd H p (.lst (cutV xs lo hi)))
theorem zi1 : SlR X (rSlL X.K) := by
 intro pins s σ H x v vl vu lo hi sl Q I rx hs pl pu h
 refine zaa ?_; intro G_; obtain ⟨a, xs, rfl, hx, q⟩ := h
 cases rx
 refine zaa ?_; intro G_; obtain ⟨its, r, ht, hz⟩ := I.list hx
 have hlen := r.length
 refine ⟨"list", _, slot_list_getitem.lookup, ht.isList.typeIs, ?_⟩
 refine wpAny_getItem_list_slice ht.isList hs pl pu .none (by simp) ?_ (by rw [List.size_toArray] <;> lia)
 rw [zdx, ← hlen]
 refine ⟨.ref s.heap.objs.size, _, I.laid (t' := s.toks) (o := .lst (cutV xs lo hi)) (fun b ob q => Heap.get?_push_of_some _ q) (Nat.le_refl _) ?_, rfl, q _ (I.hok.fresh (Nat.le_refl _))⟩
 exact ⟨Nat.le_trans (zeV xs lo hi) hz, _, 0, (r.drop (HT.sIx xs.length 0 lo)).take (HT.sIx xs.length xs.length hi - HT.sIx xs.length 0 lo), Heap.get?_push_size _ rfl⟩
theorem zeH : zcA X (.builtin "len") (fun xs H Q => ∃ p ys, xs = [.ref p] ∧ (SqL X.K H p ys ∨ SqT X.K H p ys) ∧ Q (.int ys.length) H) := by
 intro pins s σ H xs us Q I r h
 refine zaa ?_; intro G_; obtain ⟨p, ys, rfl, hq, q⟩ := h
 refine zaa ?_; intro G_; obtain ⟨u, rfl, rx⟩ := vals1 r
 cases rx
 have hn := zc0
 rcases hq with hq | hq
 ·refine zaa ?_; intro G_; obtain ⟨its, r', pl, hz⟩ := I.list hq
  have hlen := r'.length
  exact Calls.call_len_list pl.isList (by simp only [List.size_toArray] <;> lia) ⟨.int ys.length, H, I.tok _, ⟨s.toks + 1, by rw [List.size_toArray, hlen]⟩, q⟩
 ·refine zaa ?_; intro G_; obtain ⟨its, r', pl, hz⟩ := I.tuple hq
  have hlen := r'.length
  exact len_tuple pl (by simp only [List.size_toArray] <;> lia) ⟨.int ys.length, H, I.tok _, ⟨s.toks + 1, by rw [List.size_toArray, hlen]⟩, q⟩
theorem zep : zcA X (.builtin "len") (fun xs H Q => ∃ z, xs = [.str z] ∧ z.length ≤ sizeLine ∧ Q (.int z.length) H) := by
 intro pins s σ H xs us Q I r h
 refine zaa ?_; intro G_; obtain ⟨z, rfl, hz, q⟩ := h
 refine zaa ?_; intro G_; obtain ⟨u, rfl, t, rfl⟩ := vals1 r
 have hn := zc0
 exact len_str (by lia) ⟨.int z.length, H, I.tok _, ⟨_, rfl⟩, q⟩
theorem zdR : zcA X (.type "tuple") (fun xs H Q => ∃ p ys, xs = [.ref p] ∧ ((SqL X.K H p ys ∧ ∀ l, H l = none → Q (.ref l) (upd H l (.tup ys))) ∨ (SqT X.K H p ys ∧ Q (.ref p) H))) := by
 intro pins s σ H xs us Q I r h
 refine zaa ?_; intro G_; obtain ⟨p, ys, rfl, h⟩ := h
 refine zaa ?_; intro G_; obtain ⟨u, rfl, rx⟩ := vals1 r
 cases rx
 rcases h with ⟨hq, q⟩ | ⟨hq, q⟩
 ·refine zaa ?_; intro G_; obtain ⟨its, r', pl, hz⟩ := I.list hq
  have hlen := r'.length
  refine call_tuple_list pl.isList (fun h' kp => ?_) (by simp only [List.size_toArray] <;> lia)
  have I1 : Inv X pins σ H { s with heap := h' } := I.kept (t' := s.toks) kp
  have I2 : Inv X pins σ (upd H h'.objs.size (.tup ys)) { s with heap := h'.push { cls := .type "tuple", data := .seq its.toArray } } :=
   I1.laid (t' := s.toks) (fun b o e => Heap.get?_push_of_some _ e) (Nat.le_refl _) (show ObjOk X.prog X.w _ _ _ (.tup ys) from ⟨hz, its, r', IsTup.new _ _⟩)
  exact ⟨.ref h'.objs.size, _, I2, rfl, q _ (I1.hok.fresh (Nat.le_refl _))⟩
 ·refine zaa ?_; intro G_; obtain ⟨its, r', pl, hz⟩ := I.tuple hq
  exact call_tuple_same pl ⟨.ref p, H, I, rfl, q⟩
def tyV (K : PySem.W.Frag) (T : String) (x : V) (H : Hp) : Prop := match x with
 | .str _ => T = "str"
 | .int _ => T = "int"
 | .ref p => (T = "list" ∧ ∃ xs, SqL K H p xs) ∨ (T = "tuple" ∧ ∃ o, K.lookup p = some o ∧ o.cls = .type "tuple" ∧ o.dict = none) ∨
   (T = "dict" ∧ ((∃ kvs, H p = some (.dK kvs)) ∨ ∃ kvs, H p = some (.dT kvs))) ∨ (T = "set" ∧ ∃ S n, H p = some (.set S n))
 | _ => False
theorem zkm {pins : List (Addr × Obj)} {σ : St} {H : Hp} {s : Shared} {T : String} {x : V} {v : Value} (I : Inv X pins σ H s) (r : RelV x v) (ty : tyV X.K T x H) :
  s.TypeIs v T ∧ ∀ a, v = .ref a → ∃ ob, s.heap.get? a = some ob ∧ ob.dict = none := by
 cases x with
 | str z =>
  obtain ⟨t, rfl⟩ := r
  cases (show T = "str" from ty)
  exact ⟨typeIs_str s z t, fun _ e => nomatch e⟩
 | int i =>
  obtain ⟨t, rfl⟩ := r
  cases (show T = "int" from ty)
  exact ⟨typeIs_int s i t, fun _ e => nomatch e⟩
 | ref p =>
  cases r
  rcases ty with ⟨rfl, xs, hq⟩ | ⟨rfl, o, hk, hc, hd⟩ | ⟨rfl, hk⟩ | ⟨rfl, S, n, hk⟩
  ·refine zaa ?_; intro G_; obtain ⟨its, _, pl, _⟩ := I.list hq
   refine ⟨pl.isList.typeIs, fun a e => ?_⟩
   cases e
   refine zaa ?_; intro G_; obtain ⟨o, n, e, c, hd, _⟩ := pl
   exact ⟨o, e, hd⟩
  ·refine ⟨⟨o, I.kIn p o hk, hc⟩, fun a e => ?_⟩
   cases e
   exact ⟨o, I.kIn _ o hk, hd⟩
  ·have z : ∃ o, s.heap.get? p = some o ∧ o.ExactDict := by
    rcases hk with ⟨kvs, hk⟩ | ⟨kvs, hk⟩
    ·refine zaa ?_; intro G_; obtain ⟨_, _, _, _, o, _, _, e, ex, _⟩ := I.hok p _ hk
     exact ⟨o, e, ex⟩
    ·refine zaa ?_; intro G_; obtain ⟨_, _, _, _, o, _, _, e, ex, _⟩ := I.hok p _ hk
     exact ⟨o, e, ex⟩
   refine zaa ?_; intro G_; obtain ⟨o, e, ex⟩ := z
   refine ⟨⟨o, e, ex.1⟩, fun a e2 => ?_⟩
   cases e2
   exact ⟨o, e, ex.2.1⟩
  ·refine zaa ?_; intro G_; obtain ⟨o, _, _, _, e, ex, _⟩ := I.hok p _ hk
   refine ⟨⟨o, e, ex.1⟩, fun a e2 => ?_⟩
   cases e2
   exact ⟨o, e, ex.2.1⟩
 | _ => exact False.elim ty
def tBM (K : PySem.W.Frag) (T : String) (r : V → List V → Hp → VK → Prop) (to : TE) (t : TA) : TE := fun σ H Q => to σ H fun x H1 => tyV K T x H1 ∧ t σ H1 fun xs H2 => r x xs H2 Q
variable {o e : Expr} {es : List Expr} {to : TE} {t : TA} {name : Str} {apos cpos : Pos} {T id : String} {r : V → List V → Hp → VK → Prop}
theorem zfG (pa : PlainAttrs T) (slot : Slot T name id) (hty : typeOf (.builtin id) = pure (.type "method_descriptor")) (hm : MtR X id r) (ho : PE X o to) (ha : PA X (e :: es) t)
  (hbase : attributeBase o name X.env (eval o X.env) = eval o X.env := by rfl)
  (hfew : ((backTo cpos (starEach (e :: es) X.env)).all (fun x => !x.1) && (backToKw cpos (keywordEach [] X.env)).all (fun x => x.1.isSome)
   && decide ((e :: es).length + ([] : List Keyword).length + (if ([] : List Keyword).isEmpty then 0 else 1) < 30)) = true := by rfl)
  (hline : (apos.endLine == cpos.line) = true := by rfl) (hs : starEach (e :: es) X.env = (false, eval e X.env) :: starEach es X.env := by rfl) (hplain : (backTo cpos (starEach es X.env)).any (·.1) = false := by rfl) :
  PE X (.Call (.Attribute o name apos) (e :: es) [] cpos) (tBM X.K T r to t) := by
 intro pins s σ H Q I h
 refine wpAny_Call_method_late hbase hfew hline rfl (thn (ho pins s σ H _ I h) fun v s1 ⟨x, H1, I1, r1, ty, q1⟩ => ?_)
 obtain ⟨h1, h2⟩ := zkm I1 r1 ty
 refine ⟨T, id, pa, slot, hty, h1, h2, ?_⟩
 have hA := ha cpos pins s1 σ H1 _ I1 q1
 rw [hs] at hA ⊢
 refine Calls.callWith_builtin (by show (false || (backTo cpos (starEach es X.env)).any (·.1)) = false; rw [hplain] <;> rfl) (Calls.evalArgs_plain ?_)
 exact thn hA (by rintro us s2 ⟨vs, H2, I2, r2, q2⟩; exact hm pins s2 σ H2 x vs v us Q I2 r1 r2 q2)
end
end L2
namespace L2
open PySem PySem.Spec PyProof.Rows
def MtM (X : Cx) (id : String) (r : V → List V → Hp → VK → Prop) : Prop :=
 ∀ (pins : List (Addr × Obj)) (s : Shared) (σ : St) (H : Hp) (x : V) (xs : List V) (v : Value) (us : List Value) (Q : VK), Inv X pins σ H s → RelV x v → Vals xs us → r x xs H Q →
  wpAny (model X.prog X.w) X.A (call (.builtin id) (v :: us)) (EP X pins σ Q) X.xe s
theorem Vals.one : ∀ {x : V} {us : List Value}, Vals [x] us → ∃ u, us = [u] ∧ RelV x u := by
 intro x us h
 cases h with
 | cons r t => cases t; exact ⟨_, rfl, r⟩
theorem Vals.two : ∀ {x y : V} {us : List Value}, Vals [x, y] us → ∃ u v, us = [u, v] ∧ RelV x u ∧ RelV y v := by
 intro x y us h
 cases h with
 | cons r t => obtain ⟨v, rfl, q⟩ := Vals.one t; exact ⟨_, v, rfl, r, q⟩
theorem Vals.zero : ∀ {us : List Value}, Vals [] us → us = []
 | _, .nil => rfl
theorem Vals.reverse {xs : List V} {us : List Value} (h : Vals xs us) : Vals xs.reverse us.reverse := by
 induction h with
 | nil => exact .nil
 | cons r t ih => rw [List.reverse_cons, List.reverse_cons]; exact Vals.append ih (.cons r .nil)
section
variable {X : Cx} {pins : List (Addr × Obj)} {σ : St} {H : Hp} {s : Shared} {l b : Addr} {xs ys zs : List V}
theorem Inv.lset {its its' : List Value} {n : Nat} {f : Array Value → Array Value} {t' : Nat} (I : Inv X pins σ H s) (hH : H l = some (.lst xs))
  (e : s.heap.get? l = some { cls := .type "list", data := .seq its.toArray n }) (hf : f its.toArray = its'.toArray) (hv : Vals ys its') (hz : ys.length ≤ sizeLine) :
  Inv X pins σ (upd H l (.lst ys)) { s with heap := s.heap.update l (Obj.mapSeq f), toks := t' } := by
 have q := PySem.IsL.update e f
 rw [hf] at q
 refine I.write (x := l) (e := l) (by rw [hH]; exact trivial) (.inl rfl) (fun b' u hb hu => (Heap.get?_update_other s.heap (Obj.mapSeq f) (Ne.symm hb)).trans hu) ⟨_, q⟩ ?_
 exact ⟨hz, its', _, hv, q⟩
theorem Inv.lnew {its : List Value} {t' : Nat} (I : Inv X pins σ H s) (hv : Vals ys its) (hz : ys.length ≤ sizeLine) :
  Inv X pins σ (upd H s.heap.objs.size (.lst ys)) { s with heap := s.heap.push { cls := .type "list", data := .seq its.toArray }, toks := t' } :=
 I.laid (fun _ _ q => Heap.get?_push_of_some _ q) (Nat.le_refl _) ⟨hz, its, 0, hv, Heap.get?_push_size _ rfl⟩
theorem Inv.fresh (I : Inv X pins σ H s) : H s.heap.objs.size = none := I.hok.fresh (Nat.le_refl _)
theorem Inv.lstM (I : Inv X pins σ H s) (hH : H l = some (.lst xs)) : xs.length ≤ sizeLine ∧ ∃ (its : List Value) (n : Nat), Vals xs its ∧ xs.length = its.length ∧ s.heap.get? l = some { cls := .type "list", data := .seq its.toArray n } := by
 refine zaa ?_; intro G_; obtain ⟨z, its, n, r, e⟩ := I.hok l _ hH
 exact ⟨z, its, n, r, r.length, e⟩
theorem zhF {n : Nat} (h : n ≤ sizeLine) : Builtin.List.listTooLong n = false := by
 unfold Builtin.List.listTooLong
 exact decide_eq_false (by lia)
end
section
variable {X : Cx}
def zbW : V → List V → Hp → VK → Prop := fun x vs H Q => ∃ l xs y, x = .ref l ∧ vs = [y] ∧ H l = some (.lst xs) ∧ xs.length < sizeLine ∧ Q .non (upd H l (.lst (xs ++ [y])))
theorem zec : MtM X "list.append" zbW := by
 intro pins s σ H x vs v us Q I rx rv h
 refine zaa ?_; intro G_; obtain ⟨l, xs, y, rfl, rfl, hH, hz, q⟩ := h
 cases rx
 refine zaa ?_; intro G_; obtain ⟨u, rfl, ru⟩ := rv.one
 refine zaa ?_; intro G_; obtain ⟨z, its, n, r, hl, e⟩ := I.lstM hH
 refine call_meets F.slot_list_append ⟨_, e, rfl⟩ F.entry_list_append (F.args_list_append_2 _ _) (PySem.list_append l its.toArray n u (by rw [List.size_toArray]; lia)) ⟨e, ?_⟩
 refine ⟨.non, _, I.lset (its' := its ++ [u]) hH e (by simp) (r.append (.cons ru .nil)) ?_, rfl, q⟩
 rw [List.length_append, List.length_singleton]
 lia
def zf7 : V → List V → Hp → VK → Prop := fun x vs H Q => ∃ l b xs zs, x = .ref l ∧ vs = [.ref b] ∧ H l = some (.lst xs) ∧ H b = some (.lst zs) ∧ xs.length + zs.length ≤ sizeLine ∧ Q .non (upd H l (.lst (xs ++ zs)))
theorem zhm : MtM X "list.extend" zf7 := by
 intro pins s σ H x vs v us Q I rx rv h
 refine zaa ?_; intro G_; obtain ⟨l, b, xs, zs, rfl, rfl, hH, hB, hz, q⟩ := h
 cases rx
 refine zaa ?_; intro G_; obtain ⟨u, rfl, ru⟩ := rv.one
 cases ru
 refine zaa ?_; intro G_; obtain ⟨z, its, n, r, hl, e⟩ := I.lstM hH
 refine zaa ?_; intro G_; obtain ⟨z2, its2, n2, r2, hl2, e2⟩ := I.lstM hB
 have hsz : its.toArray.size + its2.toArray.size ≤ sizeLine := by rw [List.size_toArray, List.size_toArray]; lia
 have hlong : ¬ (!its.toArray.isEmpty && Builtin.List.listTooLong (its.toArray.size + its2.toArray.size)) = true := by
  rw [zhF hsz, Bool.and_false]
  exact Bool.false_ne_true
 refine call_meets F.slot_list_extend ⟨_, e, rfl⟩ F.entry_list_extend (F.args_list_extend_2 _ _)
  (AutoSeq1.list_extend_list_list_0 l its.toArray n b its2.toArray n2 hlong (by rw [List.size_toArray]; lia) (by lia)) ⟨e, e2, ?_⟩
 refine ⟨.non, _, I.lset (its' := its ++ its2) hH e (by simp) (r.append r2) ?_, rfl, q⟩
 rw [List.length_append]
 lia
def rCat : R2 := fun x y H Q => ∃ l b xs zs, x = .ref l ∧ y = .ref b ∧ H l = some (.lst xs) ∧ H b = some (.lst zs) ∧ xs.length + zs.length ≤ sizeLine ∧ ∀ p, H p = none → Q (.ref p) (upd H p (.lst (xs ++ zs)))
theorem zkf : OpR X (binaryOp .Add) rCat := by
 intro pins s σ H x y v u Q I rx ry h
 refine zaa ?_; intro G_; obtain ⟨l, b, xs, zs, rfl, rfl, hH, hB, hz, q⟩ := h
 cases rx
 cases ry
 refine zaa ?_; intro G_; obtain ⟨z, its, n, r, hl, e⟩ := I.lstM hH
 refine zaa ?_; intro G_; obtain ⟨z2, its2, n2, r2, hl2, e2⟩ := I.lstM hB
 refine PySem.P.add_list e e2 ?_ (by rw [List.size_toArray, List.size_toArray]; lia)
 have ea : its.toArray ++ its2.toArray = (its ++ its2).toArray := by simp
 rw [ea]
 exact ⟨.ref _, _, I.lnew (t' := s.toks) (r.append r2) (by rw [List.length_append]; lia), rfl, q _ I.fresh⟩
end
section
variable {prog : Program} {w : World} {A : Around} {E : Value → Shared → Prop} {s : Shared}
end
section
variable {X : Cx}
end
end L2
namespace Att
open PySem PySem.W PySem.Calls PyProof.Rows
theorem zcQ {P : Params} {h : Heap} : ∀ (ns : List Int) (vs : List Value), WellAll P h vs (ns.map WData.int) → IntsAre vs ns := by
 intro ns
 induction ns with
 | nil =>
  intro vs w
  rw [List.map_nil] at w
  cases w
  exact .nil
 | cons n ns ih =>
  intro vs w
  rw [List.map_cons] at w
  cases w with
  | cons a b =>
   cases a
   exact .cons _ _ (ih _ b)
theorem zgp {l : OpenLaw} {n : Nat} (hn : l.most = some n) {P : Params} {h : Heap} {args : List WData} {vals : List Value}
  (hpre : l.row.toRowW.claim.pre args = true) (hwl : WellAll P h vals args) :
  ∃ a vs ns, vals = [Value.ref a] ∧ args = [WData.list (ns.map WData.int)] ∧ h.get? a = some { cls := .type "list", data := .seq vs.toArray } ∧ IntsAre vs ns ∧ ns.length ≤ n := by
 have hsh : WShape.hasAll [] args [.list .int] = true := (pre_splitW hpre).1
 have hc : l.pre.holds [] { args := args } = true := (pre_splitW hpre).2
 obtain ⟨d, r, rfl, h1, h2⟩ := hasAllW_cons hsh
 obtain rfl := hasAllW_nil h2
 obtain ⟨xs, rfl, h3⟩ := hasW_list h1
 obtain ⟨ns, rfl⟩ := items_int h3
 have hlen : ns.length ≤ n := by
  unfold OpenLaw.pre at hc
  have h4 : (WTm.not (.lt (.lit (.int (n : Int))) (.len (.arg 0)))).holds [] { args := [.list (ns.map .int)] } = true := by
   have h4 := (holds_andW hc).1
   rw [hn] at h4
   exact h4
  have h5 := condW_of h4 (w_not (w_lt w_lit (w_len_list (w_arg rfl))))
  rw [List.length_map] at h5
  refine Nat.le_of_not_lt fun q => ?_
  have q' : (n : Int) < ((ns.length : Nat) : Int) := by lia
  first
   | (rw [decide_eq_true q'] at h5; exact absurd h5 (by decide))
   | (simp at h5; lia)
 cases hwl with
 | cons w1 w2 =>
  cases w2
  cases w1 with
  | list ho hall => exact ⟨_, _, ns, rfl, rfl, ho, zcQ ns _ hall, hlen⟩
theorem zgg (l : OpenLaw) (args : List WData) : l.row.toRowW.claim.post args (.bool true) args = true :=
 postW_of (r := l.row.toRowW) (X := (true == true))
  (show WShape.has [] (.bool true) .bool = true by first | rfl | decide | simp [WShape.has, WShape.arms, WShape.armsAll])
  (show (WTm.eq .res (.lit (.bool true))).value [] { args := args, res := some (.bool true), after := args } = some (.bool (true == true)) from w_eq_bool (w_res rfl) w_lit) rfl
theorem attach_call {l : OpenLaw} {n : Nat} {q : Program} {loose : List Str} {XP : (Str → Option Value) → Heap → Prop} {YP : World → Heap → Prop} {d : DefRec}
  (hn : l.most = some n) (hdf : d.params.defaults = [])
  (call : ∀ (w : World) (s₀ s₁ : Shared) (mg mb : Str → Option Value) (fa : Addr) (o : Obj) (pm cd doc : Value) (a : Addr) (vs : List Value) (ns : List Int),
   Ground q loose [] XP w s₀ mg mb s₁.heap → YP w s₁.heap →
   s₁.heap.get? fa = some o → o.data = .func (docDef d.name d.params d.body d.scope pm cd doc) → s₁.heap.CodeRec cd d.name → mg d.name = some (.ref fa) →
   s₁.heap.get? a = some { cls := .type "list", data := .seq vs.toArray } → IntsAre vs ns → ns.length ≤ n → s₁.gens = #[] →
   codeAny (model l.prog w) callerA (.call (.ref fa) ⟨[.ref a], []⟩) (fun r s' => r = .ok (.ret (.bool true)) ∧ OldK s₁.heap s'.heap ∧ s'.os = s₁.os ∧ AllBare s'.gens) s₁) :
  WalkO q loose XP YP l.row.toRowW d [] (fun f vs => PySem.call f vs) := by
 intro w s₀ s₁ mg mb G Y fa o pm cd doc dV kV ho hd hcd hD hmg hg args vals as hpre hlay hrd hwl hlo
 obtain rfl : dV = .none := Dflts.none hD hdf
 obtain rfl : kV = .none := Dflts.noKw hD
 obtain ⟨a, vs, ns, rfl, rfl, hobj, hints, hlen⟩ := zgp hn hpre hwl
 refine enter_call (codeAny_mono (call w s₀ s₁ mg mb fa o pm cd doc a vs ns G Y ho (fd_plain hd) hcd hmg hobj hints hlen hg) fun r s' hq => ?_)
 obtain ⟨rfl, h2, h3, h4⟩ := hq
 exact ⟨.inl ⟨.bool true, .bool true, [], rfl, fun _ => rfl, .bool true, zgg l _, fun _ => ⟨List.Pairwise.nil, fun _ hm => (nomatch hm)⟩⟩, h2, h3, h4⟩
section
variable {prog : Program} {w : World} {A : Around} {E : Value → Shared → Prop} {s : Shared} {K : Frag}
end
end Att
namespace L2
open PySem PySem.Spec PyProof.Rows
theorem zgJ : ∀ {vs : List Value} {ns : List Int}, IntsAre vs ns → Vals (ns.map V.int) vs := by
 intro vs ns p
 induction p with
 | nil => exact .nil
 | cons n t h ih => exact .cons ⟨t, rfl⟩ ih
def Only (H : Hp) : Prop := ∀ b, H b = none ∨ ∃ o xs, H b = some (.frz o (.lst xs))
theorem zhu {P : Program} {w : World} {K : PySem.W.Frag} {mg mb : Str → Option Value} {CX : CXT} {k : Nat} {fa a : Addr} {fd : FuncData} {x : Str} {sp : Sp} {s₁ : Shared} {vs : List Value} {ns : List Int}
  (KX : K.In s₁.heap) (hns : s₁.heap.Ns mainGlobals mg) (hb : s₁.heap.Ns builtinsNs mb) (hbb : ∀ x : Str, x ≠ "__name__" → mb x = bootBuiltins x) (hlim : s₁.heap.NoLimit) (hg : s₁.gens = #[])
  (ha : s₁.heap.get? a = some { cls := .type "list", data := .seq vs.toArray }) (hi : IntsAre vs ns) (hl : ns.length ≤ sizeLine) (hr : Room k callerA)
  (F : ∀ base : Heap, K.In base → base.Ns mainGlobals mg → FnOk P w K mg base CX k fa fd [x] sp) (hbind : ∀ (s : Shared) (u : Value), BindsTo s fd ⟨[u], []⟩ [(x, u)])
  (hsp : ∀ H : Hp, Only H → SqL K H a (ns.map V.int) → sp [.ref a] H (fun v _ => v = .bl true) fun _ _ _ => False)
  (hCX : ∀ H e s', CX [] H s₁ (fun _ _ _ => False) e s' → False) :
  codeAny (model P w) callerA (.call (.ref fa) ⟨[.ref a], []⟩) (fun r s' => r = .ok (.ret (.bool true)) ∧ OldK s₁.heap s'.heap ∧ s'.os = s₁.os ∧ AllBare s'.gens) s₁ := by
 have rv := zgJ hi
 have lenV := hi.length
 have core : ∀ H : Hp, Only H → SqL K H a (ns.map V.int) → HOk P w H s₁.heap → (∀ b, H b ≠ none → b = a) → (H a ≠ none → K.lookup a = none) →
   codeAny (model P w) callerA (.call (.ref fa) ⟨[.ref a], []⟩) (fun r s' => r = .ok (.ret (.bool true)) ∧ OldK s₁.heap s'.heap ∧ s'.os = s₁.os ∧ AllBare s'.gens) s₁ := by
  intro H hO hS hok hA hK
  have base_of : ∀ {b : Addr} {o : Obj}, s₁.heap.get? b = some o → H b = none → (hidT s₁.heap H).get? b = some o := fun e n => zhZ e n
  have noA : ∀ {b : Addr} {o : Obj} {es : Array DictEntry} {ep : Nat}, s₁.heap.get? b = some o → o.data = .dict es ep → H b = none := fun {b o es ep} e d => by
   cases q : H b with
   | none => rfl
   | some u =>
    have e' : b = a := hA b (by rw [q]; simp)
    subst e'
    rw [ha] at e; cases e
    have d' : Data.seq vs.toArray _ = Data.dict es ep := d
    cases d'
  have nsK : ∀ {b : Addr} {m : Str → Option Value}, s₁.heap.Ns b m → (hidT s₁.heap H).Ns b m := fun {b m} ⟨o, es, ep, e, d, r⟩ => ⟨o, es, ep, base_of e (noA e d), d, r⟩
  have hKb : K.In (hidT s₁.heap H) := fun b o e => base_of (KX b o e) (by
   cases q : H b with
   | none => rfl
   | some u =>
    have e' : b = a := hA b (by rw [q]; simp)
    subst e'
    rw [hK (by rw [q]; simp)] at e; cases e)
  have hM : Mod K mg (hidT s₁.heap H) := ⟨hKb, nsK hns, ⟨mb, nsK hb, hbb⟩, let ⟨mc, h1, h2⟩ := hlim; ⟨mc, nsK h1, h2⟩⟩
  have e0 : Env0 P w K mg (hidT s₁.heap H) callerA [] s₁ H := ⟨rfl, hM, fun b o e => zjM e, Nat.le_of_eq (zhk _ _), trivial, fun b hb => absurd (show b ∈ ([] : List Addr) from hb) (by simp), hok, .of_eq hg⟩
  refine codeAny_mono ((F _ hKb (nsK hns)).run callerA [] s₁ H ⟨[.ref a], []⟩ [.ref a] [.ref a] _ _ hr e0 (hbind s₁ (.ref a)) (.cons rfl .nil) (hsp H hO hS)) fun r s' h => ?_
  cases r with
  | error e => exact (hCX H e s' h).elim
  | ok fl =>
   cases fl with
   | next => exact False.elim h
   | brk => exact False.elim h
   | cont => exact False.elim h
   | ret u =>
    refine zaa ?_; intro G_; obtain ⟨v, H', os, bare, un, hok', r', q⟩ := h
    have q' : v = .bl true := q
    subst q'
    obtain rfl : u = Value.bool true := r'
    refine ⟨rfl, OldK.of_keep fun b o e => ?_, os, bare⟩
    cases q : H b with
    | none => exact un.keep b o e q (by intro z; exact absurd (show b ∈ ([] : List Addr) from z) (by simp)) (by simp)
    | some u =>
     rcases hO b with z | ⟨ob, xs, z⟩
     ·rw [q] at z; cases z
     ·have z2 := un.frzs b ob _ z
      obtain ⟨e1, _⟩ := hok b _ z
      obtain ⟨e2, _⟩ := hok' b _ z2
      rw [e] at e1; cases e1
      exact e2
 cases hk : K.lookup a with
 | some o =>
  have e := KX a o hk
  rw [ha] at e
  cases e
  refine core (fun _ => none) (fun _ => .inl rfl) (.inr ⟨_, vs.toArray, _, hk, rfl, rfl, rfl, by rw [List.size_toArray, lenV]; exact hl, by simpa using rv⟩) (fun b u z => by have z' : (none : Option HO) = some u := z; cases z') (fun b z => absurd rfl z) fun z => absurd rfl z
 | none =>
  refine core (fun b => if b = a then some (.frz { cls := .type "list", data := .seq vs.toArray } (.lst (ns.map V.int))) else none) (fun b => ?_) (.inl (.inr ⟨{ cls := .type "list", data := .seq vs.toArray }, if_pos rfl⟩)) (fun b u z => ?_) (fun b z => ?_) fun _ => hk
  ·by_cases hb : b = a
   ·exact .inr ⟨_, _, if_pos hb⟩
   ·exact .inl (if_neg hb)
  ·by_cases hb : b = a
   ·have z' := (if_pos hb).symm.trans z
    cases z'
    subst hb
    exact ⟨ha, by rw [List.length_map]; exact hl, vs, _, rv, ha⟩
   ·have z' := (if_neg hb).symm.trans z
    cases z'
  ·by_cases hb : b = a
   ·exact hb
   ·exact absurd (if_neg hb) z
end L2
namespace L2
open PySem PySem.Spec PyProof.Rows
theorem walk_of {l : PySem.W.OpenLaw} {n k : Nat} {q : Program} {loose : List Str} {XP : (Str → Option Value) → Heap → Prop} {YP : World → Heap → Prop} {d : DefRec} {K : Params → PySem.W.Frag} {CX : World → CXT} {sp : World → Sp} {x : Str}
  (hn : l.most = some n) (hn2 : n ≤ sizeLine) (hdf : d.params.defaults = []) (hr : Room k callerA)
  (hY : ∀ (w : World) (h : Heap), YP w h → (K w.params).In h)
  (F : ∀ (w : World) (mg : Str → Option Value) (fa : Addr) (h : Heap), (K w.params).In h → h.Ns mainGlobals mg → mg d.name = some (.ref fa) →
   ∃ fd : FuncData, (∀ (s : Shared) (u : Value), BindsTo s fd ⟨[u], []⟩ [(x, u)]) ∧
    ∀ base : Heap, (K w.params).In base → base.Ns mainGlobals mg → FnOk l.prog w (K w.params) mg base (CX w) k fa fd [x] (sp w))
  (hsp : ∀ (w : World) (H : Hp) (a : Addr) (ns : List Int), ns.length ≤ n → Only H → SqL (K w.params) H a (ns.map V.int) → sp w [.ref a] H (fun v _ => v = .bl true) fun _ _ _ => False)
  (hCX : ∀ (w : World) (H : Hp) (s : Shared) (e : Value) (s' : Shared), CX w [] H s (fun _ _ _ => False) e s' → False) :
  PySem.W.WalkO q loose XP YP l.row.toRowW d [] (fun f vs => PySem.call f vs) := by
 refine Att.attach_call hn hdf fun w s₀ s₁ mg mb fa o pm cd doc a vs ns G Y ho hd hcd hmg hobj hints hlen hg => ?_
 have KX := hY w _ Y
 refine zaa ?_; intro G_; obtain ⟨fd, hb, hF⟩ := F w mg fa _ KX G.T.g hmg
 exact zhu KX G.T.g G.T.b G.T.builtins G.T.nolimit hg hobj hints (Nat.le_trans hlen hn2) hr hF hb (fun H hO hS => hsp w H a ns hlen hO hS) fun H e s' => hCX w H s₁ e s'
end L2
namespace L2
open PySem PySem.Spec PyProof.Rows
def zae (s : Stmt) : Arguments := match s with
 | .FunctionDef _ a _ _ _ _ _ _ _ _ => a
 | _ => { posonlyargs := [], args := [], vararg := none, kwonlyargs := [], kw_defaults := [], kwarg := none, defaults := [] }
def zad (s : Stmt) : List Stmt := match s with
 | .FunctionDef _ _ b _ _ _ _ _ _ _ => b
 | _ => []
def zab (s : Stmt) : Scope := match s with
 | .FunctionDef _ _ _ _ _ _ sc _ _ _ => sc
 | _ => { kind := .function, names := [], isGenerator := false, isCoroutine := false }
abbrev CX0 : CXT := fun _ _ _ _ _ _ => False
abbrev E0 : XK := fun _ _ _ => False
theorem zkZ {X : Cx} : Passes CX0 X E0 := fun _ _ _ _ _ _ _ h => h.elim
structure Fun (K : PySem.W.Frag) (x qual : Str) (st : Stmt) (f : Addr) (fd : FuncData) : Prop where
 ex : ∃ (oc : Value) (od : Option Addr) (kV doc pm : Value) (an : Option Addr) (cdv ct : Value) (osl : Array (Option Value)),
  fd = PySem.W.fnOf x qual (zae st) (zad st) (zab st) .none kV doc pm an cdv ct ∧ K.lookup f = some ⟨oc, od, .func fd, osl⟩ ∧ PySem.W.codeIn K cdv qual = true
 kp : PySem.W.keepIn K (.ref f) = true
section
variable {P : Program} {w : World} {K : PySem.W.Frag} {mg : Str → Option Value} {base : Heap}
theorem Fun.ok {x qual : Str} {st : Stmt} {f : Addr} {fd : FuncData} {N ps : List Str} {k : Nat} {sp : Sp} (F : Fun K x qual st f fd) (S : FnScope N ps (zab st)) (len : ∀ vs H Q E, sp vs H Q E → vs.length = ps.length)
  (hbody : ∀ (cdv : Value) (A : Around) (outer : List Env) (s : Shared) (H : Hp) (vs : List V) (Q : VK) (E : XK), Room k (A.deeper (envOfC qual (zab st) s.heap.objs.size f cdv)) → sp vs H Q E →
   ∃ t, PSs (cxOf CX0 P w K mg base N qual (zab st) f cdv A outer s H E).nox (zad st) t ∧ t { nx := fun _ H' => Q .non H', rt := Q } (start N vs) H) : FnOk P w K mg base CX0 (k + 1) f fd ps sp := by
 refine zaa ?_; intro G_; obtain ⟨oc, od, kV, doc, pm, an, cdv, ct, osl, rfl, lk, hcd⟩ := F.ex
 refine zkO lk hcd S len fun A outer s H vs Q E hr hsp => ?_
 refine zaa ?_; intro G_; obtain ⟨t, h, q⟩ := hbody cdv A outer s H vs Q E hr hsp
 exact ⟨t, h.nox, q⟩
theorem Fun.binds {x qual : Str} {st : Stmt} {f : Addr} {fd : FuncData} {ps : List Str} (F : Fun K x qual st f fd)
  (h : ∀ (kV doc pm : Value) (an : Option Addr) (cdv ct : Value) (us : List Value), us.length = ps.length → bindArgs (PySem.W.fnOf x qual (zae st) (zad st) (zab st) .none kV doc pm an cdv ct) ⟨us, []⟩ = pure (ps.zip us)) : Binds K fd ps [] := by
 refine zaa ?_; intro G_; obtain ⟨oc, od, kV, doc, pm, an, cdv, ct, osl, rfl, lk, hcd⟩ := F.ex
 exact .all (h kV doc pm an cdv ct)
theorem zaz {x qual : Str} {st : Stmt} {f : Addr} {oc : Value} {od an : Option Addr} {osl : Array (Option Value)} {kV doc pm cdv ct : Value} (l : K.lookup f = some ⟨oc, od, .func (PySem.W.fnOf x qual (zae st) (zad st) (zab st) .none kV doc pm an cdv ct), osl⟩)
  (c : PySem.W.codeIn K cdv qual = true) (k : PySem.W.keepIn K (.ref f) = true) : Fun K x qual st f (PySem.W.fnOf x qual (zae st) (zad st) (zab st) .none kV doc pm an cdv ct) := ⟨⟨oc, od, kV, doc, pm, an, cdv, ct, osl, rfl, l, c⟩, k⟩
end
theorem zam {n : Nat} (h : n ≤ 1000) : n < sizeLine := Nat.lt_of_le_of_lt h (by decide)
section
variable {X : Cx}
end
theorem iteF {A B : Prop} (h : B) : if false = true then A else B := by
 rw [if_neg Bool.false_ne_true]
 exact h
theorem iteT {A B : Prop} (h : A) : if true = true then A else B := by
 rw [if_pos rfl]
 exact h
theorem ite2 {c A B : Prop} [Decidable c] (h1 : c → A) (h2 : ¬ c → B) : if c then A else B := by
 by_cases h : c
 ·rw [if_pos h]
  exact h1 h
 ·rw [if_neg h]
  exact h2 h
def Same (H H' : Hp) : Prop := ∀ b o, H b = some o → H' b = some o
theorem Same.refl (H : Hp) : Same H H := fun _ _ h => h
theorem Same.trans {H H1 H2 : Hp} (a : Same H H1) (b : Same H1 H2) : Same H H2 := fun c o h => b c o (a c o h)
theorem Same.free {H H' : Hp} (e : Same H H') {l : Addr} (h : H' l = Option.none) : H l = Option.none := by
 cases q : H l with
 | none => rfl
 | some o =>
  rw [e l o q] at h
  cases h
theorem Same.seq {K : PySem.W.Frag} {H H' : Hp} {a : Addr} {xs : List V} (e : Same H H') (h : SqL K H a xs) : SqL K H' a xs := by
 rcases h with (h | ⟨o, h⟩) | h
 ·exact .inl (.inl (e _ _ h))
 ·exact .inl (.inr ⟨o, e _ _ h⟩)
 ·exact .inr h
end L2
set_option maxHeartbeats 4000000
namespace L2
open PySem PySem.Spec PyProof.Rows
section
variable {κ : Type} [DecidableEq κ]
def valV (kvs : List (κ × V)) (k : κ) : Option V := (kvs.find? fun kv => decide (kv.1 = k)).map (·.2)
def putK (kvs : List (κ × V)) (k : κ) (v : V) : List (κ × V) :=
 if (kvs.any fun kv => decide (kv.1 = k)) = true then kvs.map (fun kv => if kv.1 = k then (kv.1, v) else kv) else kvs ++ [(k, v)]
theorem zcb {p : κ × V} {r : List (κ × V)} {k : κ} (e : p.1 = k) : valV (p :: r) k = some p.2 := by simp [valV, List.find?_cons, e]
theorem zbG {p : κ × V} {r : List (κ × V)} {k : κ} (e : ¬ p.1 = k) : valV (p :: r) k = valV r k := by simp [valV, List.find?_cons, e]
theorem zd1 (k : κ) : ∀ kvs : List (κ × V), (kvs.any fun kv => decide (kv.1 = k)) = (valV kvs k).isSome
 | [] => rfl
 | p :: r => by
  rw [List.any_cons]
  by_cases e : p.1 = k
  ·simp only [zcb e, decide_eq_true e, Bool.true_or, Option.isSome_some]
  ·rw [zbG e, decide_eq_false e, Bool.false_or]; exact zd1 k r
theorem zeO (kvs : List (κ × V)) (k : κ) (v : V) : (putK kvs k v).length ≤ kvs.length + 1 := by
 unfold putK
 split
 ·rw [List.length_map]; lia
 ·rw [List.length_append, List.length_cons, List.length_nil]; lia
theorem zfs {kvs : List (κ × V)} {k : κ} (v : V) (h : valV kvs k = none) : putK kvs k v = kvs ++ [(k, v)] := by
 unfold putK
 rw [zd1, h]
 exact if_neg (by decide)
theorem RelO.isSome_eq {o : Option V} {u : Option Value} (r : RelO o u) : o.isSome = u.isSome := by
 cases o with
 | none => cases u with
  | none => rfl
  | some _ => exact (show False from r).elim
 | some _ => cases u with
  | none => exact (show False from r).elim
  | some _ => rfl
theorem RelO.getD {o : Option V} {u : Option Value} {d : V} {d' : Value} (r : RelO o u) (rd : RelV d d') : RelV (o.getD d) (u.getD d') := by
 cases o with
 | none => cases u with
  | none => exact rd
  | some _ => exact (show False from r).elim
 | some _ => cases u with
  | none => exact (show False from r).elim
  | some _ => exact r
theorem KV.val {kvs : List (κ × V)} {vs : List (κ × Value)} (r : KV kvs vs) (k : κ) : RelO (valV kvs k) (valueAt vs k) := by
 unfold KV at r
 induction r with
 | nil => exact True.intro
 | @cons p q ps qs h t ih =>
  obtain ⟨h1, h2⟩ := h
  by_cases e : p.1 = k
  ·have e' : q.1 = k := h1.symm.trans e
   have b : valueAt (q :: qs) k = some q.2 := by simp [valueAt, List.find?_cons, e']
   rw [zcb e, b]; exact h2
  ·have e' : ¬ q.1 = k := fun z => e (h1.trans z)
   have b : valueAt (q :: qs) k = valueAt qs k := by simp [valueAt, List.find?_cons, e']
   rw [zbG e, b]; exact ih
theorem KV.keys {kvs : List (κ × V)} {vs : List (κ × Value)} (r : KV kvs vs) : kvs.map (·.1) = vs.map (·.1) := by
 unfold KV at r
 induction r with
 | nil => rfl
 | cons h t ih => rw [List.map_cons, List.map_cons, ih, h.1]
theorem KV.length {kvs : List (κ × V)} {vs : List (κ × Value)} (r : KV kvs vs) : kvs.length = vs.length := Paired.length r
end
theorem zkg {P : Program} {w : World} {k : Key} {u : Value} (r : RelV (kV k) u) : (zbb P w).is k u = true := by
 cases k with
 | inl i => obtain ⟨t, e⟩ := (show ∃ t, u = Value.int i t from r); subst e; exact ze5 P w i t
 | inr x => obtain ⟨t, e⟩ := (show ∃ t, u = Value.str x t from r); subst e; exact ze3 P w x t
theorem zd3 {P : Program} {w : World} : ∀ {ks : List Key} {us : List Value}, Vals (ks.map kV) us → ItemsAre (zbb P w) ks us
 | [], _, r => by rw [List.map_nil] at r; cases r; exact .nil
 | k :: ks, _, r => by
  rw [List.map_cons] at r
  cases r with
  | cons h t => exact .cons (zkg h) (zd3 t)
abbrev KT (H : Hp) : List (List Key × V) → List (List Key × Addr × Value) → Prop := Paired fun p q => p.1 = q.1 ∧ H q.2.1 = some (.tup (p.1.map kV)) ∧ RelV p.2 q.2.2
theorem KT.val {H : Hp} {kvs : List (List Key × V)} {xs : List (List Key × Addr × Value)} (r : KT H kvs xs) (k : List Key) : RelO (valV kvs k) ((atKey xs k).map (·.2)) := by
 induction r with
 | nil => exact True.intro
 | @cons p q ps qs h t ih =>
  obtain ⟨h1, _, h2⟩ := h
  by_cases e : p.1 = k
  ·have e' : q.1 = k := h1.symm.trans e
   have b : atKey (q :: qs) k = some q.2 := by simp [atKey, List.find?_cons, e']
   rw [zcb e, b]; exact h2
  ·have e' : ¬ q.1 = k := fun z => e (h1.trans z)
   have b : atKey (q :: qs) k = atKey qs k := by simp [atKey, List.find?_cons, e']
   rw [zbG e, b]; exact ih
theorem KT.repl {H : Hp} {kvs : List (List Key × V)} {xs : List (List Key × Addr × Value)} (r : KT H kvs xs) (k : List Key) {y : V} {u : Value} (ry : RelV y u) :
  KT H (kvs.map fun kv => if kv.1 = k then (kv.1, y) else kv) (xs.map (putAt k u)) := by
 induction r with
 | nil => exact .nil
 | @cons p q ps qs h t ih =>
  rw [List.map_cons, List.map_cons]
  refine .cons ?_ ih
  obtain ⟨h1, h2, h3⟩ := h
  unfold putAt
  by_cases e : p.1 = k
  ·rw [if_pos e, if_pos (h1.symm.trans e)]; exact ⟨h1, h2, ry⟩
  ·rw [if_neg e, if_neg (fun z => e (h1.trans z))]; exact ⟨h1, h2, h3⟩
theorem KT.put {H : Hp} {kvs : List (List Key × V)} {xs : List (List Key × Addr × Value)} (r : KT H kvs xs) (k : List Key) {b : Addr} {y : V} {u : Value} (hb : H b = some (.tup (k.map kV))) (ry : RelV y u) :
  KT H (putK kvs k y) (storedH xs k b u) := by
 have e : (kvs.any fun kv => decide (kv.1 = k)) = (atKey xs k).isSome := by
  rw [zd1, (r.val k).isSome_eq, Option.isSome_map]
 unfold putK storedH
 rw [e]
 by_cases q : (atKey xs k).isSome = true
 ·rw [if_pos q, if_pos q]; exact r.repl k ry
 ·rw [if_neg q, if_neg q]; exact Paired.snoc r ⟨rfl, hb, ry⟩
theorem KT.keeps {H H' : Hp} {kvs : List (List Key × V)} {xs : List (List Key × Addr × Value)} (r : KT H kvs xs) (ht : ∀ b ys, H b = some (.tup ys) → H' b = some (.tup ys)) : KT H' kvs xs :=
 Paired.mapP r fun _ _ z => ⟨z.1, ht _ _ z.2.1, z.2.2⟩
section
variable {P : Program} {w : World} {H : Hp} {h : Heap} {a : Addr}
theorem zka {u : HO} (ok : HOk P w H h) (e : Rd H a u) : ObjOk P w H h a u := e.ok ok
theorem zi4 {kvs : List (Key × V)} (ok : HOk P w H h) (e : Rd H a (.dK kvs)) : kvs.length ≤ sizeLine ∧ (a == sysModules) = false ∧ ∃ vs, KV kvs vs ∧ h.DictOf (zbb P w) a vs :=
 show ObjOk P w H h a (.dK kvs) from zka ok e
theorem zgH {ks : List Key} (ok : HOk P w H h) (e : H a = some (.tup (ks.map kV))) : (tupleKind (zbb P w)).is h ks a := by
 refine zaa ?_; intro G_; obtain ⟨_, its, r, o, h1, h2, n, h3⟩ := (show ObjOk P w H h a (.tup (ks.map kV)) from ok a _ e)
 exact ⟨o, its.toArray, n, h1, h2, h3, by simpa using zd3 r⟩
theorem zg6 {kvs : List (List Key × V)} (ok : HOk P w H h) (e : Rd H a (.dT kvs)) : kvs.length ≤ sizeLine ∧ (a == sysModules) = false ∧
  ∃ xs, KT H kvs xs ∧ h.DictOfH (tupleKind (zbb P w)) a xs := by
 refine zaa ?_; intro G_; obtain ⟨z, y, xs, r, o, es, ep, h1, h2, h3, h4, h5⟩ := (show ObjOk P w H h a (.dT kvs) from zka ok e)
 refine ⟨z, y, xs, r, o, es, ep, h1, h2, h3, h4, fun x hx => ?_, h5⟩
 have all : ∀ {l : List (List Key × V)} {m : List (List Key × Addr × Value)}, KT H l m → ∀ x ∈ m, (tupleKind (zbb P w)).is h x.1 x.2.1 := by
  intro l m q
  induction q with
  | nil => intro x hx; exact nomatch hx
  | @cons p q ps qs hq t ih =>
   intro x hx
   rcases List.mem_cons.mp hx with e | hx
   ·subst e
    exact zgH ok (by rw [← hq.1]; exact hq.2.1)
   ·exact ih x hx
 exact all r x hx
theorem zlD {kvs : List (List Key × V)} (ok : HOk P w H h) (e : H a = some (.dT kvs)) : kvs.length ≤ sizeLine ∧ (a == sysModules) = false ∧
  ∃ xs, KT H kvs xs ∧ h.DictOfH (tupleKind (zbb P w)) a xs := zg6 ok (.inl e)
end
def DGet (H : Hp) (a : Addr) (y : V) (r : Option V) : Prop :=
 (∃ kvs k, Rd H a (.dK kvs) ∧ y = kV k ∧ r = valV kvs k) ∨ ∃ kvs k b, Rd H a (.dT kvs) ∧ y = .ref b ∧ H b = some (.tup (k.map kV)) ∧ r = valV kvs k
theorem DGet.k {H : Hp} {a : Addr} {kvs : List (Key × V)} {k : Key} (e : H a = some (.dK kvs)) : DGet H a (kV k) (valV kvs k) := .inl ⟨kvs, k, .inl e, rfl, rfl⟩
theorem DGet.t {H : Hp} {a b : Addr} {kvs : List (List Key × V)} {k : List Key} (e : H a = some (.dT kvs)) (eb : H b = some (.tup (k.map kV))) : DGet H a (.ref b) (valV kvs k) := .inr ⟨kvs, k, b, .inl e, rfl, eb, rfl⟩
section
variable {X : Cx} {pins : List (Addr × Obj)} {σ : St} {H : Hp} {s : Shared} {a : Addr} {y v : V} {u r : Value} {o : Option V} {A : Around} {E : Value → Shared → Prop}
theorem Inv.big (I : Inv X pins σ H s) : sysModules < s.heap.objs.size := by
 have h : mainGlobals < s.heap.objs.size := (I.mod.glob.keeps I.bk).lt
 exact Nat.lt_trans (by decide) h
theorem zg2 {Q : Value → Shared → Prop} (hu : A.units + 1 < cLine) (I : Inv X pins σ H s) (g : DGet H a y (some v)) (ry : RelV y u) (h : ∀ w' s', Inv X pins σ H s' → RelV v w' → Q w' s') :
  wpAny (model X.prog X.w) A (getItem (.ref a) u) Q E s := by
 rcases g with ⟨kvs, k, e, ey, l⟩ | ⟨kvs, k, b, e, ey, eb, l⟩
 ·subst ey
  refine zaa ?_; intro G_; obtain ⟨z, hd, vs, rel, dd⟩ := zi4 I.hok e
  refine zaa ?_; intro G_; obtain ⟨w', hw, rw'⟩ := RelO.some_of (v := v) (o := valueAt vs k) (by rw [l]; exact rel.val k)
  exact wpAny_getItem_of (zkg ry) dd.mapOf hw (h w' _ (I.tok _) rw')
 ·subst ey
  cases (show u = Value.ref b from ry)
  refine zaa ?_; intro G_; obtain ⟨z, hd, xs, rel, dd⟩ := zg6 I.hok e
  refine zaa ?_; intro G_; obtain ⟨w', hw, rw'⟩ := RelO.some_of (v := v) (o := (atKey xs k).map (·.2)) (by rw [l]; exact rel.val k)
  refine zaa ?_; intro G_; obtain ⟨p, hp, hp2⟩ := Option.map_eq_some_iff.mp hw
  refine wpAny_getItem_heap (tupleKind_room_in1 hu) (zgH I.hok eb) dd hp ?_
  rw [hp2]
  exact h w' _ (I.tok _) rw'
theorem zi9 {h' : Heap} {t' : Nat} {ob : HO} (I : Inv X pins σ H s) (mu : Mut (H a)) (hs : Heap.SameBut a s.heap h') (he : ∃ q, h'.get? a = some q) (new : ObjOk X.prog X.w (upd H a ob) h' a ob) :
  Inv X pins σ (upd H a ob) { s with heap := h', toks := t' } :=
 I.write (x := a) (e := a) mu (.inl rfl) (fun b q hb z => (hs.2 b hb).trans z) he new
end
section
variable {X : Cx} {pins : List (Addr × Obj)} {σ : St} {H : Hp} {s : Shared} {a : Addr} {kvs : List (Key × V)} {k : Key} {u : Value} {A : Around} {E : Value → Shared → Prop}
end
def NoSl (i : Expr) : Prop := ∀ ov iv, subscripted i false ov iv = operate [ov, iv] (getItem ov iv)
theorem ziO {prog : Program} {w : World} {A : Around} {E : Value → Shared → Prop} {s : Shared} {env : Env} {value slice : Expr} {pos : Pos} {T id : String} {Q : Value → Shared → Prop}
  (hl : typeLookup (.type T) "__getitem__" = pure (some (.builtin id))) (hs : NoSl slice)
  (h : wpAny (model prog w) A (eval value env) (fun o s₁ => wpAny (model prog w) A (eval slice env) (fun i s₂ => s₂.TypeIs o T ∧ wpAny (model prog w) A (getItem o i) Q E s₂) E s₁) E s) :
  wpAny (model prog w) A (eval (.Subscript value slice pos) env) Q E s := by
 refine Subscript_ (wpAny_mono h (fun o s₁ h₁ => wpAny_mono h₁ (fun i s₂ h₂ => ?_) fun _ _ x => x) fun _ _ x => x)
 obtain ⟨hT, h₂⟩ := h₂
 unfold subscriptTail
 refine wpAny_bind ?_
 rw [getitemInPython_of_ne hT.not_modules]
 refine wpAny_bind (wpAny_specialOf hT hl ?_)
 have fin : wpAny (model prog w) A (subscripted slice false o i) (fun r s₃ => wpAny (model prog w) A (letTemporaryGo value o r >>= fun _ => pure r) Q E s₃) E s₂ := by
  rw [hs o i]
  exact wpAny_operating (wpAny_mono h₂ (fun r s₃ h₃ => wpAny_bind (wpAny_letTemporaryGo (wpAny_pure h₃))) fun _ _ x => x)
 first
  | exact wpAny_pure (wpAny_bind fin)
  | exact wpAny_bind (wpAny_pure (wpAny_bind fin))
  | exact wpAny_bind fin
theorem ze4 {X : Cx} {pins : List (Addr × Obj)} {σ : St} {H : Hp} {s : Shared} {a : Addr} {y : V} {o : Option V} (I : Inv X pins σ H s) (g : DGet H a y o) : s.TypeIs (.ref a) "dict" := by
 rcases g with ⟨kvs, k, e, _, _⟩ | ⟨kvs, k, b, e, _, _, _⟩
 ·refine zaa ?_; intro G_; obtain ⟨_, _, vs, _, dd⟩ := zi4 I.hok e
  exact dd.typeIs
 ·refine zaa ?_; intro G_; obtain ⟨_, _, xs, _, dd⟩ := zg6 I.hok e
  exact dd.typeIs
def zh0 (td ty : TE) : TE := fun σ H Q => td σ H fun x H1 => ty σ H1 fun y H2 => ∃ a v, x = .ref a ∧ DGet H2 a y (some v) ∧ Q v H2
section
variable {X : Cx} {o i e value : Expr} {pos pos' tpos : Pos} {td ty tv : TE}
theorem zjn (hu : X.A.units + 1 < cLine) (ho : PE X o td) (hi : PE X i ty) (hs : NoSl i) : PE X (.Subscript o i pos) (zh0 td ty) := by
 intro pins s σ H Q I h
 refine ziO PySem.F.slot_dict_getitem.lookup hs (thn (ho pins s σ H _ I h) fun u s1 ⟨x, H1, I1, rx, q1⟩ => thn (hi pins s1 σ H1 _ I1 q1) fun iv s2 ⟨y, H2, I2, ry, a, v, ex, g, q2⟩ => ?_)
 subst ex
 obtain rfl : u = Value.ref a := rx
 exact ⟨ze4 I2 g, zg2 hu I2 g ry fun w' s3 I3 rw' => ⟨v, H2, I3, rw', q2⟩⟩
end
theorem zhN {P : Program} {w : World} {H : Hp} (h : Heap) (hb : sysModules < h.objs.size) : ObjOk P w H (h.push { cls := .type "dict", data := .dict #[] }) h.objs.size (.dT []) :=
 ⟨Nat.zero_le _, beq_eq_false_iff_ne.mpr (Ne.symm (Nat.ne_of_lt hb)), [], .nil, _, #[], 0, Heap.get?_push_size _ rfl, ⟨rfl, rfl, rfl⟩, rfl, rfl, List.nodup_nil⟩
def ziL : TE := fun _ H Q => ∀ p, H p = none → Q (.ref p) (upd H p (.dT []))
section
variable {X : Cx} {pos : Pos}
theorem zid : PE X (.Dict [] [] pos) ziL := fun pins s σ H Q I h =>
 wpAny_Dict_empty ⟨.ref s.heap.objs.size, _, I.laid (a := s.heap.objs.size) (o := .dT []) (t' := s.toks) (fun _ _ q => Heap.get?_push_of_some _ q) (Nat.le_refl _) (zhN s.heap I.big), rfl, h _ (I.hok.fresh (Nat.le_refl _))⟩
end
structure M1 (X : Cx) (o : Expr) (m : Str) (apos : Pos) (e : Expr) (cpos : Pos) : Prop where
 base : attributeBase o m X.env (eval o X.env) = eval o X.env
 few : ((backTo cpos (starEach [e] X.env)).all (fun x => !x.1) && (backToKw cpos (keywordEach [] X.env)).all (fun x => x.1.isSome)
  && decide (([e] : List Expr).length + ([] : List Keyword).length + (if ([] : List Keyword).isEmpty then 0 else 1) < 30)) = true
 line : (apos.endLine == cpos.line) = true
 trees : backTo cpos (starEach [e] X.env) = [(false, eval e X.env)]
structure M2 (X : Cx) (o : Expr) (m : Str) (apos : Pos) (e f : Expr) (cpos : Pos) : Prop where
 base : attributeBase o m X.env (eval o X.env) = eval o X.env
 few : ((backTo cpos (starEach [e, f] X.env)).all (fun x => !x.1) && (backToKw cpos (keywordEach [] X.env)).all (fun x => x.1.isSome)
  && decide (([e, f] : List Expr).length + ([] : List Keyword).length + (if ([] : List Keyword).isEmpty then 0 else 1) < 30)) = true
 line : (apos.endLine == cpos.line) = true
 trees : backTo cpos (starEach [e, f] X.env) = [(false, eval e X.env), (false, eval f X.env)]
def IsD (H : Hp) (a : Addr) : Prop := (∃ kvs, Rd H a (.dK kvs)) ∨ ∃ kvs, Rd H a (.dT kvs)
theorem zkI {X : Cx} {pins : List (Addr × Obj)} {σ : St} {H : Hp} {s : Shared} {a : Addr} (I : Inv X pins σ H s) (d : IsD H a) :
  s.TypeIs (.ref a) "dict" ∧ (∀ b, Value.ref a = .ref b → ∃ ob, s.heap.get? b = some ob ∧ ob.dict = none) ∧ (a == sysModules) = false := by
 rcases d with ⟨kvs, e⟩ | ⟨kvs, e⟩
 ·refine zaa ?_; intro G_; obtain ⟨_, hd, vs, _, dd⟩ := zi4 I.hok e
  refine ⟨dd.typeIs, fun b q => ?_, hd⟩
  cases q
  refine zaa ?_; intro G_; obtain ⟨ob, _, _, h1, h2, _⟩ := dd
  exact ⟨ob, h1, h2.2.1⟩
 ·refine zaa ?_; intro G_; obtain ⟨_, hd, xs, _, dd⟩ := zg6 I.hok e
  refine ⟨dd.typeIs, fun b q => ?_, hd⟩
  cases q
  refine zaa ?_; intro G_; obtain ⟨ob, _, _, h1, h2, _⟩ := dd
  exact ⟨ob, h1, h2.2.1⟩
section
variable {X : Cx} {pins : List (Addr × Obj)} {σ : St} {H : Hp} {s : Shared} {a : Addr} {y d : V} {u r : Value} {o : Option V} {A : Around} {E : Value → Shared → Prop}
end
section
variable {X : Cx} {o e f : Expr} {apos cpos : Pos} {td ty tx : TE}
end
section
variable {X : Cx} {pins : List (Addr × Obj)} {σ : St} {H : Hp} {s : Shared} {a : Addr} {kvs : List (Key × V)} {A : Around} {E : Value → Shared → Prop}
end
section
variable {X : Cx} {pins : List (Addr × Obj)} {σ : St} {H : Hp} {s : Shared} {a : Addr} {y : V} {u : Value} {A : Around} {E : Value → Shared → Prop}
end
end L2
namespace L2
open PySem PySem.Spec PyProof.Rows
section
variable {κ : Type} [DecidableEq κ]
end
end L2
namespace L2
open PySem
end L2
namespace Wr
open PySem PySem.W PyProof.Rows
def Kp (key : Nat → Int) (p : Array Nat) (i : Nat) : Int := key (p.getD i 0)
structure PBase (n : Nat) (p : Array Nat) : Prop where
 perm : p.toList.Perm (List.range n)
theorem PBase.size {n : Nat} {p : Array Nat} (B : PBase n p) : p.size = n := by
 have h := B.perm.length_eq
 rw [List.length_range, Array.length_toList] at h
 exact h
theorem PBase.lt {n : Nat} {p : Array Nat} (B : PBase n p) (hn : 0 < n) (i : Nat) : p.getD i 0 < n := by
 rw [Array.getD_eq_getD_getElem?]
 cases e : p[i]? with
 | none => exact hn
 | some x =>
  have hm : x ∈ p.toList := by
   rw [Array.getElem?_eq_some_iff] at e
   obtain ⟨h, rfl⟩ := e
   exact Array.getElem_mem_toList h
  exact List.mem_range.mp (B.perm.mem_iff.mp hm)
theorem PBase.rev {n : Nat} {p : Array Nat} (B : PBase n p) (i j : Nat) : PBase n (kas_rev p i j) :=
 ⟨(Array.perm_iff_toList_perm.mp (mirror_perm p i j _)).trans B.perm⟩
theorem PBase.bub {n : Nat} {p : Array Nat} (B : PBase n p) (i j : Nat) : PBase n (bubble p i j) :=
 ⟨(Array.perm_iff_toList_perm.mp (bubble_perm p i j)).trans B.perm⟩
def Up (key : Nat → Int) (p : Array Nat) (k : Nat) : Prop := ∀ i j, i ≤ j → j < k → Kp key p i ≤ Kp key p j
def Dn (key : Nat → Int) (p : Array Nat) (k : Nat) : Prop := ∀ i j, i ≤ j → j < k → Kp key p j ≤ Kp key p i
theorem zeK {key : Nat → Int} {p : Array Nat} {i j : Nat} (hj : j ≤ p.size) (k : Nat) : Kp key (kas_rev p i j) k = if i ≤ k ∧ k < j then Kp key p (i + j - 1 - k) else Kp key p k := by
 unfold Kp kas_rev
 rw [Array.getD_eq_getD_getElem?, getElem?_mirror_all hj]
 split <;> rw [Array.getD_eq_getD_getElem?]
theorem ziK {key : Nat → Int} {p : Array Nat} {k l : Nat} (hk : k < p.size) (hl : l ≤ k) (i : Nat) :
  Kp key (bubble p k (k - l)) i = if i = l then Kp key p k else if l < i ∧ i ≤ k then Kp key p (i - 1) else Kp key p i := by
 have g : ∀ (q : Array Nat) (x : Nat), Kp key q x = key (q[x]?.getD 0) := fun q x => by unfold Kp; rw [Array.getD_eq_getD_getElem?]
 have e : k - (k - l) = l := by lia
 rw [g, g, g, g, getElem?_bubble hk (k - l) (by lia), e]
 by_cases h1 : i = l
 ·rw [if_pos h1, if_pos h1]
 ·rw [if_neg h1, if_neg h1]
  by_cases h2 : l < i ∧ i ≤ k
  ·rw [if_pos h2, if_pos h2]
  ·rw [if_neg h2, if_neg h2]
section
variable {cmp : Nat → Nat → (Bool → Shared → Prop) → Shared → Prop} {key : Nat → Int} {n : Nat} {s : Shared}
def Says (cmp : Nat → Nat → (Bool → Shared → Prop) → Shared → Prop) (key : Nat → Int) (n : Nat) (s : Shared) : Prop :=
 ∀ i j C, i < n → j < n → C (decide (key i < key j)) s → cmp i j C s
theorem ask_ {α : Type} {i j : Nat} {k : Bool → KasT α} {G : α → Shared → Prop} (hc : Says cmp key n s) (hi : i < n) (hj : j < n)
  (h1 : key i < key j → (k true).kasWp cmp G s) (h2 : key j ≤ key i → (k false).kasWp cmp G s) : (KasT.ask i j k).kasWp cmp G s := by
 refine hc i j _ hi hj ?_
 by_cases h : key i < key j
 ·rw [decide_eq_true h]; exact h1 h
 ·rw [decide_eq_false h]; exact h2 (Int.not_lt.mp h)
theorem ziY (hc : Says cmp key n s) (hn : 0 < n) {p : Array Nat} (B : PBase n p) {G : Nat → Shared → Prop} : ∀ (f a : Nat), 1 ≤ a → a + f ≤ n → Up key p a →
  (∀ m, a ≤ m → m ≤ a + f → Up key p m → (m = a + f ∨ Kp key p m < Kp key p (m - 1)) → G m s) → (kas_asc p f a).kasWp cmp G s
 | 0, a, _, _, hu, h => h a (Nat.le_refl _) (Nat.le_refl _) hu (.inl rfl)
 | f + 1, a, h1, hf, hu, h => by
  show (KasT.ask (p.getD a 0) (p.getD (a - 1) 0) fun c => if c = true then KasT.ret a else kas_asc p f (a + 1)).kasWp cmp G s
  refine ask_ hc (B.lt hn _) (B.lt hn _) (fun q => ?_) (fun q => ?_)
  ·rw [if_pos rfl]
   exact h a (Nat.le_refl _) (by lia) hu (.inr q)
  ·rw [if_neg (by decide)]
   refine ziY hc hn B f (a + 1) (by lia) (by lia) (fun i j hij hj => ?_) fun m m1 m2 m3 m4 => h m (by lia) (by lia) m3 (by rcases m4 with e | e; exact .inl (by lia); exact .inr e)
   by_cases hja : j < a
   ·exact hu i j hij hja
   ·obtain rfl : j = a := by lia
    by_cases hi : i = j
    ·subst hi; exact Int.le_refl _
    ·exact Int.le_trans (hu i (j - 1) (by lia) (by lia)) q
theorem zgu (hc : Says cmp key n s) (hn : 0 < n) {G : Array Nat × Nat × Nat → Shared → Prop} : ∀ (f : Nat) (p : Array Nat) (a q : Nat), PBase n p → 1 ≤ a → a + f ≤ n → Dn key p a → q + 1 ≤ a →
  (∀ i, a - (q + 1) ≤ i → i < a → Kp key p i = Kp key p (a - 1)) →
  (∀ p' m q', PBase n p' → a ≤ m → m ≤ a + f → Dn key p' m → q' + 1 ≤ m → (∀ i, m - (q' + 1) ≤ i → i < m → Kp key p' i = Kp key p' (m - 1)) → G (p', m, q') s) → (kas_desc f p a q).kasWp cmp G s
 | 0, p, a, q, B, _, _, hd, hq, he, h => h p a q B (Nat.le_refl _) (Nat.le_refl _) hd hq he
 | f + 1, p, a, q, B, h1, hf, hd, hq, he, h => by
  have hs := B.size
  show (KasT.ask (p.getD a 0) (p.getD (a - 1) 0) fun c => if c = true then (if q > 0 then kas_desc f (kas_rev p (a - (q + 1)) a) (a + 1) 0 else kas_desc f p (a + 1) 0)
   else KasT.ask (p.getD (a - 1) 0) (p.getD a 0) fun d => if d = true then KasT.ret (p, a, q) else kas_desc f p (a + 1) (q + 1)).kasWp cmp G s
  refine ask_ hc (B.lt hn _) (B.lt hn _) (fun z => ?_) (fun z => ?_)
  ·rw [if_pos rfl]
   have z' : Kp key p a < Kp key p (a - 1) := z
   have go : ∀ p', PBase n p' → (∀ k, Kp key p' k = Kp key p k) → (kas_desc f p' (a + 1) 0).kasWp cmp G s := fun p' B' e => by
    refine zgu hc hn f p' (a + 1) 0 B' (by lia) (by lia) (fun i j hij hj => ?_) (by lia) (fun i i1 i2 => by congr 1; lia) fun p2 m q2 a1 a2 a3 a4 a5 a6 => h p2 m q2 a1 (by lia) (by lia) a4 a5 a6
    rw [e, e]
    by_cases hja : j < a
    ·exact hd i j hij hja
    ·obtain rfl : j = a := by lia
     by_cases hi : i = j
     ·subst hi; exact Int.le_refl _
     ·exact Int.le_trans (Int.le_of_lt z') (hd i (j - 1) (by lia) (by lia))
   by_cases hq0 : q > 0
   ·rw [if_pos hq0]
    refine go _ (B.rev _ _) fun k => ?_
    rw [zeK (by lia)]
    split
    ·rename_i hk
     rw [he _ (by lia) (by lia), he k (by lia) hk.2]
    ·rfl
   ·rw [if_neg hq0]
    exact go p B fun _ => rfl
  ·rw [if_neg (by decide)]
   refine ask_ hc (B.lt hn _) (B.lt hn _) (fun y => ?_) (fun y => ?_)
   ·rw [if_pos rfl]
    exact h p a q B (Nat.le_refl _) (by lia) hd hq he
   ·rw [if_neg (by decide)]
    have e : Kp key p a = Kp key p (a - 1) := Int.le_antisymm y z
    refine zgu hc hn f p (a + 1) (q + 1) B (by lia) (by lia) (fun i j hij hj => ?_) (by lia) (fun i i1 i2 => ?_) fun p2 m q2 a1 a2 a3 a4 a5 a6 => h p2 m q2 a1 (by lia) (by lia) a4 a5 a6
    ·by_cases hja : j < a
     ·exact hd i j hij hja
     ·obtain rfl : j = a := by lia
      by_cases hi : i = j
      ·subst hi; exact Int.le_refl _
      ·rw [e]; exact hd i (j - 1) (by lia) (by lia)
    ·rw [show a + 1 - 1 = a by lia]
     by_cases hi : i = a
     ·subst hi; rfl
     ·rw [e]; exact he i (by lia) (by lia)
theorem ziH (hc : Says cmp key n s) (hn : 0 < n) {p : Array Nat} (B : PBase n p) {a : Nat} {G : Nat × Array Nat → Shared → Prop} (h1 : 1 ≤ a) (ha : a ≤ n) (hd : Dn key p a)
  (h : ∀ m p', PBase n p' → 1 ≤ m → m ≤ n → Up key p' m → G (m, p') s) : (kas_tail3 a n p).kasWp cmp G s := by
 have hs := B.size
 unfold kas_tail3
 rw [KasT.kasWp_bind]
 refine ziY hc hn (B.rev 0 a) (n - a) a h1 (by lia) (fun i j hij hj => ?_) fun m m1 m2 m3 _ => h m _ (B.rev 0 a) (by lia) (by lia) m3
 rw [zeK (by lia), zeK (by lia), if_pos (by lia), if_pos (by lia)]
 exact hd _ _ (by lia) (by lia)
theorem zil (hc : Says cmp key n s) (hn : 0 < n) {p : Array Nat} (B : PBase n p) {a : Nat} {G : Nat × Array Nat → Shared → Prop} (ha : a + 1 ≤ n) (hd : Dn key p (a + 1))
  (h : ∀ m p', PBase n p' → 1 ≤ m → m ≤ n → Up key p' m → G (m, p') s) : (kas_descPart a n p).kasWp cmp G s := by
 unfold kas_descPart
 rw [KasT.kasWp_bind]
 refine zgu hc hn (n - (a + 1)) p (a + 1) 0 B (by lia) (by lia) hd (by lia) (fun i i1 i2 => by congr 1; lia) fun p' m q B' m1 m2 hd' hq he => ?_
 have hs := B'.size
 show (if q > 0 then kas_tail3 m n (kas_rev p' (m - (q + 1)) m) else kas_tail3 m n p').kasWp cmp G s
 by_cases hq0 : q > 0
 ·rw [if_pos hq0]
  have e : ∀ k, Kp key (kas_rev p' (m - (q + 1)) m) k = Kp key p' k := fun k => by
   rw [zeK (by lia)]
   split
   ·rename_i hk
    rw [he _ (by lia) (by lia), he k (by lia) hk.2]
   ·rfl
  exact ziH hc hn (B'.rev _ _) (by lia) (by lia) (fun i j hij hj => by rw [e, e]; exact hd' i j hij hj) h
 ·rw [if_neg hq0]
  exact ziH hc hn B' (by lia) (by lia) hd' h
theorem w_count (hc : Says cmp key n s) (hn : 0 < n) {p : Array Nat} (B : PBase n p) {G : Nat × Array Nat → Shared → Prop}
  (h : ∀ m p', PBase n p' → 1 ≤ m → m ≤ n → Up key p' m → G (m, p') s) : (kas_count n p).kasWp cmp G s := by
 have hs := B.size
 unfold kas_count
 rw [KasT.kasWp_bind]
 have u1 : Up key p 1 := fun i j hij hj => by
  have e : i = j := by lia
  rw [e]
  exact Int.le_refl _
 refine ziY hc hn B (n - 1) 1 (Nat.le_refl _) (by lia) u1 fun m m1 m2 hu hor => ?_
 by_cases e1 : m = n
 ·rw [if_pos (by simpa using e1)]
  exact h m p B m1 (by lia) hu
 ·rw [if_neg (by simpa using e1)]
  have hlt : Kp key p m < Kp key p (m - 1) := hor.resolve_left (by lia)
  by_cases e2 : m > 1
  ·rw [if_pos e2]
   refine ask_ hc (B.lt hn _) (B.lt hn _) (fun z => ?_) (fun z => ?_)
   ·rw [if_pos rfl]
    exact h m p B m1 (by lia) hu
   ·rw [if_neg (by decide)]
    have z' : Kp key p (m - 1) ≤ Kp key p 0 := z
    have all : ∀ k, k < m → Kp key p k = Kp key p 0 := fun k hk => Int.le_antisymm (Int.le_trans (hu k (m - 1) (by lia) (by lia)) z') (hu 0 k (by lia) hk)
    have e : ∀ k, Kp key (kas_rev p 0 m) k = Kp key p k := fun k => by
     rw [zeK (by lia)]
     split
     ·rename_i hk
      rw [all _ (by lia), all k hk.2]
     ·rfl
    refine zil hc hn (B.rev _ _) (by lia) (fun i j hij hj => ?_) h
    rw [e, e]
    by_cases hjm : j < m
    ·rw [all i (by lia), all j hjm]; exact Int.le_refl _
    ·obtain rfl : j = m := by lia
     by_cases hi : i = j
     ·subst hi; exact Int.le_refl _
     ·have := all i (by lia)
      have := all (j - 1) (by lia)
      lia
  ·rw [if_neg e2]
   obtain rfl : m = 1 := by lia
   refine zil hc hn B (by lia) (fun i j hij hj => ?_) h
   by_cases hi : i = j
   ·subst hi; exact Int.le_refl _
   ·obtain rfl : i = 0 := by lia
    obtain rfl : j = 1 := by lia
    exact Int.le_of_lt hlt
theorem ze7 (hc : Says cmp key n s) (hn : 0 < n) {p : Array Nat} (B : PBase n p) {k : Nat} (hk : k < n) (hu : Up key p k) {G : Nat → Shared → Prop}
  (h : ∀ l, l ≤ k → (∀ i, i < l → Kp key p i ≤ Kp key p k) → (∀ i, l ≤ i → i < k → Kp key p k < Kp key p i) → G l s) : ∀ (f l r : Nat), r ≤ l + f → l ≤ r → r ≤ k →
  (∀ i, i < l → Kp key p i ≤ Kp key p k) → (∀ i, r ≤ i → i < k → Kp key p k < Kp key p i) → (kas_place p k f l r).kasWp cmp G s
 | 0, l, r, hf, hlr, hr, h1, h2 => h l (by lia) h1 fun i a b => h2 i (by lia) b
 | f + 1, l, r, hf, hlr, hr, h1, h2 => by
  show (if l ≥ r then KasT.ret l else KasT.ask (p.getD k 0) (p.getD ((l + r) / 2) 0) fun c => if c = true then kas_place p k f l ((l + r) / 2) else kas_place p k f ((l + r) / 2 + 1) r).kasWp cmp G s
  by_cases hge : l ≥ r
  ·rw [if_pos hge]
   exact h l (by lia) h1 fun i a b => h2 i (by lia) b
  ·rw [if_neg hge]
   refine ask_ hc (B.lt hn _) (B.lt hn _) (fun z => ?_) (fun z => ?_)
   ·rw [if_pos rfl]
    have z' : Kp key p k < Kp key p ((l + r) / 2) := z
    refine ze7 hc hn B hk hu h f l ((l + r) / 2) (by lia) (by lia) (by lia) h1 fun i a b => ?_
    exact Int.lt_of_lt_of_le z' (hu _ _ a b)
   ·rw [if_neg (by decide)]
    have z' : Kp key p ((l + r) / 2) ≤ Kp key p k := z
    refine ze7 hc hn B hk hu h f ((l + r) / 2 + 1) r (by lia) (by lia) hr (fun i a => ?_) h2
    exact Int.le_trans (hu i ((l + r) / 2) (by lia) (by lia)) z'
theorem zj5 (hc : Says cmp key n s) (hn : 0 < n) {G : Array Nat → Shared → Prop} (h : ∀ p, PBase n p → Up key p n → G p s) : ∀ (f k : Nat) (p : Array Nat), PBase n p → k + f = n → Up key p k → (kas_bin f p k).kasWp cmp G s
 | 0, k, p, B, hk, hu => h p B (by rw [← hk]; exact hu)
 | f + 1, k, p, B, hk, hu => by
  have hs := B.size
  show ((kas_place p k k 0 k).bind fun l => kas_bin f (bubble p k (k - l)) (k + 1)).kasWp cmp G s
  rw [KasT.kasWp_bind]
  refine ze7 hc hn B (by lia) hu (fun l hl a1 a2 => ?_) k 0 k (by lia) (by lia) (Nat.le_refl _) (fun i hi => by lia) fun i a b => by lia
  refine zj5 hc hn h f (k + 1) _ (B.bub _ _) (by lia) fun i j hij hj => ?_
  rw [ziK (by lia) hl, ziK (by lia) hl]
  by_cases hi : i = l
  ·rw [if_pos hi]
   by_cases hjl : j = l
   ·rw [if_pos hjl]; exact Int.le_refl _
   ·rw [if_neg hjl, if_pos (by lia)]
    exact Int.le_of_lt (a2 _ (by lia) (by lia))
  ·rw [if_neg hi]
   by_cases hjl : j = l
   ·rw [if_pos hjl, if_neg (by lia)]
    exact a1 i (by lia)
   ·rw [if_neg hjl]
    by_cases hi2 : l < i ∧ i ≤ k
    ·rw [if_pos hi2, if_pos (by lia)]
     exact hu _ _ (by lia) (by lia)
    ·rw [if_neg hi2]
     by_cases hj2 : l < j ∧ j ≤ k
     ·rw [if_pos hj2]
      exact hu _ _ (by lia) (by lia)
     ·rw [if_neg hj2]
      exact hu _ _ hij (by lia)
theorem w_sort (hc : Says cmp key n s) (hn : 0 < n) {G : Array Nat → Shared → Prop} (h : ∀ p, PBase n p → Up key p n → G p s) : (kas_sort n).kasWp cmp G s := by
 unfold kas_sort
 rw [KasT.kasWp_bind]
 refine w_count hc hn ⟨by simp⟩ fun m p' B m1 m2 hu => ?_
 show (if m < n then kas_bin (n - max m 1) p' (max m 1) else KasT.ret p').kasWp cmp G s
 have e : max m 1 = m := by lia
 by_cases hm : m < n
 ·rw [if_pos hm, e]
  exact zj5 hc hn h (n - m) m p' B (by lia) hu
 ·rw [if_neg hm]
  obtain rfl : m = n := by lia
  exact h p' B hu
end
end Wr
namespace L2
open PySem PySem.Spec PyProof.Rows
abbrev atA (X : Cx) (A : Around) : Cx := { X with A := A }
section
variable {X : Cx} {pins : List (Addr × Obj)} {σ : St} {H : Hp} {s : Shared} {A : Around}
theorem zjQ (I : Inv X pins σ H s) (h1 : X.calm = true → A.handled = none) (h2 : A.frames = some X.stack) : Inv (atA X A) pins σ H s :=
 have o := I.ok
 ⟨⟨o.mod, o.kind, o.glob, o.blt, o.above, o.inj, o.has, o.cab, h1, h2, o.stk, o.exf, o.bs, o.bsz, o.noex, o.exfs, o.funs, o.frf⟩, I.os, I.bare, I.base, I.loc, I.cell, I.free, I.freeC, I.pin, I.hok, I.len⟩
theorem zkW (I : Inv (atA X A) pins σ H s) (h1 : X.calm = true → X.A.handled = none) (h2 : X.A.frames = some X.stack) : Inv X pins σ H s :=
 have o := I.ok
 ⟨⟨o.mod, o.kind, o.glob, o.blt, o.above, o.inj, o.has, o.cab, h1, h2, o.stk, o.exf, o.bs, o.bsz, o.noex, o.exfs, o.funs, o.frf⟩, I.os, I.bare, I.base, I.loc, I.cell, I.free, I.freeC, I.pin, I.hok, I.len⟩
theorem zje (I : Inv X pins σ H s) : Inv (atA X X.A.in1.in1) pins σ H s := zjQ I (fun h => I.ok.hd h) I.ok.frames
theorem Inv.track {b : Addr} {o : HO} {t : Nat} {h' : Heap} (I : Inv X pins σ H s) (hf : FpOk X pins H b) (k : ∀ c u, c ≠ b → s.heap.get? c = some u → h'.get? c = some u) (hb : ∃ u, h'.get? b = some u)
  (new : ObjOk X.prog X.w (upd H b o) h' b o) : Inv X pins σ (upd H b o) { s with heap := h', toks := t } := by
 refine zaa ?_; intro G_; obtain ⟨f0, f1, f2, f3, f4, f5⟩ := hf
 have nb : ∀ c u, H c = some u → c ≠ b := fun c u e z => by rw [z, f0] at e; cases e
 refine I.step (g' := s.gens) (d' := s.drawn) (ch := [b]) (fun c hc => ?_) (fun c u _ _ hc e _ => k c u (fun z => hc (by simp [z])) e) (fun c u _ _ hc e _ => ⟨u.slots, k c u (fun z => hc (by simp [z])) e⟩)
  (fun c u hc e n => by rw [zaj (fun z => hc (by simp [z]))]; exact n) (fun c u hc e => ⟨u, k c u (fun z => hc (by simp [z])) e⟩) (fun c xs e => by rw [zaj (nb c _ e)]; exact e) (fun c u v e => by rw [zaj (nb c _ e)]; exact e)
  (fun c ps e => ⟨#[], by rw [zaj (nb c _ e), e]; simp⟩) (fun m hm => ?_) (fun c u e => ?_) I.bare
 ·obtain rfl : c = b := by simpa using hc
  exact ⟨f3, f1, f4, f5⟩
 ·refine zaa ?_; intro G_; obtain ⟨ob, es, ep, ho, r⟩ := hm
  exact ⟨ob, es, ep, k _ _ (Ne.symm f1) ho, r⟩
 ·by_cases hc : c = b
  ·subst hc; rw [zac] at e; cases e; exact new
  ·rw [zaj hc] at e
   refine (I.hok c u e).stay (fun d v hd q => k d v ?_ q) (fun d q => by rw [zaj (nb d _ q)]; exact q) fun d xs q => by rw [zaj (nb d _ q)]; exact q
   rcases hd with z | z
   ·rw [z]; exact hc
   ·exact nb d _ z
end
def lexI : List Int → List Int → Bool
 | [], [] => false
 | [], _ :: _ => true
 | _ :: _, [] => false
 | a :: x, b :: y => if a = b then lexI x y else decide (a < b)
theorem zfj : ∀ x, lexI x x = false
 | [] => rfl
 | a :: x => by show (if a = a then lexI x x else _) = false; rw [if_pos rfl]; exact zfj x
theorem zck : ∀ {x y z}, lexI x y = true → lexI y z = true → lexI x z = true
 | [], [], _, h, _ => by cases h
 | [], _ :: _, [], _, h => by cases h
 | [], _ :: _, _ :: _, _, _ => rfl
 | _ :: _, [], _, h, _ => by cases h
 | _ :: _, _ :: _, [], _, h => by cases h
 | a :: x, b :: y, c :: z, h1, h2 => by
  simp only [lexI] at h1 h2 ⊢
  by_cases e1 : a = b
  ·subst e1
   rw [if_pos rfl] at h1
   by_cases e2 : a = c
   ·rw [if_pos e2] at h2 ⊢; exact zck h1 h2
   ·rw [if_neg e2] at h2 ⊢; exact h2
  ·rw [if_neg e1] at h1
   have h1 := of_decide_eq_true h1
   by_cases e2 : b = c
   ·subst e2; rw [if_neg e1]; exact decide_eq_true h1
   ·rw [if_neg e2] at h2
    have h2 := of_decide_eq_true h2
    rw [if_neg (by lia)]; exact decide_eq_true (by lia)
theorem zcp : ∀ {x y}, lexI x y = false → lexI y x = false → x = y
 | [], [], _, _ => rfl
 | [], _ :: _, h, _ => by cases h
 | _ :: _, [], _, h => by cases h
 | a :: x, b :: y, h1, h2 => by
  simp only [lexI] at h1 h2
  by_cases e : a = b
  ·subst e
   rw [if_pos rfl] at h1 h2
   rw [zcp h1 h2]
  ·rw [if_neg e] at h1
   rw [if_neg (Ne.symm e)] at h2
   have := of_decide_eq_false h1
   have := of_decide_eq_false h2
   lia
def zdh (ks : List (List Int)) (x : List Int) : Int := ((ks.filter fun k => lexI k x).length : Nat)
theorem filter_mono {α : Type} {p q : α → Bool} : ∀ (l : List α), (∀ x ∈ l, p x = true → q x = true) → (l.filter p).length ≤ (l.filter q).length
 | [], _ => Nat.le_refl _
 | x :: l, h => by
  have ih := filter_mono l fun y hy => h y (List.mem_cons_of_mem _ hy)
  rw [List.filter_cons, List.filter_cons]
  by_cases e : p x = true
  ·rw [if_pos e, if_pos (h x List.mem_cons_self e), List.length_cons, List.length_cons]; lia
  ·rw [if_neg e]
   split
   ·rw [List.length_cons]; lia
   ·exact ih
theorem zb5 {α : Type} {p q : α → Bool} {a : α} : ∀ (l : List α), (∀ x ∈ l, p x = true → q x = true) → a ∈ l → p a = false → q a = true → (l.filter p).length < (l.filter q).length
 | [], _, h, _, _ => by cases h
 | x :: l, h, hm, h1, h2 => by
  have h' : ∀ y ∈ l, p y = true → q y = true := fun y hy => h y (List.mem_cons_of_mem _ hy)
  have mono := filter_mono l h'
  rw [List.filter_cons, List.filter_cons]
  rcases List.mem_cons.mp hm with e | hm
  ·subst e
   rw [if_neg (by rw [h1]; decide), if_pos h2, List.length_cons]; lia
  ·have ih := zb5 l h' hm h1 h2
   by_cases e : p x = true
   ·rw [if_pos e, if_pos (h x List.mem_cons_self e), List.length_cons, List.length_cons]; lia
   ·rw [if_neg e]
    split
    ·rw [List.length_cons]; lia
    ·exact ih
theorem zgf {ks : List (List Int)} {x y : List Int} (hx : x ∈ ks) : decide (zdh ks x < zdh ks y) = lexI x y := by
 cases e : lexI x y with
 | true =>
  refine decide_eq_true ?_
  have := zb5 (p := fun k => lexI k x) (q := fun k => lexI k y) (a := x) ks (fun z _ h => zck h e) hx (zfj x) e
  unfold zdh; lia
 | false =>
  refine decide_eq_false ?_
  have := filter_mono (p := fun k => lexI k y) (q := fun k => lexI k x) ks fun z _ h => by
   cases q : lexI y x with
   | true => exact zck h q
   | false => rw [zcp e q]; exact h
  unfold zdh; lia
section
variable {prog : Program} {w : World} {A : Around} {E : Value → Shared → Prop} {s : Shared}
theorem zhS {flag : Bool} {Q : Bool → Shared → Prop} : ∀ (xs ys : List Int) (us vs : List Value) (i : Nat) (fin : Bool), IntsAre us xs → IntsAre vs ys →
  (fin = decide (xs.length < ys.length)) → Q (lexI xs ys) s → PySem.W.KatLex prog w A flag fin Q (us.zip vs) i s := by
 intro xs
 induction xs with
 | nil =>
  intro ys us vs i fin hu hv e h
  cases hu
  cases hv <;> (subst e; exact PySem.W.kat_nil h)
 | cons a xs ih =>
  intro ys us vs i fin hu hv e h
  cases hu with
  | cons _ t hx =>
   cases hv with
   | nil => subst e; exact PySem.W.kat_nil h
   | cons b u hy =>
    rw [List.zip_cons_cons]
    refine PySem.W.kat_cons (wpAny_eqBool_int ?_)
    simp only [lexI] at h
    by_cases q : a = b
    ·subst q
     rw [if_pos rfl] at h
     rw [beq_self_eq_true]
     refine PySem.W.kat_yes (ih _ _ _ (i + 1) fin hx hy ?_ h)
     rw [e]; simp
    ·rw [if_neg q] at h
     rw [beq_eq_false_iff_ne.mpr q]
     refine PySem.W.kat_no ?_
     cases flag && i == 0 with
     | true => exact oneLt_int h
     | false => exact PySem.W.kat_one _ _ (lt_int h)
end
end L2
namespace L2
open PySem PySem.Spec PyProof.Rows
def KeyAt (h : Heap) (v : Value) (k : List Int) : Prop := ∃ a us, v = .ref a ∧ IsTup h a (List.toArray us) ∧ IntsAre us k ∧ k ≠ []
theorem KeyAt.keeps {h h' : Heap} {v : Value} {k : List Int} (x : KeyAt h v k) (kp : ∀ a o, h.get? a = some o → o.cls = .type "tuple" → h'.get? a = some o) : KeyAt h' v k := by
 refine zaa ?_; intro G_; obtain ⟨a, us, e, ⟨o, ho, hc, n, hd⟩, i, ne⟩ := x
 exact ⟨a, us, e, ⟨o, kp a o ho hc, hc, n, hd⟩, i, ne⟩
abbrev KeysAt (h : Heap) : List Value → List (List Int) → Prop := Paired (KeyAt h)
theorem KeysAt.firsts {h : Heap} : ∀ {vs : List Value} {ks : List (List Int)}, KeysAt h vs ks → ∃ fs : List Value, fs.length = vs.length ∧ PySem.W.KatTups h vs fs ∧ ∀ f ∈ fs, ∃ i t, f = Value.int i t := by
 intro vs ks p
 induction p with
 | nil => exact ⟨[], rfl, .nil, fun _ z => nomatch z⟩
 | cons r t ih =>
  obtain ⟨fs, e, T, F⟩ := ih
  obtain ⟨a, us, rfl, ⟨o, ho, hc, n, hd⟩, hi, ne⟩ := r
  cases hi with
  | nil => exact absurd rfl ne
  | cons i tk hr =>
   refine ⟨.int i tk :: fs, by rw [List.length_cons, List.length_cons, e], .cons ho hc hd (by simp) T, fun f hf => ?_⟩
   rcases List.mem_cons.mp hf with z | z
   ·exact ⟨i, tk, z⟩
   ·exact F f z
theorem zcl {α β : Type} {R : α → β → Prop} : ∀ {xs : List α} {ys : List β}, Paired R xs ys → ∀ (i : Nat) (a : α) (b : β), i < xs.length → R (xs.getD i a) (ys.getD i b) := by
 intro xs ys h
 induction h with
 | nil => intro i a b h; exact absurd h (Nat.not_lt_zero _)
 | cons r t ih =>
  intro i a b h
  cases i with
  | zero => exact r
  | succ i => simpa using ih i a b (Nat.lt_of_succ_lt_succ h)
theorem zav {α β : Type} {R : α → β → Prop} {x : α} {y : β} (h : R x y) : ∀ {xs : List α} {ys : List β}, Paired R xs ys → Paired R (xs ++ [x]) (ys ++ [y]) := by
 intro xs ys p
 induction p with
 | nil => exact .cons h .nil
 | cons r t ih => exact .cons r ih
section
variable {prog : Program} {w : World} {A : Around} {E : Value → Shared → Prop} {s : Shared}
theorem zeI {vs : List Value} {ks : List (List Int)} {Q : SortKind → Shared → Prop} (r : KeysAt s.heap vs ks) (hn : 0 < vs.length) (h : Q (tuples' true) s) : wpAny (model prog w) A (keyKind' vs.toArray) Q E s := by
 refine zaa ?_; intro G_; obtain ⟨fs, e, T, F⟩ := r.firsts
 refine PySem.W.kat_kind (T := .type "int") T (by lia) (fun v hv => ?_) rfl h
 refine zaa ?_; intro G_; obtain ⟨i, t, rfl⟩ := F v hv
 exact PySem.W.Looks.of_pure rfl
theorem zej {vs : List Value} {ks : List (List Int)} (r : KeysAt s.heap vs ks) : Wr.Says (PySem.W.kas_ask prog w A (tuples' true) vs) (fun i => zdh ks (ks.getD i [])) vs.length s := by
 intro i j C hi hj h
 have hl : vs.length = ks.length := Paired.length r
 obtain ⟨a, us, ea, ⟨oa, ha, ca, na, da⟩, ia, _⟩ := zcl r i Value.none [] hi
 obtain ⟨b, ws, eb, ⟨ob, hb, cb, nb, db⟩, ib, _⟩ := zcl r j Value.none [] hj
 unfold PySem.W.kas_ask
 rw [ea, eb]
 have hm : ks.getD i [] ∈ ks := by
  have : i < ks.length := by lia
  simp [this]
 rw [zgf hm] at h
 refine PySem.W.kat_lt ha da hb db ?_
 refine zhS _ _ _ _ 0 _ (by simpa using ia) (by simpa using ib) ?_ h
 rw [List.size_toArray, List.size_toArray, ia.length, ib.length]
end
def zaV (kf : V → List Int) (ys : List V) : Prop := ys.Pairwise fun a b => lexI (kf b) (kf a) = false
theorem zc5 {α β : Type} (f : α → β) (xs : List α) (a : α) (b : β) (i : Nat) (h : i < xs.length) : (xs.map f).getD i b = f (xs.getD i a) := by simp [h]
theorem zeJ {α : Type} (xs : List α) (d : α) (p : List Nat) (h : p.Perm (List.range xs.length)) : (p.map fun i => xs.getD i d).Perm xs := by
 refine (h.map _).trans (List.Perm.of_eq ?_)
 apply List.ext_getElem (by simp)
 intro i h1 h2
 simp at h1
 simp [h1]
theorem getD_in {α : Type} (xs : List α) (d : α) (i : Nat) (h : i < xs.length) : xs.getD i d ∈ xs := by
 have e : xs.getD i d = xs[i] := by simp [h]
 rw [e]
 exact List.getElem_mem h
theorem zcY {kf : V → List Int} {xs : List V} {p : Array Nat} (B : Wr.PBase xs.length p) (hu : Wr.Up (fun i => zdh (xs.map kf) ((xs.map kf).getD i [])) p xs.length) (hn : 0 < xs.length) :
  zaV kf (p.toList.map fun i => xs.getD i .non) := by
 unfold zaV
 rw [List.pairwise_map, List.pairwise_iff_getElem]
 intro i j hi hj hij
 have hs := B.size
 rw [Array.length_toList] at hi hj
 have e1 : p.toList[i] = p.getD i 0 := by simp [Array.getD, hi]
 have e2 : p.toList[j] = p.getD j 0 := by simp [Array.getD, hj]
 have q := hu i j (Nat.le_of_lt hij) (by lia)
 have l1 := B.lt hn i
 have l2 := B.lt hn j
 rw [e1, e2]
 unfold Wr.Kp at q
 dsimp only at q
 rw [zc5 kf xs .non [] _ l1, zc5 kf xs .non [] _ l2] at q
 have hm : kf (xs.getD (p.getD j 0) .non) ∈ xs.map kf := List.mem_map.mpr ⟨_, getD_in xs .non _ l2, rfl⟩
 rw [← zgf hm]
 exact decide_eq_false (Int.not_lt.mpr q)
section
variable {X : Cx} {pins : List (Addr × Obj)} {σ : St} {H : Hp} {s : Shared} {E : Value → Shared → Prop}
theorem FpOk.of {b : Addr} {H' : Hp} (h : FpOk X pins H b) (n : H' b = none) : FpOk X pins H' b := ⟨n, h.2⟩
theorem Same.upd {H' : Hp} {a : Addr} {o : HO} (h : Same H H') (n : H a = none) : Same H (upd H' a o) := fun b u e => by rw [zaj (zal e n)]; exact h b u e
def zdF (X : Cx) (A : Around) (f : Value) (H : Hp) (xs : List V) (kf : V → List Int) : Prop :=
 ∀ (pins : List (Addr × Obj)) (s1 : Shared) (σ : St) (H1 : Hp) (x : V) (u : Value), Inv (atA X A) pins σ H1 s1 → Same H H1 → x ∈ xs → RelV x u →
  wpAny (model X.prog X.w) A (call f [u]) (fun r s2 => ∃ t H2, r = .ref t ∧ Inv (atA X A) pins σ H2 s2 ∧ H2 t = some (.tup ((kf x).map V.int)) ∧ Same H1 H2) (fun _ _ => False) s1
theorem zcX : ∀ {ns : List Int} {us : List Value}, Vals (ns.map V.int) us → IntsAre us ns
 | [], _, .nil => .nil
 | n :: ns, _, .cons r t => by
  obtain ⟨tk, rfl⟩ := r
  exact .cons n tk (zcX t)
theorem zio {t : Addr} {ks : List Int} (I : Inv X pins σ H s) (h : H t = some (.tup (ks.map V.int))) (ne : ks ≠ []) : KeyAt s.heap (.ref t) ks := by
 refine zaa ?_; intro G_; obtain ⟨z, its, r, p⟩ := I.hok t _ h
 exact ⟨t, its, rfl, p, zcX r, ne⟩
end
end L2
namespace L2
open PySem PySem.Spec PyProof.Rows
section
variable {X : Cx} {pins : List (Addr × Obj)} {σ : St} {H : Hp} {s : Shared} {E : Value → Shared → Prop} {A : Around}
structure Asking (X : Cx) (A : Around) (pins : List (Addr × Obj)) (σ : St) (H : Hp) (D kS : Addr) (e1 : Nat) (ks : List (List Int)) (s : Shared) : Prop where
 ex : ∃ (H1 : Hp) (ts : List Addr) (e : Nat), Inv (atA X A) pins σ H1 s ∧ Same H H1 ∧ FpOk (atA X A) pins H1 D ∧ FpOk (atA X A) pins H1 kS ∧ s.heap.get? D = some (seqObj "list" #[] e1) ∧
  s.heap.get? kS = some (seqObj "list" (List.toArray (ts.map Value.ref)) e) ∧ Paired (fun t k => H1 t = some (.tup (List.map V.int k))) ts ks
theorem zjA {ts : List Addr} {ks : List (List Int)} (I : Inv X pins σ H s) (ne : ∀ k ∈ ks, k ≠ []) (p : Paired (fun t k => H t = some (.tup (List.map V.int k))) ts ks) : KeysAt s.heap (ts.map Value.ref) ks := by
 induction p with
 | nil => exact .nil
 | cons r t ih => exact .cons (zio I r (ne _ List.mem_cons_self)) (ih fun k hk => ne k (List.mem_cons_of_mem _ hk))
theorem zcc {n : Nat} (h : n < 64) : n ≤ sizeLine := by rw [sizeLine_eq]; lia
theorem zhP {f : Value} {xs : List V} {kf : V → List Int} {D kS : Addr} {e1 : Nat} {ks : List (List Int)} {x : V} {u : Value} {R : Unit → Shared → Prop} (hDK : D ≠ kS) (hc : zdF X A f H xs kf) (hx : x ∈ xs) (r : RelV x u)
    (h64 : ks.length < 64) (a : Asking X A pins σ H D kS e1 ks s) (h : ∀ s3, Asking X A pins σ H D kS e1 (ks ++ [kf x]) s3 → R () s3) :
    wpAny (model X.prog X.w) A (call f [u]) (fun k s2 => wpAny (model X.prog X.w) A (Builtin.List.listUpdate (.ref kS) (·.push k)) R E s2) (fun _ _ => False) s := by
  refine zaa ?_; intro G_; obtain ⟨H1, ts, e, I, sm, fD, fK, oD, oK, pr⟩ := a.ex
  have I1 := I.pinned (fp := [D, kS]) (fun b hb => by rcases List.mem_cons.mp hb with z | z; · rw [z]; exact fD
                                                      · rw [List.mem_singleton.mp z]; exact fK) (fun b hb => by
    rcases List.mem_cons.mp hb with z | z
    · rw [z]; exact ⟨_, oD, fun v q => by cases q⟩
    · rw [List.mem_singleton.mp z]; exact ⟨_, oK, fun v q => by cases q⟩)
  refine wpAny_mono (hc _ s σ H1 x u I1 sm hx r) (fun k s2 ⟨t, H2, ek, I2, ht, sm2⟩ => ?_) fun _ _ z => z
  subst ek
  have pD := I2.pin (D, seqObj "list" #[] e1) (List.mem_append_right _ (List.mem_append_right _ (zbu (by simp) oD)))
  have pK := I2.pin (kS, seqObj "list" (List.toArray (ts.map Value.ref)) e) (List.mem_append_right _ (List.mem_append_right _ (zbu (by simp) oK)))
  have I3 := I2.unpinned
  have fD2 : FpOk (atA X A) pins H2 D := FpOk.of fD pD.2.1
  have fK2 : FpOk (atA X A) pins H2 kS := FpOk.of fK pK.2.1
  have hl : ts.length = ks.length := Paired.length pr
  have hz : (List.toArray (ts.map Value.ref)).size < 64 := by rw [List.size_toArray, List.length_map]; lia
  refine listUpdate_at pK.1 rfl ?_ (zcc hz) (by rw [Array.size_push]; exact Nat.succ_le_succ (zcc hz))
  have sb := Heap.SameBut.update s2.heap kS (Obj.mapSeq (·.push (Value.ref t)))
  have ea : (List.toArray (ts.map Value.ref)).push (.ref t) = List.toArray ((ts ++ [t]).map Value.ref) := by simp
  have q3 := get?_update_seq pK.1 (·.push (Value.ref t))
  rw [ea] at q3
  exact h _ ⟨H2, ts ++ [t], _, I3.turned (t' := s2.toks) (fun b o hb q => (sb.2 b hb).trans q) fK2.1 fK2.2.1 fK2.2.2.2.1 fK2.2.2.2.2.1 fK2.2.2.2.2.2, sm.trans sm2, fD2, fK2, (sb.2 D hDK).trans pD.1, q3,
    zav (R := fun (t : Addr) (k : List Int) => H2 t = some (.tup (List.map V.int k))) ht (Paired.mapP pr fun c k q => sm2 c _ q)⟩
theorem zh6 {f : Value} {xs : List V} {kf : V → List Int} {D kS : Addr} {e1 : Nat} (hDK : D ≠ kS) (hc : zdF X A f H xs kf) {body : Value → PUnit → Sem (ForInStep PUnit)}
  (hb : ∀ (u : Value) (s1 : Shared) (R : ForInStep PUnit → Shared → Prop),
   wpAny (model X.prog X.w) A (call f [u]) (fun k s2 => wpAny (model X.prog X.w) A (Builtin.List.listUpdate (.ref kS) (·.push k)) (fun _ s3 => R (.yield ⟨⟩) s3) E s2) (fun _ _ => False) s1 →
    wpAny (model X.prog X.w) A (body u ⟨⟩) R E s1) {R : PUnit → Shared → Prop} : ∀ (ys : List V) (us : List Value) (ks : List (List Int)) (s : Shared), (∀ y ∈ ys, y ∈ xs) → Vals ys us → ks.length + ys.length < 64 → Asking X A pins σ H D kS e1 ks s →
   (∀ s', Asking X A pins σ H D kS e1 (ks ++ ys.map kf) s' → R ⟨⟩ s') → wpAny (model X.prog X.w) A (forIn us PUnit.unit body) R E s := by
 intro ys
 induction ys with
 | nil =>
  intro us ks s _ v _ a h
  cases v
  rw [List.forIn_nil]
  exact wpAny_pure (h s (by rw [List.map_nil, List.append_nil]; exact a))
 | cons y ys ih =>
  intro us ks s hy v hl a h
  cases v with
  | cons r t =>
   rw [List.length_cons] at hl
   rw [List.forIn_cons]
   refine wpAny_bind (hb _ s _ (zhP hDK hc (hy y List.mem_cons_self) r (by lia) a fun s3 a3 => ?_))
   refine ih _ (ks ++ [kf y]) s3 (fun z hz => hy z (List.mem_cons_of_mem _ hz)) t (by rw [List.length_append, List.length_singleton]; lia) a3 fun s' a' => h s' ?_
   rw [List.map_cons]
   rw [List.append_assoc] at a'
   exact a'
theorem zcO : ∀ {xs : List V} {us : List Value}, Vals xs us → ∀ p : List Nat, Vals (p.map fun i => xs.getD i .non) (p.map fun i => us.getD i Value.none)
 | _, _, _, [] => .nil
 | xs, us, r, i :: p => by
  refine .cons ?_ (zcO r p)
  by_cases h : i < xs.length
  ·exact zcl r i .non Value.none h
  ·have hl := Vals.length r
   have e1 : xs.getD i .non = .non := by simp [Nat.le_of_not_lt h]
   have e2 : us.getD i Value.none = Value.none := by simp [Nat.le_of_not_lt (hl ▸ h)]
   show RelV (xs.getD i .non) (us.getD i Value.none)
   rw [e1, e2]
   rfl
theorem zhC {xs : List V} {us : List Value} {kf : V → List Int} {D kS : Addr} {e1 : Nat} {P : PySem.Fin → Shared → Prop} (hDK : D ≠ kS) (r : Vals xs us) (h64 : xs.length < 64) (ne : ∀ x ∈ xs, kf x ≠ []) (a : Asking X A pins σ H D kS e1 (xs.map kf) s)
  (h : ∀ s' H' ys, Inv (atA X A) pins σ H' s' → Same H H' → H' D = some (.lst ys) → ys.Perm xs → zaV kf ys → P (.done (.ret .none)) s') :
  wpAny (model X.prog X.w) A (do let keys ← Builtin.List.listItems (.ref kS); ksk_end D false us.toArray e1 (.ref kS) keys) P E s := by
 refine zaa ?_; intro G_; obtain ⟨H1, ts, e, I, sm, fD, fK, oD, oK, pr⟩ := a.ex
 have hD0 : H D = none := by
  cases q : H D with
  | none => rfl
  | some o => have := sm D o q; rw [fD.1] at this; cases this
 have hl := Vals.length r
 have hlk : ts.length = xs.length := by have := Paired.length pr; rw [List.length_map] at this; exact this
 refine wpAny_bind (listItems_at oK rfl ?_)
 have fin : ∀ (st : SortSt) (ys : List V) (ws : List Value), Vals ys ws → ws.length < 64 → (arrOf st).map (·.2) = List.toArray ws → failedOf st = none → ys.Perm xs → zaV kf ys → wpAny (model X.prog X.w) A (ksk_tail D false e1 (.ref kS) st) P E s := by
  intro st ys ws rv hw ho hf hp hs
  have sb := Heap.SameBut.update s.heap kS (Obj.mapSeq fun _ => (#[] : Array Value))
  have I1 := I.turned (t' := s.toks) (it := kS) (h' := s.heap.update kS (Obj.mapSeq fun _ => (#[] : Array Value))) (fun b o hb q => (sb.2 b hb).trans q) fK.1 fK.2.1 fK.2.2.2.1 fK.2.2.2.2.1 fK.2.2.2.2.2
  have oD1 : (s.heap.update kS (Obj.mapSeq fun _ => (#[] : Array Value))).get? D = some (seqObj "list" #[] e1) := (sb.2 D hDK).trans oD
  unfold ksk_tail
  dsimp only
  rw [ho]
  have hkz : (List.toArray (ts.map Value.ref)).size < 64 := by rw [List.size_toArray, List.length_map]; lia
  refine wpAny_bind (listUpdate_at oK rfl ?_ (zcc hkz) (Nat.zero_le _))
  refine wpAny_bind (wpAny_letGo ?_)
  refine wpAny_bind (seqEpoch_at oD1 rfl ?_)
  refine wpAny_bind (listUpdate_at oD1 rfl ?_ (Nat.zero_le _) (by rw [if_neg (by decide), List.size_toArray]; exact Nat.le_succ_of_le (zcc hw)))
  rw [hf]
  simp only [bne_self_eq_false, Bool.false_eq_true, if_false]
  have sb2 := Heap.SameBut.update (s.heap.update kS (Obj.mapSeq fun _ => (#[] : Array Value))) D (Obj.mapSeq fun _ => List.toArray ws)
  have q2 := get?_update_seq oD1 fun _ => List.toArray ws
  refine wpAny_pure (h _ (upd H1 D (.lst ys)) ys ?_ (sm.upd hD0) zac hp hs)
  exact Inv.track (s := { s with heap := s.heap.update kS (Obj.mapSeq fun _ => (#[] : Array Value)) }) (t := s.toks) I1 fD (fun c u hc q => (sb2.2 c hc).trans q) ⟨_, q2⟩ ⟨by rw [Vals.length rv]; exact zcc hw, ws, _, rv, q2⟩
 unfold ksk_end
 dsimp only
 rw [if_neg (by decide : ¬ false = true)]
 by_cases h2 : us.toArray.size < 2
 ·rw [if_pos h2, if_pos h2]
  have h2' : us.length < 2 := by rw [List.size_toArray] at h2; exact h2
  refine wpAny_bind (wpAny_pure ?_)
  rw [StateT.run_pure]
  refine wpAny_bind (wpAny_pure ?_)
  dsimp only
  refine fin _ xs us r (by lia) ?_ rfl (List.Perm.refl _) ?_
  ·show ((List.toArray (ts.map Value.ref)).zip us.toArray).map (·.2) = us.toArray
   apply Array.toList_inj.mp
   rw [Array.toList_map, Array.toList_zip]
   rw [List.map_snd_zip]
   simp; lia
  ·unfold zaV
   match xs, hl with
   | [], _ => exact .nil
   | [_], _ => exact List.pairwise_singleton _ _
   | _ :: _ :: _, hl => simp at hl; lia
 ·rw [if_neg h2, if_neg h2]
  have h2' : 2 ≤ us.length := by rw [List.size_toArray] at h2; lia
  have K := zjA I (fun k hk => by obtain ⟨x, hx, rfl⟩ := List.mem_map.mp hk; exact ne x hx) pr
  refine wpAny_bind (zeI K (by rw [List.length_map]; lia) ?_)
  have hlen : (ts.map Value.ref).length = us.length := by rw [List.length_map]; lia
  refine wpAny_bind (wpAny_mono (PySem.W.kat_run (Q := fun st' s' => s' = s ∧ ∃ p : Array Nat, arrOf st' = p.map (PySem.W.kas_item ((List.toArray (ts.map Value.ref)).zip us.toArray)) ∧ failedOf st' = none ∧ Wr.PBase us.length p ∧ Wr.Up (fun i => zdh (xs.map kf) ((xs.map kf).getD i [])) p us.length)
   (G := fun p s' => s' = s ∧ Wr.PBase us.length p ∧ Wr.Up (fun i => zdh (xs.map kf) ((xs.map kf).getD i [])) p us.length) hlen h2' (by lia) (fun p st' s' a1 a2 a3 a4 => ⟨a4.1, p, a2, a3, a4.2⟩) ?_) ?_ fun _ _ z => z)
  ·have S := zej (prog := X.prog) (w := X.w) (A := A) K
   rw [hlen] at S
   exact Wr.w_sort S (by lia) fun p B u => ⟨rfl, B, u⟩
  ·rintro ⟨⟨⟩, st'⟩ s' ⟨rfl, p, e1', hf, B, u⟩
   dsimp only
   have ho := PySem.W.kat_snds hlen e1'
   rw [← hl] at B u
   refine fin st' _ _ (zcO r p.toList) (by rw [List.length_map, Array.length_toList, B.size]; lia) ho hf (zeJ xs .non p.toList B.perm) (zcY B u (by lia))
end
end L2
namespace L2
open PySem PySem.Spec PyProof.Rows
section
variable {X : Cx} {pins : List (Addr × Obj)} {σ : St} {H : Hp} {s : Shared} {E : Value → Shared → Prop} {A : Around}
theorem zfM {k : Nat} {f : Addr} {fd : FuncData} {p : Str} {sp : Sp} {xs : List V} {kf : V → List Int} (F : FnOk X.prog X.w X.K X.mg X.base CX0 k f fd [p] sp) (hr : Room k A) (hb : Binds X.K fd [p] [])
  (hs : ∀ H1 x, Same H H1 → x ∈ xs → sp [x] H1 (fun r H2 => ∃ t, r = .ref t ∧ H2 t = some (.tup ((kf x).map V.int)) ∧ Same H1 H2) E0) : zdF X A (.ref f) H xs kf := by
 intro pins s1 σ H1 x u I sm hx r
 have I' := I.wish (fun _ _ => False)
 refine wpAny_mono (zii (X := (atA X A).nox) (dvs := []) (ds := []) (vs := [x]) F hr hb .nil zkZ I' (.cons r .nil) (hs H1 x sm hx)) (fun v s2 ⟨y, H2, I2, ry, t, e, ht, sm2⟩ => ?_) fun _ _ z => z
 subst e
 cases ry
 exact ⟨t, H2, rfl, I2.unwish, ht, sm2⟩
theorem zeA {l : Addr} {f : Value} {xs : List V} {kf : V → List Int} {Q : VK} (I : Inv X pins σ H s) (hl : SqL X.K H l xs) (h64 : xs.length < 64) (ne : ∀ x ∈ xs, kf x ≠ []) (hc : ∀ H0, Same H H0 → zdF X X.A.in1.in1 f H0 xs kf)
  (ht : ∀ a, Builtin.«list.sort» ⟨[.ref a], [(Str.ofString "key", f)]⟩ = ksk_tree a f false)
  (h : ∀ D H' ys, Same H H' → H D = none → H' D = some (.lst ys) → ys.Perm xs → zaV kf ys → Q (.ref D) H') :
  wpAny (model X.prog X.w) X.A (call (.builtin "sorted") [.ref l] [(Str.ofString "key", f)]) (EP X pins σ Q) X.xe s := by
 refine zaa ?_; intro G_; obtain ⟨us, r, pl, _⟩ := I.list hl
 have hlen := r.length
 have hz : us.length ≤ sizeLine := zcc (by lia)
 refine call_function_entry_kw kind_sorted plain_sorted entry_sorted (ksk_s1 _ _) ?_
 unfold Builtin.«sorted»
 refine wpAny_bind (m := checkCount "sorted" 1 1 _) (wpAny_pure (wpAny_bind (collect_list pl.isList (wpAny_bind (wpAny_newList ?_ hz)) hz)))
 have I1 : Inv X pins σ H { s with heap := (s.heap.push (seqObj "list" #[] 0)).update s.heap.objs.size (Obj.mapSeq (· ++ us.toArray)) } := I.kept (t' := s.toks) fun b o q => by
  have hb : b < s.heap.objs.size := Heap.lt_size q
  rw [Heap.get?_update_other _ _ (Nat.ne_of_gt hb)]
  exact Heap.get?_push_of_some _ q
 generalize hs1 : ({ s with heap := (s.heap.push (seqObj "list" #[] 0)).update s.heap.objs.size (Obj.mapSeq (· ++ us.toArray)) } : Shared) = s1 at I1
 have I2 : Inv X pins σ H { s1 with heap := s1.heap.push (seqObj "list" us.toArray 0) } := I1.kept (t' := s1.toks) fun b o q => Heap.get?_push_of_some _ q
 have hD : H s1.heap.objs.size = none := I1.fresh
 have fD := I1.fpOk (H' := H) (Nat.le_refl _) hD
 have oD : (s1.heap.push (seqObj "list" us.toArray 0)).get? s1.heap.objs.size = some (seqObj "list" us.toArray 0) := Heap.get?_push_size _ rfl
 rw [← hs1] at oD ⊢
 refine wpAny_bind (wpAny_holding (wpAny_call_entry_kw slot_list_sort ⟨_, oD, rfl⟩ entry_list_sort ?_ (ksk_l1 _ _)))
 rw [hs1] at oD
 rw [ht]
 show wpAny _ X.A.in1.in1 (ksk_tree (({ s with heap := (s.heap.push (seqObj "list" #[] 0)).update s.heap.objs.size (Obj.mapSeq (· ++ us.toArray)) } : Shared).heap.objs.size) f false) _ _
  { (({ s with heap := (s.heap.push (seqObj "list" #[] 0)).update s.heap.objs.size (Obj.mapSeq (· ++ us.toArray)) } : Shared)) with heap := (({ s with heap := (s.heap.push (seqObj "list" #[] 0)).update s.heap.objs.size (Obj.mapSeq (· ++ us.toArray)) } : Shared)).heap.push (seqObj "list" us.toArray 0) }
 rw [hs1]
 generalize hDe : s1.heap.objs.size = D at oD hD fD
 unfold ksk_tree
 have sb := Heap.SameBut.update (s1.heap.push (seqObj "list" us.toArray 0)) D (Obj.mapSeq fun _ => (#[] : Array Value))
 have q1 := get?_update_seq oD fun _ => (#[] : Array Value)
 have I3 := I2.turned (it := D) (t' := s1.toks) (h' := (s1.heap.push (seqObj "list" us.toArray 0)).update D (Obj.mapSeq fun _ => (#[] : Array Value))) (fun b o hb q => (sb.2 b hb).trans q) fD.1 fD.2.1 fD.2.2.2.1 fD.2.2.2.2.1 fD.2.2.2.2.2
 refine wpAny_bind (listItems_at oD rfl (wpAny_bind (listUpdate_at oD rfl ?_ (by rw [List.size_toArray]; exact hz) (Nat.zero_le _))))
 refine wpAny_bind (seqEpoch_at q1 rfl (wpAny_bind (wpAny_newTuple ?_ hz)))
 refine wpAny_bind (wpAny_newList ?_ (Nat.zero_le _))
 refine wpAny_holding ?_
 generalize he1 : (if (#[] : Array Value).size == us.toArray.size then 0 else 0 + 1) = e1 at q1
 generalize hh3 : (s1.heap.push (seqObj "list" us.toArray 0)).update D (Obj.mapSeq fun _ => (#[] : Array Value)) = h3 at q1 I3
 have I4 : Inv X pins σ H { s1 with heap := h3.push (seqObj "tuple" us.toArray 0) } := I3.kept (s := { s1 with heap := h3 }) (t' := s1.toks) fun b o q => Heap.get?_push_of_some _ q
 have hK : H (h3.push (seqObj "tuple" us.toArray 0)).objs.size = none := I4.fresh
 have fK := I4.fpOk (H' := H) (Nat.le_refl _) hK
 have I5 : Inv X pins σ H { s1 with heap := (h3.push (seqObj "tuple" us.toArray 0)).push (seqObj "list" #[] 0) } := I4.kept (s := { s1 with heap := h3.push (seqObj "tuple" us.toArray 0) }) (t' := s1.toks) fun b o q => Heap.get?_push_of_some _ q
 have oK : ((h3.push (seqObj "tuple" us.toArray 0)).push (seqObj "list" #[] 0)).get? (h3.push (seqObj "tuple" us.toArray 0)).objs.size = some (seqObj "list" #[] 0) := Heap.get?_push_size _ rfl
 have oD2 : ((h3.push (seqObj "tuple" us.toArray 0)).push (seqObj "list" #[] 0)).get? D = some (seqObj "list" #[] e1) := Heap.get?_push_of_some _ (Heap.get?_push_of_some _ q1)
 have hDK : D ≠ (h3.push (seqObj "tuple" us.toArray 0)).objs.size := Nat.ne_of_lt (Heap.lt_size (Heap.get?_push_of_some _ q1))
 show wpAny _ _ (ksk_rest D f false us.toArray e1 (.ref (h3.push (seqObj "tuple" us.toArray 0)).objs.size)) _ _ { s1 with heap := (h3.push (seqObj "tuple" us.toArray 0)).push (seqObj "list" #[] 0) }
 generalize hkS : (h3.push (seqObj "tuple" us.toArray 0)).objs.size = kS at oK fK hDK
 generalize hs5 : ({ s1 with heap := (h3.push (seqObj "tuple" us.toArray 0)).push (seqObj "list" #[] 0) } : Shared) = s5 at I5
 have oK' : s5.heap.get? kS = some (seqObj "list" #[] 0) := by rw [← hs5]; exact oK
 have oD' : s5.heap.get? D = some (seqObj "list" #[] e1) := by rw [← hs5]; exact oD2
 have a0 : Asking X X.A.in1.in1 pins σ H D kS e1 [] s5 := ⟨H, [], 0, zje I5, Same.refl _, fD, fK, oD', oK', .nil⟩
 unfold ksk_rest
 refine wpAny_bind (wpAny_rule ?_)
 rw [List.forIn_toArray]
 refine wpAny_bind (zh6 hDK (hc H (Same.refl _)) (fun u s6 R h6 => ?_) xs us [] s5 (fun _ z => z) r (by rw [List.length_nil]; lia) a0 fun s6 a6 => ?_)
 ·refine wpAny_bind (wpAny_attempt (wpAny_mono h6 (fun k s7 h7 => ?_) fun _ _ z => z.elim))
  exact wpAny_bind (wpAny_mono h7 (fun _ s8 h8 => wpAny_pure h8) fun _ _ z => z)
 ·rw [List.nil_append] at a6
  refine zhC hDK r h64 ne a6 fun s7 H7 ys I7 sm7 h7 p7 o7 => ⟨.none, rfl, ?_⟩
  exact wpAny_pure (exg _ rfl ⟨.ref D, H7, zkW I7 (fun z => I.ok.hd z) I.ok.frames, rfl, h D H7 ys sm7 hD h7 p7 o7⟩)
def zgb (K : PySem.W.Frag) (sp : Sp) (t : TA) : TE := fun σ H Q => t σ H fun vs H1 => ∃ l xs kf, vs = [.ref l] ∧ SqL K H1 l xs ∧ xs.length < 64 ∧ (∀ x ∈ xs, kf x ≠ []) ∧
 (∀ H2 y, Same H1 H2 → y ∈ xs → sp [y] H2 (fun r H3 => ∃ t, r = .ref t ∧ H3 t = some (.tup (List.map V.int (kf y))) ∧ Same H2 H3) E0) ∧
 ∀ D H' ys, Same H1 H' → H1 D = none → H' D = some (.lst ys) → ys.Perm xs → zaV kf ys → Q (.ref D) H'
theorem zfP {k : Nat} {f : Addr} {fd : FuncData} {pn fx : Str} {sp : Sp} {e : Expr} {t : TA} {p pos fp kp : Pos} (F : FnOk X.prog X.w X.K X.mg X.base CX0 k f fd [pn] sp) (hr : Room (k + 2) X.A) (hgs : Gl X "sorted") (hms : X.mg "sorted" = none)
  (hg : Gl X fx) (hm : X.mg fx = some (.ref f)) (hb : Binds X.K fd [pn] []) (he : PA X [e] t) (hd : (fx == ("__debug__" : Str)) = false := by decide)
  (hs : starEach [e] X.env = [(false, eval e X.env)] := by rfl) : PE X (.Call (.Name "sorted" p) [e] [⟨some "key", .Name fx fp, kp⟩] pos) (zgb X.K sp t) := by
 intro pins s σ H Q I h
 refine wpAny_Call_Name_kw (zdr I hgs hms boot_sorted ?_)
 refine callWith_kw (thn (he pos pins s σ H _ I h) fun us s1 ⟨vs, H1, I1, r1, q1⟩ => ?_) (by rw [hs]; rfl) (by rw [hs]; rfl)
 refine zaa ?_; intro G_; obtain ⟨l, xs, kf, rfl, hl, h64, ne, hk, hq⟩ := q1
 refine zaa ?_; intro G_; obtain ⟨u, rfl, ru⟩ := Vals.one r1
 cases ru
 refine thn (zi3 (nm := some "key") (kpos := kp) (zgy (pos := fp) (v := .ref f) hg hm rfl hd) zk0 pos pins s1 σ H1 (fun zs H2 => zs = [.ref f] ∧ H2 = H1) I1 ⟨rfl, rfl⟩) fun kv s2 ⟨zs, H2, I2, r2, e2, e3⟩ => ?_
 subst e2; subst e3
 refine zaa ?_; intro G_; obtain ⟨u, rfl, ru⟩ := Vals.one r2
 cases ru
 show wpAny _ _ (call (.builtin "sorted") [.ref l] [(Str.ofString "key", .ref f)]) _ _ s2
 exact zeA I2 hl h64 ne (fun H0 sm => zfM F (hr.in1.in1) hb fun H3 y s3 hy => hk H3 y (sm.trans s3) hy) (fun a => ksk_t1 f a) hq
end
end L2
namespace L2
open PySem PySem.Spec PyProof.Rows
mutual
inductive Den (K : PySem.W.Frag) (H : Hp) : V → PyData → Prop
 | non : Den K H .non .none
 | bl (b : Bool) : Den K H (.bl b) (.bool b)
 | int (i : Int) : Den K H (.int i) (.int i)
 | str (x : Str) : Den K H (.str x) (.str x)
 | lst {a : Addr} {xs : List V} {ds : List PyData} : SqL K H a xs → DenAll K H xs ds → Den K H (.ref a) (.list ds)
 | tup {a : Addr} {xs : List V} {ds : List PyData} : SqT K H a xs → DenAll K H xs ds → Den K H (.ref a) (.tuple ds)
inductive DenAll (K : PySem.W.Frag) (H : Hp) : List V → List PyData → Prop
 | nil : DenAll K H [] []
 | cons {x : V} {d : PyData} {xs : List V} {ds : List PyData} : Den K H x d → DenAll K H xs ds → DenAll K H (x :: xs) (d :: ds)
end
section
variable {X : Cx} {pins : List (Addr × Obj)} {σ : St} {H H' : Hp} {s : Shared}
mutual
theorem zbK (I : Inv X pins σ H s) : ∀ {v : V} {d : PyData} {u : Value}, Den X.K H v d → RelV v u → ∃ as, Reads s.heap u d as
 | _, _, _, .non, r => by cases r; exact ⟨_, .none⟩
 | _, _, _, .bl b, r => by cases r; exact ⟨_, .bool b⟩
 | _, _, _, .int i, r => by obtain ⟨t, rfl⟩ := r; exact ⟨_, .int i t⟩
 | _, _, _, .str x, r => by obtain ⟨t, rfl⟩ := r; exact ⟨_, .str x t⟩
 | _, _, _, .lst hq ha, r => by
  cases r
  refine zaa ?_; intro G_; obtain ⟨its, rv, ⟨o, n, e, c, dd, da⟩, _⟩ := I.list hq
  obtain ⟨as, q⟩ := zcT I ha rv
  exact ⟨_, .list e c da (by simpa using q)⟩
 | _, _, _, .tup hq ha, r => by
  cases r
  refine zaa ?_; intro G_; obtain ⟨its, rv, ⟨o, e, c, n, da⟩, _⟩ := I.tuple hq
  obtain ⟨as, q⟩ := zcT I ha rv
  exact ⟨_, .tuple e c da (by simpa using q)⟩
theorem zcT (I : Inv X pins σ H s) : ∀ {vs : List V} {ds : List PyData} {us : List Value}, DenAll X.K H vs ds → Vals vs us → ∃ as, ReadsAll s.heap us ds as
 | _, _, _, .nil, .nil => ⟨_, .nil⟩
 | _, _, _, .cons d t, .cons r q => by
  obtain ⟨as, h1⟩ := zbK I d r
  obtain ⟨bs, h2⟩ := zcT I t q
  exact ⟨_, .cons h1 h2⟩
end
def rEqD (K : PySem.W.Frag) : R2 := fun x y H Q => ∃ d e, Den K H x d ∧ Den K H y e ∧ SeqAt.shaped d = true ∧ SeqAt.shaped e = true ∧ Q (.bl (PyData.eqv d e)) H
def rNeD (K : PySem.W.Frag) : R2 := fun x y H Q => ∃ d e, Den K H x d ∧ Den K H y e ∧ SeqAt.shaped d = true ∧ SeqAt.shaped e = true ∧ Q (.bl (!PyData.eqv d e)) H
theorem zj7 (hu : X.A.units + 64 < cLine) : OpR X (compareOp .Eq) (rEqD X.K) := by
 rintro pins s σ H x y v u Q I rx ry ⟨d, e, h1, h2, s1, s2, q⟩
 obtain ⟨as, r1⟩ := zbK I h1 rx
 obtain ⟨bs, r2⟩ := zbK I h2 ry
 exact eq_dataH r1 r2 s1 s2 hu ⟨.bl _, H, I, rfl, q⟩
theorem zkc (hu : X.A.units + 64 < cLine) : OpR X (compareOp .NotEq) (rNeD X.K) := by
 rintro pins s σ H x y v u Q I rx ry ⟨d, e, h1, h2, s1, s2, q⟩
 obtain ⟨as, r1⟩ := zbK I h1 rx
 obtain ⟨bs, r2⟩ := zbK I h2 ry
 exact ne_dataH r1 r2 s1 s2 hu ⟨.bl _, H, I, rfl, q⟩
def zk3 (K : PySem.W.Frag) : List V → Hp → VK → Prop := fun vs H Q => ∃ l bs, vs = [.ref l] ∧ SqL K H l (List.map V.bl bs) ∧ Q (.bl (bs.any id)) H
theorem zce : ∀ {bs : List Bool} {us : List Value}, Vals (bs.map V.bl) us → us = bs.map Value.bool
 | [], _, .nil => rfl
 | b :: bs, _, .cons r t => by cases r; rw [zce t]; rfl
theorem any_range (bs : List Bool) : (List.range bs.length).any (fun i => bs.getD i false) = bs.any id := by
 have e : bs = (List.range bs.length).map fun i => bs.getD i false := by
  apply List.ext_getElem (by simp)
  intro i h1 h2
  simp [h1]
 conv => rhs; rw [e]
 rw [List.any_map]
 rfl
theorem zdv (hc : X.calm = true) : zcA X (.builtin "any") (zk3 X.K) := by
 rintro pins s σ H vs us Q I r ⟨l, bs, e, hl, q⟩
 subst e
 refine zaa ?_; intro G_; obtain ⟨u, rfl, ru⟩ := Vals.one r
 cases ru
 refine zaa ?_; intro G_; obtain ⟨its, rv, pl, _⟩ := I.list hl
 have ei := zce rv
 subst ei
 have hd : X.A.in1.handled = none := I.ok.hd hc
 have hlt : l < s.heap.objs.size := by obtain ⟨o, n, e, _⟩ := pl; exact Heap.lt_size e
 refine call_any_walk (wpAny_pyIter_list pl.isList ⟨_, _, _, _, _, _, (fun i => bs.getD i false), rfl, Walks.list hd _ l (Nat.ne_of_lt hlt) _, ⟨⟨_, Heap.get?_push_size _ rfl, rfl, rfl⟩, pl.isList.push _⟩, ?_, fun h' tk hk => ?_⟩)
 ·intro i v s' Q' E' hv hq
  have hv' : (List.map Value.bool bs)[i]? = some v := by simpa using hv
  rw [List.getElem?_map] at hv'
  cases e : bs[i]? with
  | none => rw [e] at hv'; cases hv'
  | some b =>
   rw [e] at hv'
   cases hv'
   have eb : bs.getD i false = b := by rw [List.getD_eq_getElem?_getD, e]; rfl
   dsimp only at hq
   rw [eb] at hq
   exact wpAny_truthy_bool hq
 ·have ek : (List.map Value.bool bs).toArray.size = bs.length := by simp
  rw [ek, any_range]
  refine ⟨.bl _, H, I.kept (fun b o q' => hk b o (fun hm => ?_) (Heap.get?_push_of_some _ q')), rfl, q⟩
  have : b = s.heap.objs.size := by simpa using hm
  exact absurd (this ▸ Heap.lt_size q') (Nat.lt_irrefl _)
def zkn (K : PySem.W.Frag) : List V → Hp → VK → Prop := fun vs H Q => ∃ l ns, vs = [.ref l] ∧ SqL K H l (List.map V.int ns) ∧ Q (.int (List.sum ns)) H
theorem zdL (hc : X.calm = true) : zcA X (.builtin "sum") (zkn X.K) := by
 rintro pins s σ H vs us Q I r ⟨l, ns, e, hl, q⟩
 subst e
 refine zaa ?_; intro G_; obtain ⟨u, rfl, ru⟩ := Vals.one r
 cases ru
 refine zaa ?_; intro G_; obtain ⟨its, rv, pl, _⟩ := I.list hl
 have hi := zcX rv
 obtain ⟨m, F⟩ := I.fr
 have hd : X.A.handled = none := I.ok.hd hc
 obtain ⟨xs, hx⟩ := hi.allInts.items
 have hL : s.heap.IsList l (intItems xs) := by rw [← hx]; exact pl.isList
 refine sum_intListG hd hL fun h' tk t' hk => ⟨.int _, H, I.kept hk, ⟨t', ?_⟩, q⟩
 have e1 : (numsOf (intItems xs).toList) = ns := by rw [← hx]; exact hi.numsOf
 rw [← e1, nums_intItems, preSum_eq, List.take_of_length_le (by simp)]
end
end L2
namespace L2
open PySem PySem.Spec PyProof.Rows
abbrev NoX : Value → Shared → Prop := fun _ _ => False
section
variable {prog : Program} {w : World} {A : Around} {R : Result → Shared → Prop} {s : Shared}
abbrev zhe (ifs : List Expr) (env : Env) : Sem Bool := forIn ifs true fun c r => if r = true then do let ok ← isTrue c env (eval c env); pure (ForInStep.yield ok) else pure (ForInStep.yield r)
theorem zfW {elt target iter : Expr} {ifs : List Expr} {scope : Scope} {pos : Pos} {it acc : Value} {env : Env} (I : Nat → Shared → Prop)
  (turn : ∀ n s, I n s → wpAny (model prog w) A (pyNext it) (fun r s1 => match r with
   | none => R (.ok .next) s1
   | some v => wpAny (model prog w) A (letOwnedTupleGo target it v) (fun _ s2 => wpAny (model prog w) A (assign target env v) (fun _ s3 => wpAny (model prog w) A (zhe ifs env) (fun ok s4 =>
     if ok = true then wpAny (model prog w) A (eval elt env) (fun x s5 => wpAny (model prog w) A (call (.builtin "list.append") [acc, x]) (fun _ s6 => ∃ m, m < n ∧ I m s6) NoX s5) NoX s4
     else ∃ m, m < n ∧ I m s4) NoX s3) NoX s2) NoX s1) NoX s)
  (n : Nat) (h : I n s) : codeAny (model prog w) A (.compLoop (.ListComp elt [⟨target, iter, ifs, 0⟩] scope pos) 0 it acc env) R s := by
 refine codeAny_loop rfl I (fun n s hI => ?_) n h
 show wpAny _ A (Sem.onRaise (compTurn (.ListComp elt [⟨target, iter, ifs, 0⟩] scope pos) 0 it acc env) (fun x => do noteFrame x env; theTreesLotGoes x)) _ _ s
 refine wpAny_noted (wpAny_mono (E := NoX) ?_ (fun _ _ z => z) fun _ _ z => z.elim)
 rw [compTurn_list]
 refine wpAny_bind (wpAny_standAt (wpAny_bind (thn (turn n s hI) fun r s1 h1 => ?_)))
 cases r with
 | none => exact wpAny_pure h1
 | some v =>
  refine wpAny_bind (thn h1 fun _ s2 h2 => wpAny_bind (thn h2 fun _ s3 h3 => wpAny_bind (thn h3 fun ok s4 h4 => ?_)))
  cases ok with
  | false => exact wpAny_pure ⟨rfl, h4⟩
  | true => exact wpAny_bind (wpAny_bind (thn h4 fun x s5 h5 => wpAny_bind (thn h5 fun _ s6 h6 => wpAny_pure (wpAny_pure ⟨rfl, h6⟩))))
end
abbrev za3 (X : Cx) (pins : List (Addr × Obj)) (scope : Scope) (cl : List (Str × Addr)) (C : Addr) (Nc : List Str) (s3 : Shared) (H3 : Hp) (fp : List Addr) : Cx :=
 { X with N := Nc, s₀ := s3, H₀ := H3, env := compEnvC scope cl C X.env, outer := X.stack, ex := fp, fn := fun _ => false, pn := X.pn ++ pins, xe := NoX }
def capt (js : List (Option Nat)) (σ : St) : St := js.map fun j => match j with | some j => (σ[j]?).join | none => none
structure CompScope (X : Cx) (scope : Scope) (cl : List (Str × Addr)) (Nc : List Str) (js : List (Option Nat)) : Prop where
 clos : closureFor scope X.env = pure cl
 cell : ∀ y ∈ scope.names, y.2 ≠ .cell
 kind : scope.kind = .function
 nms : ∀ y ∈ scope.names, y.2 = .local → scope.names.lookup y.1 = some .local
 sub : ∀ x c, cl.lookup x = some c → X.env.cells.lookup x = some c
 has : ∀ x, ((relabel scope X.env).names.lookup x = some .cell ∨ (relabel scope X.env).names.lookup x = some .free) → ∃ c, cl.lookup x = some c
 len : js.length = Nc.length
 cap : ∀ (i : Nat) (x : Str) (j : Nat), Nc[i]? = some x → js[i]? = some (some j) → X.N[j]? = some x ∧ (X.env.kindOf x = some .cell ∨ X.env.kindOf x = some .free) ∧ ((relabel scope X.env).names.lookup x = some .cell ∨ (relabel scope X.env).names.lookup x = some .free)
section
variable {X : Cx} {pins : List (Addr × Obj)} {σ : St} {H : Hp} {s : Shared} {scope : Scope} {cl : List (Str × Addr)} {Nc : List Str} {js : List (Option Nat)} {C : Addr} {fp : List Addr} {h1 : Heap} {tk : Nat} {m : Str → Option Value}
theorem zhp (S : CompScope X scope cl Nc js) (I : Inv X pins σ H s) (hf : ∀ b ∈ fp, FpOk X pins H b) (hfo : ∀ b ∈ fp, ∃ o, s.heap.get? b = some o) (hC : s.heap.objs.size ≤ C) (hn : h1.Ns C m) (k : ∀ b o, s.heap.get? b = some o → h1.get? b = some o) :
  Inv (za3 X pins scope cl C Nc s H fp) [] (capt js σ) H { s with heap := h1, toks := tk } := by
 have lt : ∀ {b : Addr} {o : Obj}, s.heap.get? b = some o → b ≠ C := fun e => Nat.ne_of_lt (Nat.lt_of_lt_of_le (Heap.lt_size e) hC)
 have hCn : H C = none := I.hok.fresh hC
 have hce : ∀ x c, cl.lookup x = some c → c ≠ C := fun x c e => by
  refine zaa ?_; intro G_; obtain ⟨v, o, ho, _⟩ := I.cell x c (S.sub x c e)
  exact lt ho
 refine ⟨⟨I.ok.mod, S.kind, I.ok.glob, I.ok.blt, hC, fun x y c e1 e2 => I.ok.inj x y c (S.sub x c e1) (S.sub y c e2), fun x hx => S.has x hx, (fun x c z => absurd z Bool.false_ne_true), (fun z => I.ok.hd z), I.ok.frames, .inl rfl, fun b hb => ?_, I.bs,
  Nat.le_trans I.ok.bsz I.sz, fun b o e hb => ?_, fun b hb hs => ?_, I.stack, I.stkFree⟩, rfl, I.bare, Un.kept k, ⟨m, hn, fun i x v e1 e2 e3 => ?_⟩, fun x c e => ?_, hCn, fun x c e => I.freeC x c (S.sub x c e), fun p hp => ?_, I.hok.kept k, ?_⟩
 ·obtain ⟨o, ho⟩ := hfo b hb
  exact ⟨lt ho, fun x c e => (hf b hb).2.2.2.2.1 x c (S.sub x c e)⟩
 ·rcases (hf b hb).2.2.2.1 with z | z
  ·exact I.ok.noex b o e z
  ·exact absurd (Nat.lt_of_lt_of_le (Heap.lt_size e) (Nat.le_trans I.ok.bsz z)) (Nat.lt_irrefl _)
 ·rcases List.mem_cons.mp (I.stkSub b hs) with z | z
  ·exact (hf b hb).2.1 z
  ·exact (hf b hb).2.2.1 z
 ·unfold capt at e2
  rw [List.getElem?_map] at e2
  cases ej : js[i]? with
  | none => rw [ej] at e2; cases e2
  | some oj =>
   rw [ej] at e2
   cases oj with
   | none => cases e2
   | some j =>
    have e2' : (σ[j]?).join = some v := Option.some.inj e2
    refine zaa ?_; intro G_; obtain ⟨c1, c2, c3⟩ := S.cap i x j e1 ej
    have e4 : σ[j]? = some (some v) := by
     cases q : σ[j]? with
     | none => rw [q] at e2'; cases e2'
     | some o => rw [q] at e2'; cases o with
      | none => cases e2'
      | some z => cases e2'; rfl
    refine zaa ?_; intro G_; obtain ⟨mo, hmo, hl⟩ := I.loc
    have vis : Vis X.env.scope x := by rcases c2 with z | z; exact .inr (.inl z); exact .inr (.inr z)
    refine zaa ?_; intro G_; obtain ⟨u, r, l⟩ := hl j x v c1 e4 vis
    refine ⟨u, r, .inr ⟨c3, ?_⟩⟩
    rcases l with ⟨z, _⟩ | ⟨_, c, hc, hcell⟩
    ·rcases c2 with y | y <;> rw [z] at y <;> cases y
    ·obtain ⟨c', hc'⟩ := S.has x c3
     have := S.sub x c' hc'
     rw [hc] at this; cases this
     refine zaa ?_; intro G_; obtain ⟨o, ho, hd⟩ := hcell
     exact ⟨c, hc', o, k c o ho, hd⟩
 ·refine zaa ?_; intro G_; obtain ⟨v, o, ho, hd⟩ := I.cell x c (S.sub x c e)
  exact ⟨v, o, k c o ho, hd⟩
 ·have hp' : p ∈ X.pn ++ pins := by simpa using hp
  refine zaa ?_; intro G_; obtain ⟨e, n, ne, nf, d⟩ := I.pin p hp'
  refine ⟨k _ _ e, n, lt e, fun z => ?_, d⟩
  rcases List.mem_cons.mp (I.stkSub p.1 z) with y | y
  ·exact ne y
  ·exact nf y
 ·show (capt js σ).length = Nc.length
  unfold capt
  rw [List.length_map]
  exact S.len
def zex (J : It) (g : TG) (tt : TT) (te : TE) (D : Addr) (Q : VK) (σ : St) (H : Hp) : Prop :=
 ∃ W : Nat → Nat → St → Hp → Prop, (∃ m, W 0 m σ H) ∧ ∀ i m σ2 H2, W i m σ2 H2 →
  (J.stop i H2 ∧ Q (.ref D) H2) ∨ (J.go i H2 ∧ ∃ N : St → Hp → Prop, (∀ σ' H', N σ' H' → ∃ m', m' < m ∧ W (i + 1) m' σ' H') ∧
   ∀ x H', J.yld i H2 x H' → g x σ2 H' fun σ3 H3 => tt σ3 H3 fun b H4 => if b = true then te σ3 H4 fun v H5 => ∃ ys, H5 D = some (.lst ys) ∧ ys.length < sizeLine ∧ N σ3 (upd H5 D (.lst (ys ++ [v]))) else N σ3 H4)
def PIf (X : Cx) (ifs : List Expr) (t : TT) : Prop :=
 ∀ (pins : List (Addr × Obj)) (s : Shared) (σ : St) (H : Hp) (Q : Bool → Hp → Prop), Inv X pins σ H s → t σ H Q → wpAny (model X.prog X.w) X.A (zhe ifs X.env) (TP X pins σ Q) X.xe s
def tYes : TT := fun _ H Q => Q true H
theorem zjB : PIf X [] tYes := fun _ _ _ H _ I h => wpAny_tests_nil ⟨H, I, h⟩
theorem zjo {c : Expr} {t : TT} (h : PT X c t) : PIf X [c] t := fun pins s σ H Q I hw => wpAny_tests_one (h pins s σ H Q I hw)
theorem zhz {elt target iter : Expr} {ifs : List Expr} {pos : Pos} {g : TG} {tt : TT} {te : TE} {Q : VK} {J : It} {it D : Addr} {tn : Nat → Heap → Prop} {R : Result → Shared → Prop} {s4 : Shared} {σc : St} {Hc : Hp}
  (hc : X.calm = true) (T : Turn X.prog X.w X.K target J fp it tn) (hf : ∀ b ∈ fp, FpOk X pins H b)
  (hg : PG (za3 X pins scope cl C Nc s H fp) target g) (ht : PIf (za3 X pins scope cl C Nc s H fp) ifs tt) (he : PE (za3 X pins scope cl C Nc s H fp) elt te)
  (I : Inv (za3 X pins scope cl C Nc s H fp) [] σc Hc s4) (st : tn 0 s4.heap) (fr : ∀ b ∈ fp, Hc b = none) (hw : zex J g tt te D Q σc Hc)
  (h : ∀ s' σ' H', Inv (za3 X pins scope cl C Nc s H fp) [] σ' H' s' → (∀ b ∈ fp, H' b = none) → Q (.ref D) H' → R (.ok .next) s') :
  codeAny (model X.prog X.w) X.A (.compLoop (.ListComp elt [⟨target, iter, ifs, 0⟩] scope pos) 0 (.ref it) (.ref D) (compEnvC scope cl C X.env)) R s4 := by
 refine zaa ?_; intro G_; obtain ⟨W, ⟨m0, w0⟩, turn⟩ := hw
 have ok := I.ok
 have stat : ∀ {H' : Hp}, (∀ b ∈ fp, H' b = none) → ∀ b ∈ fp, FpOk (za3 X pins scope cl C Nc s H fp) [] H' b := fun hn b hb =>
  ⟨hn b hb, (ok.exf b hb).1, ok.exfs b hb, .inl hb, (ok.exf b hb).2, fun p hp => (hf b hb).2.2.2.2.2 p (by simpa using hp)⟩
 refine zfW (fun n s' => ∃ i σ' H', Inv (za3 X pins scope cl C Nc s H fp) [] σ' H' s' ∧ tn i s'.heap ∧ (∀ b ∈ fp, H' b = none) ∧ W i n σ' H') ?_ m0 ⟨0, σc, Hc, I, st, fr, w0⟩
 intro n s5 h_
 refine zaa ?_; intro G_; obtain ⟨i, σ5, H5, I5, st5, fr5, w5⟩ := h_
 rcases turn i n σ5 H5 w5 with ⟨stop, qn⟩ | ⟨go, N, hN, step⟩
 ·refine thn (T.done (za3 X pins scope cl C Nc s H fp) rfl rfl rfl hc i [] s5 σ5 H5 NoX I5 (stat fr5) st5 stop) fun r s6 ⟨hr, I6⟩ => ?_
  subst hr
  exact h s6 σ5 H5 I6 fr5 qn
 ·refine thn (T.item (za3 X pins scope cl C Nc s H fp) rfl rfl rfl hc i [] s5 σ5 H5 NoX I5 (stat fr5) st5 go) fun r s6 ⟨u, hr, h6⟩ => ?_
  subst hr
  refine thn h6 fun _ s7 ⟨x, H7, I7, r7, y7, st7, fr7⟩ => ?_
  have I7' := I7.pinned (stat fr7) (T.obj _ _ st7)
  refine thn (hg _ s7 σ5 H7 x u _ I7' r7 (step x H7 y7)) fun _ s8 ⟨σ8, H8, I8, q8⟩ => ?_
  refine thn (ht _ s8 σ8 H8 _ I8 q8) fun b s9 ⟨H9, I9, q9⟩ => ?_
  have again : ∀ {σ' : St} {H' : Hp} {s' : Shared}, Inv (za3 X pins scope cl C Nc s H fp) ([] ++ zez fp s7.heap) σ' H' s' → N σ' H' → ∃ m, m < n ∧ ∃ i σ' H', Inv (za3 X pins scope cl C Nc s H fp) [] σ' H' s' ∧ tn i s'.heap ∧ (∀ b ∈ fp, H' b = none) ∧ W i m σ' H' := fun {σ' H' s'} J' n' => by
   refine zaa ?_; intro G_; obtain ⟨m', hm, w'⟩ := hN σ' H' n'
   have P : ∀ b ∈ fp, ∀ o, s7.heap.get? b = some o → s'.heap.get? b = some o ∧ H' b = none := fun b hb o e =>
    have q := J'.pin (b, o) (List.mem_append_right _ (List.mem_append_right _ (zbu hb e)))
    ⟨q.1, q.2.1⟩
   refine ⟨m', hm, i + 1, σ', H', J'.unpinned, T.keep _ _ _ st7 fun b hb o e => (P b hb o e).1, fun b hb => ?_, w'⟩
   refine zaa ?_; intro G_; obtain ⟨o, e, _⟩ := T.obj _ _ st7 b hb
   exact (P b hb o e).2
  cases b with
  | false =>
   rw [if_neg (by decide)]
   exact again I9 q9
  | true =>
   rw [if_pos rfl]
   refine thn (he _ s9 σ8 H9 _ I9 q9) fun v s10 ⟨y, H10, I10, r10, ys, hD, hz, n10⟩ => ?_
   refine thn (zec _ s10 σ8 H10 (.ref D) [y] (.ref D) [v] (fun _ H11 => N σ8 H11) I10 rfl (.cons r10 .nil) ⟨D, ys, y, rfl, rfl, hD, hz, n10⟩) fun _ s11 ⟨_, H11, I11, _, n11⟩ => ?_
   exact again I11 n11
end
end L2
namespace L2
open PySem PySem.Spec PyProof.Rows
def ziV (js : List (Option Nat)) (wi : TI) (g : TG) (tt : TT) (te : TE) : TE := fun σ H Q => wi σ H fun J H1 => ∀ D, H1 D = none → zex J g tt te D Q (capt js σ) (upd H1 D (.lst []))
def Inner (X : Cx) (scope : Scope) (cl : List (Str × Addr)) (Nc : List Str) (target elt : Expr) (ifs : List Expr) (g : TG) (tt : TT) (te : TE) : Prop :=
 ∀ (pins : List (Addr × Obj)) (C : Addr) (s3 : Shared) (H3 : Hp) (fp : List Addr), PG (za3 X pins scope cl C Nc s3 H3 fp) target g ∧ PIf (za3 X pins scope cl C Nc s3 H3 fp) ifs tt ∧ PE (za3 X pins scope cl C Nc s3 H3 fp) elt te
section
variable {X : Cx} {pins : List (Addr × Obj)} {σ : St} {H : Hp} {s : Shared} {scope : Scope} {cl : List (Str × Addr)} {Nc : List Str} {js : List (Option Nat)} {target elt iter : Expr} {ifs : List Expr} {pos : Pos} {wi : TI} {g : TG} {tt : TT} {te : TE}
theorem zfY {Q : VK} {J : It} {it : Addr} {fp : List Addr} {tn : Nat → Heap → Prop} {RR : Value → Addr → Result → Shared → Prop} {E : Value → Shared → Prop} (hc : X.calm = true) (S : CompScope X scope cl Nc js) (B : Inner X scope cl Nc target elt ifs g tt te)
  (I : Inv X pins σ H s) (T : Turn X.prog X.w X.K target J fp it tn) (st : tn 0 s.heap) (hf : ∀ b ∈ fp, FpOk X pins H b) (hw : ∀ D, H D = none → zex J g tt te D Q (capt js σ) (upd H D (.lst [])))
  (h : ∀ D C s' H' m, Inv X pins σ H' s' → s'.heap.Ns C m → FpOk X pins H' C → Q (.ref D) H' → RR (.ref D) C (.ok .next) s') :
  wpAny (model X.prog X.w) X.A (newList []) (fun acc s3 => wpAny (model X.prog X.w) X.A (newFunctionEnv scope X.env.globals cl [] X.env.qual none .none (some X.env)) (fun cenv s4 =>
   codeAny (model X.prog X.w) X.A (.compStart (.ListComp elt [⟨target, iter, ifs, 0⟩] scope pos) 0 (.ref it) acc { cenv with scope := relabel scope X.env }) (RR acc cenv.locals) s4) E s3) E s := by
 have hD : H s.heap.objs.size = none := I.fresh
 have I3 : Inv X pins σ (upd H s.heap.objs.size (.lst [])) { s with heap := s.heap.push { cls := .type "list", data := .seq ([] : List Value).toArray } } := I.lnew (t' := s.toks) (its := []) (ys := []) .nil (Nat.zero_le _)
 refine wpAny_newList (wpAny_newFunctionEnv S.cell (fun y hy => by cases hy) (fun h1 hn hsb => ?_) S.kind) (Nat.zero_le _)
 generalize hs3 : ({ s with heap := s.heap.push { cls := .type "list", data := .seq ([] : List Value).toArray } } : Shared) = s3 at I3
 have hn' : h1.Ns s3.heap.objs.size (fun x => ([] : List (Str × Value)).reverse.lookup x) := by rw [← hs3]; exact hn
 have hsb' : Heap.SameBut s3.heap.objs.size (s3.heap.push { cls := .type "dict", data := .dict #[] }) h1 := by rw [← hs3]; exact hsb
 have kp : ∀ b o, s3.heap.get? b = some o → h1.get? b = some o := fun b o e => (hsb'.2 b (Nat.ne_of_lt (Heap.lt_size e))).trans (Heap.get?_push_of_some _ e)
 have fpo : ∀ b ∈ fp, ∃ o, s.heap.get? b = some o := fun b hb => let ⟨o, e, _⟩ := T.obj 0 _ st b hb; ⟨o, e⟩
 have k2 : ∀ b o, s.heap.get? b = some o → s3.heap.get? b = some o := fun b o e => by rw [← hs3]; exact Heap.get?_push_of_some _ e
 have hf3 : ∀ b ∈ fp, FpOk X pins (upd H s.heap.objs.size (.lst [])) b := fun b hb => by
  refine FpOk.of (hf b hb) ?_
  obtain ⟨o, e⟩ := fpo b hb
  rw [zaj (Nat.ne_of_lt (Heap.lt_size e))]
  exact (hf b hb).1
 have Ic : Inv (za3 X pins scope cl s3.heap.objs.size Nc s3 (upd H s.heap.objs.size (.lst [])) fp) [] (capt js σ) (upd H s.heap.objs.size (.lst [])) { s3 with heap := h1, toks := s3.toks + 0 } :=
  zhp S I3 hf3 (fun b hb => let ⟨o, e⟩ := fpo b hb; ⟨o, k2 b o e⟩) (Nat.le_refl _) hn' kp
 have st4 : tn 0 h1 := T.keep 0 _ _ st fun b hb o e => kp b o (k2 b o e)
 refine zaa ?_; intro G_; obtain ⟨b1, b2, b3⟩ := B pins s3.heap.objs.size s3 (upd H s.heap.objs.size (.lst [])) fp
 have loop : codeAny (model X.prog X.w) X.A (.compLoop (.ListComp elt [⟨target, iter, ifs, 0⟩] scope pos) 0 (.ref it) (.ref s.heap.objs.size) (compEnvC scope cl s3.heap.objs.size X.env)) (RR (.ref s.heap.objs.size) s3.heap.objs.size) { s3 with heap := h1, toks := s3.toks + 0 } := by
  refine zhz hc T hf3 b1 b2 b3 Ic st4 (fun b hb => (hf3 b hb).1) (hw _ hD) fun s' σ' H' I' fr' q' => ?_
  refine zaa ?_; intro G_; obtain ⟨m, hm, _⟩ := I'.loc
  have Io : Inv X pins σ H' s' := I3.call' (ch := fp) I'.os I'.base I'.hok I'.bare fun b hb => ⟨(hf3 b hb).2.2.2.1, (hf3 b hb).2.1, (hf3 b hb).2.2.2.2.1, (hf3 b hb).2.2.2.2.2⟩
  exact h _ _ s' H' m Io hm (I3.fpOk (Nat.le_refl _) I'.free) q'
 exact codeAny_compStart_list loop (T.self X.A 0 _ _ _ (show tn 0 h1 from st4) loop)
theorem Inv.lettingGo {C : Addr} {h' : Heap} (I : Inv X pins σ H s) (f : FpOk X pins H C) (hs : Heap.SameBut C s.heap h') : Inv X pins σ H { s with heap := h' } :=
 I.turned (t' := s.toks) (fun b o hb e => (hs.2 b hb).trans e) f.1 f.2.1 f.2.2.2.1 f.2.2.2.2.1 f.2.2.2.2.2
theorem zjm (hc : X.calm = true) (S : CompScope X scope cl Nc js) (hi : PI X target iter wi) (B : Inner X scope cl Nc target elt ifs g tt te) (hs : ∀ x, foldedSetIterable iter X.env x = pure x := by intro _; rfl) :
  PE X (.ListComp elt [⟨target, iter, ifs, 0⟩] scope pos) (ziV js wi g tt te) := by
 intro pins s σ H Q I h
 rw [eval_ListComp]
 refine wpAny_comprehension_free (use := none) rfl hs S.clos S.kind S.nms (thn (hi pins s σ H _ I h) fun xv s1 h1 => thn h1 fun itv s2 h2 => ?_)
 refine zaa ?_; intro G_; obtain ⟨it, fp, tn, J, H2, e, I2, T, st2, f2, hw⟩ := h2
 subst e
 refine zfY hc S B I2 T st2 f2 hw fun D C s' H' m I' hm fC q => ?_
 exact ⟨m, hm, fun h' hs' => ⟨.ref D, H', I'.lettingGo fC hs', rfl, q⟩⟩
end
theorem zba {X : Cx} {scope : Scope} {cl : List (Str × Addr)} {Nc : List Str} {js : List (Option Nat)} (clos : closureFor scope X.env = pure cl) (kind : scope.kind = .function)
  (b1 : (scope.names.all fun y => decide (y.2 ≠ .cell)) = true) (b2 : (scope.names.all fun y => decide (y.2 = .local → scope.names.lookup y.1 = some .local)) = true)
  (sub : ∀ x c, (x, c) ∈ cl → X.env.cells.lookup x = some c) (b3 : ((relabel scope X.env).names.all fun y => !(y.2 == .cell || y.2 == .free) || (cl.lookup y.1).isSome) = true) (len : js.length = Nc.length)
  (b4 : ((Nc.zip js).all fun y => match y.2 with
   | none => true
   | some j => decide (X.N[j]? = some y.1) && decide (X.env.kindOf y.1 = some .cell ∨ X.env.kindOf y.1 = some .free) && decide ((relabel scope X.env).names.lookup y.1 = some .cell ∨ (relabel scope X.env).names.lookup y.1 = some .free)) = true) : CompScope X scope cl Nc js where
 clos := clos
 cell := fun y hy => of_decide_eq_true (List.all_eq_true.mp b1 y hy)
 kind := kind
 nms := fun y hy => of_decide_eq_true (List.all_eq_true.mp b2 y hy)
 sub := fun x c h => sub x c (PySem.mem_of_lookup h)
 has := fun x hx => by
  have go : ∀ k : NameKind, (k == .cell || k == .free) = true → (relabel scope X.env).names.lookup x = some k → ∃ c, cl.lookup x = some c := fun k hk e => by
   have := List.all_eq_true.mp b3 (x, k) (PySem.mem_of_lookup e)
   dsimp only at this
   rw [hk] at this
   exact Option.isSome_iff_exists.mp (by simpa using this)
  rcases hx with z | z
  ·exact go .cell rfl z
  ·exact go .free rfl z
 len := len
 cap := fun i x j h1 h2 => by
  have hm : (x, some j) ∈ Nc.zip js := by
   have : (Nc.zip js)[i]? = some (x, some j) := by rw [List.getElem?_zip_eq_some]; exact ⟨h1, h2⟩
   exact List.mem_of_getElem? this
  have := List.all_eq_true.mp b4 _ hm
  dsimp only at this
  rw [Bool.and_eq_true, Bool.and_eq_true] at this
  exact ⟨of_decide_eq_true this.1.1, of_decide_eq_true this.1.2, of_decide_eq_true this.2⟩
section
variable {g : TG} {tt : TT} {te : TE} {Q : VK} {σ : St} {H : Hp} {D : Addr}
theorem za9 {K : PySem.W.Frag} {a : Addr} {xs : List V} (Pv : Nat → List V → St → Hp → Prop) (h0 : Pv 0 [] σ H) (hl : ∀ i ys σ H, i ≤ xs.length → Pv i ys σ H → SqL K H a xs)
  (hs : ∀ i x ys σ H, xs[i]? = some x → Pv i ys σ H → g x σ H fun σ2 H2 => tt σ2 H2 fun b H3 => if b = true then te σ2 H3 fun v H4 => ∃ zs, H4 D = some (.lst zs) ∧ zs.length < sizeLine ∧ ∃ ys', Pv (i + 1) ys' σ2 (upd H4 D (.lst (zs ++ [v]))) else ∃ ys', Pv (i + 1) ys' σ2 H3)
  (hd : ∀ ys σ H, Pv xs.length ys σ H → Q (.ref D) H) : zex (Itl K a) g tt te D Q σ H := by
 refine ⟨fun i m σ H => m = xs.length - i ∧ i ≤ xs.length ∧ ∃ ys, Pv i ys σ H, ⟨xs.length, by simp, Nat.zero_le _, [], h0⟩, ?_⟩
 intro i m σ H h_
 refine zaa ?_; intro G_; obtain ⟨rfl, hi, ys, p⟩ := h_
 have q := hl i ys σ H hi p
 by_cases hlt : i < xs.length
 ·refine .inr ⟨⟨xs, xs[i], q, by simp [hlt]⟩, fun σ' H' => ∃ ys', Pv (i + 1) ys' σ' H', fun σ' H' p' => ⟨xs.length - (i + 1), by lia, rfl, hlt, p'⟩, fun x H' y => ?_⟩
  obtain ⟨e, y⟩ := y
  subst e
  exact hs i x ys σ _ (y xs q) p
 ·have e : i = xs.length := by lia
  subst e
  exact .inl ⟨⟨xs, q, Nat.le_refl _⟩, hd ys σ H p⟩
theorem zfV {lo : Int} {n : Nat} (Pv : Nat → St → Hp → Prop) (h0 : Pv 0 σ H)
  (hs : ∀ i σ H, i < n → Pv i σ H → g (.int (lo + i)) σ H fun σ2 H2 => tt σ2 H2 fun b H3 => if b = true then te σ2 H3 fun v H4 => ∃ zs, H4 D = some (.lst zs) ∧ zs.length < sizeLine ∧ Pv (i + 1) σ2 (upd H4 D (.lst (zs ++ [v]))) else Pv (i + 1) σ2 H3)
  (hd : ∀ σ H, Pv n σ H → Q (.ref D) H) : zex (Itr lo n) g tt te D Q σ H := by
 refine ⟨fun i m σ H => m = n - i ∧ i ≤ n ∧ Pv i σ H, ⟨n, by simp, Nat.zero_le _, h0⟩, ?_⟩
 intro i m σ H h_
 refine zaa ?_; intro G_; obtain ⟨rfl, hi, p⟩ := h_
 by_cases hlt : i < n
 ·refine .inr ⟨hlt, fun σ' H' => Pv (i + 1) σ' H', fun σ' H' p' => ⟨n - (i + 1), by lia, rfl, hlt, p'⟩, fun x H' y => ?_⟩
  obtain ⟨e, y⟩ := y
  subst e y
  exact hs i σ _ hlt p
 ·have e : i = n := by lia
  subst e
  exact .inl ⟨Nat.le_refl _, hd σ H p⟩
end
end L2
namespace Wr
abbrev Stt := Option Int × Option Int
def inS (m : Int) (s : Stt) : Bool := (match s.1 with | none => true | some a => decide (a ≤ m)) && (match s.2 with | none => true | some b => decide (m < b))
def zah (m : Int) (l : List Stt) : Bool := l.any (inS m)
def okS (s : Stt) : Prop := ∀ a b, s.1 = some a → s.2 = some b → a < b
def Apart (p q : Stt) : Prop := ∃ b c, p.2 = some b ∧ q.1 = some c ∧ b < c
def Can (l : List Stt) : Prop := (∀ s ∈ l, okS s) ∧ l.Pairwise Apart
theorem zb0 {m : Int} {s : Stt} : inS m s = true ↔ (∀ a, s.1 = some a → a ≤ m) ∧ (∀ b, s.2 = some b → m < b) := by
 obtain ⟨x, y⟩ := s
 cases x <;> cases y <;> simp [inS]
theorem zaq {m : Int} {p : Stt} {r : List Stt} : zah m (p :: r) = true ↔ inS m p = true ∨ zah m r = true := by
 simp [zah]
theorem zbq {m : Int} {l : List Stt} : zah m l = true ↔ ∃ s ∈ l, inS m s = true := by simp [zah]
theorem Can.tail {p : Stt} {r : List Stt} (h : Can (p :: r)) : Can r := ⟨fun s hs => h.1 s (List.mem_cons_of_mem _ hs), (List.pairwise_cons.mp h.2).2⟩
theorem Can.behind {p : Stt} {r : List Stt} {m : Int} (h : Can (p :: r)) (hm : zah m r = true) : ∃ b, p.2 = some b ∧ b < m := by
 obtain ⟨q, hq, hi⟩ := zbq.mp hm
 obtain ⟨b, c, h1, h2, h3⟩ := (List.pairwise_cons.mp h.2).1 q hq
 have := (zb0.mp hi).1 c h2
 exact ⟨b, h1, by lia⟩
theorem Can.ge {a : Int} {e : Option Int} {r : List Stt} {m : Int} (h : Can ((some a, e) :: r)) (hm : zah m ((some a, e) :: r) = true) : a ≤ m := by
 rcases zaq.mp hm with z | z
 ·exact (zb0.mp z).1 a rfl
 ·obtain ⟨b, h1, h2⟩ := h.behind z
  have := h.1 _ List.mem_cons_self a b rfl h1
  lia
theorem okS.start {a : Int} {e : Option Int} (h : okS (some a, e)) : inS a (some a, e) = true := by
 refine zb0.mpr ⟨fun x hx => ?_, fun b hb => h a b rfl hb⟩
 cases hx; exact Int.le_refl _
theorem zdn {e : Option Int} {r : List Stt} {p' : Stt} {r' : List Stt} (h' : Can (p' :: r')) (heq : ∀ m, zah m ((none, e) :: r) = zah m (p' :: r')) : p'.1 = none := by
 obtain ⟨s', e'⟩ := p'
 cases s' with
 | none => rfl
 | some a' =>
  exfalso
  have key : ∀ m : Int, inS m (none, e) = true → a' ≤ m := fun m hm => h'.ge (by rw [← heq]; exact zaq.mpr (.inl hm))
  cases e with
  | none =>
   have := key (a' - 1) (by simp [inS])
   lia
  | some b =>
   have := key (min (a' - 1) (b - 1)) (by simp [inS]; lia)
   lia
theorem zcG {s : Option Int} {e e' : Option Int} {r r' : List Stt} (h : Can ((s, e) :: r)) (heq : ∀ m, zah m ((s, e) :: r) = zah m ((s, e') :: r')) {b : Int} (hb : e = some b)
  (he : ∀ b', e' = some b' → b < b') : False := by
 have h1 : inS b (s, e') = true := zb0.mpr ⟨fun a ha => Int.le_of_lt (h.1 _ List.mem_cons_self a b ha hb), fun b' hb' => he b' hb'⟩
 have h2 : zah b ((s, e) :: r) = true := by rw [heq]; exact zaq.mpr (.inl h1)
 rcases zaq.mp h2 with z | z
 ·have := (zb0.mp z).2 b hb
  lia
 ·obtain ⟨c, h3, h4⟩ := h.behind z
  have : e = some c := h3
  rw [hb] at this
  cases this
  lia
theorem zbx {s : Stt} {r : List Stt} (h : okS s) : ∃ m, zah m (s :: r) = true := by
 obtain ⟨x, y⟩ := s
 cases x with
 | some a => exact ⟨a, zaq.mpr (.inl h.start)⟩
 | none =>
  cases y with
  | none => exact ⟨0, zaq.mpr (.inl rfl)⟩
  | some b => exact ⟨b - 1, zaq.mpr (.inl (by simp [inS]; lia))⟩
theorem zfb : ∀ {l l' : List Stt}, Can l → Can l' → (∀ m, zah m l = zah m l') → l = l'
 | [], [], _, _, _ => rfl
 | [], p' :: r', _, h', heq => by
  obtain ⟨m, hm⟩ := zbx (r := r') (h'.1 p' List.mem_cons_self)
  rw [← heq] at hm
  cases hm
 | p :: r, [], h, _, heq => by
  obtain ⟨m, hm⟩ := zbx (r := r) (h.1 p List.mem_cons_self)
  rw [heq] at hm
  cases hm
 | (s, e) :: r, (s', e') :: r', h, h', heq => by
  have es : s = s' := by
   cases s with
   | none => exact (zdn h' heq).symm
   | some a =>
    cases s' with
    | none => exact zdn h fun m => (heq m).symm
    | some a' =>
     have h1 : a' ≤ a := h'.ge (by rw [← heq]; exact zaq.mpr (.inl (h.1 _ List.mem_cons_self).start))
     have h2 : a ≤ a' := h.ge (by rw [heq]; exact zaq.mpr (.inl (h'.1 _ List.mem_cons_self).start))
     have : a = a' := by lia
     rw [this]
  subst es
  have ee : e = e' := by
   cases e with
   | none =>
    cases e' with
    | none => rfl
    | some b' => exact (zcG h' (fun m => (heq m).symm) rfl fun b hb => by cases hb).elim
   | some b =>
    cases e' with
    | none => exact (zcG h heq rfl fun b hb => by cases hb).elim
    | some b' =>
     by_cases h1 : b < b'
     ·exact (zcG h heq rfl fun c hc => by cases hc; exact h1).elim
     ·by_cases h2 : b' < b
      ·exact (zcG h' (fun m => (heq m).symm) rfl fun c hc => by cases hc; exact h2).elim
      ·have : b = b' := by lia
       rw [this]
  subst ee
  have er : r = r' := by
   refine zfb h.tail h'.tail fun m => ?_
   have go : ∀ {u v : List Stt}, Can ((s, e) :: u) → (∀ m, zah m ((s, e) :: u) = zah m ((s, e) :: v)) → zah m u = true → zah m v = true := fun {u v} hu hq hm => by
    obtain ⟨b, h1, h2⟩ := hu.behind hm
    have h3 : zah m ((s, e) :: v) = true := by rw [← hq]; exact zaq.mpr (.inr hm)
    rcases zaq.mp h3 with z | z
    ·have := (zb0.mp z).2 b h1
     lia
    ·exact z
   cases hx : zah m r with
   | true => exact (go h heq hx).symm
   | false =>
    cases hy : zah m r' with
    | false => rfl
    | true => rw [go h' (fun m => (heq m).symm) hy] at hx; cases hx
  rw [er]
def leO : Option Int → Option Int → Prop
 | none, _ => True
 | some _, none => False
 | some a, some b => a ≤ b
def zb6 (p : Stt) (s : Option Int) : Bool := (match s with | none => true | some c => (match p.2 with | none => true | some b => decide (c ≤ b)))
def zca : Option Int → Option Int → Option Int
 | some a, some b => some (max a b)
 | _, _ => none
structure Tidy (acc done : List Stt) : Prop where
 can : Can acc
 eq : ∀ m, zah m acc = zah m done
theorem zbe {m : Int} {l r : List Stt} : zah m (l ++ r) = (zah m l || zah m r) := by simp [zah]
theorem zhJ {m : Int} {p x : Stt} (h1 : leO p.1 x.1) (h2 : zb6 p x.1 = true) (ox : okS x) : inS m (p.1, zca p.2 x.2) = (inS m p || inS m x) := by
 obtain ⟨a, b⟩ := p
 obtain ⟨c, d⟩ := x
 have ox' := ox
 rw [Bool.eq_iff_iff, Bool.or_eq_true]
 cases a <;> cases b <;> cases c <;> cases d <;> simp_all [inS, zca, leO, zb6, okS] <;> lia
theorem zf2 : Tidy [] [] := ⟨⟨(fun s hs => nomatch hs), List.Pairwise.nil⟩, fun m => rfl⟩
theorem zf3 {x : Stt} (ox : okS x) : Tidy [x] [x] := ⟨⟨fun s hs => by rw [List.mem_singleton.mp hs]; exact ox, List.pairwise_singleton _ _⟩, fun m => rfl⟩
theorem zfH {init done : List Stt} {p x : Stt} (T : Tidy (init ++ [p]) done) (h1 : leO p.1 x.1) (h2 : zb6 p x.1 = true) (ox : okS x) : Tidy (init ++ [(p.1, zca p.2 x.2)]) (done ++ [x]) := by
 obtain ⟨⟨o, w⟩, e⟩ := T
 have w' := List.pairwise_append.mp w
 refine ⟨⟨fun s hs => ?_, List.pairwise_append.mpr ⟨w'.1, List.pairwise_singleton _ _, fun q hq z hz => ?_⟩⟩, fun m => ?_⟩
 ·rcases List.mem_append.mp hs with z | z
  ·exact o s (List.mem_append_left _ z)
  ·rw [List.mem_singleton.mp z]
   intro a b ha hb
   have op := o p (List.mem_append_right _ (by simp))
   obtain ⟨pa, pb⟩ := p
   obtain ⟨xa, xb⟩ := x
   have ha' : pa = some a := ha
   subst ha'
   cases pb <;> cases xb <;> simp [zca] at hb
   have := op a _ rfl rfl
   lia
 ·rw [List.mem_singleton.mp hz]
  obtain ⟨b, c, k1, k2, k3⟩ := w'.2.2 q hq p (by simp)
  exact ⟨b, c, k1, k2, k3⟩
 ·have e' := e m
  rw [zbe] at e' ⊢
  rw [zbe, ← e']
  have k : ∀ s : Stt, zah m [s] = inS m s := fun s => by simp [zah]
  rw [k, k, k, zhJ h1 h2 ox, Bool.or_assoc]
theorem zhM {init done : List Stt} {p x : Stt} (T : Tidy (init ++ [p]) done) (h1 : leO p.1 x.1) (h2 : zb6 p x.1 = false) (ox : okS x) : Tidy (init ++ [p] ++ [x]) (done ++ [x]) := by
 obtain ⟨⟨o, w⟩, e⟩ := T
 have w' := List.pairwise_append.mp w
 have ap : Apart p x := by
  obtain ⟨pa, pb⟩ := p
  obtain ⟨xa, xb⟩ := x
  cases xa with
  | none => simp [zb6] at h2
  | some c =>
   cases pb with
   | none => simp [zb6] at h2
   | some b => simp [zb6] at h2; exact ⟨b, c, rfl, rfl, h2⟩
 refine ⟨⟨fun s hs => ?_, List.pairwise_append.mpr ⟨w, List.pairwise_singleton _ _, fun q hq z hz => ?_⟩⟩, fun m => ?_⟩
 ·rcases List.mem_append.mp hs with z | z
  ·exact o s z
  ·rw [List.mem_singleton.mp z]; exact ox
 ·rw [List.mem_singleton.mp hz]
  rcases List.mem_append.mp hq with y | y
  ·obtain ⟨b, c, k1, k2, k3⟩ := w'.2.2 q y p (by simp)
   obtain ⟨b', c', l1, l2, l3⟩ := ap
   refine ⟨b, c', k1, l2, ?_⟩
   have op := o p (List.mem_append_right _ (by simp)) c b' k2 l1
   lia
  ·rw [List.mem_singleton.mp y]; exact ap
 ·rw [zbe (l := init ++ [p]), zbe (l := done), e m]
def Inc (g : List Int) : Prop := g.Pairwise (· < ·)
def zaU (g : List Int) (m : Int) : Nat := (g.filter fun x => decide (x ≤ m)).length
def stt (g : List Int) (f l : Nat) : Stt := (if f = 0 then none else g[f - 1]?, g[l]?)
theorem piece_cons (x : Int) (g : List Int) (m : Int) : zaU (x :: g) m = if x ≤ m then zaU g m + 1 else zaU g m := by
 unfold zaU
 rw [List.filter_cons]
 by_cases h : x ≤ m
 ·simp [h]
 ·simp [h]
theorem za4 (g : List Int) (m : Int) : zaU g m ≤ g.length := List.length_filter_le _ _
theorem zdl {g : List Int} {m : Int} (h : ∀ x ∈ g, m < x) : zaU g m = 0 := by
 unfold zaU
 rw [List.length_eq_zero_iff, List.filter_eq_nil_iff]
 intro x hx
 have := h x hx
 simp; lia
theorem zbi : ∀ {g : List Int} {m : Int}, Inc g → ∀ (i : Nat) (x : Int), g[i]? = some x → (x ≤ m ↔ i < zaU g m)
 | [], _, _, i, x, h => by simp at h
 | y :: g, m, hg, i, x, h => by
  obtain ⟨h1, h2⟩ := List.pairwise_cons.mp hg
  rw [piece_cons]
  cases i with
  | zero =>
   simp at h
   subst h
   by_cases hy : y ≤ m
   ·simp [hy]
   ·rw [if_neg hy, zdl fun z hz => by have := h1 z hz; lia]
    simp [hy]
  | succ i =>
   have h' : g[i]? = some x := by simpa using h
   have ih := zbi (m := m) h2 i x h'
   have hyx := h1 x (List.mem_of_getElem? h')
   by_cases hy : y ≤ m
   ·rw [if_pos hy]; lia
   ·rw [if_neg hy, zdl fun z hz => by have := h1 z hz; lia]
    lia
theorem zgl {g : List Int} (hg : Inc g) {f l : Nat} (hf : f ≤ g.length) (m : Int) : inS m (stt g f l) = true ↔ f ≤ zaU g m ∧ zaU g m ≤ l := by
 rw [zb0]
 unfold stt
 dsimp only
 have h1 : (∀ a, (if f = 0 then none else g[f - 1]?) = some a → a ≤ m) ↔ f ≤ zaU g m := by
  by_cases h0 : f = 0
  ·simp [h0]
  ·rw [if_neg h0]
   have hlt : f - 1 < g.length := by lia
   obtain ⟨x, hx⟩ : ∃ x, g[f - 1]? = some x := ⟨g[f - 1], by simp [hlt]⟩
   have := zbi (m := m) hg (f - 1) x hx
   rw [hx]
   constructor
   ·intro h
    have := h x rfl
    lia
   ·intro h a ha
    cases ha
    lia
 have h2 : (∀ b, g[l]? = some b → m < b) ↔ zaU g m ≤ l := by
  cases hx : g[l]? with
  | none =>
   have : g.length ≤ l := by simpa using hx
   have := za4 g m
   constructor
   ·intro _; lia
   ·intro _ b hb; cases hb
  | some x =>
   have := zbi (m := m) hg l x hx
   constructor
   ·intro h
    have := h x rfl
    lia
   ·intro h b hb
    cases hb
    lia
 rw [h1, h2]
theorem zeC {g : List Int} (hg : Inc g) {i j : Nat} {x y : Int} (hi : g[i]? = some x) (hj : g[j]? = some y) (h : i < j) : x < y := by
 obtain ⟨h1, e1⟩ := List.getElem?_eq_some_iff.mp hi
 obtain ⟨h2, e2⟩ := List.getElem?_eq_some_iff.mp hj
 have := List.pairwise_iff_getElem.mp hg i j h1 h2 h
 rw [e1, e2] at this
 exact this
theorem zkK {g : List Int} (hg : Inc g) {f l : Nat} (h : f ≤ l) : okS (stt g f l) := by
 intro a b ha hb
 unfold stt at ha hb
 dsimp only at ha hb
 by_cases h0 : f = 0
 ·rw [if_pos h0] at ha; cases ha
 ·rw [if_neg h0] at ha
  exact zeC hg ha hb (by lia)
structure Runs (lit : List Bool) (R : List (Nat × Nat)) (n : Nat) : Prop where
 le : ∀ r ∈ R, r.1 ≤ r.2
 lt : ∀ r ∈ R, r.2 + 1 < n
 inn : ∀ r ∈ R, r.2 < lit.length
 ap : R.Pairwise fun r q => r.2 + 1 < q.1
 has : ∀ k, k < n → k < lit.length → (lit[k]? = some true ↔ ∃ r ∈ R, r.1 ≤ k ∧ k ≤ r.2)
theorem zfE (lit : List Bool) : Runs lit [] 0 := ⟨(fun r h => nomatch h), (fun r h => nomatch h), (fun r h => nomatch h), List.Pairwise.nil, fun k h => absurd h (Nat.not_lt_zero _)⟩
theorem zgU {lit : List Bool} {R : List (Nat × Nat)} {n : Nat} (h : Runs lit R n) (hf : n < lit.length → lit[n]? = some false) : Runs lit R (n + 1) := by
 refine ⟨h.le, fun r hr => Nat.lt_succ_of_lt (h.lt r hr), h.inn, h.ap, fun k h1 h2 => ?_⟩
 by_cases hk : k < n
 ·exact h.has k hk h2
 ·obtain rfl : k = n := by lia
  rw [hf h2]
  constructor
  ·intro z; cases z
  ·rintro ⟨r, hr, _, h4⟩
   have := h.lt r hr
   lia
theorem zhg {lit : List Bool} {R : List (Nat × Nat)} {n last : Nat} (h : Runs lit R n) (h1 : n < last) (h2 : last ≤ lit.length) (ht : ∀ k, n ≤ k → k < last → lit[k]? = some true) (hf : last < lit.length → lit[last]? = some false) : Runs lit (R ++ [(n, last - 1)]) (last + 1) := by
 refine ⟨fun r hr => ?_, fun r hr => ?_, fun r hr => ?_, List.pairwise_append.mpr ⟨h.ap, List.pairwise_singleton _ _, fun r hr q hq => ?_⟩, fun k k1 k2 => ?_⟩
 ·rcases List.mem_append.mp hr with z | z
  ·exact h.le r z
  ·rw [List.mem_singleton.mp z]; show n ≤ last - 1; lia
 ·rcases List.mem_append.mp hr with z | z
  ·have := h.lt r z; lia
  ·rw [List.mem_singleton.mp z]; show last - 1 + 1 < last + 1; lia
 ·rcases List.mem_append.mp hr with z | z
  ·exact h.inn r z
  ·rw [List.mem_singleton.mp z]; show last - 1 < lit.length; lia
 ·rw [List.mem_singleton.mp hq]; exact h.lt r hr
 ·by_cases hk : k < n
  ·rw [h.has k hk k2]
   constructor
   ·rintro ⟨r, hr, z⟩; exact ⟨r, List.mem_append_left _ hr, z⟩
   ·rintro ⟨r, hr, z⟩
    rcases List.mem_append.mp hr with y | y
    ·exact ⟨r, y, z⟩
    ·rw [List.mem_singleton.mp y] at z
     have : n ≤ k := z.1
     lia
  ·by_cases hl : k < last
   ·rw [ht k (by lia) hl]
    exact ⟨fun _ => ⟨(n, last - 1), List.mem_append_right _ (by simp), by show n ≤ k; lia, by show k ≤ last - 1; lia⟩, fun _ => rfl⟩
   ·obtain rfl : k = last := by lia
    rw [hf k2]
    constructor
    ·intro z; cases z
    ·rintro ⟨r, hr, z⟩
     rcases List.mem_append.mp hr with y | y
     ·have := h.lt r y; lia
     ·rw [List.mem_singleton.mp y] at z
      have : k ≤ k - 1 := z.2
      lia
theorem zhx {g : List Int} {lit : List Bool} {R : List (Nat × Nat)} {n : Nat} (hg : Inc g) (hl : lit.length = g.length + 1) (hn : lit.length ≤ n) (h : Runs lit R n) :
  Can (R.map fun r => stt g r.1 r.2) ∧ ∀ m, zah m (R.map fun r => stt g r.1 r.2) = (lit[zaU g m]?).getD false := by
 have hb := h.inn
 refine ⟨⟨fun s hs => ?_, ?_⟩, fun m => ?_⟩
 ·obtain ⟨r, hr, rfl⟩ := List.mem_map.mp hs
  exact zkK hg (h.le r hr)
 ·rw [List.pairwise_map]
  refine h.ap.imp_of_mem fun {r q} hr hq hrq => ?_
  have b1 := hb q hq
  have b2 := h.le q hq
  have l1 : r.2 < g.length := by lia
  have l2 : q.1 - 1 < g.length := by lia
  refine ⟨g[r.2], g[q.1 - 1], ?_, ?_, ?_⟩
  ·show g[r.2]? = _
   simp [l1]
  ·show (if q.1 = 0 then none else g[q.1 - 1]?) = _
   rw [if_neg (by lia)]
   simp [l2]
  ·exact zeC hg (i := r.2) (j := q.1 - 1) (by simp [l1]) (by simp [l2]) (by lia)
 ·have hp := za4 g m
  have hk : zaU g m < lit.length := by lia
  have hh := h.has (zaU g m) (by lia) hk
  rw [Bool.eq_iff_iff]
  constructor
  ·intro hi
   obtain ⟨s, hs, hm⟩ := zbq.mp hi
   obtain ⟨r, hr, rfl⟩ := List.mem_map.mp hs
   have b1 := hb r hr
   have b2 := h.le r hr
   rw [zgl hg (by lia)] at hm
   rw [hh.mpr ⟨r, hr, hm⟩]
   rfl
  ·intro hi
   have : lit[zaU g m]? = some true := by
    cases q : lit[zaU g m]? with
    | none => rw [q] at hi; cases hi
    | some b => rw [q] at hi; cases b with
     | true => rfl
     | false => cases hi
   obtain ⟨r, hr, hm⟩ := hh.mp this
   have b1 := hb r hr
   have b2 := h.le r hr
   exact zbq.mpr ⟨_, List.mem_map.mpr ⟨r, hr, rfl⟩, (zgl hg (by lia) m).mpr hm⟩
theorem zh1 {g : List Int} (hg : Inc g) {k : Nat} {x : Int} (h : g[k]? = some x) : zaU g x = k + 1 := by
 have h1 := (zbi (m := x) hg k x h).mp (Int.le_refl _)
 have h2 := za4 g x
 by_cases hk : k + 1 < g.length
 ·have h3 := zbi (m := x) hg (k + 1) g[k + 1] (by simp [hk])
  have h4 := zeC hg h (j := k + 1) (y := g[k + 1]) (by simp [hk]) (by lia)
  lia
 ·lia
theorem ze8 {g : List Int} (hg : Inc g) {k : Nat} {x : Int} (h : g[k]? = some x) : zaU g (x - 1) = k := by
 have h1 := zbi (m := x - 1) hg k x h
 have h0 : ¬ k < zaU g (x - 1) := by lia
 cases k with
 | zero => lia
 | succ k =>
  have hlt : k + 1 < g.length := (List.getElem?_eq_some_iff.mp h).1
  have hk : k < g.length := by lia
  have h3 := zbi (m := x - 1) hg k g[k] (by simp [hk])
  have h4 := zeC hg (i := k) (x := g[k]) (by simp [hk]) h (by lia)
  lia
end Wr
namespace Wr
def bnds (l : List Stt) : List Int := l.flatMap fun s => s.1.toList ++ s.2.toList
def fe : List Stt → Bool
 | (none, _) :: _ => true
 | _ => false
def par (s : Bool) (bs : List Int) (m : Int) : Bool := bs.foldl (fun x b => x != decide (b ≤ m)) s
theorem zbZ {m : Int} : ∀ {bs : List Int} {s : Bool}, (∀ b ∈ bs, m < b) → par s bs m = s
 | [], _, _ => rfl
 | b :: bs, s, h => by
  have hb := h b List.mem_cons_self
  have : decide (b ≤ m) = false := decide_eq_false (by lia)
  show par (s != decide (b ≤ m)) bs m = s
  rw [this, zbZ fun c hc => h c (List.mem_cons_of_mem _ hc)]
  cases s <;> rfl
theorem zer (a b : Option Int) (r : List Stt) : bnds ((a, b) :: r) = a.toList ++ (b.toList ++ bnds r) := by
 simp [bnds]
theorem zds {p : Stt} {r : List Stt} {e : Int} (h : Can (p :: r)) (he : p.2 = some e) : ∀ b ∈ bnds r, e < b := by
 intro b hb
 obtain ⟨s, hs, hx⟩ := List.mem_flatMap.mp hb
 obtain ⟨e', c, h1, h2, h3⟩ := (List.pairwise_cons.mp h.2).1 s hs
 rw [he] at h1
 cases h1
 rcases List.mem_append.mp hx with z | z
 ·rw [h2] at z
  have : b = c := by simpa using z
  lia
 ·cases q : s.2 with
  | none => rw [q] at z; simp at z
  | some d =>
   rw [q] at z
   have : b = d := by simpa using z
   have := h.1 s (List.mem_cons_of_mem _ hs) c d h2 q
   lia
theorem tail_nil {p : Stt} {r : List Stt} (h : Can (p :: r)) (he : p.2 = none) : r = [] := by
 cases r with
 | nil => rfl
 | cons q r =>
  obtain ⟨b, c, h1, _⟩ := (List.pairwise_cons.mp h.2).1 q List.mem_cons_self
  rw [he] at h1
  cases h1
theorem zjH {p : Stt} {r : List Stt} (h : Can (p :: r)) : fe r = false := by
 cases r with
 | nil => rfl
 | cons q r =>
  obtain ⟨b, c, _, h2, _⟩ := (List.pairwise_cons.mp h.2).1 q List.mem_cons_self
  obtain ⟨x, y⟩ := q
  have h2' : x = some c := h2
  rw [h2']
  rfl
theorem ziI : ∀ {l : List Stt}, Can l → ∀ m, zah m l = par (fe l) (bnds l) m
 | [], _, _ => rfl
 | (a, b) :: r, h, m => by
  have ih := ziI h.tail m
  rw [zjH h] at ih
  have hr : zah m ((a, b) :: r) = (inS m (a, b) || zah m r) := by simp [zah]
  rw [hr, zer]
  cases b with
  | none =>
   have er := tail_nil h rfl
   subst er
   cases a with
   | none => simp [inS, zah, fe, bnds, par]
   | some a => simp [inS, zah, fe, bnds, par]
  | some e =>
   have ab : ∀ c ∈ bnds r, e < c := zds h rfl
   cases a with
   | none =>
    show _ = par (true != decide (e ≤ m)) (bnds r) m
    by_cases hm : e ≤ m
    ·rw [decide_eq_true hm]
     have : inS m (none, some e) = false := by simp [inS]; lia
     rw [this, Bool.false_or, ih]
     rfl
    ·rw [decide_eq_false hm, zbZ fun c hc => by have := ab c hc; lia]
     have : inS m (none, some e) = true := by simp [inS]; lia
     rw [this]
     rfl
   | some a =>
    have ae := h.1 _ List.mem_cons_self a e rfl rfl
    show _ = par ((false != decide (a ≤ m)) != decide (e ≤ m)) (bnds r) m
    by_cases ha : a ≤ m
    ·by_cases hm : e ≤ m
     ·rw [decide_eq_true ha, decide_eq_true hm]
      have : inS m (some a, some e) = false := by simp [inS]; lia
      rw [this, Bool.false_or, ih]
      rfl
     ·rw [decide_eq_true ha, decide_eq_false hm, zbZ fun c hc => by have := ab c hc; lia]
      have : inS m (some a, some e) = true := by simp [inS]; lia
      rw [this]
      rfl
    ·have hm : ¬ e ≤ m := by lia
     have low : ∀ c ∈ bnds r, m < c := fun c hc => by have := ab c hc; lia
     rw [decide_eq_false ha, decide_eq_false hm, zbZ low]
     have : inS m (some a, some e) = false := by simp [inS]; lia
     rw [this, Bool.false_or, ih, zbZ low]
     rfl
theorem zfp : ∀ {l : List Stt}, Can l → Inc (bnds l)
 | [], _ => List.Pairwise.nil
 | (a, b) :: r, h => by
  have ih := zfp h.tail
  rw [zer]
  cases b with
  | none =>
   have er := tail_nil h rfl
   subst er
   cases a with
   | none => exact List.Pairwise.nil
   | some a => exact List.pairwise_singleton _ _
  | some e =>
   have ab : ∀ c ∈ bnds r, e < c := zds h rfl
   have i2 : Inc (e :: bnds r) := List.pairwise_cons.mpr ⟨ab, ih⟩
   cases a with
   | none => exact i2
   | some a =>
    have ae := h.1 _ List.mem_cons_self a e rfl rfl
    refine List.pairwise_cons.mpr ⟨fun c hc => ?_, i2⟩
    rcases List.mem_cons.mp hc with z | z
    ·lia
    ·have := ab c z; lia
def parP (s : Bool) (p : Int → Bool) (B : List Int) (m : Int) : Bool := B.foldl (fun x b => x != (p b && decide (b ≤ m))) s
def endP (s : Bool) (p : Int → Bool) (B : List Int) : Bool := B.foldl (fun x b => x != p b) s
structure Sweep (fw : Bool → Bool → Bool) (s1 s2 : Bool) (p1 p2 : Int → Bool) (done : List Int) (start : Option Int) (acc : List Stt) : Prop where
 can : Can (acc ++ if fw (endP s1 p1 done) (endP s2 p2 done) then [(start, none)] else [])
 eq : ∀ m, zah m (acc ++ if fw (endP s1 p1 done) (endP s2 p2 done) then [(start, none)] else []) = fw (parP s1 p1 done m) (parP s2 p2 done m)
 low : ∀ b, (∀ d ∈ done, d < b) → (∀ s ∈ acc, ∃ e, s.2 = some e ∧ e < b) ∧ (∀ a, start = some a → a < b)
section
variable {fw : Bool → Bool → Bool} {s1 s2 : Bool} {p1 p2 : Int → Bool} {done : List Int} {start : Option Int} {acc : List Stt} {b : Int}
end
end Wr
namespace L2
open PySem PySem.Spec PyProof.Rows
structure FnP (P : Program) (w : World) (K : PySem.W.Frag) (mg : Str → Option Value) (base : Heap) (k : Nat) (x : Str) (ps : List Str) (sp : Sp) : Prop where
 ex : ∃ (f : Addr) (fd : FuncData), FnOk P w K mg base CX0 k f fd ps sp ∧ mg x = some (.ref f) ∧ PySem.W.keepIn K (.ref f) = true ∧ Binds K fd ps []
section
variable {X : Cx} {k j : Nat} {x : Str} {ps : List Str} {sp : Sp} {p pos : Pos} {e : Expr} {es : List Expr} {t : TA}
theorem zlE (F : FnP X.prog X.w X.K X.mg X.base k x ps sp) (hr : Room j X.A) (ha : PA X (e :: es) t) (hj : k ≤ j := by decide) (hg : Gl X x := by rfl) (hdb : (x == ("__debug__" : Str)) = false := by decide)
  (he : starEach (e :: es) X.env = (false, eval e X.env) :: starEach es X.env := by rfl) (hpl : (backTo pos (starEach es X.env)).any (·.1) = false := by rfl) : PE X (.Call (.Name x p) (e :: es) [] pos) (zci sp [] E0 t) := by
 refine zaa ?_; intro G_; obtain ⟨f, fd, F, hm, hk, hb⟩ := F.ex
 exact zjd F (hr.mono hj) hg hm hk hb .nil zkZ ha hdb he hpl
theorem zhA {pn : Str} {fp kp : Pos} (F : FnP X.prog X.w X.K X.mg X.base k x [pn] sp) (hr : Room j X.A) (hms : X.mg "sorted" = none) (he : PA X [e] t) (hj : k + 2 ≤ j := by decide) (hgs : Gl X "sorted" := by rfl) (hg : Gl X x := by rfl)
  (hd : (x == ("__debug__" : Str)) = false := by decide) (hs : starEach [e] X.env = [(false, eval e X.env)] := by rfl) : PE X (.Call (.Name "sorted" p) [e] [⟨some "key", .Name x fp, kp⟩] pos) (zgb X.K sp t) := by
 refine zaa ?_; intro G_; obtain ⟨f, fd, F, hm, hk, hb⟩ := F.ex
 exact zfP F (hr.mono hj) hgs hms hg hm hb he hd hs
def rIsI (K : PySem.W.Frag) : List V → Hp → VK → Prop := fun xs H Q => ∃ y T t b, xs = [y, .ty T] ∧ TyOf K H y t ∧ PySem.W.kitOne K t (.type T) = some b ∧ Q (.bl b) H
theorem zhy : zcA X (.builtin "isinstance") (rIsI X.K) := by
 rintro pins s σ H xs us Q I r ⟨y, T, t, b, e, ty, ek, q⟩
 subst e
 refine zaa ?_; intro G_; obtain ⟨u, w', rfl, r1, r2⟩ := vals2 r
 cases r2
 exact zge I r1 ty ek fun tk => ⟨.bl b, H, I.tok tk, rfl, q⟩
theorem zfz (K : PySem.W.Frag) (T : String) : PySem.W.kitOne K (.type T) (.type T) = some true := by
 unfold PySem.W.kitOne
 rw [if_pos (by simp)]
theorem zj9 {o : Expr} {to : TE} {apos cpos spos : Pos} (ho : PE X o to) (ha : PA X [e] t) (hbase : attributeBase o "append" X.env (eval o X.env) = eval o X.env := by rfl)
  (hfew : ((backTo cpos (starEach [e] X.env)).all (fun x => !x.1) && (backToKw cpos (keywordEach [] X.env)).all (fun x => x.1.isSome)
   && decide ([e].length + ([] : List Keyword).length + (if ([] : List Keyword).isEmpty then 0 else 1) < 30)) = true := by rfl)
  (hline : (apos.endLine == cpos.line) = true := by rfl) (hs : starEach [e] X.env = (false, eval e X.env) :: starEach [] X.env := by rfl) (hplain : (backTo cpos (starEach [] X.env)).any (·.1) = false := by rfl)
  (hsw : swapsWith (.Call (.Attribute o "append" apos) [e] [] cpos) none spos.line X.env = pure false := by rfl) :
  PS X (.Expr (.Call (.Attribute o "append" apos) [e] [] cpos) spos) (zem (tBM X.K "list" zbW to t)) :=
 zfc (zfG PySem.F.plainAttrs_list PySem.F.slot_list_append PySem.F.type_list_append zec ho ha hbase hfew hline hs hplain) hsw
end
open Wr in
def vO : Option Int → V
 | none => .non
 | some i => .int i
def dO : Option Int → PyData
 | none => .none
 | some i => .int i
def dS (s : Wr.Stt) : PyData := .tuple [dO s.1, dO s.2]
def StAt (H : Hp) (v : V) (s : Wr.Stt) : Prop := ∃ t, v = .ref t ∧ H t = some (.tup [vO s.1, vO s.2])
abbrev StsAt (H : Hp) : List V → List Wr.Stt → Prop := Paired (StAt H)
def SpanAt (H : Hp) (a : Addr) (ss : List Wr.Stt) : Prop := ∃ xs, H a = some (.lst xs) ∧ StsAt H xs ss
section
variable {K : PySem.W.Frag} {H H' : Hp}
theorem StAt.same {v : V} {s : Wr.Stt} (e : Same H H') (h : StAt H v s) : StAt H' v s := by obtain ⟨t, h1, h2⟩ := h; exact ⟨t, h1, e _ _ h2⟩
theorem StsAt.same {xs : List V} {ss : List Wr.Stt} (e : Same H H') (h : StsAt H xs ss) : StsAt H' xs ss := Paired.mapP h fun _ _ q => q.same e
theorem SpanAt.same {a : Addr} {ss : List Wr.Stt} (e : Same H H') (h : SpanAt H a ss) : SpanAt H' a ss := by obtain ⟨xs, h1, h2⟩ := h; exact ⟨xs, e _ _ h1, h2.same e⟩
theorem StAt.wr {v : V} {s : Wr.Stt} {l : Addr} {o : HO} (hl : ∀ xs, H l ≠ some (.tup xs)) (h : StAt H v s) : StAt (upd H l o) v s := by
 refine zaa ?_; intro G_; obtain ⟨t, h1, h2⟩ := h
 exact ⟨t, h1, by rw [zaj (fun e => hl _ (e ▸ h2))]; exact h2⟩
theorem StsAt.wr {xs : List V} {ss : List Wr.Stt} {l : Addr} {o : HO} (hl : ∀ xs, H l ≠ some (.tup xs)) (h : StsAt H xs ss) : StsAt (upd H l o) xs ss := Paired.mapP h fun _ _ q => q.wr hl
theorem SpanAt.wr {a : Addr} {ss : List Wr.Stt} {l : Addr} {o : HO} (hl : ∀ xs, H l ≠ some (.tup xs)) (ne : a ≠ l) (h : SpanAt H a ss) : SpanAt (upd H l o) a ss := by
 refine zaa ?_; intro G_; obtain ⟨xs, h1, h2⟩ := h
 exact ⟨xs, by rw [zaj ne]; exact h1, h2.wr hl⟩
theorem zbh {l : Addr} {xs : List V} (h : H l = some (.lst xs)) : ∀ ys, H l ≠ some (.tup ys) := fun ys e => by rw [h] at e; cases e
theorem zhr (o : Option Int) : Den K H (vO o) (dO o) := by cases o with | none => exact .non | some i => exact .int i
theorem StAt.den {v : V} {s : Wr.Stt} (h : StAt H v s) : Den K H v (dS s) := by
 refine zaa ?_; intro G_; obtain ⟨t, rfl, h2⟩ := h
 exact .tup (SqT.of h2) (.cons (zhr _) (.cons (zhr _) .nil))
theorem StsAt.den : ∀ {xs : List V} {ss : List Wr.Stt}, StsAt H xs ss → DenAll K H xs (ss.map dS) := by
 intro xs ss p
 change Paired _ _ _ at p
 induction p with
 | nil => exact .nil
 | cons r t ih => exact .cons (StAt.den r) ih
theorem SpanAt.den {a : Addr} {ss : List Wr.Stt} (h : SpanAt H a ss) : Den K H (.ref a) (.list (ss.map dS)) := by
 refine zaa ?_; intro G_; obtain ⟨xs, h1, h2⟩ := h
 exact .lst (SqL.of h1) h2.den
theorem zeQ {α β : Type} {R : α → β → Prop} {xs ys : List α} (p : ys.Perm xs) : ∀ {ss : List β}, Paired R xs ss → ∃ ts, ts.Perm ss ∧ Paired R ys ts := by
 induction p with
 | nil => intro ss h; exact ⟨ss, List.Perm.refl _, h⟩
 | cons x _ ih =>
  intro ss h
  cases h with
  | cons r t =>
   refine zaa ?_; intro G_; obtain ⟨ts, p, q⟩ := ih t
   exact ⟨_ :: ts, p.cons _, .cons r q⟩
 | swap x y l =>
  intro ss h
  cases h with
  | cons r t =>
   cases t with
   | cons r' t' => exact ⟨_ :: _ :: _, List.Perm.swap _ _ _, .cons r' (.cons r t')⟩
 | trans _ _ ih1 ih2 =>
  intro ss h
  refine zaa ?_; intro G_; obtain ⟨ts, p, q⟩ := ih2 h
  refine zaa ?_; intro G_; obtain ⟨us, p', q'⟩ := ih1 q
  exact ⟨us, p'.trans p, q'⟩
theorem zax {α β : Type} {R : α → β → Prop} : ∀ {xs : List α} {ss : List β} {i : Nat} {x : α}, Paired R xs ss → xs[i]? = some x → ∃ s, ss[i]? = some s ∧ R x s := by
 intro xs ss i x h
 induction h generalizing i with
 | nil => intro e; simp at e
 | cons r t ih =>
  intro e
  cases i with
  | zero => simp at e; subst e; exact (exg _ rfl r)
  | succ i => obtain ⟨s, h1, h2⟩ := ih (i := i) (by simpa using e); exact ⟨s, by simpa using h1, h2⟩
theorem zcq {α β : Type} {R : α → β → Prop} : ∀ {xs : List α} {ss : List β} {x : α}, Paired R xs ss → x ∈ xs → ∃ s, s ∈ ss ∧ R x s := by
 intro xs ss x h
 induction h with
 | nil => intro e; cases e
 | cons r t ih =>
  intro e
  rcases List.mem_cons.mp e with z | z
  ·subst z; exact ⟨_, List.mem_cons_self, r⟩
  ·obtain ⟨s, h1, h2⟩ := ih z; exact ⟨s, List.mem_cons_of_mem _ h1, h2⟩
theorem zcu {α β : Type} {R : α → β → Prop} : ∀ {xs : List α} {init : List β} {p : β}, Paired R xs (init ++ [p]) → ∃ xi x, xs = xi ++ [x] ∧ Paired R xi init ∧ R x p
 | _, [], p, h => by
  cases h with
  | cons r t => cases t; exact ⟨[], exg _ rfl ⟨.nil, r⟩⟩
 | _, q :: init, p, h => by
  cases h with
  | cons r t =>
   refine zaa ?_; intro G_; obtain ⟨xi, x, e, h1, h2⟩ := zcu t
   exact ⟨_ :: xi, x, by rw [e]; rfl, .cons r h1, h2⟩
end
theorem zh2 : ∀ (l m : List Wr.Stt), PyData.eqv (.list (l.map dS)) (.list (m.map dS)) = decide (l = m) := by
 have ho : ∀ a b : Option Int, PyData.eqv (dO a) (dO b) = decide (a = b) := fun a b => by
  cases a <;> cases b <;> simp [dO, PyData.eqv]
  rename_i x y
  by_cases h : x = y <;> simp [h]
 have all : ∀ (l m : List Wr.Stt), PyData.eqvAll (l.map dS) (m.map dS) = decide (l = m) := by
  intro l
  induction l with
  | nil => intro m; cases m <;> simp [PyData.eqvAll]
  | cons s l ih =>
   intro m
   cases m with
   | nil => simp [PyData.eqvAll]
   | cons q m =>
    obtain ⟨a, b⟩ := s
    obtain ⟨c, d⟩ := q
    simp only [List.map_cons, PyData.eqvAll, dS, PyData.eqv, ho, ih, Bool.and_true]
    by_cases h1 : a = c <;> by_cases h2 : b = d <;> by_cases h3 : l = m <;> simp [h1, h2, h3]
 intro l m
 rw [PyData.eqv]
 exact all l m
end L2
namespace L2
open PySem PySem.Spec PyProof.Rows
inductive Pln : Expr → Prop
 | name (x p) : Pln (.Name x p)
 | const (c j p) : Pln (.Constant c j p)
 | bin (a o b p) : Pln (.BinOp a o b p)
 | un (o a p) : Pln (.UnaryOp o a p)
 | bool (o l p) : Pln (.BoolOp o l p)
 | cmp (a o l p) : Pln (.Compare a o l p)
 | call (f a k p) : Pln (.Call f a k p)
 | sub (a b p) : Pln (.Subscript a b p)
 | attr (a b p) : Pln (.Attribute a b p)
 | tup (l k p) : Pln (.Tuple l k p)
 | lst (l p) : Pln (.List l p)
 | ife (c a b p) : Pln (.IfExp c a b p)
theorem Pln.star {e : Expr} (h : Pln e) (es : List Expr) (env : Env) : starEach (e :: es) env = (false, eval e env) :: starEach es env := by cases h <;> rfl
theorem Pln.swap {e : Expr} (h : Pln e) (t : Option Expr) (l : Nat) (env : Env) : swapsWith e t l env = pure false := by cases h <;> rfl
theorem Pln.fold {e : Expr} (h : Pln e) (env : Env) (x : Value) : foldedSetIterable e env x = pure x := by cases h <;> rfl
inductive Nst : Expr → Prop
 | pln {e : Expr} (h : Pln e) : Nst e
 | comp (e g s p) : Nst (.ListComp e g s p)
 | lam (a b s p) : Nst (.Lambda a b s p)
theorem Nst.star {e : Expr} (h : Nst e) (es : List Expr) (env : Env) : starEach (e :: es) env = (false, eval e env) :: starEach es env := by
 cases h with
 | pln h => exact h.star es env
 | comp => rfl
 | lam => rfl
inductive Tru : Expr → Prop
 | name (x p) : Tru (.Name x p)
 | call (f a k p) : Tru (.Call f a k p)
 | sub (a b p) : Tru (.Subscript a b p)
 | attr (a b p) : Tru (.Attribute a b p)
theorem Tru.tru {e : Expr} (h : Tru e) (env : Env) (whole : Sem Value) : isTrue e env whole = (do let v ← whole; standAt e.pos; holding [v] (truthy v)) := by cases h <;> rfl
inductive Nsts : List Expr → Prop
 | nil : Nsts []
 | cons {e : Expr} {es : List Expr} (h : Nst e) (t : Nsts es) : Nsts (e :: es)
theorem Nsts.star {es : List Expr} (h : Nsts es) (env : Env) : starEach es env = es.map fun e => (false, eval e env) := by
 induction h with
 | nil => rfl
 | cons h t ih => rw [h.star, ih]; rfl
theorem Nsts.no {es : List Expr} (h : Nsts es) (env : Env) (pos : Pos) : (backTo pos (starEach es env)).any (·.1) = false := by
 rw [h.star]
 unfold backTo
 rw [List.map_map, List.any_map]
 simp
structure JE (X : Cx) (e : Expr) (t : TE) : Prop where
 h : PE X e t
structure JT (X : Cx) (e : Expr) (t : TT) : Prop where
 h : PT X e t
structure JW (X : Cx) (e : Expr) (t : TT) : Prop where
 h : PW X e t
structure JA (X : Cx) (es : List Expr) (t : TA) : Prop where
 h : PA X es t
 pl : Nsts es
structure JS (X : Cx) (s : Stmt) (t : TS) : Prop where
 h : PS X s t
structure JB (X : Cx) (s : List Stmt) (t : TS) : Prop where
 h : PSs X s t
structure JG (X : Cx) (e : Expr) (t : TG) : Prop where
 h : PG X e t
structure JGs (X : Cx) (e : List Expr) (t : TGs) : Prop where
 h : PGs X e t
structure JI (X : Cx) (tg e : Expr) (t : TI) : Prop where
 h : PI X tg e t
structure JOp (X : Cx) (f : Value → Value → Sem Value) (r : R2) : Prop where
 h : OpR X f r
structure JUn (X : Cx) (f : Value → Sem Value) (r : V → Hp → VK → Prop) : Prop where
 h : UnR X f r
structure JC (X : Cx) (f : Value) (r : List V → Hp → VK → Prop) : Prop where
 h : zcA X f r
structure JIx (X : Cx) (r : R2) : Prop where
 h : IxR X r
structure JSet (X : Cx) (t : TSet) : Prop where
 h : PSet X t
section
variable {X : Cx} {k j : Nat} {x : Str} {ps : List Str} {sp : Sp} {p pos : Pos} {a b c e : Expr} {es rest : List Expr} {ta tb te : TE} {tA tB' : TT} {t : TA}
theorem zch : JOp X (binaryOp .Add) (rI0 fun i j => .int (i + j)) := ⟨zkv⟩
theorem zhv : JOp X (binaryOp .Sub) (rI0 fun i j => .int (i - j)) := ⟨zkC⟩
theorem zf1 : JOp X (binaryOp .Mult) (rI CMul fun i j => .int (i * j)) := ⟨zkj⟩
theorem zbt : JOp X (binaryOp .Mod) (rI (fun _ j => 0 < j) fun i j => .int (i % j)) := ⟨zj2⟩
theorem zgn : JOp X (binaryOp .FloorDiv) (rI CDiv fun i j => .int (i / j)) := ⟨ziR⟩
theorem zju : JOp X (binaryOp .Pow) (rI CPow fun i j => .int (i ^ j.toNat)) := ⟨zkk⟩
theorem zjR : JOp X (binaryOp .RShift) (rI (fun _ j => 0 ≤ j) fun i j => .int (i / 2 ^ j.toNat)) := ⟨zkD⟩
theorem o_eq : JOp X (compareOp .Eq) rEq := ⟨zlF⟩
theorem o_ne : JOp X (compareOp .NotEq) rNe := ⟨zll⟩
theorem o_lt : JOp X (compareOp .Lt) (rI0 fun i j => .bl (decide (i < j))) := ⟨zlN⟩
theorem o_le : JOp X (compareOp .LtE) (rI0 fun i j => .bl (decide (i ≤ j))) := ⟨zlp⟩
theorem o_gt : JOp X (compareOp .Gt) (rI0 fun i j => .bl (decide (j < i))) := ⟨zlt⟩
theorem zkQ (hr : Room k X.A) : JOp X (compareOp .Eq) (rEqD X.K) := ⟨zj7 hr.units⟩
theorem zlI (hr : Room k X.A) : JOp X (compareOp .NotEq) (rNeD X.K) := ⟨zkc hr.units⟩
theorem zdc : JUn X (unaryOp .USub) (rU fun i => .int (-i)) := ⟨zk8⟩
theorem zbc : JIx X (rIxL X.K) := ⟨zjv⟩
theorem zcC : JIx X (rIxT X.K) := ⟨zj8⟩
theorem zcm : JC X (.builtin "len") (fun xs H Q => ∃ p ys, xs = [.ref p] ∧ (SqL X.K H p ys ∨ SqT X.K H p ys) ∧ Q (.int ys.length) H) := ⟨zeH⟩
theorem zlB (hc : X.calm = true := by rfl) : JC X (.builtin "any") (zk3 X.K) := ⟨zdv hc⟩
theorem zlx (hc : X.calm = true := by rfl) : JC X (.builtin "sum") (zkn X.K) := ⟨zdL hc⟩
theorem zkq : JC X (.builtin "isinstance") (rIsI X.K) := ⟨zhy⟩
theorem zlv (hc : X.calm = true := by rfl) : JC X (.builtin "max") (fun xs H Q => ∃ i j, xs = [.int i, .int j] ∧ Q (.int (if j > i then j else i)) H) := ⟨zgk hc⟩
theorem ziq : JSet X zjj := ⟨set_list⟩
theorem e_v (i : Nat) (hN : X.N[i]? = some x := by rfl) (hv : Vis X.env.scope x := by first | exact Or.inl rfl | exact Or.inr (Or.inl rfl) | exact Or.inr (Or.inr rfl)) (hd : (x == ("__debug__" : Str)) = false := by decide +kernel)
  (hcd : (x == ("__classdict__" : Str)) = false := by decide +kernel) : JE X (.Name x pos) (tVar i) := ⟨zkJ hN hv hd hcd⟩
theorem e_i {i j pos} : JE X (.Constant (.int i) j pos) (tC (.int i)) := ⟨zkx⟩
theorem e_b {b j pos} : JE X (.Constant (.bool b) j pos) (tC (.bl b)) := ⟨zlO⟩
theorem e_n {j pos} : JE X (.Constant .none j pos) (tC .non) := ⟨zjW⟩
theorem e_s {x j pos} : JE X (.Constant (.str x) j pos) (tC (.str x)) := ⟨zjO⟩
theorem e_op {op : Operator} {r : R2} (ho : JOp X (binaryOp op) r) (ha : JE X a ta) (hb : JE X b tb) : JE X (.BinOp a op b pos) (tOp r ta tb) := ⟨zlk ho.h ha.h hb.h⟩
theorem e_un {op : UnaryOp} {r : V → Hp → VK → Prop} (ho : JUn X (unaryOp op) r) (ha : JE X a ta) : JE X (.UnaryOp op a pos) (tUn r ta) := ⟨zlA ho.h ha.h⟩
theorem zgM {op : CmpOp} {r : R2} (ho : JOp X (compareOp op) r) (ha : JE X a ta) (hb : JE X b tb) (h1 : op ≠ .In := by decide) (h2 : op ≠ .NotIn := by decide) : JE X (.Compare a [op] [b] pos) (tOp r ta tb) := ⟨zf6 ho.h ha.h hb.h (ziy b h1 h2)⟩
theorem zhW {j pos'} (ha : JE X a ta) : JE X (.Compare a [.Is] [.Constant .none j pos'] pos) (tIsN ta) := ⟨zkT (zir ha.h) (zcE _ (by decide) (by decide))⟩
theorem zi6 {op} (h : JE X a ta) : JE X (.BoolOp op [a] pos) ta := ⟨zk1 h.h⟩
theorem zlm (ha : JE X a ta) (hb : JE X (.BoolOp .And (b :: rest) pos) tb) : JE X (.BoolOp .And (a :: b :: rest) pos) (zkV ta tb) := ⟨zlg ha.h hb.h⟩
theorem e_or (ha : JE X a ta) (hb : JE X (.BoolOp .Or (b :: rest) pos) tb) : JE X (.BoolOp .Or (a :: b :: rest) pos) (tOrV ta tb) := ⟨zln ha.h hb.h⟩
theorem zlq (ha : JE X a ta) : JE X (.UnaryOp .Not a pos) (zjf ta) := ⟨zj0 ha.h⟩
theorem zjF (hc : JT X c tA) (ha : JE X a ta) (hb : JE X b tb) : JE X (.IfExp c a b pos) (tIf tA ta tb) := ⟨zhD hc.h ha.h hb.h⟩
theorem e_ix {r : R2} (hr : JIx X r) (ha : JE X a ta) (hb : JE X b tb) (hp : Pln b := by constructor) : JE X (.Subscript a b pos) (tOp r ta tb) := ⟨zlJ hr.h ha.h hb.h (by cases hp <;> exact fun _ _ => rfl)⟩
theorem zgF {p2 : Pos} (ha : JE X a ta) (hb : JE X b tb) : JE X (.Subscript a (.Slice none (some b) none p2) pos) (tSl (rSlL X.K) ta zeT (ziT tb)) := ⟨zfw zi1 ha.h zhj (zgG hb.h)⟩
theorem a0 : JA X [] tNil := ⟨zgS, .nil⟩
theorem ac (ha : JE X e te) (hr : JA X es t) (hp : Pln e := by constructor) : JA X (e :: es) (zap te t) := ⟨zdM ha.h hr.h (hp.star _ _), .cons (.pln hp) hr.pl⟩
theorem a1 (ha : JE X e te) (hp : Pln e := by constructor) : JA X [e] (zap te tNil) := ac ha a0 hp
theorem a1c {elt : Expr} {gs : List Comprehension} {sc : Scope} (ha : JE X (.ListComp elt gs sc p) te) : JA X [.ListComp elt gs sc p] (zap te tNil) := ⟨zdM ha.h zgS (Nst.star (.comp ..) _ _), .cons (.comp ..) .nil⟩
theorem JA.hd (h : JA X (e :: es) t) : Nst e := by cases h.pl with | cons a _ => exact a
theorem JA.rs (h : JA X (e :: es) t) : Nsts es := by cases h.pl with | cons _ a => exact a
theorem e_fn (F : FnP X.prog X.w X.K X.mg X.base k x ps sp) (hr : Room j X.A) (ha : JA X (e :: es) t) (hj : k ≤ j := by decide) (hg : Gl X x := by rfl) (hdb : (x == ("__debug__" : Str)) = false := by decide +kernel) : JE X (.Call (.Name x p) (e :: es) [] pos) (zci sp [] E0 t) :=
 ⟨zlE F hr ha.h hj hg hdb (ha.hd.star _ _) (ha.rs.no _ _)⟩
theorem e_cb {id : String} {r : List V → Hp → VK → Prop} (hc : JC X (.builtin id) r) (hm : X.mg x = none) (hv : bootBuiltins x = some (.builtin id)) (ha : JA X (e :: es) t) (hg : Gl X x := by rfl) (hn : x ≠ "__name__" := by decide +kernel) (hdb : (x == ("__debug__" : Str)) = false := by decide +kernel) :
  JE X (.Call (.Name x p) (e :: es) [] pos) (tCB r t) := ⟨zic hc.h hg hm hv ha.h hn hdb (ha.hd.star _ _) (ha.rs.no _ _)⟩
theorem e_ct {T : String} {r : List V → Hp → VK → Prop} (hc : JC X (.type T) r) (hm : X.mg x = none) (hv : bootBuiltins x = some (.type T)) (ha : JA X (e :: es) t) (hg : Gl X x := by rfl) (hn : x ≠ "__name__" := by decide +kernel) (hdb : (x == ("__debug__" : Str)) = false := by decide +kernel) :
  JE X (.Call (.Name x p) (e :: es) [] pos) (tCB r t) := ⟨zgY hc.h hg hm hv ha.h hn hdb (ha.hd.star _ _) (ha.rs.no _ _)⟩
theorem e_ty {T : String} (hm : X.mg x = none) (hv : bootBuiltins x = some (.type T)) (hg : Gl X x := by rfl) (hn : x ≠ "__name__" := by decide +kernel) (hd : (x == ("__debug__" : Str)) = false := by decide +kernel) : JE X (.Name x pos) (tC (.ty T)) := ⟨ziM hg hm hv rfl hn hd⟩
theorem zcK {x1} (h : JA X es t) : JE X (.Tuple es x1 pos) (tTup t) := ⟨zkH h.h⟩
theorem zb4 (h : JA X es t) : JE X (.List es pos) (tLst t) := ⟨zj4 h.h⟩
theorem zjw {pn : Str} {fp kp : Pos} (F : FnP X.prog X.w X.K X.mg X.base k x [pn] sp) (hr : Room j X.A) (hms : X.mg "sorted" = none) (he : JA X [e] t) (hj : k + 2 ≤ j := by decide) (hgs : Gl X "sorted" := by rfl) (hg : Gl X x := by rfl)
  (hd : (x == ("__debug__" : Str)) = false := by decide +kernel) : JE X (.Call (.Name "sorted" p) [e] [⟨some "key", .Name x fp, kp⟩] pos) (zgb X.K sp t) := ⟨zhA F hr hms he.h hj hgs hg hd (he.hd.star _ _)⟩
def JIn (X : Cx) (scope : Scope) (cl : List (Str × Addr)) (Nc : List Str) (target elt : Expr) (ifs : List Expr) (g : TG) (tt : TT) (te : TE) : Prop :=
 ∀ (pins : List (Addr × Obj)) (C : Addr) (s3 : Shared) (H3 : Hp) (fp : List Addr), JG (za3 X pins scope cl C Nc s3 H3 fp) target g ∧ ((ifs = [] ∧ tt = tYes) ∨ ∃ c, ifs = [c] ∧ JT (za3 X pins scope cl C Nc s3 H3 fp) c tt) ∧ JE (za3 X pins scope cl C Nc s3 H3 fp) elt te
variable {scope : Scope} {cl : List (Str × Addr)} {Nc : List Str} {js : List (Option Nat)} {target elt iter : Expr} {ifs : List Expr} {wi : TI} {g : TG} {tt : TT}
theorem JIn.inner (B : JIn X scope cl Nc target elt ifs g tt te) : Inner X scope cl Nc target elt ifs g tt te := fun pins C s3 H3 fp => by
 refine zaa ?_; intro G_; obtain ⟨h1, h2, h3⟩ := B pins C s3 H3 fp
 refine ⟨h1.h, ?_, h3.h⟩
 rcases h2 with ⟨rfl, rfl⟩ | ⟨c, rfl, h2⟩
 ·exact zjB
 ·exact zjo h2.h
theorem zbJ (S : CompScope X scope cl Nc js) (hi : JI X target iter wi) (B : JIn X scope cl Nc target elt ifs g tt te) (hc : X.calm = true := by rfl) (hs : Pln iter := by constructor) : JE X (.ListComp elt [⟨target, iter, ifs, 0⟩] scope pos) (ziV js wi g tt te) :=
 ⟨zjm hc S hi.h B.inner (hs.fold _)⟩
theorem zbl {op : CmpOp} {r : R2} (ho : JOp X (compareOp op) r) (ha : JE X a ta) (hb : JE X b tb) (h1 : op ≠ .In := by decide) (h2 : op ≠ .NotIn := by decide) : JT X (.Compare a [op] [b] pos) (zea (tOp r ta tb)) := ⟨ziN ho.h ha.h hb.h (ziy b h1 h2)⟩
theorem zgi {j pos'} (ha : JE X a ta) : JT X (.Compare a [.Is] [.Constant .none j pos'] pos) (tB (tIsN ta)) := ⟨zkt (zir ha.h) (zcE _ (by decide) (by decide))⟩
theorem zeg (h : JE X e te) (hp : Tru e := by constructor) : JT X e (tB te) := ⟨zkd h.h (hp.tru _)⟩
def tTru (K : PySem.W.Frag) (te : TE) : TT := fun σ H Q => te σ H fun x H' => ∃ k, TruV K x H' k ∧ Q k H'
theorem zk6 (h : JE X e te) (hp : Tru e := by constructor) : JT X e (tTru X.K te) := ⟨zhU h.h (hp.tru _)⟩
theorem zg8 (ha : JT X a tA) : JT X (.UnaryOp .Not a pos) (tNot tA) := ⟨zkU ha.h⟩
theorem zgw (ha : JT X a tA) : JW X (.BoolOp .And [a] pos) tA := ⟨zjq ha.h⟩
theorem zig (ha : JT X a tA) : JW X (.BoolOp .Or [a] pos) tA := ⟨zld ha.h⟩
theorem w_and (ha : JT X a tA) (hb : JW X (.BoolOp .And (b :: rest) pos) tB') : JW X (.BoolOp .And (a :: b :: rest) pos) (tAnd tA tB') := ⟨zjX ha.h hb.h⟩
theorem w_or (ha : JT X a tA) (hb : JW X (.BoolOp .Or (b :: rest) pos) tB') : JW X (.BoolOp .Or (a :: b :: rest) pos) (tOr tA tB') := ⟨zlu ha.h hb.h⟩
theorem JW.jt (h : JW X e tA) : JT X e tA := ⟨PW.pt h.h⟩
theorem g_n (i : Nat) (hN : X.N.Nodup) (hi : X.N[i]? = some x := by rfl) (hx : Loc X.env.scope x := by first | exact Or.inl rfl | exact Or.inr rfl) (hf : X.fn x = true ∨ X.env.scope.names.lookup x = some .local := by first | exact .inl rfl | exact .inr rfl) : JG X (.Name x pos) (za5 i) := ⟨zi7 hN hi hx hf⟩
theorem zee {k n : Nat} {u : TGs} (h : JGs X es u) (hc : X.calm = true := by rfl) (hn : (assignEach es X.env).length = n := by rfl) (hst : (assignEach es X.env).findIdx? (·.1) = none := by rfl) : JG X (.Tuple es k pos) (gTup X.K n u) := ⟨zkM hc h.h hn hst⟩
theorem zct : JGs X [] gNil := ⟨zjJ⟩
theorem zaI {u : TG} {us : TGs} (h1 : JG X e u) (h2 : JGs X es us) (hs : (assignEach (e :: es) X.env).map (·.2) = assign e X.env :: (assignEach es X.env).map (·.2) := by rfl) : JGs X (e :: es) (zeW u us) := ⟨zhs h1.h h2.h hs⟩
theorem zkX {ts : TSet} (ho : JE X a ta) (hi : JE X b tb) (hs : JSet X ts) (hp : Pln b := by constructor) : JG X (.Subscript a b pos) (gSub ta tb ts) := ⟨zjZ ho.h hi.h hs.h (by cases hp <;> exact fun _ => rfl)⟩
theorem zbg (h : JE X e te) : JI X target e (zkY X.K te) := ⟨zjg h.h⟩
theorem zkG (h : JE X e te) : JI X target e (iTup X.K te) := ⟨zke h.h⟩
theorem ziB (hm : X.mg "range" = none) (ha : JA X [e] t) (hg : Gl X "range" := by rfl) : JI X target (.Call (.Name "range" p) [e] [] pos) (ziS t) := ⟨zgq hg hm ha.h (ha.hd.star _ _)⟩
variable {s1 : Stmt} {ss body orelse : List Stmt} {u u' : TS}
theorem zbo : JB X [] zfK := ⟨zjC⟩
theorem zan (h : JS X s1 u) : JB X [s1] u := ⟨ziW h.h⟩
theorem zag (h : JS X s1 u) (h2 : JB X ss u') : JB X (s1 :: ss) (tSeq u u') := ⟨zh4 h.h h2.h⟩
theorem zay (i : Nat) {pos' : Pos} (hN : X.N.Nodup) (he : JE X e te) (hp : Pln e := by constructor) (hi : X.N[i]? = some x := by rfl) (hx : Loc X.env.scope x := by first | exact Or.inl rfl | exact Or.inr rfl)
  (hf : X.fn x = true ∨ X.env.scope.names.lookup x = some .local := by first | exact .inl rfl | exact .inr rfl) : JS X (.Assign [.Name x pos'] e pos) (tAsg te (za5 i)) := ⟨zgs hN hi hx he.h (hp.swap _ _ _) hf⟩
theorem zkE {tg : Expr} (he : JE X e te) (hg : JG X tg g) (hp : Pln e := by constructor) (hw : swappedStores [tg] e X.env = pure none := by rfl) (h1 : (assignEach [tg] X.env).map (·.2) = [assign tg X.env] := by rfl) : JS X (.Assign [tg] e pos) (tAsg te g) :=
 ⟨zk5 he.h hg.h (hp.swap _ _ _) hw h1⟩
theorem s_if (hc : JT X c tA) (ha : JB X body u) (hb : JB X orelse u') : JS X (.If c body orelse pos) (tIfS tA u u') := ⟨zlz hc.h ha.h hb.h⟩
theorem zaR (he : JE X e te) : JS X (.Return (some e) pos) (tRet te) := ⟨zjY he.h⟩
theorem ziE (he : JE X e te) (hp : Pln e := by constructor) : JS X (.Expr e pos) (zem te) := ⟨zfc he.h (hp.swap _ _ _)⟩
theorem zfF {o : Expr} {to : TE} {apos cpos spos : Pos} (ho : JE X o to) (ha : JE X e te) (hp : Pln e := by constructor) (hbase : attributeBase o "append" X.env (eval o X.env) = eval o X.env := by rfl) (hline : (apos.endLine == cpos.line) = true := by rfl) :
  JS X (.Expr (.Call (.Attribute o "append" apos) [e] [] cpos) spos) (zem (tBM X.K "list" zbW to (zap te tNil))) :=
 ⟨zj9 ho.h (a1 ha hp).h hbase (by rw [hp.star]; rfl) hline (hp.star _ _) rfl (Pln.swap (.call ..) _ _ _)⟩
theorem zdA {tg : Expr} (hi : JI X tg iter wi) (hg : JG X tg g) (hb : JB X body u) (hp : PassesOwn (model X.prog X.w) X.A X.env X.xe := by exact PassesOwn.never) (hc : X.calm = true := by rfl) (hs : Pln iter := by constructor) : JS X (.For tg iter body [] pos) (tFor wi g u) := ⟨zku hp hc hi.h hg.h hb.h (hs.fold _)⟩
theorem zgI (hc : JT X c tA) (hb : JB X body u) (hp : PassesOwn (model X.prog X.w) X.A X.env X.xe := by exact PassesOwn.never) : JS X (.While c body [] pos) (ziC tA u) := ⟨zih hp hc.h hb.h⟩
end
section
variable {P : Program} {w : World} {K : PySem.W.Frag} {mg : Str → Option Value} {base : Heap}
theorem Fun.okJ {x qual : Str} {st : Stmt} {f : Addr} {fd : FuncData} {N ps : List Str} {k : Nat} {sp : Sp} (F : Fun K x qual st f fd) (S : FnScope N ps (zab st)) (len : ∀ vs H Q E, sp vs H Q E → vs.length = ps.length)
  (hbody : ∀ (cdv : Value) (A : Around) (outer : List Env) (s : Shared) (H : Hp) (vs : List V) (Q : VK) (E : XK), Room k (A.deeper (envOfC qual (zab st) s.heap.objs.size f cdv)) → sp vs H Q E →
   ∃ t, JB (cxOf CX0 P w K mg base N qual (zab st) f cdv A outer s H E).nox (zad st) t ∧ t { nx := fun _ H' => Q .non H', rt := Q } (start N vs) H) : FnOk P w K mg base CX0 (k + 1) f fd ps sp :=
 F.ok S len fun cdv A outer s H vs Q E hr h => let ⟨t, h1, h2⟩ := hbody cdv A outer s H vs Q E hr h; ⟨t, h1.h, h2⟩
end
end L2
namespace L2
open PySem PySem.Spec PyProof.Rows
theorem pz {n : Int} (h : 0 < n := by decide) : 0 < n := h
theorem pn {n : Int} (h : 0 ≤ n := by decide) : 0 ≤ n := h
theorem zi2 {x : Str} {A B : Prop} (h : A) : if decide (V.str x = V.str x) = true then A else B := by rw [if_pos (by simp)]; exact h
theorem zho {x y : Str} {A B : Prop} (ne : x ≠ y) (h : B) : if decide (V.str x = V.str y) = true then A else B := by rw [if_neg (by simp [ne])]; exact h
theorem zcI {ns : List Int} {i : Int} (h0 : 0 ≤ i) (h1 : i < ns.length) : ∃ n, n ∈ ns ∧ atI (ns.map V.int) i = some (.int n) := by
 obtain ⟨j, rfl⟩ : ∃ j : Nat, i = (j : Int) := ⟨i.toNat, by lia⟩
 have hl : j < ns.length := by lia
 exact ⟨ns[j], List.getElem_mem hl, zbL (by simp [hl])⟩
structure Blts (mg : Str → Option Value) : Prop where
 sorted : mg "sorted" = none
 max : mg "max" = none
 min : mg "min" = none
 any : mg "any" = none
 all : mg "all" = none
 sum : mg "sum" = none
 len : mg "len" = none
 range : mg "range" = none
 isinstance : mg "isinstance" = none
 list : mg "list" = none
 tuple : mg "tuple" = none
 int : mg "int" = none
 bool : mg "bool" = none
 str : mg "str" = none
 dict : mg "dict" = none
 set : mg "set" = none
 zip : mg "zip" = none
 enumerate : mg "enumerate" = none
 reversed : mg "reversed" = none
theorem FnOk.none {P : Program} {w : World} {K : PySem.W.Frag} {mg : Str → Option Value} {base : Heap} {CX : CXT} {k : Nat} {f : Addr} {fd : FuncData} {ps : List Str} {sp : Sp} (h : ∀ vs H Q E, ¬ sp vs H Q E) : FnOk P w K mg base CX k f fd ps sp :=
 ⟨fun vs H Q E q => absurd q (h vs H Q E), fun _ _ _ H _ _ vs Q E _ _ _ _ q => absurd q (h vs H Q E)⟩
theorem zk4 {xs : List Int} {i : Nat} {x : V} (h : (xs.map V.int)[i]? = some x) : ∃ c, x = V.int c := by
 rw [List.getElem?_map] at h
 cases e : xs[i]? with
 | none => rw [e] at h; cases h
 | some z => rw [e] at h; exact ⟨z, (Option.some.inj h).symm⟩
def RowAt (H : Hp) (v : V) (ns : List Int) : Prop := ∃ t, v = .ref t ∧ H t = some (.tup (ns.map V.int))
theorem RowAt.same {H H' : Hp} {v : V} {ns : List Int} (e : Same H H') (h : RowAt H v ns) : RowAt H' v ns := by obtain ⟨t, h1, h2⟩ := h; exact ⟨t, h1, e _ _ h2⟩
theorem cutN (xs : List V) (m : Nat) : cutV xs none (some (m : Int)) = xs.take m := by
 unfold cutV
 have e1 : HT.sIx xs.length 0 none = 0 := rfl
 have e2 : HT.sIx xs.length xs.length (some (m : Int)) = min m xs.length := HT.sIx_nat ..
 rw [e1, e2, List.drop_zero, Nat.sub_zero]
 by_cases h : m ≤ xs.length
 ·rw [Nat.min_eq_left h]
 ·rw [Nat.min_eq_right (by lia), List.take_of_length_le (Nat.le_refl _), List.take_of_length_le (by lia)]
theorem zfg (ns : List Int) (m : Nat) : cutV (ns.map V.int) none (some (m : Int)) = (ns.take m).map V.int := by rw [cutN, List.map_take]
inductive Cond where
 | same (i j : Nat) | isv (i : Nat) (v : Int) | less (i j : Nat) | undr (i : Nat) (v : Int)
 | both (a b : Cond) | either (a b : Cond) | neg (a : Cond)
namespace Cond
end Cond
theorem zlM {X : Cx} : JOp X (binaryOp .Add) rCat := ⟨zkf⟩
theorem zgo {X : Cx} : JC X (.type "tuple") (fun xs H Q => ∃ p ys, xs = [.ref p] ∧ ((SqL X.K H p ys ∧ ∀ l, H l = none → Q (.ref l) (upd H l (.tup ys))) ∨ (SqT X.K H p ys ∧ Q (.ref p) H))) := ⟨zdR⟩
end L2
namespace L2
open PySem PySem.Spec PyProof.Rows
structure Site where
 c : Addr
 P : Addr
structure SiteOk (base : Heap) (mg : Str → Option Value) (S : Site) : Prop where
 hd : PySem.W.CodeHd base S.c S.P
 blt : ∃ bm o, mg "__builtins__" = some (.ref bm) ∧ bm ≠ builtinsNs ∧ base.get? bm = some o ∧ o.cls = .type "module" ∧ o.dict = some builtinsNs ∧ o.data = .plain
section
variable {X : Cx} {S : Site} {params : Arguments} {body : Expr} {scope : Scope} {pos : Pos}
end
section
variable {X : Cx} {k j i : Nat} {x : Str} {ps : List Str} {sp : Sp} {p pos : Pos} {e : Expr} {es : List Expr} {t : TA} {f : Addr} {fd : FuncData}
end
def zlw : HO → Bool
 | .tbl _ => false
 | _ => true
structure LSite where
 S : Site
 q : Str
 pos : Pos
section
variable {Ls : List LSite} {H H1 H2 : Hp} {a : Addr} {o : HO}
end
end L2
namespace L2
open PySem PySem.Spec PyProof.Rows
end L2
namespace L2
open PySem PySem.Spec PyProof.Rows
section
variable {P : Program} {w : World} {K : PySem.W.Frag} {mg : Str → Option Value} {base : Heap}
end
section
variable {X : Cx} {S : Site} {params : Arguments} {body : Expr} {scope : Scope} {pos : Pos}
end
end L2
namespace Wr
open PySem SetTable
def it (m : Nat) : Nat → Nat → Nat
 | 0, i => i
 | s + 1, i => it m s ((i * 5 + 1) % m)
end Wr
namespace Wr
open PySem SetTable
def Rise (l : List Nat) : Prop := l.Pairwise (· < ·)
def cnt (l : List Nat) (j : Nat) : Nat := (l.filter fun x => decide (x < j)).length
end Wr
namespace Wr
open PySem SetTable
def zlL : List Nat := [8, 16, 32, 64, 128, 256, 512]
structure TOk (t : SetTable) (n : Nat) : Prop where
 sz : t.place.size = n
 rise : Rise t.place.toList
 inn : ∀ x ∈ t.place.toList, x ≤ t.mask
 nod : t.dummies = #[]
 plain : t.plain = true
 msk : t.mask + 1 ∈ zlL
 room : n * 5 < t.mask * 3
end Wr
namespace Wr
open PySem SetTable
def zkb (e : Int × Value) (n : Int) : Prop := e.1 = hashInt n ∧ ∃ t, e.2 = .int n t
abbrev byTx (w : World) : Bool := w.params.followText "set-order"
structure ISet (w : World) (h : Heap) (a : Addr) (ns : List Int) : Prop where
 ex : ∃ o es ep t, h.get? a = some o ∧ o.ExactSet ∧ o.data = .set es ep t ∧ Paired zkb es.toList ns ∧ ns.Nodup ∧ TOk t es.size ∧ (byTx w = false → t.led = true)
section
variable {prog : Program} {w : World} {A : Around} {E : Value → Shared → Prop} {s : Shared}
end
end Wr
namespace Wr
open PySem SetTable
section
variable {prog : Program} {w : World} {A : Around} {E : Value → Shared → Prop} {s : Shared}
structure RSet (w : World) (h : Heap) (a : Addr) (ns : List Int) (o : Obj) (es : Array (Int × Value)) (ep : Nat) (t : SetTable) : Prop where
 at' : h.get? a = some o
 ex : o.ExactSet
 dat : o.data = .set es ep t
 prs : Paired zkb es.toList ns
 nd : ns.Nodup
 ok : TOk t es.size
 led : byTx w = false → t.led = true
end
end Wr
namespace Wr
open PySem SetTable
section
variable {prog : Program} {w : World} {A : Around} {E : Value → Shared → Prop} {s : Shared}
end
end Wr
namespace Wr
open PySem SetTable
def zlH (h : Heap) (it a : Addr) (slot i n ep : Nat) : Prop := ∃ o, h.get? it = some o ∧ o.cls = .type "set_iterator" ∧ o.data = .fields #[rawInt slot, rawInt i, .ref a, rawInt n, rawInt ep]
section
variable {prog : Program} {w : World} {A : Around} {E : Value → Shared → Prop} {s : Shared}
structure SSt (w : World) (h : Heap) (it a : Addr) (ns : List Int) (o : Obj) (es : Array (Int × Value)) (ep : Nat) (t : SetTable) (i : Nat) : Prop where
 ex : ∃ slot, zlH h it a slot i es.size ep ∧ (byTx w = false → cnt t.place.toList slot = i)
 rs : RSet w h a ns o es ep t
end
end Wr
namespace Wr
open PySem SetTable PyProof.Rows
section
variable {prog : Program} {w : World} {A : Around} {E : Value → Shared → Prop} {s : Shared}
end
end Wr
namespace Wr
open PySem SetTable PyProof.Rows
section
variable {prog : Program} {w : World} {A : Around} {E : Value → Shared → Prop} {s : Shared}
theorem collect_byD {c d : Addr} {T : String} {n : Nat} {P : Nat → Value → Prop} {St : Addr → Nat → Heap → Prop} {Q : List Value → Shared → Prop} (hc : c < s.heap.objs.size) (hd : d < s.heap.objs.size)
  (hT : ∀ h' : Heap, (∀ b o, s.heap.get? b = some o → h'.get? b = some o) → ({ s with heap := h' } : Shared).TypeIs (.ref c) T) (h1 : (Value.type T == Value.type "list") = false) (h2 : (Value.type T == Value.type "tuple") = false)
  (hit : ∀ (h' : Heap) (Q' : Value → Shared → Prop), (∀ b o, s.heap.get? b = some o → h'.get? b = some o) → s.heap.objs.size ≤ h'.objs.size →
   (∀ it h'', h'.objs.size ≤ it → (∀ b o, h'.get? b = some o → h''.get? b = some o) → St it 0 h'' → Q' (.ref it) { s with heap := h'' }) → wpAny (model prog w) A.in1 (pyIter (.ref c)) Q' E { s with heap := h' })
  (hint : ∀ (h' : Heap) (Q' : Bool → Shared → Prop), (∀ b o, s.heap.get? b = some o → h'.get? b = some o) → Q' false { s with heap := h' } → wpAny (model prog w) A.in1 (Builtin.List.listLengthHint (.ref c)) Q' E { s with heap := h' })
  (W : ∀ it, d ≠ it → Walks prog w A.in1 it [it, d] [it] n P (St it)) (hn : n ≤ sizeLine)
  (hQ : ∀ h' tk acc, (∀ b o, s.heap.get? b = some o → h'.get? b = some o) → s.heap.objs.size < h'.objs.size → s.toks ≤ tk → ItemsOf P acc n → Q acc.toList { s with heap := h', toks := tk }) : wpAny (model prog w) A (collect (.ref c)) Q E s := by
 unfold collect
 refine wpAny_bind (wpAny_runValue (codeAny_builtin F.entry_proto_collect ?_)); rw [Around.under_plainId F.plain_proto_collect _]
 show wpAny _ A.in1 (newList [] >>= fun l => again (.builtin "list.__iadd__" ⟨[l, .ref c], []⟩)) _ _ s
 refine wpAny_bind (wpAny_newObj_type ?_ (by size_fits))
 refine wpAny_pure ⟨plainId_quiet F.plain_list_iadd _, codeAny_builtin F.entry_list_iadd ?_⟩; rw [Around.under_plainId F.plain_list_iadd _]
 show wpAny _ A.in1 (Builtin.List.listExtendWith (.ref s.heap.objs.size) (.ref c) (.ref s.heap.objs.size)) _ _ _
 unfold Builtin.List.listExtendWith
 have k0 : ∀ b o, s.heap.get? b = some o → (s.heap.push (seqObj "list" #[] 0)).get? b = some o := fun b o e => Heap.get?_push_of_some _ e
 refine wpAny_bind (wpAny_typeOf (hT _ k0) ?_)
 have hS : Builtin.List.listSameRef (.ref s.heap.objs.size) (.ref c) = false := by simp [Builtin.List.listSameRef]; exact Nat.ne_of_gt hc
 simp only [hS, h1, h2, Bool.or_false, Bool.false_eq_true, if_false]
 refine wpAny_bind (hit _ _ k0 (by rw [Heap.size_push]; lia) fun it h'' hge kk st => ?_)
 have k2 : ∀ b o, s.heap.get? b = some o → h''.get? b = some o := fun b o e => kk b o (k0 b o e)
 refine wpAny_bind (wpAny_holding (hint h'' _ k2 ?_))
 have hitS : s.heap.objs.size < it := Nat.lt_of_lt_of_le (by rw [Heap.size_push]; exact Nat.lt_succ_self _) hge
 have hcit : d ≠ it := Nat.ne_of_lt (Nat.lt_trans hd hitS)
 have hSf : s.heap.objs.size ∉ [it, d] := by
  intro z
  rcases List.mem_cons.mp z with z | z
  ·exact absurd z (Nat.ne_of_lt hitS)
  ·exact absurd (List.mem_singleton.mp z) (Nat.ne_of_gt hd)
 have hS2 : h''.get? s.heap.objs.size = some (seqObj "list" #[] 0) := kk _ _ (Heap.get?_push_size _ rfl)
 have loop : ∀ (h3 : Heap) (cc : Nat), h3.get? s.heap.objs.size = some (seqObj "list" #[] cc) → (∀ b o, b ≠ s.heap.objs.size → h''.get? b = some o → h3.get? b = some o) →
   codeAny (model prog w) A (.builtin "list.extend.loop" ⟨[.ref s.heap.objs.size, .ref it, .ref s.heap.objs.size], []⟩) (fun r s' => match r with
    | .ok (.ret v) => wpAny (model prog w) A (match v with
     | .ref a => (do let o ← load a; match o.data with | .seq xs _ => pure xs.toList | _ => unsupported "internal:collect")
     | _ => unsupported "internal:collect") Q E s'
    | .ok _ => False
    | .error e => E e s') { s with heap := h3 } := by
  intro h3 cc hS3 k3
  have st3 : St it 0 h3 := (W it hcit).frame 0 h'' h3 st fun b hb o e => k3 b o (fun z => hSf (z ▸ hb)) e
  refine codeAny_extend_loopS (W it hcit).toS hn s.heap.objs.size hSf (.ref s.heap.objs.size) n 0 { s with heap := h3 } #[] cc (by lia) (Nat.zero_le _) st3 hS3 (ItemsOf.nil P) fun s' acc' c' hm hS' hacc => ?_
  refine wpAny_bind (wpAny_load hS' (wpAny_pure ?_))
  obtain ⟨h4, g4, d4, t4, o4⟩ := s'
  obtain ⟨m1, m2, m3, m4, m5⟩ := hm
  obtain rfl : g4 = s.gens := m2
  obtain rfl : d4 = s.drawn := m3
  obtain rfl : o4 = s.os := m4
  refine hQ h4 t4 acc' (fun b o e => ?_) (Heap.lt_size hS') m5 hacc
  have hb : b < s.heap.objs.size := Heap.lt_size e
  refine m1 b o (fun z => ?_) (k3 b o (Nat.ne_of_lt hb) (k2 b o e))
  rcases List.mem_cons.mp z with z | z
  ·exact absurd z (Nat.ne_of_lt hb)
  ·exact absurd (List.mem_singleton.mp z) (Nat.ne_of_lt (Nat.lt_trans hb hitS))
 split
 ·refine wpAny_bind (wpAny_rule (wpAny_bind ?_))
  show wpAny _ A.in1 (updateSeq s.heap.objs.size (·.push .none) >>= fun _ => updateSeq s.heap.objs.size (·.pop)) _ _ _
  refine wpAny_bind (wpAny_updateSeq hS2 rfl ?_)
  have q1 := Heap.get?_update_self (Obj.mapSeq (·.push Value.none)) hS2 rfl
  refine wpAny_updateSeq q1 rfl ?_
  have q2 := Heap.get?_update_self (Obj.mapSeq (·.pop)) q1 rfl
  exact wpAny_pure ⟨plainId_quiet F.plain_extend_loop _, loop _ _ q2 fun b o hb e => (Heap.get?_update_other _ _ (Ne.symm hb)).trans ((Heap.get?_update_other _ _ (Ne.symm hb)).trans e)⟩
 ·exact wpAny_pure ⟨plainId_quiet F.plain_extend_loop _, loop _ _ hS2 fun b o _ e => e⟩
end
end Wr
namespace Wr
open PySem SetTable PyProof.Rows
section
variable {prog : Program} {w : World} {A : Around} {E : Value → Shared → Prop} {s : Shared}
end
end Wr
namespace Wr
open PySem SetTable PyProof.Rows
section
variable {prog : Program} {w : World} {A : Around} {E : Value → Shared → Prop} {s : Shared}
end
end Wr
namespace Wr
open PySem SetTable PyProof.Rows
section
variable {prog : Program} {w : World} {A : Around} {E : Value → Shared → Prop} {s : Shared}
end
end Wr
namespace Wr
open PySem SetTable PyProof.Rows
section
variable {prog : Program} {w : World} {A : Around} {E : Value → Shared → Prop} {s : Shared}
end
end Wr
namespace Wr
open PySem PyProof.Rows
section
variable {prog : Program} {w : World} {A : Around} {E : Value → Shared → Prop} {s : Shared}
end
end Wr
namespace Wr
open PySem PyProof.Rows
section
variable {prog : Program} {w : World} {A : Around} {E : Value → Shared → Prop} {s : Shared}
end
end Wr
namespace L2
open PySem PySem.Spec PyProof.Rows
section
variable {X : Cx} {pins : List (Addr × Obj)} {σ : St} {H : Hp} {s : Shared}
theorem ziD (I : Inv X pins σ H s) (hc : X.calm = true) : X.A.handled = none := I.ok.hd hc
end
end L2
namespace L2
open PySem PySem.Spec PyProof.Rows
theorem nn {a b : Nat} (h : a ≠ b) : @Ne Addr a b := h
section
variable {X : Cx} {pins : List (Addr × Obj)} {σ : St} {H : Hp} {s : Shared} {h' : Heap}
theorem Inv.turnedT {t' : Nat} {fp : List Addr} {T : Addr} {o : HO} (I : Inv X pins σ H s) (hf : ∀ b ∈ fp, FpOk X pins H b) (k : ∀ b o, b ∉ fp → s.heap.get? b = some o → h'.get? b = some o) (kf : ∀ b ∈ fp, ∃ o, h'.get? b = some o)
  (hT : s.heap.objs.size ≤ T) (new : ObjOk X.prog X.w (upd H T o) h' T o) : Inv X pins σ (upd H T o) { s with heap := h', toks := t' } := by
 have hn : H T = none := I.hok.fresh hT
 have nit : ∀ b u, H b = some u → b ∉ fp := fun b u e z => by rw [(hf b z).1] at e; cases e
 have neT : ∀ b u, s.heap.get? b = some u → b ≠ T := fun b u e => Nat.ne_of_lt (Nat.lt_of_lt_of_le (Heap.lt_size e) hT)
 refine I.step (g' := s.gens) (d' := s.drawn) (ch := fp) (fun b hb => ?_) (fun b o _ _ hc e _ => k b o hc e) (fun b o _ _ hc e _ => ⟨o.slots, k b o hc e⟩) (fun b o _ e n => by rw [zaj (neT b o e)]; exact n)
  (fun b o hc e => ⟨o, k b o hc e⟩) (fun b xs e => by rw [zaj (zal e hn)]; exact e) (fun b o u e => by rw [zaj (zal e hn)]; exact e) (fun b ps e => ⟨#[], by rw [zaj (zal e hn), e]; simp⟩) (fun m hm => ?_) (fun b u e => ?_) I.bare
 ·refine zaa ?_; intro G_; obtain ⟨f0, f1, f2, f3, f4, f5⟩ := hf b hb
  exact ⟨f3, f1, f4, f5⟩
 ·refine zaa ?_; intro G_; obtain ⟨o, es, ep, ho, r⟩ := hm
  exact ⟨o, es, ep, k _ o (fun z => (hf _ z).2.1 rfl) ho, r⟩
 ·by_cases hb : b = T
  ·subst hb; rw [zac] at e; cases e; exact new
  ·rw [zaj hb] at e
   refine (I.hok b u e).stay (fun c v hc q => k c v ?_ q) (fun c q => by rw [zaj (zal q hn)]; exact q) fun c xs q => by rw [zaj (zal q hn)]; exact q
   rcases hc with z | z
   ·rw [z]; exact nit b u e
   ·exact nit c _ z
theorem Inv.turnedS {t' : Nat} {fp : List Addr} (I : Inv X pins σ H s) (hf : ∀ b ∈ fp, FpOk X pins H b) (k : ∀ b o, b ∉ fp → s.heap.get? b = some o → h'.get? b = some o) : Inv X pins σ H { s with heap := h', toks := t' } := by
 have nit : ∀ b u, H b = some u → b ∉ fp := fun b u e z => by rw [(hf b z).1] at e; cases e
 refine I.step (g' := s.gens) (d' := s.drawn) (ch := fp) (fun b hb => ?_) (fun b o _ _ hc e _ => k b o hc e) (fun b o _ _ hc e _ => ⟨o.slots, k b o hc e⟩) (fun b o _ e n => n)
  (fun b o hc e => ⟨o, k b o hc e⟩) (fun b xs e => e) (fun b o u e => e) (fun b ps e => ⟨#[], by rw [e]; simp⟩) (fun m hm => ?_) (fun b u e => ?_) I.bare
 ·refine zaa ?_; intro G_; obtain ⟨f0, f1, f2, f3, f4, f5⟩ := hf b hb
  exact ⟨f3, f1, f4, f5⟩
 ·refine zaa ?_; intro G_; obtain ⟨o, es, ep, ho, r⟩ := hm
  exact ⟨o, es, ep, k _ o (fun z => (hf _ z).2.1 rfl) ho, r⟩
 ·refine (I.hok b u e).stay (fun c v hc q => k c v ?_ q) (fun c q => q) fun c xs q => q
  rcases hc with z | z
  ·rw [z]; exact nit b u e
  ·exact nit c _ z
end
section
variable {X : Cx} {elts : List Expr} {x1} {ps : Pos}
theorem zfq {K : PySem.W.Frag} {a : Addr} {xs : List V} {g : TG} {tt : TT} {te : TE} {Q : VK} {σ : St} {H : Hp} {D : Addr} (Pv : Nat → St → Hp → Prop) (h0 : Pv 0 σ H) (hl : ∀ i σ H, i ≤ xs.length → Pv i σ H → SqT K H a xs)
  (hs : ∀ i x σ H, xs[i]? = some x → Pv i σ H → g x σ H fun σ2 H2 => tt σ2 H2 fun b H3 => if b = true then te σ2 H3 fun v H4 => ∃ zs, H4 D = some (.lst zs) ∧ zs.length < sizeLine ∧ Pv (i + 1) σ2 (upd H4 D (.lst (zs ++ [v]))) else Pv (i + 1) σ2 H3)
  (hd : ∀ σ H, Pv xs.length σ H → Q (.ref D) H) : zex (Itt K a) g tt te D Q σ H := by
 refine ⟨fun i m σ H => m = xs.length - i ∧ i ≤ xs.length ∧ Pv i σ H, ⟨xs.length, by simp, Nat.zero_le _, h0⟩, ?_⟩
 intro i m σ H h_
 refine zaa ?_; intro G_; obtain ⟨rfl, hi, p⟩ := h_
 have q := hl i σ H hi p
 by_cases hlt : i < xs.length
 ·refine .inr ⟨⟨xs, xs[i], q, by simp [hlt]⟩, fun σ' H' => Pv (i + 1) σ' H', fun σ' H' p' => ⟨xs.length - (i + 1), by lia, rfl, hlt, p'⟩, fun x H' y => ?_⟩
  obtain ⟨e, y⟩ := y
  subst e
  exact hs i x σ _ (y xs q) p
 ·have e : i = xs.length := by lia
  subst e
  exact .inl ⟨⟨xs, q, Nat.le_refl _⟩, hd σ H p⟩
end
section
variable {X : Cx} {e o i : Expr} {te to ti : TE} {t : TA} {pos : Pos} {k : Nat}
theorem zls {apos cpos spos : Pos} (ho : JE X o to) (ha : JA X [e] t) (hbase : attributeBase o "extend" X.env (eval o X.env) = eval o X.env := by rfl) (hline : (apos.endLine == cpos.line) = true := by rfl) :
  JS X (.Expr (.Call (.Attribute o "extend" apos) [e] [] cpos) spos) (zem (tBM X.K "list" zf7 to t)) :=
 ⟨zfc (zfG PySem.F.plainAttrs_list PySem.F.slot_list_extend PySem.F.type_list_extend zhm ho.h ha.h hbase (by rw [ha.hd.star]; rfl) hline (ha.hd.star _ _) rfl) (Pln.swap (.call ..) _ _ _)⟩
end
end L2
namespace Prf
open PySem L2 Wr
theorem take_snoc {α : Type} {l : List α} {i : Nat} {x : α} (h : l[i]? = some x) : l.take (i + 1) = l.take i ++ [x] := by rw [List.take_add_one, h]; rfl
theorem zff {l r : List Stt} (h : l.Perm r) (m : Int) : zah m l = zah m r := by
 rw [Bool.eq_iff_iff, zbq, zbq]
 constructor
 ·rintro ⟨s, hs, q⟩; exact ⟨s, h.mem_iff.mp hs, q⟩
 ·rintro ⟨s, hs, q⟩; exact ⟨s, h.mem_iff.mpr hs, q⟩
theorem zeq {α β : Type} {f : α → β} {l : List α} {i : Nat} {x : β} (h : (l.map f)[i]? = some x) : ∃ a, l[i]? = some a ∧ x = f a := by
 rw [List.getElem?_map] at h
 cases e : l[i]? with
 | none => rw [e] at h; cases h
 | some a => rw [e] at h; exact ⟨a, rfl, (Option.some.inj h).symm⟩
theorem zfx : ∀ {bs : List Int} {s : Bool} {b : Int}, Inc bs → b ∈ bs → par s bs b ≠ par s bs (b - 1)
 | x :: bs, s, b, hi, hb => by
  obtain ⟨h1, h2⟩ := List.pairwise_cons.mp hi
  rcases List.mem_cons.mp hb with rfl | hm
  ·show par (s != decide (b ≤ b)) bs b ≠ par (s != decide (b ≤ b - 1)) bs (b - 1)
   rw [decide_eq_true (Int.le_refl b), decide_eq_false (by lia), zbZ h1, zbZ fun c hc => by have := h1 c hc; lia]
   cases s <;> decide
  ·have := h1 b hm
   show par (s != decide (x ≤ b)) bs b ≠ par (s != decide (x ≤ b - 1)) bs (b - 1)
   rw [decide_eq_true (by lia), decide_eq_true (show x ≤ b - 1 by lia)]
   exact zfx h2 hm
theorem zfL {g : List Int} {b : Int} (h : b ∉ g) : zaU g b = zaU g (b - 1) := by
 unfold zaU
 congr 1
 refine List.filter_congr fun x hx => ?_
 rw [Bool.eq_iff_iff, decide_eq_true_iff, decide_eq_true_iff]
 have : x ≠ b := fun e => h (e ▸ hx)
 lia
theorem zg7 {g : List Int} {l : List Stt} {φ : Nat → Bool} (hl : Can l) (h : ∀ m, zah m l = φ (zaU g m)) : ∀ b ∈ bnds l, b ∈ g := by
 intro b hb
 by_cases hg : b ∈ g
 ·exact hg
 ·have e1 := h b
  have e2 := h (b - 1)
  rw [zfL hg] at e1
  rw [ziI hl] at e1 e2
  exact absurd (e1.trans e2.symm) (zfx (zfp hl) hb)
end Prf
namespace L2
open PySem PySem.Spec PyProof.Rows
section
variable {prog : Program} {w : World} {A : Around} {E : Value → Shared → Prop} {s : Shared}
theorem zcz {a : Addr} {n : Nat} {xs : List V} {vs : List Value} {kf : V → List Int} {P : PySem.Fin → Shared → Prop} (ho : s.heap.get? a = some (seqObj "list" vs.toArray n)) (r : Vals xs vs) (K : KeysAt s.heap vs (xs.map kf)) (h64 : vs.length < 64)
  (h : ∀ (ys : List V) (ws : List Value), Vals ys ws → ys.Perm xs → zaV kf ys → P (.done (.ret .none)) { s with heap := sortedHeap s.heap a vs ws.toArray }) :
  wpAny (model prog w) A (Builtin.«list.sort» ⟨[.ref a], []⟩) P E s := by
 rw [list_sort_plain]; have ha : a < s.heap.objs.size := Heap.lt_size ho
 have hl := Vals.length r; refine wpAny_bind (listItems_at ho rfl ?_)
 refine wpAny_bind (listUpdate_at ho rfl ?_); obtain ⟨e1, ho1⟩ : ∃ e1, (s.heap.update a (Obj.mapSeq fun _ => #[])).get? a = some (seqObj "list" #[] e1) := ⟨_, get?_update_seq ho (fun _ => #[])⟩
 refine wpAny_bind (seqEpoch_at ho1 rfl ?_); refine wpAny_bind (wpAny_newTuple ?_)
 refine wpAny_bind (wpAny_newList ?_); refine wpAny_holding ?_
 have ho6 : (((s.heap.update a (Obj.mapSeq fun _ => #[])).push (seqObj "tuple" vs.toArray 0)).push (seqObj "list" #[] 0)).get? a = some (seqObj "list" #[] e1) := by
  rw [Heap.get?_push_ne _ _ _ (by rw [size_push', Heap.size_update]; exact Nat.ne_of_lt (Nat.lt_succ_of_lt ha)), Heap.get?_push_ne _ _ _ (by rw [Heap.size_update]; exact Nat.ne_of_lt ha)]; exact ho1
 show wpAny (model prog w) A _ P E { s with heap := ((s.heap.update a (Obj.mapSeq fun _ => #[])).push (seqObj "tuple" vs.toArray 0)).push (seqObj "list" #[] 0) }; dsimp only
 have hsz : vs.toArray.size = vs.length := by simp
 by_cases h2 : vs.toArray.size < 2
 ·rw [if_pos h2, if_pos h2]
  refine wpAny_bind (wpAny_pure ?_); rw [StateT.run_pure]
  refine wpAny_bind (wpAny_pure ?_); dsimp only
  refine wpAny_bind (seqEpoch_at ho6 rfl ?_)
  have eo : (arrOf (SortSt.mk' general' (vs.toArray.zip vs.toArray) #[] 7 none)).map (·.2) = vs.toArray := by
   show ((vs.toArray.zip vs.toArray)).map (·.2) = vs.toArray
   apply Array.toList_inj.mp
   rw [Array.toList_map, Array.toList_zip, List.map_snd_zip]
   simp
  rw [eo]; refine wpAny_bind (listUpdate_at ho6 rfl ?_ (hsz2 := by rw [hsz, sizeLine_eq]; lia))
  simp only [bne_self_eq_false, Bool.false_eq_true, if_false]; refine wpAny_pure (h xs vs r (List.Perm.refl _) ?_)
  unfold zaV
  match xs, hl with
  | [], _ => exact .nil
  | [_], _ => exact List.pairwise_singleton _ _
  | _ :: _ :: _, hl => simp at hl; lia
 ·rw [if_neg h2, if_neg h2]
  have h2' : 2 ≤ vs.length := by rw [hsz] at h2; lia
  have K6 : KeysAt (((s.heap.update a (Obj.mapSeq fun _ => #[])).push (seqObj "tuple" vs.toArray 0)).push (seqObj "list" #[] 0)) vs (xs.map kf) := Paired.mapP K fun v k x => x.keeps fun b o hb hc => by
   have ne : b ≠ a := fun e => by rw [e, ho] at hb; cases hb; have hc' : Value.type "list" = Value.type "tuple" := hc; injection hc' with q; exact absurd q (by decide)
   have hlt : b < s.heap.objs.size := Heap.lt_size hb
   rw [Heap.get?_push_ne _ _ _ (by rw [size_push', Heap.size_update]; exact Nat.ne_of_lt (Nat.lt_succ_of_lt hlt)), Heap.get?_push_ne _ _ _ (by rw [Heap.size_update]; exact Nat.ne_of_lt hlt), Heap.get?_update_ne _ _ _ _ ne]; exact hb
  generalize hs6 : ({ s with heap := ((s.heap.update a (Obj.mapSeq fun _ => #[])).push (seqObj "tuple" vs.toArray 0)).push (seqObj "list" #[] 0) } : Shared) = s6
  have K6' : KeysAt s6.heap vs (xs.map kf) := (by rw [← hs6]; exact K6); refine wpAny_bind (zeI K6' (by lia) ?_)
  refine wpAny_bind (wpAny_mono (PySem.W.kat_run (Q := fun st' s' => s' = s6 ∧ ∃ p : Array Nat, arrOf st' = p.map (PySem.W.kas_item (vs.toArray.zip vs.toArray)) ∧ failedOf st' = none ∧ Wr.PBase vs.length p ∧ Wr.Up (fun i => zdh (xs.map kf) ((xs.map kf).getD i [])) p vs.length)
   (G := fun p s' => s' = s6 ∧ Wr.PBase vs.length p ∧ Wr.Up (fun i => zdh (xs.map kf) ((xs.map kf).getD i [])) p vs.length) rfl h2' (by lia) (fun p st' s' a1 a2 a3 a4 => ⟨a4.1, p, a2, a3, a4.2⟩) ?_) ?_ fun _ _ z => z)
  ·exact Wr.w_sort (zej (prog := prog) (w := w) (A := A) K6') (by lia) fun p B u => ⟨rfl, B, u⟩
  ·rintro ⟨⟨⟩, st'⟩ s' ⟨rfl, p, e1', hf, B, u⟩
   dsimp only
   subst hs6
   have ho' := PySem.W.kat_snds rfl e1'; rw [← hl] at B u
   refine wpAny_bind (seqEpoch_at ho6 rfl ?_); rw [ho']
   refine wpAny_bind (listUpdate_at ho6 rfl ?_ (hsz2 := (by rw [List.size_toArray, List.length_map, Array.length_toList, B.size, sizeLine_eq]; lia))); rw [hf]
   simp only [bne_self_eq_false, Bool.false_eq_true, if_false]; exact wpAny_pure (h _ _ (zcO r p.toList) (zeJ xs .non p.toList B.perm) (zcY B u (by lia)))
end
end L2
namespace Wr
open PySem PySem.Spec PyProof.Rows
structure RDict (h : Heap) (d : Addr) (es : Array DictEntry) (ep : Nat) : Prop where
 ex : ∃ o, h.get? d = some o ∧ o.ExactDict ∧ o.data = .dict es ep
theorem RDict.at {h h' : Heap} {d : Addr} {es : Array DictEntry} {ep : Nat} (x : RDict h d es ep) (e : ∀ o, h.get? d = some o → h'.get? d = some o) : RDict h' d es ep := let ⟨o, a, r⟩ := x.ex; ⟨o, e o a, r⟩
section
variable {prog : Program} {w : World} {A : Around} {E : Value → Shared → Prop} {s : Shared} {d : Addr} {es : Array DictEntry} {ep : Nat}
theorem RDict.typeIs (x : RDict s.heap d es ep) : s.TypeIs (.ref d) "dict" := let ⟨o, a, b, _⟩ := x.ex; ⟨o, a, b.1⟩
theorem rd_iter {Q : Value → Shared → Prop} (hd : (d == sysModules) = false) (hm : RDict s.heap d es ep)
  (hQ : ∀ h', h'.IsKeyIter s.heap.objs.size d 0 es.size ep → (∀ b o, s.heap.get? b = some o → h'.get? b = some o) → Q (.ref s.heap.objs.size) { s with heap := h' }) : wpAny (model prog w) A (pyIter (.ref d)) Q E s := by
 obtain ⟨o, ho, hc, hdat⟩ := id hm.ex; have hT := hm.typeIs
 refine wpAny_pyIter_slot hT F.slot_dict_iter (wpAny_call_entry F.slot_dict_iter hT F.entry_dict_iter ?_ (F.args_dict_iter_1 _)); unfold Builtin.«dict.__iter__»
 refine wpAny_bind ?_; unfold Builtin.Dict.dictSlotNone
 refine wpAny_bind (wpAny_notOrdered_dict hT ?_); show wpAny _ _ (pure (Value.ref d)) _ _ s
 refine wpAny_pure ?_; show wpAny _ _ (Builtin.Dict.showsAll d >>= _) _ _ s
 unfold Builtin.Dict.showsAll; rw [if_neg (by rw [hd]; exact Bool.false_ne_true)]
 refine wpAny_bind (wpAny_pure (wpAny_bind (wpAny_dictEntries ho hdat (wpAny_bind (wpAny_dictEpoch ho hdat ?_)))))
 refine wpAny_bind (wpAny_newObj_type (wpAny_pure ⟨_, rfl, "dict_keyiterator", _, ⟨_, Heap.get?_push_size _ rfl, rfl⟩, F.slot_dict_keyiterator_next.lookup, ?_⟩))
 exact hQ _ ⟨_, Heap.get?_push_size _ rfl, rfl, rfl⟩ fun b o e => Heap.get?_push_of_some _ e
theorem rd_iterK {v : Addr} {Q : Value → Shared → Prop} (hv : PySem.W.KdlKeysView s.heap v d) (hm : RDict s.heap d es ep)
  (hQ : ∀ h', h'.IsKeyIter s.heap.objs.size d 0 es.size ep → (∀ b o, s.heap.get? b = some o → h'.get? b = some o) → Q (.ref s.heap.objs.size) { s with heap := h' }) : wpAny (model prog w) A (pyIter (.ref v)) Q E s := by
 obtain ⟨ov, hov, hcv, hdv⟩ := id hv; obtain ⟨o, ho, hc, hdat⟩ := id hm.ex
 refine wpAny_pyIter_slot hv.typeIs PySem.W.kdl_slot_keys_iter (wpAny_call_entry PySem.W.kdl_slot_keys_iter hv.typeIs PySem.W.kdl_entry_keys_iter ?_ (PySem.W.kdl_args_keys_iter _)); unfold Builtin.«dict_keys.__iter__»
 refine wpAny_bind (wpAny_pure (wpAny_bind ?_)); unfold Builtin.Dict_items.dictOf
 refine wpAny_bind (wpAny_field hov hdv (x := .ref d) rfl (wpAny_pure (wpAny_bind ?_))); unfold Builtin.Dict_items.newIterator
 refine wpAny_bind (wpAny_dictEntries ho hdat (wpAny_bind (wpAny_dictEpoch ho hdat ?_)))
 have hown : Builtin.Dict_items.ownsTuple "dict_keyiterator" = false := (by decide); simp only [hown, Bool.false_eq_true, if_false]
 refine wpAny_newObj_type (wpAny_pure ⟨_, rfl, "dict_keyiterator", _, ⟨_, Heap.get?_push_size _ rfl, rfl⟩, PySem.F.slot_dict_keyiterator_next.lookup, ?_⟩)
 exact hQ _ ⟨_, Heap.get?_push_size _ rfl, rfl, rfl⟩ fun b o e => Heap.get?_push_of_some _ e
theorem zjp {it : Addr} {i : Nat} {e : DictEntry} {Q : Option Value → Shared → Prop} (hit : s.heap.IsKeyIter it d i es.size ep) (hm : RDict s.heap d es ep) (hx : es[i]? = some e)
  (hQ : ∀ h', h'.IsKeyIter it d (i + 1) es.size ep → Heap.SameBut it s.heap h' → Q (some e.key) { s with heap := h' }) : wpAny (model prog w) A (pyNext (.ref it)) Q E s := by
 obtain ⟨o, ho, hc, hd⟩ := id hit; obtain ⟨od, hod, hcd, hdd⟩ := id hm.ex; unfold pyNext
 refine wpAny_bind (wpAny_attempt (wpAny_callSpecial?_slot (name := Str.ofString "__next__") hit.typeIs F.slot_dict_keyiterator_next (wpAny_call_entry F.slot_dict_keyiterator_next hit.typeIs F.entry_dict_keyiterator_next ?_ (F.args_dict_keyiterator_next_1 _))))
 refine wpAny_bind (wpAny_pure (wpAny_bind (wpAny_bind ?_)))
 first | refine wpAny_bind (wpAny_typeNameOfWhole_keyiter hit.typeIs (wpAny_pure ?_)); skip | refine wpAny_bind (wpAny_typeNameOf_keyiter hit.typeIs (wpAny_pure ?_)); skip
 have hown : Builtin.Dict_items.ownsTuple "dict_keyiterator" = false := (by decide)
 refine wpAny_bind (wpAny_fieldsOf ho hd ?_); simp only [hown, Bool.false_eq_true, if_false]
 show wpAny _ _ (if (Value.ref d == Value.none) = true then _ else _) _ _ s; rw [if_neg (show ¬ ((Value.ref d == Value.none) = true) from Bool.false_ne_true)]
 refine wpAny_bind (wpAny_pure (wpAny_bind (wpAny_dictEntries hod hdd ?_))); rw [if_neg (by simp)]
 refine wpAny_bind (wpAny_pure (wpAny_bind (wpAny_dictEpoch hod hdd ?_))); rw [if_neg (by simp)]; refine wpAny_pure ?_
 obtain ⟨hlt', ee⟩ := Array.getElem?_eq_some_iff.mp hx
 simp only [show ¬ ((i : Int) < 0) from (by lia), if_false, Int.toNat_natCast, Array.getElem?_eq_getElem hlt']; refine wpAny_bind ?_
 first | refine wpAny_bind (wpAny_typeNameOfWhole_keyiter hit.typeIs (wpAny_pure ?_)); skip | refine wpAny_bind (wpAny_typeNameOf_keyiter hit.typeIs (wpAny_pure ?_)); skip
 refine wpAny_bind (wpAny_isOneOf_keyiter hit.typeIs ?_); show wpAny _ _ (setField (.ref it) 1 (rawInt ((i : Int) + 1)) >>= _) _ _ s
 refine wpAny_bind (wpAny_setField ho hd (by simp) ?_)
 have hit' : (s.heap.update it (Obj.mapFields (·.setIfInBounds 1 (rawInt ((i : Int) + 1))))).IsKeyIter it d (i + 1) es.size ep := ⟨_, Heap.get?_update_self _ ho (Obj.isFreed_of_fields (Obj.data_mapFields hd _)), (Obj.cls_mapFields ..).trans hc, by rw [Obj.data_mapFields hd]; simp [rawInt]⟩
 refine wpAny_bind (wpAny_holding (wpAny_bind (wpAny_isOneOf_keyiter (s := { s with heap := s.heap.update it (Obj.mapFields (·.setIfInBounds 1 (rawInt ((i : Int) + 1)))) }) hit'.typeIs ?_)))
 show wpAny _ _ (pure es[i].key) _ _ _; rw [ee]
 exact wpAny_pure (wpAny_pure ⟨_, rfl, wpAny_pure (hQ _ hit' (Heap.SameBut.update ..))⟩)
theorem zkl {it : Addr} {i : Nat} {Q : Option Value → Shared → Prop} (hh : A.handled = none) (hit : s.heap.IsKeyIter it d i es.size ep) (hm : RDict s.heap d es ep) (hx : es.size ≤ i)
  (hQ : ∀ h', Heap.ExtBut it s.heap h' → Q none { s with heap := h' }) : wpAny (model prog w) A (pyNext (.ref it)) Q E s := by
 obtain ⟨o, ho, hc, hd⟩ := id hit; obtain ⟨od, hod, hcd, hdd⟩ := id hm.ex; unfold pyNext
 refine wpAny_bind (wpAny_attempt (wpAny_callSpecial?_slot (name := Str.ofString "__next__") hit.typeIs F.slot_dict_keyiterator_next (wpAny_call_entry F.slot_dict_keyiterator_next hit.typeIs F.entry_dict_keyiterator_next ?_ (F.args_dict_keyiterator_next_1 _))))
 refine wpAny_bind (wpAny_pure (wpAny_bind (wpAny_bind ?_)))
 first | refine wpAny_bind (wpAny_typeNameOfWhole_keyiter hit.typeIs (wpAny_pure ?_)); skip | refine wpAny_bind (wpAny_typeNameOf_keyiter hit.typeIs (wpAny_pure ?_)); skip
 have hown : Builtin.Dict_items.ownsTuple "dict_keyiterator" = false := (by decide)
 refine wpAny_bind (wpAny_fieldsOf ho hd ?_); simp only [hown, Bool.false_eq_true, if_false]
 show wpAny _ _ (if (Value.ref d == Value.none) = true then _ else _) _ _ s; rw [if_neg (show ¬ ((Value.ref d == Value.none) = true) from Bool.false_ne_true)]
 refine wpAny_bind (wpAny_pure (wpAny_bind (wpAny_dictEntries hod hdd ?_))); rw [if_neg (by simp)]
 refine wpAny_bind (wpAny_pure (wpAny_bind (wpAny_dictEpoch hod hdd ?_))); rw [if_neg (by simp)]; refine wpAny_pure ?_
 simp only [show ¬ ((i : Int) < 0) from (by lia), if_false, Int.toNat_natCast, Array.getElem?_eq_none hx]; refine wpAny_bind ?_
 first | refine wpAny_bind (wpAny_typeNameOfWhole_keyiter hit.typeIs (wpAny_pure ?_)); skip | refine wpAny_bind (wpAny_typeNameOf_keyiter hit.typeIs (wpAny_pure ?_)); skip
 show wpAny _ _ (setField (.ref it) 0 .none >>= _) _ _ s; refine wpAny_bind (wpAny_setField ho hd (by simp) ?_)
 show wpAny _ _ (newExc (.type "StopIteration") [] >>= _) _ _ _; refine wpAny_bind ?_; simp only [newExc, newTuple]
 refine wpAny_bind (wpAny_newObj_type ?_ (by size_fits)); refine wpAny_bind (m := firstArgMember _ _) (wpAny_of_eq (a := Value.none) (by first | rfl | (simp only [firstArgMember]; rfl)) ?_)
 refine wpAny_newObj_type ?_ (by size_fits); simp only [raiseNew]; refine wpAny_bind (wpAny_handled ?_)
 rw [show A.in1.handled = none from hh]; refine wpAny_bind (wpAny_pure (wpAny_throw ?_)); refine wpAny_bind (wpAny_isInstance (T := "StopIteration") (b := true) ⟨_, Heap.get?_push_size _ rfl, rfl⟩ isSubtype_stop ?_)
 exact wpAny_pure (hQ _ (((Heap.SameBut.update ..).extBut.push _).push _))
theorem rd_walks (hh : A.handled = none) (I d : Addr) (hne : d ≠ I) (es : Array DictEntry) (ep : Nat) :
  Walks prog w A I [I, d] [I] es.size (fun i v => ∃ e, es[i]? = some e ∧ v = e.key) (fun i h => h.IsKeyIter I d i es.size ep ∧ RDict h d es ep) where
 sub := fun b hb => by simp at hb; simp [hb]
 frame := fun _ _ _ st hk => ⟨st.1.at fun o e => hk I (by simp) o e, st.2.at fun o e => hk d (by simp) o e⟩
 item := fun i s Q E hi st hQ => by
  have hx : es[i]? = some es[i] := by simp [hi]
  exact zjp st.1 st.2 hx fun h' hit' hs' => hQ _ h' s.toks ⟨_, hx, rfl⟩ ⟨hit', st.2.at fun o e => hs'.extBut _ o hne e⟩ fun b o hb e => hs'.extBut b o (fun h => hb (by simp [h])) e
 done := fun s Q E st hQ => zkl hh st.1 st.2 (Nat.le_refl _) fun h' he' => hQ h' s.toks fun b o hb e => he' b o (fun h => hb (by simp [h])) e
 self := fun _ _ _ _ st hQ => wpAny_pyIter_keyiter st.1 hQ
end
end Wr
namespace L2
open PySem PySem.Spec PyProof.Rows
section
variable {prog : Program} {w : World} {A : Around} {E : Value → Shared → Prop} {s : Shared}
theorem zcP {c d : Addr} {T : String} {es : Array DictEntry} {ep : Nat} {xs : List V} {kf : V → List Int} {Q : Value → Shared → Prop} (hh : A.handled = none) (hc : c < s.heap.objs.size) (hm : Wr.RDict s.heap d es ep)
  (hT : ∀ h' : Heap, (∀ b o, s.heap.get? b = some o → h'.get? b = some o) → ({ s with heap := h' } : Shared).TypeIs (.ref c) T) (h1 : (Value.type T == Value.type "list") = false) (h2 : (Value.type T == Value.type "tuple") = false)
  (hit : ∀ (h' : Heap) (Q' : Value → Shared → Prop), (∀ b o, s.heap.get? b = some o → h'.get? b = some o) →
   (∀ h'', h''.IsKeyIter h'.objs.size d 0 es.size ep → (∀ b o, h'.get? b = some o → h''.get? b = some o) → Q' (.ref h'.objs.size) { s with heap := h'' }) → wpAny (model prog w) A.in1.in1 (pyIter (.ref c)) Q' E { s with heap := h' })
  (hint : ∀ (h' : Heap) (Q' : Bool → Shared → Prop), (∀ b o, s.heap.get? b = some o → h'.get? b = some o) → Q' false { s with heap := h' } → wpAny (model prog w) A.in1.in1 (Builtin.List.listLengthHint (.ref c)) Q' E { s with heap := h' })
  (r : Vals xs (es.toList.map (·.key))) (K : KeysAt s.heap (es.toList.map (·.key)) (xs.map kf)) (h64 : es.size < 64)
  (h : ∀ (D : Addr) (h' : Heap) (ys : List V) (ws : List Value) (e tk : Nat), (∀ b o, s.heap.get? b = some o → h'.get? b = some o) → s.heap.objs.size ≤ D → h'.get? D = some (seqObj "list" ws.toArray e) → Vals ys ws → ys.Perm xs → zaV kf ys → Q (.ref D) { s with heap := h', toks := tk }) :
  wpAny (model prog w) A (call (.builtin "sorted") [.ref c]) Q E s := by
 refine zaa ?_; intro G_; obtain ⟨od, hod, _, _⟩ := id hm.ex
 have hd : d < s.heap.objs.size := Heap.lt_size hod
 refine Calls.call_function_entry kind_sorted plain_sorted entry_sorted (args_sorted1 _) ?_
 unfold Builtin.«sorted»
 refine wpAny_bind (m := checkCount "sorted" 1 1 _) (wpAny_pure (wpAny_bind ?_))
 have hz : es.size ≤ sizeLine := zcc h64
 refine Wr.collect_byD (A := A.in1) (T := T) (n := es.size) (P := fun i v => ∃ e, es[i]? = some e ∧ v = e.key) (St := fun it i h => h.IsKeyIter it d i es.size ep ∧ Wr.RDict h d es ep) hc hd hT h1 h2
  (fun h' Q' k hge hq => hit h' Q' k fun h'' st k2 => hq h'.objs.size h'' (Nat.le_refl _) k2 ⟨st, hm.at fun o e => k2 _ _ (k _ _ e)⟩) hint (fun it hne => Wr.rd_walks (A := A.in1.in1) (by simpa using hh) it d hne es ep) hz fun h3 tk acc k1 hsz htk items => ?_
 have ea : acc.toList = es.toList.map (·.key) := by
  apply List.ext_getElem
  ·rw [Array.length_toList, List.length_map, Array.length_toList, items.1]
  ·intro i hi hi2
   rw [Array.length_toList] at hi
   obtain ⟨e, e1, e2⟩ := items.2 i acc[i] (by simp [hi])
   obtain ⟨q1, q2⟩ := Array.getElem?_eq_some_iff.mp e1
   simp [q2, e2]
 rw [ea]
 have l64 : (es.toList.map (·.key)).length < 64 := by rw [List.length_map, Array.length_toList]; exact h64
 refine wpAny_bind (wpAny_newList ?_ (zcc l64))
 have hoL : (h3.push (seqObj "list" (es.toList.map (·.key)).toArray 0)).get? h3.objs.size = some (seqObj "list" (es.toList.map (·.key)).toArray 0) := Heap.get?_push_size _ rfl
 have K3 : KeysAt (h3.push (seqObj "list" (es.toList.map (·.key)).toArray 0)) (es.toList.map (·.key)) (xs.map kf) := Paired.mapP K fun v k x => x.keeps fun b o hb _ => Heap.get?_push_of_some _ (k1 b o hb)
 refine wpAny_bind (wpAny_holding (wpAny_call_entry (s := { s with heap := h3.push (seqObj "list" (es.toList.map (·.key)).toArray 0), toks := tk }) slot_list_sort ⟨_, hoL, rfl⟩ entry_list_sort (zcz hoL r K3 l64 fun ys ws v1 v2 v3 => (exg _ rfl ?_)) (args_list_sort _)))
 obtain ⟨e, he⟩ := sortedHeap_at (out := ws.toArray) hoL
 refine wpAny_pure (exg _ rfl (h h3.objs.size _ ys ws e tk (fun b ob q => ?_) (Nat.le_of_lt hsz) he v1 v2 v3))
 have hb : b < h3.objs.size := Heap.lt_size (k1 b ob q)
 rw [sortedHeap_old (Nat.ne_of_lt hb) (by rw [Heap.size_push]; exact Nat.lt_succ_of_lt hb)]
 exact Heap.get?_push_of_some _ (k1 b ob q)
end
end L2
namespace Wr
open PySem PySem.Spec PyProof.Rows
section
variable {prog : Program} {w : World} {K : Type} [DecidableEq K] {knd : HeapKind prog w K} {A : Around} {E : Value → Shared → Prop} {s : Shared}
theorem setDefault_heap {d a : Addr} {xs : List (K × Addr × Value)} {k : K} {v : Value} {Q : Value → Shared → Prop} (hu : knd.room A) (hkey : knd.is s.heap k a) (hm : s.heap.DictOfH knd d xs)
  (h1 : ∀ p, atKey xs k = some p → Q p.2 { s with toks := s.toks + knd.draws k })
  (h2 : atKey xs k = none → ∀ h', h'.DictOfH knd d (storedH xs k a v) → Heap.SameBut d s.heap h' → Q v { s with heap := h', toks := s.toks + knd.draws k })
  (hsz : xs.length ≤ sizeLine) : wpAny (model prog w) A (dictSetDefault d (.ref a) v) Q E s := by
 obtain ⟨o, es, ep, ho, hc, hd, he, his, hn⟩ := hm; unfold dictSetDefault
 try with_reducible refine wpAny_holding ?_; skip
 refine wpAny_bind (knd.pyHash hu hkey (wpAny_bind (wpAny_dictFind_heap (s := { s with toks := s.toks + knd.draws k }) hu hkey ho hd he his hn ?_ ?_)))
 ·intro hno; have hnot : k ∉ xs.map (·.1) := not_mem_keys_of_get hno; have hat := atKey_none_of_get hno; have q2 := h2 hat; rw [storedH_new hat] at q2
  refine wpAny_bind (wpAny_rule (wpAny_bind (wpAny_updateDictKeys (hz := by have e := size_of_entries he; lia) (s := { s with toks := s.toks + knd.draws k }) ho hd (wpAny_pure (q2 _ ⟨_, _, ep + 1, Heap.get?_update_self _ ho (Obj.isFreed_of_dict (Obj.data_mapDictKeys hd _)), hc.mapDictKeys _, Obj.data_mapDictKeys hd _, ?_, ?_, ?_⟩ (Heap.SameBut.update ..))))))
  ·simp [he, entryOfKey]
  ·intro x hx
   rcases List.mem_append.mp hx with hx | hx
   ·exact knd.keeps (his x hx) ho hd (Heap.SameBut.update ..)
   ·rw [List.mem_singleton.mp hx]; exact knd.keeps hkey ho hd (Heap.SameBut.update ..)
  ·rw [List.map_append, List.nodup_append]
   refine ⟨hn, (by simp), fun x hx y hy => ?_⟩
   have hy' : y = k := by simpa using hy
   subst hy'; exact fun e => hnot (e ▸ hx)
 ·intro j p hj
  refine wpAny_bind (wpAny_dictEntries (s := { s with toks := s.toks + knd.draws k }) ho hd ?_); rw [entry_at he j, hj]
  exact wpAny_bind (wpAny_rule (wpAny_pure (h1 p (atKey_of_get hn hj))))
end
end Wr
namespace L2
open PySem PySem.Spec PyProof.Rows
section
variable {X : Cx} {pins : List (Addr × Obj)} {σ : St} {H : Hp} {s : Shared}
def zgt : V → List V → Hp → VK → Prop := fun x xs H Q => ∃ (d b : Addr) (z : V) (kvs : List (List Key × V)) (k : List Key), x = .ref d ∧ xs = [.ref b, z] ∧ H d = some (.dT kvs) ∧ H b = some (.tup (k.map kV)) ∧ kvs.length < sizeLine ∧
 (match valV kvs k with | some v => Q v H | none => Q z (upd H d (.dT (putK kvs k z))))
theorem zgz (hu : X.A.units + 1 < cLine) : MtR X "dict.setdefault" zgt := by
 rintro pins s σ H x xs v us Q I rx r ⟨d, b, z, kvs, k, e1, e2, e, eb, hl, q⟩
 subst e1 e2
 cases rx
 refine zaa ?_; intro G_; obtain ⟨u1, u2, rfl, r1, r2⟩ := vals2 r
 cases r1
 refine zaa ?_; intro G_; obtain ⟨hz, hd, ys, rel, dd⟩ := zlD I.hok e
 have hT : s.TypeIs (.ref d) "dict" := dd.typeIs
 have hle : (putK kvs k z).length ≤ sizeLine := by have := zeO kvs k z; lia
 refine wpAny_call_entry PySem.F.slot_dict_setdefault hT PySem.F.entry_dict_setdefault ?_ (PySem.F.args_dict_setdefault_3 _ _ _)
 unfold Builtin.«dict.setdefault»; refine wpAny_bind ?_; unfold Builtin.Dict.keyAndDefault
 refine wpAny_bind (wpAny_notOrdered_dict hT ?_); show wpAny _ _ (pure (d, Value.ref b, some u2)) _ _ s
 refine wpAny_pure ?_; show wpAny _ _ (if (d == sysModules) = true then _ else (dictSetDefault d (.ref b) u2 >>= _)) _ _ s
 rw [if_neg (by rw [hd]; exact Bool.false_ne_true)]
 refine wpAny_bind (Wr.setDefault_heap (tupleKind_room_in1 hu) (zgH I.hok eb) dd (fun p hp => ?_) (fun hp h' dd' hs => ?_) (by rw [← Paired.length rel]; exact hz))
 ·refine wpAny_pure (exg _ rfl ?_)
  have rv := rel.val k
  rw [hp] at rv
  cases ev : valV kvs k with
  | none => rw [ev] at rv; exact False.elim (by cases rv)
  | some v' =>
   rw [ev] at q rv
   exact ⟨v', H, I.tok _, rv, q⟩
 ·refine wpAny_pure (exg _ rfl ?_)
  have rv := rel.val k
  rw [hp] at rv
  cases ev : valV kvs k with
  | some v' => rw [ev] at rv; exact False.elim (by cases rv)
  | none =>
   rw [ev] at q
   refine zaa ?_; intro G_; obtain ⟨qo, es, ep, hq, h2, h3, h4, _, h5⟩ := dd'
   refine ⟨z, _, zi9 (ob := .dT (putK kvs k z)) I (by rw [e]; exact True.intro) hs ⟨qo, hq⟩ ⟨hle, hd, _, (rel.put k eb r2).keeps fun c ys ec => ?_, qo, es, ep, hq, h2, h3, h4, h5⟩, r2, q⟩
   rw [zaj (zlC ec e (fun z => nomatch z))]
   exact ec
def vwO (v d : Addr) : HO := .ext fun h => PySem.W.KdlKeysView h v d
theorem zkr {P : Program} {w : World} {H : Hp} {h : Heap} {v d : Addr} (x : PySem.W.KdlKeysView h v d) : ObjOk P w H h v (vwO v d) := by
 refine zaa ?_; intro G_; obtain ⟨o, h1, h2, h3⟩ := id x
 exact ⟨x, ⟨o, h1⟩, (by rintro h1 h2 ⟨o, a, b⟩ k; exact ⟨o, k o a, b⟩)⟩
def zks (td : TE) : TE := fun σ H Q => td σ H fun x H1 => ∃ (d : Addr) (kvs : List (List Key × V)), x = .ref d ∧ Rd H1 d (.dT kvs) ∧ ∀ v, H1 v = none → Q (.ref v) (upd H1 v (vwO v d))
theorem zjr {o : Expr} {td : TE} {apos cpos : Pos} (ho : PE X o td) (hbase : attributeBase o "keys" X.env (eval o X.env) = eval o X.env) (hline : (apos.endLine == cpos.line) = true) : PE X (.Call (.Attribute o "keys" apos) [] [] cpos) (zks td) := by
 intro pins s σ H Q I h
 refine wpAny_Call_method0_late hbase hline (thn (ho pins s σ H _ I h) fun v s1 ⟨x, H1, I1, r1, d, kvs, e1, e, q⟩ => ?_)
 subst e1
 cases r1
 refine zaa ?_; intro G_; obtain ⟨t1, t2, hd⟩ := zkI I1 (.inr ⟨kvs, e⟩)
 refine ⟨"dict", "dict.keys", PySem.F.plainAttrs_dict, PySem.F.slot_dict_keys, PySem.F.type_dict_keys, t1, t2, Calls.callWith_builtin rfl (PySem.evalArgs_none ?_)⟩
 refine wpAny_call_entry PySem.F.slot_dict_keys t1 PySem.F.entry_dict_keys ?_ (PySem.F.args_dict_keys_1 _)
 refine wpAny_bind ?_; unfold Builtin.Dict.noArgs
 refine wpAny_bind (wpAny_notOrdered_dict t1 ?_); show wpAny _ _ (pure d) _ _ s1
 refine wpAny_pure ?_; show wpAny _ _ (Builtin.Dict.showsAll d >>= _) _ _ s1
 unfold Builtin.Dict.showsAll; rw [if_neg (by rw [hd]; exact Bool.false_ne_true)]
 refine wpAny_bind (wpAny_pure (wpAny_bind (wpAny_newObj_type (wpAny_pure (exg _ rfl ?_)))))
 exact ⟨.ref s1.heap.objs.size, _, I1.laid (a := s1.heap.objs.size) (o := vwO s1.heap.objs.size d) (t' := s1.toks) (fun b u z => Heap.get?_push_of_some _ z) (Nat.le_refl _) (zkr ⟨_, Heap.get?_push_size _ rfl, rfl, rfl⟩), rfl, q _ (I1.hok.fresh (Nat.le_refl _))⟩
end
end L2
namespace L2
open PySem PySem.Spec PyProof.Rows
def intV : V → Int
 | .int i => i
 | _ => 0
def kfI (H : Hp) : V → List Int
 | .ref t => (match H t with
  | some (.tup vs) => vs.map intV
  | _ => [])
 | _ => []
theorem zij {H : Hp} {y : V} {k : List Int} (h : RowAt H y k) : kfI H y = k := by
 refine zaa ?_; intro G_; obtain ⟨t, rfl, e⟩ := h
 show (match H t with | some (.tup vs) => vs.map intV | _ => []) = k
 rw [e]
 show (k.map V.int).map intV = k
 rw [List.map_map]
 have : intV ∘ V.int = id := rfl
 rw [this, List.map_id]
theorem zcN (k : List Int) : (k.map Sum.inl : List Key).map kV = k.map V.int := by rw [List.map_map]; rfl
section
variable {X : Cx} {pins : List (Addr × Obj)} {σ : St} {H : Hp} {s : Shared}
def zjL (H : Hp) (c d : Addr) : Prop := c = d ∨ H c = some (vwO c d)
structure TDict (H : Hp) (d : Addr) (kvs : List (List Key × V)) (ks : List (List Int)) : Prop where
 at' : Rd H d (.dT kvs)
 keys : kvs.map (·.1) = ks.map (·.map Sum.inl)
 some' : ∀ k ∈ ks, k ≠ []
theorem zgm {d : Addr} {kvs : List (List Key × V)} {ks : List (List Int)} (I : Inv X pins σ H s) (T : TDict H d kvs ks) :
  ∃ (es : Array DictEntry) (ep : Nat) (xs : List V), Wr.RDict s.heap d es ep ∧ (d == sysModules) = false ∧ Vals xs (es.toList.map (·.key)) ∧ Paired (RowAt H) xs ks ∧ xs.map (kfI H) = ks ∧ KeysAt s.heap (es.toList.map (·.key)) (xs.map (kfI H)) ∧ es.size = kvs.length := by
 refine zaa ?_; intro G_; obtain ⟨z, hd, xs, rel, o, es, ep, ho, hc, hdat, he, h6, h7⟩ := zg6 I.hok T.at'
 have ek : es.toList.map (·.key) = xs.map fun x => Value.ref x.2.1 := by
  rw [he, List.map_map]; rfl
 have pr : Paired (RowAt H) (xs.map fun x => V.ref x.2.1) ks := by
  have kk := T.keys
  clear ek he T z h6 h7
  induction rel generalizing ks with
  | nil =>
   cases ks with
   | nil => exact .nil
   | cons _ _ => cases kk
  | cons r _ ih =>
   cases ks with
   | nil => cases kk
   | cons k ks =>
    simp only [List.map_cons, List.cons.injEq] at kk
    refine .cons ?_ (ih kk.2)
    refine zaa ?_; intro G_; obtain ⟨r1, r2, r3⟩ := r
    rw [kk.1, zcN] at r2
    exact (exg _ rfl r2)
 have vals : ∀ l : List (List Key × Addr × Value), Vals (l.map fun x => V.ref x.2.1) (l.map fun x => Value.ref x.2.1) := fun l => by
  induction l with
  | nil => exact .nil
  | cons _ _ ih => exact .cons rfl ih
 have em : ∀ {ys : List V} {ks : List (List Int)}, Paired (RowAt H) ys ks → ys.map (kfI H) = ks := by
  intro ys ks p
  induction p with
  | nil => rfl
  | cons r _ ih => rw [List.map_cons, zij r, ih]
 have keys : ∀ {l : List (List Key × Addr × Value)} {ks : List (List Int)}, Paired (RowAt H) (l.map fun x => V.ref x.2.1) ks → (∀ k ∈ ks, k ≠ []) → KeysAt s.heap (l.map fun x => Value.ref x.2.1) ks := by
  intro l
  induction l with
  | nil => intro ks p _; cases p; exact .nil
  | cons x l ih =>
   intro ks p ne
   cases p with
   | cons r t =>
    refine zaa ?_; intro G_; obtain ⟨t', e1, e2⟩ := r
    cases e1
    exact .cons (zio I e2 (ne _ List.mem_cons_self)) (ih t fun k hk => ne k (List.mem_cons_of_mem _ hk))
 refine ⟨es, ep, xs.map fun x => V.ref x.2.1, ⟨o, ho, hc, hdat⟩, hd, by rw [ek]; exact vals xs, pr, em pr, by rw [ek, em pr]; exact keys pr T.some', ?_⟩
 have := congrArg List.length he
 rw [Array.length_toList, List.length_map] at this
 rw [this, ← Paired.length rel]
def zim : List V → Hp → VK → Prop := fun xs H Q => ∃ (c d : Addr) (kvs : List (List Key × V)) (ks : List (List Int)), xs = [.ref c] ∧ TDict H d kvs ks ∧ zjL H c d ∧ kvs.length < 64 ∧
 ∀ (D : Addr) (ys : List V) (ks' : List (List Int)), H D = none → Paired (RowAt H) ys ks' → ks'.Perm ks → (ks'.Pairwise fun a b => lexI b a = false) → Q (.ref D) (upd H D (.lst ys))
theorem zdf (hc : X.calm = true) : zcA X (.builtin "sorted") zim := by
 rintro pins s σ H xs us Q I r ⟨c, d, kvs, ks, e, T, kd, h64, q⟩
 subst e
 refine zaa ?_; intro G_; obtain ⟨u, rfl, ru⟩ := Vals.one r
 cases ru
 refine zaa ?_; intro G_; obtain ⟨es, ep, xs, hm, hd, rv, pr, em, K, hsz⟩ := zgm I T
 have fin : ∀ (D : Addr) (h' : Heap) (ys : List V) (ws : List Value) (e tk : Nat), (∀ b o, s.heap.get? b = some o → h'.get? b = some o) → s.heap.objs.size ≤ D → h'.get? D = some (seqObj "list" ws.toArray e) → Vals ys ws → ys.Perm xs → zaV (kfI H) ys → EP X pins σ Q (.ref D) { s with heap := h', toks := tk } := by
  intro D h' ys ws e tk k hD hg v1 v2 v3
  have row : ∀ y ∈ ys, RowAt H y (kfI H y) := fun y hy => by
   have go : ∀ {xs : List V} {ks : List (List Int)}, Paired (RowAt H) xs ks → y ∈ xs → RowAt H y (kfI H y) := by
    intro xs ks p
    induction p with
    | nil => intro z; cases z
    | cons r _ ih =>
     intro z
     rcases List.mem_cons.mp z with e | z
     ·subst e; rw [zij r]; exact r
     ·exact ih z
   exact go pr (v2.mem_iff.mp hy)
  have pys : ∀ l : List V, (∀ y ∈ l, RowAt H y (kfI H y)) → Paired (RowAt H) l (l.map (kfI H)) := fun l => by
   induction l with
   | nil => intro _; exact .nil
   | cons y l ih => intro h; exact .cons (h y List.mem_cons_self) (ih fun z hz => h z (List.mem_cons_of_mem _ hz))
  have hl : ys.length < 64 := by
   rw [v2.length_eq]
   have := Vals.length rv
   rw [List.length_map] at this
   have e2 : es.toList.length = es.size := Array.length_toList
   lia
  refine ⟨.ref D, _, I.laid (a := D) (o := .lst ys) (t' := tk) (fun b u z => k b u z) hD ⟨zcc hl, ws, e, v1, hg⟩, rfl, q D ys (ys.map (kfI H)) (I.hok.fresh hD) (pys ys row) ?_ (List.pairwise_map.mpr v3)⟩
  rw [← em]
  exact v2.map _
 have hlt : ∀ b o, s.heap.get? b = some o → b < s.heap.objs.size := fun b o e => Heap.lt_size e
 rcases kd with rfl | hv
 ·refine zaa ?_; intro G_; obtain ⟨o, ho, _⟩ := id hm.ex
  refine zcP (T := "dict") (ziD I hc) (hlt _ _ ho) hm (fun h' k => (hm.at fun o e => k _ _ e : Wr.RDict ({ s with heap := h' } : Shared).heap c es ep).typeIs) (by decide) (by decide) (fun h' Q' k hq => ?_) (fun h' Q' k hq => ?_) rv K (by lia) fin
  ·exact Wr.rd_iter (s := { s with heap := h' }) hd (hm.at fun o e => k _ _ e) fun h'' st k2 => hq h'' st k2
  ·exact PySem.W.kdl_hint_dict (hm.at fun o e => k _ _ e : Wr.RDict ({ s with heap := h' } : Shared).heap c es ep).typeIs hq
 ·have hview : PySem.W.KdlKeysView s.heap c d := (I.hok c _ hv).1
  refine zaa ?_; intro G_; obtain ⟨ov, hov, hcv, hdv⟩ := id hview
  have hv' : ∀ h' : Heap, (∀ b o, s.heap.get? b = some o → h'.get? b = some o) → PySem.W.KdlKeysView h' c d := fun h' k => ⟨ov, k _ _ hov, hcv, hdv⟩
  refine zcP (T := "dict_keys") (ziD I hc) (hlt _ _ hov) hm (fun h' k => (hv' h' k : PySem.W.KdlKeysView ({ s with heap := h' } : Shared).heap c d).typeIs) (by decide) (by decide) (fun h' Q' k hq => ?_) (fun h' Q' k hq => ?_) rv K (by lia) fin
  ·exact Wr.rd_iterK (s := { s with heap := h' }) (hv' h' k) (hm.at fun o e => k _ _ e) fun h'' st k2 => hq h'' st k2
  ·exact PySem.W.kdl_hint_keys (hv' h' k : PySem.W.KdlKeysView ({ s with heap := h' } : Shared).heap c d).typeIs hq
end
end L2
namespace L2
open PySem PySem.Spec PyProof.Rows
section
variable {X : Cx} {pins : List (Addr × Obj)} {σ : St} {H : Hp} {s : Shared}
end
section
variable {X : Cx} {e o : Expr} {te to : TE} {t : TA} {p pos apos cpos : Pos} {k : Nat} {target : Expr}
theorem zla (ho : JE X o to) (hbase : attributeBase o "keys" X.env (eval o X.env) = eval o X.env := by rfl) (hline : (apos.endLine == cpos.line) = true := by rfl) : JE X (.Call (.Attribute o "keys" apos) [] [] cpos) (zks to) := ⟨zjr ho.h hbase hline⟩
theorem zfk {e1 e2 : Expr} (hr : Room k X.A) (ho : JE X o to) (ha : JA X [e1, e2] t) (hbase : attributeBase o "setdefault" X.env (eval o X.env) = eval o X.env := by rfl) (hline : (apos.endLine == cpos.line) = true := by rfl) :
  JE X (.Call (.Attribute o "setdefault" apos) [e1, e2] [] cpos) (tBM X.K "dict" zgt to t) :=
 ⟨zfG PySem.F.plainAttrs_dict PySem.F.slot_dict_setdefault PySem.F.type_dict_setdefault (zgz (by have := hr.units; lia)) ho.h ha.h hbase (by rw [ha.hd.star, (Nsts.star ha.rs _)]; rfl) hline (ha.hd.star _ _) (ha.rs.no _ _)⟩
theorem zgK (hc : X.calm = true := by rfl) : JC X (.builtin "sorted") zim := ⟨zdf hc⟩
theorem ziv (hr : Room k X.A) (ho : JE X o to) (hi : JE X e te) (hs : NoSl e := by intro _ _; rfl) : JE X (.Subscript o e pos) (zh0 to te) := ⟨zjn (by have := hr.units; lia) ho.h hi.h hs⟩
theorem zg9 : JE X (.Dict [] [] pos) ziL := ⟨zid⟩
end
end L2
namespace Wr
end Wr
namespace Wr
open PySem SetTable PyProof.Rows
section
variable {prog : Program} {w : World} {A : Around} {E : Value → Shared → Prop}
end
section
variable {prog : Program} {w : World} {A : Around} {E : Value → Shared → Prop} {s : Shared}
end
end Wr
namespace L2
open PySem PySem.Spec PyProof.Rows
section
variable {X : Cx}
end
def dRow (r : List Int) : PyData := .tuple (r.map PyData.int)
theorem zhl {K : PySem.W.Frag} {H : Hp} : ∀ ns : List Int, DenAll K H (ns.map V.int) (ns.map PyData.int)
 | [] => .nil
 | n :: ns => .cons (.int n) (zhl ns)
theorem RowAt.den {K : PySem.W.Frag} {H : Hp} {v : V} {r : List Int} (h : RowAt H v r) : Den K H v (dRow r) := by
 refine zaa ?_; intro G_; obtain ⟨t, rfl, e⟩ := h
 exact .tup (SqT.of e) (zhl r)
theorem zc1 : ∀ (l m : List Int), PyData.eqvAll (l.map PyData.int) (m.map PyData.int) = decide (l = m)
 | [], [] => by simp [PyData.eqvAll]
 | [], _ :: _ => by simp [PyData.eqvAll]
 | _ :: _, [] => by simp [PyData.eqvAll]
 | x :: l, y :: m => by
  simp only [List.map_cons, PyData.eqvAll, zc1 l m, PyData.eqv]
  by_cases h1 : x = y <;> by_cases h3 : l = m <;> simp [h1, h3]
theorem zcf : ∀ ns : List Int, PyData.canLayAll0 (ns.map PyData.int) = true ∧ PyData.depthAll (ns.map PyData.int) = 0
 | [] => by simp [PyData.canLayAll0, PyData.depthAll]
 | n :: ns => by
  have ih := zcf ns
  simp [PyData.canLayAll0, PyData.depthAll, PyData.canLay0, PyData.depth, ih.1, ih.2]
end L2
namespace L2
open PySem PySem.Spec PyProof.Rows
theorem ObjOk.at {P : Program} {w : World} {H : Hp} {h : Heap} {a : Addr} {o : HO} (x : ObjOk P w H h a o) : ∃ u, h.get? a = some u := by
 cases o with
 | lst xs => obtain ⟨_, _, _, _, e⟩ := x; exact ⟨_, e⟩
 | tup xs => obtain ⟨_, _, _, o, e, _⟩ := x; exact ⟨_, e⟩
 | dK kvs => obtain ⟨_, _, _, _, o, _, _, e, _⟩ := x; exact ⟨_, e⟩
 | dT kvs => obtain ⟨_, _, _, _, o, _, _, e, _⟩ := x; exact ⟨_, e⟩
 | set S n => obtain ⟨o, _, _, _, e, _⟩ := x; exact ⟨_, e⟩
 | ins C dx fs => obtain ⟨_, _, _, e, _⟩ := x; exact ⟨_, e⟩
 | own y => obtain ⟨_, e⟩ := x; exact ⟨_, e⟩
 | xd fs => obtain ⟨_, ⟨_, _, _, e, _⟩, _⟩ := x; exact ⟨_, e⟩
 | rng lo hi => obtain ⟨_, _, _, e⟩ := x; exact ⟨_, e⟩
 | frz ob u => obtain ⟨e, _⟩ := x; exact ⟨_, e⟩
 | tbl ps => exact ⟨_, (show h.get? a = some _ from x)⟩
 | met f y => exact ⟨_, (show h.get? a = some _ from x)⟩
 | ext φ => obtain ⟨_, ⟨_, e⟩, _⟩ := x; exact ⟨_, e⟩
def Cov (l : List Env) (H : Hp) (h0 h B : Heap) : Prop := ∀ b o, h.get? b = some o → (H b ≠ none ∨ ∃ u, h0.get? b = some u) → b ∉ frs l → B.get? b = some o
def Fly (l : List Env) (a : Addr) (cls : Value) (H : Hp) (h0 h : Heap) : Prop := ∃ (a0 : Value) (B : Heap), Heap.FlyingW B l a cls a0 h ∧ Cov l H h0 h B
def CXe (P : Program) (w : World) : CXT := fun outer H s E e s' =>
 ∃ a cls H', e = Value.ref a ∧ s'.os = s.os ∧ AllBare s'.gens ∧ Un (frs outer) [] H H' s.heap s'.heap ∧ HOk P w H' s'.heap ∧ Fly outer a cls H' s.heap s'.heap ∧ E cls none H'
section
variable {P : Program} {w : World} {l : List Env} {H H' : Hp} {h0 h h5 B : Heap}
theorem Cov.step (u : Un (frs l) [] H H' h0 h) (ok : HOk P w H' h) (cov : Cov l H' h0 h B) (st : B.StaysIn h5) : Cov l H' h0 h5 B := fun b o e q n => by
 have hx : ∃ v, h.get? b = some v := by
  rcases q with q | ⟨v, q⟩
  ·cases z : H' b with
   | none => exact absurd z q
   | some y => exact (ok b y z).at
  ·exact u.there b v q (by simp)
 obtain ⟨v, hv⟩ := hx
 have hB := cov b v hv q n
 rw [st b v hB] at e
 cases e
 exact hB
theorem Cov.un (u : Un (frs l) [] H H' h0 h) (cov : Cov l H' h0 h B) (st : B.StaysIn h5) (up : h.UpToSlots h5) (nf : ∀ b ∈ frs l, ∃ o, h.get? b = some o ∧ ∀ vs, o.data ≠ .fields vs) : Un (frs l) [] H H' h0 h5 where
 keep := fun b o e n hb hx => st b o (cov b o (u.keep b o e n hb hx) (.inr ⟨o, e⟩) hb)
 slot := fun b o e n hb hx => by
  obtain ⟨sl, q⟩ := u.slot b o e n hb hx
  refine zaa ?_; intro G_; obtain ⟨o', q', nf'⟩ := nf b hb
  rw [q] at q'; cases q'
  obtain ⟨sl', q2⟩ := up b _ q nf'
  exact ⟨sl', q2⟩
 free := u.free
 there := fun b o e hx => by
  obtain ⟨o', q⟩ := u.there b o e hx
  by_cases hb : b ∈ frs l
  ·refine zaa ?_; intro G_; obtain ⟨o2, q', nf'⟩ := nf b hb
   obtain ⟨sl', q2⟩ := up b _ q' nf'
   exact ⟨_, q2⟩
  ·exact ⟨o', st b o' (cov b o' q (.inr ⟨o, e⟩) hb)⟩
 tups := u.tups
 frzs := u.frzs
 tbls := u.tbls
theorem Cov.hok (ok : HOk P w H' h) (cov : Cov l H' h0 h B) (st : B.StaysIn h5) (fr : ∀ b ∈ frs l, H' b = none) : HOk P w H' h5 := fun b o e => by
 refine (ok b o e).stay (fun c v hc q => ?_) (fun _ q => q) fun _ _ q => q
 have hn : H' c ≠ none := by
  rcases hc with rfl | hc
  ·rw [e]; simp
  ·rw [hc]; simp
 exact st c v (cov c v q (.inl hn) fun z => hn (fr c z))
end
section
variable {X : Cx} {pins : List (Addr × Obj)} {σ : St} {H : Hp} {s : Shared} {B h5 : Heap}
theorem Inv.leave (I : Inv X pins σ H s) (hst : X.stack = X.env :: X.outer) (hf : X.env.frame = some X.env.locals) (hex : X.ex = []) (cov : Cov X.stack H X.s₀.heap s.heap B) (st : B.StaysIn h5) (up : s.heap.UpToSlots h5) :
  Un X.fs [] X.H₀ H X.s₀.heap h5 ∧ HOk X.prog X.w H h5 ∧ Cov X.outer H X.s₀.heap h5 B := by
 have ub : Un X.fs [] X.H₀ H X.s₀.heap s.heap := by have := I.base; rw [hex] at this; exact this
 have cov' : Cov X.outer H X.s₀.heap s.heap B := fun b o e q n => cov b o e q fun z => by
  rw [hst] at z
  unfold frs at z
  rw [List.filterMap_cons, hf] at z
  rcases List.mem_cons.mp z with z | z
  ·subst z
   rcases q with q | ⟨v, q⟩
   ·exact q I.free
   ·exact absurd (Heap.lt_size q) (Nat.not_lt.mpr I.ok.above)
  ·exact n z
 have hfr : ∀ b ∈ frs X.outer, H b = none := fun b hb => I.stkFree b (by rw [hst]; unfold frs; rw [List.filterMap_cons, hf]; exact List.mem_cons_of_mem _ hb)
 refine ⟨Cov.un ub cov' st up fun b hb => ?_, Cov.hok I.hok cov' st hfr, Cov.step ub I.hok cov' st⟩
 refine zaa ?_; intro G_; obtain ⟨_, o, ho, hn⟩ := I.stack.mem (b := b) (by rw [hst, List.filterMap_cons, hf]; exact List.mem_cons_of_mem _ hb)
 exact ⟨o, ho, hn⟩
end
section
variable {P : Program} {w : World} {K : PySem.W.Frag} {mg : Str → Option Value} {base : Heap} {N : List Str} {qual : Str} {scope : Scope} {f : Addr} {cd : Value} {A : Around} {outer : List Env} {s : Shared} {H : Hp} {E : XK}
theorem zjs {pins : List (Addr × Obj)} {σ : St} {H1 : Hp} {s1 : Shared} {h' : Heap} {a : Addr} {cls : Value} {vs : List Value} (I : Inv (cxOf (CXe P w) P w K mg base N qual scope f cd A outer s H E) pins σ H1 s1)
  (hx : Heap.MadeExcOf s1.heap h' a cls vs) (hE : E cls none H1) : (cxOf (CXe P w) P w K mg base N qual scope f cd A outer s H E).xe (.ref a) { s1 with heap := h' } := by
 have hl := I.stack
 refine wpAny_leaves_madeW (base := PySem.W.hideAll s1.heap (frs (cxOf (CXe P w) P w K mg base N qual scope f cd A outer s H E).stack)) (h := s1.heap) I.ok.frames rfl (fun b o e => PySem.W.of_hideAll _ e)
  (PySem.W.funFrames_hide hl fun env he a hf => List.mem_filterMap.mpr ⟨env, he, hf⟩) hx fun h2 t x1 x2 x3 x4 => ?_
 have cov : Cov (cxOf (CXe P w) P w K mg base N qual scope f cd A outer s H E).stack H1 s.heap s1.heap (PySem.W.hideAll s1.heap (frs (cxOf (CXe P w) P w K mg base N qual scope f cd A outer s H E).stack)) :=
  fun b o e _ n => PySem.W.hideAll_get _ e n
 refine zaa ?_; intro G_; obtain ⟨u, ok, cv⟩ := I.leave rfl rfl rfl cov x1.1 ((Heap.UpToSlots.of_keeps hx.keeps).trans x4)
 exact ⟨a, cls, H1, rfl, I.os, I.bare, u, ok, ⟨_, _, x1, cv⟩, hE⟩
theorem zeD : Passes (CXe P w) (cxOf (CXe P w) P w K mg base N qual scope f cd A outer s H E) E := by
 intro pins σ H2 s2 e s3 I hc
 refine zaa ?_; intro G_; obtain ⟨a, cls, H3, rfl, hos, hb, u, ok, ⟨a0, B, fl, cov⟩, hE⟩ := hc
 have I3 : Inv (cxOf (CXe P w) P w K mg base N qual scope f cd A outer s H E) pins σ H3 s3 := I.call' (ch := []) hos u ok hb fun b z => nomatch z
 refine wpAny_leaves_onW I3.ok.frames rfl fl fun h4 x1 up => ?_
 have cov' : Cov (cxOf (CXe P w) P w K mg base N qual scope f cd A outer s H E).stack H3 s.heap s3.heap B := fun b o e q n => cov b o e (q.imp id fun ⟨v, z⟩ => I.base.there b v z (fun z => nomatch z)) n
 refine zaa ?_; intro G_; obtain ⟨u', ok', cv⟩ := I3.leave rfl rfl rfl cov' x1.1 up
 exact ⟨a, cls, H3, rfl, I3.os, I3.bare, u', ok', ⟨_, _, x1, cv⟩, hE⟩
end
def PX (X : Cx) (e : Expr) (tx : XK → TE) : Prop :=
 ∀ (pins : List (Addr × Obj)) (s : Shared) (σ : St) (H : Hp) (Q : VK) (E : XK) (W : Value → Shared → Prop), Inv X pins σ H s → (∀ H1 s1 e1 s2, Inv X pins σ H1 s1 → CXe X.prog X.w X.stack H1 s1 E e1 s2 → W e1 s2) →
  tx E σ H Q → wpAny (model X.prog X.w) X.A (eval e X.env) (EP X pins σ Q) W s
theorem PX.pe {X : Cx} {e : Expr} {tx : XK → TE} {E : XK} (h : PX X e tx) (hp : Passes (CXe X.prog X.w) X E) : PE X e (tx E) :=
 fun pins s σ H Q I hw => h pins s σ H Q E X.xe I (fun H1 s1 e1 s2 I1 c => hp pins σ H1 s1 e1 s2 I1 c) hw
structure FnX (P : Program) (w : World) (K : PySem.W.Frag) (mg : Str → Option Value) (base : Heap) (k : Nat) (x : Str) (ps : List Str) (sp : Sp) : Prop where
 ex : ∃ (f : Addr) (fd : FuncData), FnOk P w K mg base (CXe P w) k f fd ps sp ∧ mg x = some (.ref f) ∧ PySem.W.keepIn K (.ref f) = true ∧ Binds K fd ps []
section
variable {X : Cx} {k j : Nat} {x : Str} {ps : List Str} {sp : Sp} {p pos : Pos} {e : Expr} {es : List Expr} {t : TA}
theorem PA.at {W : Value → Shared → Prop} (h : PA X.nox es t) {pos : Pos} {pins : List (Addr × Obj)} {s : Shared} {σ : St} {H : Hp} {Q : List V → Hp → Prop} (I : Inv X pins σ H s) (hw : t σ H Q) :
  wpAny (model X.prog X.w) X.A (spliced (backTo pos (starEach es X.env))) (AP X pins σ Q) W s :=
 wpAny_mono (h pos pins s σ H Q (I.wish _) hw) (by rintro _ _ ⟨vs, H', I', r, q⟩; exact ⟨vs, H', I'.unwish, r, q⟩) fun _ _ z => False.elim z
theorem zlo (F : FnX X.prog X.w X.K X.mg X.base k x ps sp) (hr : Room j X.A) (ha : PA X.nox (e :: es) t) (hj : k ≤ j) (hg : Gl X x) (hdb : (x == ("__debug__" : Str)) = false)
  (he : starEach (e :: es) X.env = (false, eval e X.env) :: starEach es X.env) (hpl : (backTo pos (starEach es X.env)).any (·.1) = false) : PX X (.Call (.Name x p) (e :: es) [] pos) (fun E => zci sp [] E t) := by
 refine zaa ?_; intro G_; obtain ⟨f, fd, F, hm, hk, hb⟩ := F.ex
 intro pins s σ H Q E W I hW h
 refine wpAny_Call_Name_kw (zdV I hg hm ?_ hdb)
 refine PySem.W.callWith_K (h₀ := X.base) I.ok.mod.kin hk (thn (PA.at ha I h) fun us s1 ⟨vs, H1, I1, r, q⟩ => ⟨I1.kIn, ?_⟩) he hpl
 have r2 : Vals (vs ++ []) (us ++ []) := r.append .nil
 have hl : (us ++ []).length = ps.length := by rw [← r2.length]; exact F.len _ _ _ _ q
 refine wpAny_call (codeAny_mono (F.run X.A X.stack s1 H1 ⟨us, []⟩ (us ++ []) (vs ++ []) Q E (hr.mono hj) I1.env0 (hb s1 us I1.kIn hl) r2 q) fun r s' hq => ?_)
 cases r with
 | error e => exact hW H1 s1 e s' I1 hq
 | ok fl =>
  cases fl with
  | ret u => exact I1.after hq
  | next => exact False.elim hq
  | brk => exact False.elim hq
  | cont => exact False.elim hq
end
end L2
namespace L2
open PySem PySem.Spec PyProof.Rows
abbrev veM : List Value := [.type "ValueError", .type "Exception", .type "BaseException", .type "object"]
structure ErrC (K : PySem.W.Frag) (mg : Str → Option Value) (x : Str) (C : Addr) : Prop where
 bound : mg x = some (.ref C)
 exc : PySem.W.excIn K C veM "ValueError.__new__" = true
theorem ErrC.obj {K : PySem.W.Frag} {mg : Str → Option Value} {x : Str} {C : Addr} (e : ErrC K mg x C) {h : Heap} (X : K.In h) :
  ∃ tl N nm qn bs hd sn sb ab cl dd k0 k1 k2 k3 k5 mN, h.get? C = some (excClassObj nm qn C N bs tl hd sn sb ab cl dd k0 k1 k2 k3 k5 "ValueError.__new__") ∧ h.Ns N mN ∧ mN "__init__" = none ∧ OwnTail h veM tl := by
 have hq := e.exc
 unfold PySem.W.excIn at hq
 split at hq
 case h_2 => cases hq
 case h_1 dd cd sl lk =>
  split at hq
  case h_2 => cases hq
  case h_1 C1 tl k0 k1 k2 k3 nw k5 em es =>
   simp only [Bool.and_eq_true, beq_iff_eq, Bool.not_eq_true'] at hq
   refine zaa ?_; intro G_; obtain ⟨⟨⟨⟨⟨rfl, rfl⟩, ed⟩, et⟩, en⟩, ei⟩ := hq
   cases cd with
   | mk nm bs mro ns qn hdc sn sb ab cl dl =>
    dsimp only at em ed en ei; subst em; subst ed
    cases sl with
    | mk sl' =>
     simp only at es; subst es
     exact ⟨tl, ns, nm, qn, bs, hdc, sn, sb, ab, cl, dd, k0, k1, k2, k3, k5, _, X _ _ lk, .of_isNs (PySem.W.isNs_of_in X en), PySem.W.nsMap_none_of_in X en ei, PySem.W.tail_of_in X et⟩
def Raises (X : Cx) (E : XK) : Prop := ∀ (pins : List (Addr × Obj)) (σ : St) (H1 : Hp) (s1 : Shared) (h' : Heap) (a : Addr) (cls : Value) (vs : List Value), Inv X pins σ H1 s1 → Heap.MadeExcOf s1.heap h' a cls vs → E cls none H1 → X.xe (.ref a) { s1 with heap := h' }
def zit (C : Addr) (E : XK) (te : TE) : TS := fun _ σ H => te σ H fun v H1 => [v].length = 1 ∧ E (.ref C) none H1
section
variable {X : Cx} {E : XK} {x : Str} {C : Addr} {np cp pos : Pos} {e : Expr} {te : TE}
theorem zhK (hR : Raises X E) (O : ErrC X.K X.mg x C) (ha : PA X [e] (zap te tNil)) (hst : starEach [e] X.env = [(false, eval e X.env)]) (hc : X.calm = true) (hg : Gl X x) (hdb : (x == ("__debug__" : Str)) = false) :
  PS X (.Raise (some (.Call (.Name x np) [e] [] cp)) none pos) (zit C E te) := by
 intro pins s σ H D I h
 refine zaa ?_; intro G_; obtain ⟨tl, N, nm, qn, bs, hd, sn, sb, ab, cl, dd, k0, k1, k2, k3, k5, mN, hC, hN, hi, T⟩ := O.obj I.ok.mod.kin
 refine wpAny_Raise_call_subT (C := C) (nm := nm) (q := qn) (N := N) (bs := bs) (bm := tl) (hdct := hd) (sn := sn) (sub := sb) (ab := ab) (col := cl) (dd := dd) (k0 := k0) (k1 := k1) (k2 := k2) (k3 := k3) (k5 := k5)
  F.excBase_ValueError (mN := mN) (T.hasType F.excBase_ValueError.hasBase) (I.ok.hd hc) (by rw [hst]; rfl) hi (zdV I hg O.bound ⟨rfl, ?_⟩ hdb)
 have ha' := ha cp pins s σ H (fun vs H1 => vs.length = 1 ∧ E (.ref C) none H1) I h
 rw [hst] at ha' ⊢
 refine Calls.evalArgs_plain (wpAny_mono ha' (fun us s2 ⟨vs, H1, I1, r, hl, hE⟩ => ?_) fun _ _ y => y)
 refine ⟨rfl, ?_, I1.bk _ _ hC, hN.keeps I1.bk, T.keeps I1.bk, fun h' a hx => hR pins σ H1 s2 h' a _ _ I1 hx hE⟩
 show us.length ≤ sizeLine
 rw [← r.length, hl]; decide
end
abbrev TJ := St → Hp → (Str → Hp → Prop) → Prop
def PJ (X : Cx) (es : List Expr) (t : TJ) : Prop := ∀ (pins : List (Addr × Obj)) (s : Shared) (σ : St) (H : Hp) (acc : Str) (Q : Str → Hp → Prop), Inv X pins σ H s → acc.length + 5000 * es.length ≤ sizeLine → t σ H (fun out H' => Q (acc ++ out) H') →
 Joins (model X.prog X.w) X.A X.xe (evalEach es X.env) acc (fun out s1 => out.length ≤ sizeLine ∧ ∃ H', Inv X pins σ H' s1 ∧ Q out H') s
def jNil : TJ := fun _ H Q => Q Str.empty H
def zjT (te : TE) (t : TJ) : TJ := fun σ H Q => te σ H fun v H1 => ∃ y : Str, v = .str y ∧ y.length ≤ 5000 ∧ t σ H1 fun out H2 => Q (y ++ out) H2
def tFst (t : TJ) : TE := fun σ H Q => t σ H fun out H1 => Q (.str out) H1
section
variable {X : Cx} {pos : Pos} {e e2 : Expr} {es : List Expr} {te : TE} {t : TJ}
theorem zj1 : PJ X [] jNil := by
 intro pins s σ H acc Q I hl h
 exact ⟨by simpa using hl, H, I, by have z : Q (acc ++ Str.empty) H := h; rwa [Str.append_empty] at z⟩
theorem zjG (he : PE X e te) (ht : PJ X es t) : PJ X (e :: es) (zjT te t) := by
 intro pins s σ H acc Q I hl h
 refine thn (he pins s σ H _ I h) fun u s1 ⟨v, H1, I1, r, y, ev, hy, q⟩ => ?_
 subst ev
 obtain ⟨tk, rfl⟩ := (show ∃ tk, u = Value.str y tk from r)
 have hl' : (acc ++ y).length + 5000 * es.length ≤ sizeLine := by
  rw [strLen_append]
  rw [List.length_cons] at hl
  lia
 refine ⟨y, tk, rfl, by lia, ht pins s1 σ H1 (acc ++ y) Q I1 hl' ?_⟩
 have ea : ∀ out : Str, acc ++ (y ++ out) = acc ++ y ++ out := fun out => (Str.append_assoc acc y out).symm
 simp only [ea] at q
 exact q
theorem zdk {M : Model} {A : Around} {E : Value → Shared → Prop} {Q Q' : Str → Shared → Prop} : ∀ {ps : List (Sem Value)} {acc : Str} {s : Shared}, Joins M A E ps acc Q s → (∀ o s1, Q o s1 → Q' o s1) → Joins M A E ps acc Q' s
 | [], _, _, h, f => f _ _ h
 | _ :: _, _, _, h, f => thn h (by rintro _ _ ⟨y, t, a, b, c⟩; exact ⟨y, t, a, b, zdk c f⟩)
theorem zkp (h : PJ X (e :: e2 :: es) t) (hl : 5000 * (e :: e2 :: es).length ≤ sizeLine := by decide) : PE X (.JoinedStr (e :: e2 :: es) pos) (tFst t) := by
 intro pins s σ H Q I hw
 refine wpAny_JoinedStr ?_
 have ee : ∀ out : Str, Str.empty ++ out = out := Str.empty_append
 unfold tFst at hw
 have z := h pins s σ H Str.empty (fun out H' => Q (.str out) H') I (by show 0 + _ ≤ _; lia) (by simp only [ee]; exact hw)
 refine zdk z (by rintro out s1 ⟨h1, H', I', q⟩; exact ⟨h1, .str out, H', I'.tok _, ⟨_, rfl⟩, q⟩)
def tFmI (te : TE) : TE := fun σ H Q => te σ H fun v H1 => ∃ i : Int, v = .int i ∧ i.natAbs.log2 < 1920 ∧ Q (.str (toString i)) H1
def tFmS (te : TE) : TE := fun σ H Q => te σ H fun v H1 => ∃ y : Str, v = .str y ∧ y.length ≤ sizeLine ∧ Q (.str y) H1
theorem zjS (he : PE X e te) : PE X (.FormattedValue e (-1) none pos) (tFmI te) := by
 intro pins s σ H Q I hw
 refine wpAny_FormattedValue_plain (thn (he pins s σ H _ I hw) fun u s1 ⟨v, H1, I1, r, i, ev, hi, q⟩ => ?_)
 subst ev
 obtain ⟨tk, rfl⟩ := (show ∃ tk, u = Value.int i tk from r)
 exact wpAny_formatField_int hi ⟨.str _, H1, I1.tok _, ⟨_, rfl⟩, q⟩
theorem zky (he : PE X e te) : PE X (.FormattedValue e (-1) none pos) (tFmS te) := by
 intro pins s σ H Q I hw
 refine wpAny_FormattedValue_plain (thn (he pins s σ H _ I hw) fun u s1 ⟨v, H1, I1, r, y, ev, hy, q⟩ => ?_)
 subst ev
 obtain ⟨tk, rfl⟩ := (show ∃ tk, u = Value.str y tk from r)
 exact wpAny_formatField_str ⟨.str y, H1, I1, ⟨_, rfl⟩, q⟩ ⟨.str y, H1, I1.tok _, ⟨_, rfl⟩, q⟩ hy
theorem zjh {i : Int} (h : i.natAbs.log2 < 1920) : (Str.ofString (toString i)).length ≤ 5000 := by
 have e := int_text_length_le (k := 1920) (by decide) h
 rw [PySem.ofString_length]; lia
end
end L2
namespace L2
open PySem PySem.Spec PyProof.Rows
def Cx.sub (X : Cx) (a : Addr) (E : Value → Shared → Prop) : Cx := { X with A := X.A.mark (some (.ref a)), calm := false, xe := E }
theorem Cx.Ok.sub {X : Cx} (ok : X.Ok) (a : Addr) (E : Value → Shared → Prop) : (X.sub a E).Ok :=
 ⟨ok.mod, ok.kind, ok.glob, ok.blt, ok.above, ok.inj, ok.has, ok.cab, (fun z => nomatch z), ok.frames, ok.stk, ok.exf, ok.bs, ok.bsz, ok.noex, ok.exfs, ok.funs, ok.frf⟩
section
variable {X : Cx} {pins : List (Addr × Obj)} {σ : St} {H : Hp} {s : Shared} {a : Addr} {E : Value → Shared → Prop}
theorem Inv.sub (I : Inv X pins σ H s) (a : Addr) (E : Value → Shared → Prop) : Inv (X.sub a E) pins σ H s := ⟨I.ok.sub a E, I.os, I.bare, I.base, I.loc, I.cell, I.free, I.freeC, I.pin, I.hok, I.len⟩
end
section
variable {X : Cx} {cn en y : Str} {C : Addr} {cp yp ep ap hp : Pos} {iy ie : Nat} {pins : List (Addr × Obj)} {σ : St} {D : Ends} {H1 : Hp} {s1 s2 : Shared} {e1 : Value}
end
end L2
namespace L2
open PySem PySem.Spec PyProof.Rows PySem.W PySem.Calls
structure ErrK (K : PySem.W.Frag) (C : Addr) : Prop where
 cl : (clsIn K C).isSome = true
 ga : findIn K (.ref C) "__getattribute__" = some (some (.builtin "BaseException.__getattribute__"))
 hk : findIn K (.ref C) "__getattr__" = some none
 fd : findIn K (.ref C) "__class__" = some (some (.builtin "object.__class__"))
 gt : specialIn K (.builtin "object.__class__") "__get__" = some (some (.builtin "getset_descriptor.__get__"))
 tk : takesIn K (.builtin "object.__class__") = some true
 mo : mroIn K C (.type "object") = some true
 mb : mroIn K C (.type "BaseException") = some true
section
open Builtin Builtin.ObjectAttr Builtin.Getset_descriptor
variable {K : PySem.W.Frag} {C a : Addr} {o : Obj} {prog : Program} {w : World} {A : Around} {s : Shared}
end
end L2
namespace L2
open PySem PySem.Spec PyProof.Rows
structure JX (X : Cx) (e : Expr) (tx : XK → TE) : Prop where
 h : PX X e tx
structure JJ (X : Cx) (es : List Expr) (t : TJ) : Prop where
 h : PJ X es t
section
variable {X : Cx} {k j : Nat} {x y cn en : Str} {ps : List Str} {sp : Sp} {p pos np cp yp ep ap hp tp : Pos} {e e2 : Expr} {es : List Expr} {t : TA} {te : TE} {tx : XK → TE} {E : XK} {C : Addr} {tj : TJ}
theorem x_fn (F : FnX X.prog X.w X.K X.mg X.base k x ps sp) (hr : Room j X.A) (ha : JA X.nox (e :: es) t) (hj : k ≤ j := by decide) (hg : Gl X x := by rfl) (hdb : (x == ("__debug__" : Str)) = false := by decide +kernel) :
  JX X (.Call (.Name x p) (e :: es) [] pos) (fun E => zci sp [] E t) := ⟨zlo F hr ha.h hj hg hdb (ha.hd.star _ _) (ha.rs.no _ _)⟩
theorem JX.je (h : JX X e tx) (hp : Passes (CXe X.prog X.w) X E) : JE X e (tx E) := ⟨h.h.pe hp⟩
theorem zgd (hR : Raises X E) (O : ErrC X.K X.mg x C) (ha : JE X e te) (hn : ∀ env, starEach [e] env = [(false, eval e env)] := by intro; rfl) (hc : X.calm = true := by rfl) (hg : Gl X x := by rfl) (hdb : (x == ("__debug__" : Str)) = false := by decide +kernel) :
  JS X (.Raise (some (.Call (.Name x np) [e] [] cp)) none pos) (zit C E te) := ⟨zhK hR O (zdM ha.h zgS (hn _)) (hn _) hc hg hdb⟩
theorem zlf : JJ X [] jNil := ⟨zj1⟩
theorem zcr (he : JE X e te) (h : JJ X es tj) : JJ X (e :: es) (zjT te tj) := ⟨zjG he.h h.h⟩
theorem zkB (h : JJ X (e :: e2 :: es) tj) (hl : 5000 * (e :: e2 :: es).length ≤ sizeLine := by decide) : JE X (.JoinedStr (e :: e2 :: es) pos) (tFst tj) := ⟨zkp h.h hl⟩
theorem zlj (he : JE X e te) : JE X (.FormattedValue e (-1) none pos) (tFmI te) := ⟨zjS he.h⟩
theorem ziX (he : JE X e te) : JE X (.FormattedValue e (-1) none pos) (tFmS te) := ⟨zky he.h⟩
end
section
variable {P : Program} {w : World} {K : PySem.W.Frag} {mg : Str → Option Value} {base : Heap}
theorem Fun.okX {x qual : Str} {st : Stmt} {f : Addr} {fd : FuncData} {N ps : List Str} {k : Nat} {sp : Sp} (F : Fun K x qual st f fd) (S : FnScope N ps (zab st)) (len : ∀ vs H Q E, sp vs H Q E → vs.length = ps.length)
  (hbody : ∀ (cdv : Value) (A : Around) (outer : List Env) (s : Shared) (H : Hp) (vs : List V) (Q : VK) (E : XK), Room k (A.deeper (envOfC qual (zab st) s.heap.objs.size f cdv)) → sp vs H Q E →
   ∃ t, JB (cxOf (CXe P w) P w K mg base N qual (zab st) f cdv A outer s H E) (zad st) t ∧ t { nx := fun _ H' => Q .non H', rt := Q } (start N vs) H) : FnOk P w K mg base (CXe P w) (k + 1) f fd ps sp := by
 refine zaa ?_; intro G_; obtain ⟨oc, od, kV, doc, pm, an, cdv, ct, osl, rfl, lk, hcd⟩ := F.ex
 refine zkO lk hcd S len fun A outer s H vs Q E hr hsp => ?_
 refine zaa ?_; intro G_; obtain ⟨t, h1, h2⟩ := hbody cdv A outer s H vs Q E hr hsp
 exact ⟨t, h1.h, h2⟩
theorem zd5 {N : List Str} {qual : Str} {scope : Scope} {f : Addr} {cd : Value} {A : Around} {outer : List Env} {s : Shared} {H : Hp} {E : XK} : Raises (cxOf (CXe P w) P w K mg base N qual scope f cd A outer s H E) E :=
 fun pins σ H1 s1 h' a cls vs I hx hE => zjs I hx hE
theorem zhh {N : List Str} {qual : Str} {scope : Scope} {f : Addr} {cd : Value} {A : Around} {outer : List Env} {s : Shared} {H : Hp} {E : XK} :
  PassesOwn (model P w) (cxOf (CXe P w) P w K mg base N qual scope f cd A outer s H E).A (cxOf (CXe P w) P w K mg base N qual scope f cd A outer s H E).env (cxOf (CXe P w) P w K mg base N qual scope f cd A outer s H E).xe := PassesOwn.leaving
end
end L2
namespace L2
open PySem PySem.Spec PyProof.Rows
def Ite (K : PySem.W.Frag) (a : Addr) : It :=
  ⟨fun i H => ∃ xs x, SqL K H a xs ∧ xs[i]? = some x,
   fun i H v H' => ∃ T x, v = .ref T ∧ H T = none ∧ H' = upd H T (.tup [.int i, x]) ∧ ∀ xs, SqL K H a xs → xs[i]? = some x,
   fun i H => ∃ xs, SqL K H a xs ∧ xs.length ≤ i⟩
abbrev efp (n : Nat) : List Addr := [n, n + 1]
def etn (n : Nat) (a : Addr) (i : Nat) (h : Heap) : Prop := (∃ old, IsEnum h (n + 1) n i old) ∧ h.IsListIter n a i
theorem zg4 {n : Nat} {c : Addr} (h : c ∉ efp n) : c ≠ n ∧ c ≠ n + 1 := by
 simp only [efp, List.mem_cons, List.not_mem_nil, or_false, not_or] at h
 exact h
theorem zhc {P : Program} {w : World} {K : PySem.W.Frag} {elts : List Expr} {x1} {pos : Pos} (n a : Nat) (ha : a < n) : Turn P w K (.Tuple elts x1 pos) (Ite K a) (efp n) (n + 1) (etn n a) where
 mem := by simp [efp]
 obj := fun i h st c hc => by
  refine zaa ?_; intro G_; obtain ⟨⟨old, s1⟩, o1, e1, c1, d1⟩ := st
  simp only [efp, List.mem_cons, List.not_mem_nil, or_false] at hc
  rcases hc with rfl | rfl
  ·exact ⟨o1, e1, fun v z => by rw [d1] at z; cases z⟩
  ·exact ⟨_, s1, fun v z => by cases z⟩
 keep := fun i h h' st k => by
  refine zaa ?_; intro G_; obtain ⟨⟨old, s1⟩, s4⟩ := st
  exact ⟨⟨old, k _ (by simp [efp]) _ s1⟩, s4.at fun o e => k _ (by simp [efp]) o e⟩
 item := by
  intro X hP hw hK hc i pins s σ H E I hf st hg
  subst hP hw hK
  refine zaa ?_; intro G_; obtain ⟨xs, x, hq, hx⟩ := hg
  refine zaa ?_; intro G_; obtain ⟨it1, rv1, p1, z1⟩ := I.list hq
  refine zaa ?_; intro G_; obtain ⟨u1, hu1, ru1⟩ := rv1.get hx
  refine zaa ?_; intro G_; obtain ⟨⟨old, s1⟩, s4⟩ := st
  refine wpAny_pyNext_enum_item s1 s4 p1.isList (by simpa using hu1) (nn (by lia)) fun h' q1 q3 q5 q6 q7 => ?_
  refine (exg _ rfl (wpAny_letOwnedTupleGo_enum q1 fun h'' w1 w2 => ?_))
  have lt1 : n + 1 < s.heap.objs.size := Heap.lt_size s1
  have nT : s.heap.objs.size ∉ efp n := fun z => by simp only [efp, List.mem_cons, List.not_mem_nil, or_false] at z; rcases z with z | z <;> exact absurd (show _ = (_ : Nat) from z) (by lia)
  have kk : ∀ c o, c ∉ efp n → s.heap.get? c = some o → h''.get? c = some o := fun c o hcn e => by
   obtain ⟨m1, m2⟩ := zg4 hcn
   exact w2.extBut _ _ m2 (q7 c o m2 m1 e)
  have st' : etn n a (i + 1) h'' := ⟨⟨_, by have := w1; simpa using this⟩, q3.extBut w2.extBut (nn (by lia))⟩
  have vv : Vals [.int i, x] [.int i s.toks, u1] := .cons ⟨_, rfl⟩ (.cons ru1 .nil)
  have q5' := w2.extBut _ _ (nn (by lia)) q5
  have I1 : Inv X pins σ (upd H s.heap.objs.size (.tup [.int i, x])) { s with heap := h'', toks := s.toks + 1 } := I.turnedT (t' := s.toks + 1) hf kk (fun c hcn => by
   refine zaa ?_; intro G_; obtain ⟨⟨_, t1⟩, ⟨_, t4, _⟩⟩ := st'
   simp only [efp, List.mem_cons, List.not_mem_nil, or_false] at hcn
   rcases hcn with rfl | rfl
   ·exact ⟨_, t4⟩
   ·exact ⟨_, t1⟩) (Nat.le_refl _) ⟨by show 2 ≤ sizeLine; decide, [.int i s.toks, u1], vv, _, q5', rfl, _, rfl⟩
  refine ⟨.ref s.heap.objs.size, _, I1, rfl, ⟨_, x, rfl, I.hok.fresh (Nat.le_refl _), rfl, fun xs' k1 => ?_⟩, st', fun c hcn => ?_⟩
  ·rw [I.list_inj k1 hq]; exact hx
  ·rw [zaj (fun (z : c = s.heap.objs.size) => nT (by rw [← z]; exact hcn))]; exact (hf c hcn).1
 done := by
  intro X hP hw hK hc i pins s σ H E I hf st hg
  subst hP hw hK
  refine zaa ?_; intro G_; obtain ⟨xs, hq, hz⟩ := hg
  refine zaa ?_; intro G_; obtain ⟨it1, rv1, p1, z1⟩ := I.list hq
  refine zaa ?_; intro G_; obtain ⟨⟨old, s1⟩, s4⟩ := st
  have l1 := rv1.length
  refine wpAny_pyNext_enum_end (I.ok.hd hc) s1 s4 p1.isList (by simp; lia) fun h' kk => ⟨rfl, I.turnedS (t' := s.toks) hf fun c o hcn e => ?_⟩
  obtain ⟨m1, m2⟩ := zg4 hcn
  exact kk c o m1 e
 self := fun _ _ _ _ _ st h => by obtain ⟨⟨_, s1⟩, _⟩ := st; exact wpAny_pyIter_enum s1 h
section
variable {X : Cx} {elts : List Expr} {x1} {ps : Pos}
def zjV (K : PySem.W.Frag) (ta : TA) : TI := fun σ H R => ta σ H fun vs H1 => ∃ a, vs = [.ref a] ∧ (∃ xs, SqL K H1 a xs) ∧ R (Ite K a) H1
theorem zjK {e1 : Expr} {ta : TA} {p pos : Pos} (hg : Gl X "enumerate") (hm : X.mg "enumerate" = none) (ha : PA X [e1] ta) (hs : starEach [e1] X.env = [(false, eval e1 X.env)]) :
  PI X (.Tuple elts x1 ps) (.Call (.Name "enumerate" p) [e1] [] pos) (zjV X.K ta) := by
 intro pins s σ H R I h
 refine Call_ (zdr I hg hm boot_enumerate (PyProof.Rows.callWith_type1 (thn (ha pos pins s σ H _ I h) fun us s1 ⟨vs, H1, I1, r1, q1⟩ => ?_) hs rfl))
 refine zaa ?_; intro G_; obtain ⟨a, e, ⟨xs, hq1⟩, q⟩ := q1
 subst e
 cases r1 with
 | cons r rr =>
  cases rr
  cases r
  refine zaa ?_; intro G_; obtain ⟨it1, rv1, p1, z1⟩ := I1.list hq1
  have la : a < s1.heap.objs.size := by obtain ⟨o, n, e, _⟩ := p1; exact Heap.lt_size e
  refine call_enumerate_list p1.isList fun h' k1 k4 k6 k7 => ?_
  refine wpAny_pyIter_enum k1 ?_
  refine ⟨_, efp s1.heap.objs.size, etn s1.heap.objs.size a, Ite X.K a, H1, rfl, I1.kept (t' := s1.toks) k7, zhc s1.heap.objs.size a la, ⟨⟨_, k1⟩, k4⟩, fun c hc => ?_, q⟩
  refine I1.fpOk ?_ (I1.hok.fresh ?_)
  all_goals (simp only [efp, List.mem_cons, List.not_mem_nil, or_false] at hc; rcases hc with rfl | rfl <;> simp)
theorem zkA {e1 : Expr} {t : TA} {p pos : Pos} (hm : X.mg "enumerate" = none) (ha : JA X [e1] t) (hg : Gl X "enumerate" := by rfl) : JI X (.Tuple elts x1 ps) (.Call (.Name "enumerate" p) [e1] [] pos) (zjV X.K t) :=
 ⟨zjK hg hm ha.h (ha.hd.star _ _)⟩
theorem zhQ {K : PySem.W.Frag} {a : Addr} {xs : List V} {g : TG} {tb : TS} {D : Ends} {σ : St} {H : Hp} (Pv : Nat → St → Hp → Prop) (h0 : Pv 0 σ H) (hl : ∀ i σ H, i ≤ xs.length → Pv i σ H → SqL K H a xs)
  (hs : ∀ (i : Nat) x T σ H, xs[i]? = some x → Pv i σ H → H T = none → g (.ref T) σ (upd H T (.tup [.int i, x])) fun σ2 H2 => tb { D with nx := Pv (i + 1), ct := Pv (i + 1), bk := D.nx } σ2 H2) (hd : ∀ σ H, Pv xs.length σ H → D.nx σ H) :
  ∃ W : Nat → Nat → St → Hp → Prop, (∃ m, W 0 m σ H) ∧ ∀ i m σ H, W i m σ H →
   ((Ite K a).stop i H ∧ D.nx σ H) ∨ ((Ite K a).go i H ∧ ∃ N : St → Hp → Prop, (∀ σ' H', N σ' H' → ∃ m', m' < m ∧ W (i + 1) m' σ' H') ∧ ∀ x H', (Ite K a).yld i H x H' → g x σ H' fun σ2 H2 => tb { D with nx := N, ct := N, bk := D.nx } σ2 H2) := by
 refine ⟨fun i m σ H => m = xs.length - i ∧ i ≤ xs.length ∧ Pv i σ H, ⟨xs.length, by simp, Nat.zero_le _, h0⟩, ?_⟩
 intro i m σ H h_
 refine zaa ?_; intro G_; obtain ⟨rfl, hi, p⟩ := h_
 have q1 := hl i σ H hi p
 by_cases hlt : i < xs.length
 ·refine .inr ⟨⟨xs, xs[i], q1, by simp [hlt]⟩, Pv (i + 1), fun σ' H' p' => ⟨xs.length - (i + 1), by lia, rfl, hlt, p'⟩, fun x H' y => ?_⟩
  refine zaa ?_; intro G_; obtain ⟨T, x, rfl, hT, rfl, e⟩ := y
  exact hs i x T σ H (e xs q1) p hT
 ·have e : i = xs.length := by lia
  subst e
  exact .inl ⟨⟨xs, q1, Nat.le_refl _⟩, hd σ H p⟩
end
end L2
namespace L2
open PySem PySem.Spec PyProof.Rows PySem.W
structure Errs (K : PySem.W.Frag) (mg : Str → Option Value) (WE : Addr) (c : Nat → Addr) : Prop where
 when : mg "WhenError" = some (.ref WE)
 bS : mg "NoStretch" = some (.ref (c 0))
 bW : mg "NoWidth" = some (.ref (c 1))
 bT : mg "NoTable" = some (.ref (c 2))
 bC : mg "NoColumn" = some (.ref (c 3))
 bX : mg "NoText" = some (.ref (c 4))
 bN : mg "NoName" = some (.ref (c 5))
 bR : mg "NoRow" = some (.ref (c 6))
 ve : mg "ValueError" = none
 exc : ∀ i, i < 7 → excIn K (c i) veM "ValueError.__new__" = true
 ek : ∀ i, i < 7 → ErrK K (c i)
 mt : ∀ i, i < 7 → exmOne K (.ref (c i)) (.ref WE) = some true
 kit : ∀ i, i < 7 → ∀ j, j < 7 → kitOne K (.ref (c i)) (.ref (c j)) = some (decide (i = j))
 val : ∀ i, i < 7 → kitOne K (.ref (c i)) (.type "ValueError") = some true
section
variable {X : Cx} {pos p2 : Pos} {a b : Expr} {ta tb : TE}
end
end L2
namespace L2
open PySem PySem.Spec PyProof.Rows PySem.W
end L2
namespace L2
open PySem Wr
def EntAt (H : Hp) (v : V) (e : List Int × List Stt) : Prop := ∃ t p q, v = .ref t ∧ H t = some (.tup [.ref p, .ref q]) ∧ H p = some (.tup (e.1.map V.int)) ∧ SpanAt H q e.2
def SheetAt (H : Hp) (a : Addr) (es : List (List Int × List Stt)) : Prop := ∃ xs, H a = some (.lst xs) ∧ Paired (EntAt H) xs es
theorem EntAt.same {H H' : Hp} {v : V} {e : List Int × List Stt} (s : Same H H') (h : EntAt H v e) : EntAt H' v e := by
 refine zaa ?_; intro G_; obtain ⟨t, p, q, h1, h2, h3, h4⟩ := h
 exact ⟨t, p, q, h1, s _ _ h2, s _ _ h3, h4.same s⟩
theorem SheetAt.same {H H' : Hp} {a : Addr} {es : List (List Int × List Stt)} (s : Same H H') (h : SheetAt H a es) : SheetAt H' a es := by
 refine zaa ?_; intro G_; obtain ⟨xs, h1, h2⟩ := h
 exact ⟨xs, s _ _ h1, Paired.mapP h2 fun _ _ q => q.same s⟩
theorem zd8 {H H' : Hp} {ys : List V} {rs : List (List Int)} (s : Same H H') (h : Paired (RowAt H) ys rs) : Paired (RowAt H') ys rs := Paired.mapP h fun _ _ q => q.same s
end L2
namespace L2
open PySem PySem.Spec PyProof.Rows
section
variable {X : Cx} {e : Expr} {es : List Expr} {te : TE} {t : TA}
theorem acn (ha : JE X e te) (hr : JA X es t) (hn : Nst e := by first | exact Nst.comp .. | exact Nst.lam .. | exact Nst.pln (by constructor)) : JA X (e :: es) (zap te t) := ⟨zdM ha.h hr.h (hn.star _ _), .cons hn hr.pl⟩
theorem zis {x : Str} {dp pos pos' : Pos} (i : Nat) (hN : X.N.Nodup) (he : JE X (.Dict [] [] dp) te) (hi : X.N[i]? = some x := by rfl) (hx : Loc X.env.scope x := by first | exact Or.inl rfl | exact Or.inr rfl)
  (hf : X.fn x = true ∨ X.env.scope.names.lookup x = some .local := by first | exact .inl rfl | exact .inr rfl) : JS X (.Assign [.Name x pos'] (.Dict [] [] dp) pos) (tAsg te (za5 i)) := ⟨zgs hN hi hx he.h rfl hf⟩
end
end L2
namespace Prf
open PySem L2 Wr
abbrev Kn := List (List Int × Addr × List Bool)
def zbp (kn : Kn) : List (List Key × V) := kn.map fun q => (q.1.map Sum.inl, .ref q.2.1)
structure KnownAt (H : Hp) (d : Addr) (kn : Kn) : Prop where
 at' : Rd H d (.dT (zbp kn))
 nd : (kn.map (·.1)).Nodup
 ne : ∀ q ∈ kn, q.1 ≠ []
 lit : ∀ q ∈ kn, H q.2.1 = some (.lst (q.2.2.map V.bl))
theorem zdE {a b : List Int} (h : (a.map Sum.inl : List Key) = b.map Sum.inl) : a = b := by
 induction a generalizing b with
 | nil => cases b with | nil => rfl | cons _ _ => cases h
 | cons x a ih => cases b with
  | nil => cases h
  | cons y b =>
   simp only [List.map_cons, List.cons.injEq, Sum.inl.injEq] at h
   rw [h.1, ih h.2]
theorem zgN : ∀ {kn : Kn} {q : List Int × Addr × List Bool}, (kn.map (·.1)).Nodup → q ∈ kn → valV (zbp kn) (q.1.map Sum.inl) = some (.ref q.2.1)
 | [], _, _, h => by cases h
 | p :: kn, q, nd, h => by
  simp only [List.map_cons, List.nodup_cons] at nd
  rcases List.mem_cons.mp h with rfl | h
  ·exact zcb rfl
  ·refine (zbG fun z => ?_).trans (zgN nd.2 h)
   have e : p.1 = q.1 := zdE z
   exact nd.1 (by rw [e]; exact List.mem_map_of_mem h)
theorem ze0 : ∀ {kn : Kn} {r : List Int}, r ∉ kn.map (·.1) → valV (zbp kn) (r.map Sum.inl) = none
 | [], _, _ => rfl
 | p :: kn, r, h => by
  refine (zbG fun z => ?_).trans (ze0 fun z => h (List.mem_cons_of_mem _ z))
  have e : p.1 = r := zdE z
  exact h (by rw [List.map_cons, e]; exact List.mem_cons_self)
def KnownAt.tdict {H : Hp} {d : Addr} {kn : Kn} (h : KnownAt H d kn) : TDict H d (zbp kn) (kn.map (·.1)) := ⟨h.at', by unfold zbp; rw [List.map_map, List.map_map]; rfl, fun k hk => by obtain ⟨q, h1, rfl⟩ := List.mem_map.mp hk; exact h.ne q h1⟩
theorem Rd.same {H H' : Hp} {a : Addr} {u : HO} (s : Same H H') (h : Rd H a u) : Rd H' a u := h.imp (s _ _) (by rintro ⟨o, e⟩; exact ⟨o, s _ _ e⟩)
theorem KnownAt.same {H H' : Hp} {d : Addr} {kn : Kn} (s : Same H H') (h : KnownAt H d kn) : KnownAt H' d kn := ⟨Rd.same s h.at', h.nd, h.ne, fun q hq => s _ _ (h.lit q hq)⟩
theorem zcg : ∀ {l m : List (List Int)}, l.Perm m → (l.Pairwise fun a b => lexI b a = false) → (m.Pairwise fun a b => lexI b a = false) → l = m
 | [], m, p, _, _ => p.symm.eq_nil.symm
 | x :: l, [], p, _, _ => by have := p.eq_nil; cases this
 | x :: l, y :: m, p, h1, h2 => by
  obtain ⟨a1, a2⟩ := List.pairwise_cons.mp h1
  obtain ⟨b1, b2⟩ := List.pairwise_cons.mp h2
  have e : x = y := by
   rcases List.mem_cons.mp (p.mem_iff.mp List.mem_cons_self) with z | z
   ·exact z
   ·rcases List.mem_cons.mp (p.symm.mem_iff.mp (List.mem_cons_self : y ∈ y :: m)) with w | w
    ·exact w.symm
    ·exact zcp (b1 x z) (a1 y w)
  subst e
  rw [zcg (List.Perm.cons_inv p) a2 b2]
def zeu (kn : Kn) (k : Nat) (r : List Int) : Bool := ((((kn.find? fun q => decide (q.1 = r)).map (·.2.2)).getD [])[k]?).getD false
theorem zin : ∀ {kn : Kn} {q : List Int × Addr × List Bool}, (kn.map (·.1)).Nodup → q ∈ kn → ∀ k, zeu kn k q.1 = (q.2.2[k]?).getD false
 | [], _, _, h, _ => by cases h
 | p :: kn, q, nd, h, k => by
  simp only [List.map_cons, List.nodup_cons] at nd
  rcases List.mem_cons.mp h with rfl | h
  ·simp [zeu]
  ·have e : p.1 ≠ q.1 := fun z => nd.1 (by rw [z]; exact List.mem_map_of_mem h)
   have := zin nd.2 h k
   unfold zeu at *
   rw [List.find?_cons, decide_eq_false e]
   exact this
def dEnt (e : List Int × List Stt) : PyData := .tuple [dRow e.1, .list (e.2.map dS)]
theorem EntAt.den {K : PySem.W.Frag} {H : Hp} {v : V} {e : List Int × List Stt} (h : EntAt H v e) : Den K H v (dEnt e) := by
 refine zaa ?_; intro G_; obtain ⟨t, p, q, rfl, h2, h3, h4⟩ := h
 exact .tup (SqT.of h2) (.cons (RowAt.den ⟨p, rfl, h3⟩) (.cons h4.den .nil))
theorem zcF {K : PySem.W.Frag} {H : Hp} : ∀ {vs : List V} {es : List (List Int × List Stt)}, Paired (EntAt H) vs es → DenAll K H vs (es.map dEnt) := by
 intro vs es p
 induction p with
 | nil => exact .nil
 | cons r t ih => exact .cons (EntAt.den r) ih
theorem zfI (ss : List Stt) : PyData.canLay0 (.list (ss.map dS)) = true ∧ PyData.depth (.list (ss.map dS)) ≤ 2 := by
 have h1 : ∀ o, (dO o).canLay0 = true ∧ (dO o).depth = 0 := fun o => by cases o <;> simp [dO, PyData.canLay0, PyData.depth]
 have all : ∀ ss : List Stt, PyData.canLayAll0 (ss.map dS) = true ∧ PyData.depthAll (ss.map dS) ≤ 1 := by
  intro ss
  induction ss with
  | nil => simp [PyData.canLayAll0, PyData.depthAll]
  | cons s ss ih =>
   have e1 := h1 s.1
   have e2 := h1 s.2
   rw [List.map_cons]
   simp only [PyData.canLayAll0, PyData.depthAll, dS, PyData.canLay0, PyData.depth, e1, e2, ih.1]
   refine ⟨by simp, ?_⟩
   have := ih.2
   lia
 have := all ss
 simp only [PyData.canLay0, PyData.depth, this.1, true_and]
 lia
theorem zdq : ∀ es : List (List Int × List Stt), PyData.canLayAll0 (es.map dEnt) = true ∧ PyData.depthAll (es.map dEnt) ≤ 3
 | [] => by simp [PyData.canLayAll0, PyData.depthAll]
 | e :: es => by
  have ih := zdq es
  have e1 := zcf e.1
  have e2 := zfI e.2
  have d1 : PyData.depth (dRow e.1) = 1 := by simp [dRow, PyData.depth, e1.2]
  have c1 : PyData.canLay0 (dRow e.1) = true := by simp [dRow, PyData.canLay0, e1.1]
  have d2 : PyData.depth (dEnt e) ≤ 3 := by
   simp only [dEnt, PyData.depth, PyData.depthAll, d1]
   have := e2.2
   simp only [PyData.depth] at this
   lia
  have c2 : PyData.canLay0 (dEnt e) = true := by
   have := e2.1
   simp only [dEnt, PyData.canLay0, PyData.canLayAll0, c1, Bool.true_and, Bool.and_true] at this ⊢
   exact this
  rw [List.map_cons]
  simp only [PyData.canLayAll0, PyData.depthAll, c2, ih.1]
  exact ⟨rfl, by have := ih.2; lia⟩
theorem zbC (es : List (List Int × List Stt)) : SeqAt.shaped (.list (es.map dEnt)) = true := by
 have e := zdq es
 unfold SeqAt.shaped
 simp only [PyData.canLay0, PyData.depth, e.1, Bool.true_and]
 exact decide_eq_true (by have := e.2; lia)
theorem zfm : ∀ es : List (List Int × List Stt), PyData.eqvAll (es.map dEnt) (es.map dEnt) = true
 | [] => by simp [PyData.eqvAll]
 | e :: es => by
  have h1 := zh2 e.2 e.2
  have h2 := zc1 e.1 e.1
  simp only [PyData.eqv, decide_true] at h1
  simp only [decide_true] at h2
  simp [PyData.eqvAll, dEnt, PyData.eqv, dRow, h1, h2, zfm es]
theorem zeG (es : List (List Int × List Stt)) : PyData.eqv (.list (es.map dEnt)) (.list (es.map dEnt)) = true := by rw [PyData.eqv]; exact zfm es
theorem zjP (n : Nat) : List.replicate n (V.bl false) = (List.replicate n false).map V.bl := by simp
structure KnI (H2 H' : Hp) (d : Addr) (n : Nat) (kn : Kn) : Prop where
 at' : H' d = some (.dT (zbp kn))
 nd : (kn.map (·.1)).Nodup
 ne : ∀ q ∈ kn, q.1 ≠ []
 lit : ∀ q ∈ kn, H' q.2.1 = some (.lst (q.2.2.map V.bl))
 ad : (kn.map (·.2.1)).Nodup
 len : ∀ q ∈ kn, q.2.2.length = n + 1
 fresh : ∀ q ∈ kn, H2 q.2.1 = none
 same : Same H2 H'
 dn : H2 d = none
def EntX (H : Hp) (l : Addr) (v : V) (e : List Int × List Stt) : Prop := ∃ t p q, v = .ref t ∧ H t = some (.tup [.ref p, .ref q]) ∧ H p = some (.tup (e.1.map V.int)) ∧ SpanAt H q e.2 ∧ q ≠ l
def zjy (kn : Kn) (g : List Int) (e : List Int × List Stt) : Prop := ∃ q ∈ kn, q.1 = e.1 ∧ Can e.2 ∧ e.2.length ≤ 50 ∧ ∀ m, zah m e.2 = (q.2.2[zaU g m]?).getD false
theorem KnI.sm {H2 H' H'' : Hp} {d : Addr} {n : Nat} {kn : Kn} (h : KnI H2 H' d n kn) (s : Same H' H'') : KnI H2 H'' d n kn := ⟨s _ _ h.at', h.nd, h.ne, fun q hq => s _ _ (h.lit q hq), h.ad, h.len, h.fresh, h.same.trans s, h.dn⟩
theorem KnI.known {H2 H' : Hp} {d : Addr} {n : Nat} {kn : Kn} (h : KnI H2 H' d n kn) : KnownAt H' d kn := ⟨.inl h.at', h.nd, h.ne, h.lit⟩
theorem KnI.add {H2 H' : Hp} {d D : Addr} {n : Nat} {kn : Kn} {row : List Int} {l : List Bool} (h : KnI H2 H' d n kn) (hr : row ∉ kn.map (·.1)) (ne : row ≠ []) (hD : H' D = some (.lst (l.map V.bl))) (hl : l.length = n + 1) (fr : H2 D = none) (hn : D ∉ kn.map (·.2.1)) :
  KnI H2 (upd H' d (.dT (putK (zbp kn) (row.map Sum.inl) (.ref D)))) d n (kn ++ [(row, D, l)]) := by
 have dD : D ≠ d := fun z => by rw [z, h.at'] at hD; cases hD
 have dq : ∀ q ∈ kn, q.2.1 ≠ d := fun q hq z => by have := h.lit q hq; rw [z, h.at'] at this; cases this
 refine ⟨?_, ?_, fun q hq => ?_, fun q hq => ?_, ?_, fun q hq => ?_, fun q hq => ?_, h.same.upd h.dn, h.dn⟩
 ·rw [zac, zfs _ (ze0 hr)]; unfold zbp; rw [List.map_append]; rfl
 ·rw [List.map_append]; exact List.nodup_append.mpr ⟨h.nd, by simp, fun x hx y hy z => hr ((show y = row from by simpa using hy) ▸ z ▸ hx)⟩
 ·rcases List.mem_append.mp hq with z | z
  ·exact h.ne q z
  ·rw [List.mem_singleton.mp z]; exact ne
 ·rcases List.mem_append.mp hq with z | z
  ·rw [zaj (dq q z)]; exact h.lit q z
  ·rw [List.mem_singleton.mp z]; show upd H' d _ D = _; rw [zaj dD]; exact hD
 ·rw [List.map_append]; exact List.nodup_append.mpr ⟨h.ad, by simp, fun x hx y hy z => hn ((show y = D from by simpa using hy) ▸ z ▸ hx)⟩
 ·rcases List.mem_append.mp hq with z | z
  ·exact h.len q z
  ·rw [List.mem_singleton.mp z]; exact hl
 ·rcases List.mem_append.mp hq with z | z
  ·exact h.fresh q z
  ·rw [List.mem_singleton.mp z]; exact fr
theorem KnI.set {H2 H' : Hp} {d : Addr} {n : Nat} {kn : Kn} {q : List Int × Addr × List Bool} (h : KnI H2 H' d n kn) (hq : q ∈ kn) (j : Nat) :
  KnI H2 (upd H' q.2.1 (.lst ((q.2.2.set j true).map V.bl))) d n (kn.map fun p => if p.2.1 = q.2.1 then (p.1, p.2.1, p.2.2.set j true) else p) := by
 have dq : d ≠ q.2.1 := fun z => by have := h.lit q hq; rw [← z, h.at'] at this; cases this
 have uniq : ∀ {kn : Kn} {p : List Int × Addr × List Bool}, (kn.map (·.2.1)).Nodup → p ∈ kn → q ∈ kn → p.2.1 = q.2.1 → p = q := by
  intro kn
  induction kn with
  | nil => intro p _ h; cases h
  | cons r kn ih =>
   intro p nd hp hq e
   simp only [List.map_cons, List.nodup_cons] at nd
   rcases List.mem_cons.mp hp with hp1 | hp1
   ·rcases List.mem_cons.mp hq with hq1 | hq1
    ·rw [hp1, hq1]
    ·exact absurd (by rw [← hp1, e]; exact List.mem_map_of_mem hq1) nd.1
   ·rcases List.mem_cons.mp hq with hq1 | hq1
    ·exact absurd (by rw [← hq1, ← e]; exact List.mem_map_of_mem hp1) nd.1
    ·exact ih nd.2 hp1 hq1 e
 have e1 : ∀ p : List Int × Addr × List Bool, (if p.2.1 = q.2.1 then (p.1, p.2.1, p.2.2.set j true) else p).1 = p.1 := fun p => by split <;> rfl
 have e2 : ∀ p : List Int × Addr × List Bool, (if p.2.1 = q.2.1 then (p.1, p.2.1, p.2.2.set j true) else p).2.1 = p.2.1 := fun p => by split <;> rfl
 have m1 : ((kn.map fun p => if p.2.1 = q.2.1 then (p.1, p.2.1, p.2.2.set j true) else p).map (·.1)) = kn.map (·.1) := by rw [List.map_map]; exact List.map_congr_left fun p _ => e1 p
 have m2 : ((kn.map fun p => if p.2.1 = q.2.1 then (p.1, p.2.1, p.2.2.set j true) else p).map (·.2.1)) = kn.map (·.2.1) := by rw [List.map_map]; exact List.map_congr_left fun p _ => e2 p
 have m3 : zbp (kn.map fun p => if p.2.1 = q.2.1 then (p.1, p.2.1, p.2.2.set j true) else p) = zbp kn := by unfold zbp; rw [List.map_map]; exact List.map_congr_left fun p _ => by show (_, _) = (_, _); rw [e1, e2]
 refine ⟨by rw [zaj dq, m3]; exact h.at', by rw [m1]; exact h.nd, fun p hp => ?_, fun p hp => ?_, by rw [m2]; exact h.ad, fun p hp => ?_, fun p hp => ?_, h.same.upd (h.fresh q hq), h.dn⟩
 ·obtain ⟨p, hp1, rfl⟩ := List.mem_map.mp hp; rw [e1]; exact h.ne p hp1
 ·obtain ⟨p, hp1, rfl⟩ := List.mem_map.mp hp
  rw [e2]
  by_cases z : p.2.1 = q.2.1
  ·rw [if_pos z, uniq h.ad hp1 hq z, zac]
  ·rw [if_neg z, zaj z]; exact h.lit p hp1
 ·obtain ⟨p, hp1, rfl⟩ := List.mem_map.mp hp
  split
  ·rw [List.length_set]; exact h.len p hp1
  ·exact h.len p hp1
 ·obtain ⟨p, hp1, rfl⟩ := List.mem_map.mp hp; rw [e2]; exact h.fresh p hp1
def zj3 (H : Hp) (a l : Addr) (es : List (List Int × List Stt)) : Prop := ∃ xs, H a = some (.lst xs) ∧ Paired (EntX H l) xs es ∧ a ≠ l
theorem zd0 : ∀ {es es' : List (List Int × List Stt)}, es.map (·.1) = es'.map (·.1) → (∀ e ∈ es, ∀ e' ∈ es', e.1 = e'.1 → e.2 = e'.2) → es = es'
 | [], [], _, _ => rfl
 | [], _ :: _, h, _ => by cases h
 | _ :: _, [], h, _ => by cases h
 | e :: es, e' :: es', h, k => by
  simp only [List.map_cons, List.cons.injEq] at h
  have h2 := k e List.mem_cons_self e' List.mem_cons_self h.1
  rw [zd0 h.2 fun x hx y hy => k x (List.mem_cons_of_mem _ hx) y (List.mem_cons_of_mem _ hy)]
  obtain ⟨a, b⟩ := e
  obtain ⟨c, d⟩ := e'
  have q1 : a = c := h.1
  have q2 : b = d := h2
  rw [q1, q2]
theorem zhY {kn : Kn} {g : List Int} {e : List Int × List Stt} (nd : (kn.map (·.1)).Nodup) (h : zjy kn g e) (m : Int) : zah m e.2 = zeu kn (zaU g m) e.1 := by
 obtain ⟨q, hq, e1, _, _, e2⟩ := h
 rw [e2 m, ← e1, zin nd hq]
end Prf
namespace Wr
def okB (s : Stt) : Bool := match s.1, s.2 with
 | some a, some b => decide (a < b)
 | _, _ => true
theorem zeL {s : Stt} : okB s = true ↔ okS s := by
 obtain ⟨a, b⟩ := s
 cases a with
 | none => exact ⟨fun _ x y h _ => (nomatch h), fun _ => rfl⟩
 | some a => cases b with
  | none => exact ⟨fun _ x y _ h => (nomatch h), fun _ => rfl⟩
  | some b =>
   constructor
   ·intro h x y h1 h2
    cases h1; cases h2
    exact of_decide_eq_true h
   ·intro h
    exact decide_eq_true (h a b rfl rfl)
end Wr
namespace L2
open PySem PySem.Spec PyProof.Rows Wr
abbrev Fact := List Int × Stt
def FactAt (H : Hp) (v : V) (f : Fact) : Prop := ∃ t p, v = .ref t ∧ H t = some (.tup [.ref p, vO f.2.1, vO f.2.2]) ∧ H p = some (.tup (f.1.map V.int))
theorem FactAt.same {H H' : Hp} {v : V} {f : Fact} (s : Same H H') (h : FactAt H v f) : FactAt H' v f := let ⟨t, p, a, b, c⟩ := h; ⟨t, p, a, s _ _ b, s _ _ c⟩
theorem za2 {H H' : Hp} {xs : List V} {fs : List Fact} (s : Same H H') (h : Paired (FactAt H) xs fs) : Paired (FactAt H') xs fs := Paired.mapP h fun _ _ q => q.same s
theorem FactAt.off {H H' : Hp} {v : V} {f : Fact} (ft : ∀ b xs, H b = some (.tup xs) → H' b = some (.tup xs)) (h : FactAt H v f) : FactAt H' v f := let ⟨t, p, a, b, c⟩ := h; ⟨t, p, a, ft _ _ b, ft _ _ c⟩
theorem zbs {H H' : Hp} {xs : List V} {fs : List Fact} (ft : ∀ b xs, H b = some (.tup xs) → H' b = some (.tup xs)) (h : Paired (FactAt H) xs fs) : Paired (FactAt H') xs fs := Paired.mapP h fun _ _ q => q.off ft
theorem zbk {H : Hp} {l : Addr} {o : HO} (hl : ∀ xs, H l ≠ some (.tup xs)) (b : Addr) (xs : List V) (h : H b = some (.tup xs)) : upd H l o b = some (.tup xs) := by
 rw [zaj (fun z => hl _ (by rw [← z]; exact h))]; exact h
def zbP : List Fact → Nat
 | [] => 0
 | f :: _ => f.1.length
theorem zik {n : Nat} (h : n < 2 ^ 1900) : n.log2 < 1920 := by
 by_cases h0 : n = 0
 ·subst h0; decide
 ·exact Nat.lt_of_lt_of_le ((Nat.log2_lt h0).mpr h) (by decide)
theorem zey {i : Nat} (h : i ≤ 100000) : ((i : Int)).natAbs.log2 < 1920 := by
 rw [Int.natAbs_natCast]
 exact zik (Nat.lt_of_le_of_lt h (by decide))
section
variable {X : Cx}
theorem zkL {P : Program} {w : World} : Passes (CXe P w) X E0 := (by rintro _ _ _ _ _ _ _ ⟨_, _, _, _, _, _, _, _, _, h⟩; exact h.elim)
end
end L2
namespace Prf
open PySem L2 Wr
theorem zeB {α β : Type} {f : α → β} : ∀ {l : List α} {a b : α}, (l.map f).Nodup → a ∈ l → b ∈ l → f a = f b → a = b
 | [], _, _, _, h, _, _ => nomatch h
 | r :: l, a, b, nd, ha, hb, e => by
  rw [List.map_cons, List.nodup_cons] at nd
  rcases List.mem_cons.mp ha with h1 | h1
  ·rcases List.mem_cons.mp hb with h2 | h2
   ·rw [h1, h2]
   ·exact absurd (by rw [← h1, e]; exact List.mem_map_of_mem h2) nd.1
  ·rcases List.mem_cons.mp hb with h2 | h2
   ·exact absurd (by rw [← h2, ← e]; exact List.mem_map_of_mem h1) nd.1
   ·exact zeB nd.2 h1 h2 e
theorem zby {α : Type} [DecidableEq α] : ∀ {l m : List α}, l.Nodup → (∀ x ∈ l, x ∈ m) → l.length ≤ m.length
 | [], _, _, _ => Nat.zero_le _
 | x :: l, m, nd, h => by
  have hx := h x List.mem_cons_self
  obtain ⟨n1, n2⟩ := List.nodup_cons.mp nd
  have := zby (l := l) (m := m.erase x) n2 fun y hy => (List.mem_erase_of_ne (fun (e : y = x) => n1 (by rw [← e]; exact hy))).mpr (h y (List.mem_cons_of_mem _ hy))
  rw [List.length_erase_of_mem hx] at this
  have := List.length_pos_of_mem hx
  simp only [List.length_cons]
  lia
abbrev Td := List (List Int × Addr × List Stt)
def zbU (td : Td) : List (List Key × V) := td.map fun q => (q.1.map Sum.inl, .ref q.2.1)
theorem zgE : ∀ {td : Td} {q : List Int × Addr × List Stt}, (td.map (·.1)).Nodup → q ∈ td → valV (zbU td) (q.1.map Sum.inl) = some (.ref q.2.1)
 | [], _, _, h => nomatch h
 | p :: td, q, nd, h => by
  rw [List.map_cons, List.nodup_cons] at nd
  rcases List.mem_cons.mp h with rfl | h
  ·exact zcb rfl
  ·exact (zbG fun z => nd.1 (by rw [show p.1 = q.1 from zdE z]; exact List.mem_map_of_mem h)).trans (zgE nd.2 h)
theorem zeN : ∀ {td : Td} {r : List Int}, r ∉ td.map (·.1) → valV (zbU td) (r.map Sum.inl) = none
 | [], _, _ => rfl
 | p :: td, r, h => (zbG fun z => h (by rw [List.map_cons, show p.1 = r from zdE z]; exact List.mem_cons_self)).trans (zeN fun z => h (List.mem_cons_of_mem _ z))
def told (fs : List Fact) (r : List Int) : List Stt := (fs.filter fun f => decide (f.1 = r)).map (·.2)
theorem zgc {fs : List Fact} {f : Fact} {r : List Int} : told (fs ++ [f]) r = told fs r ++ (if f.1 = r then [f.2] else []) := by
 unfold told
 rw [List.filter_append, List.map_append]
 by_cases h : f.1 = r <;> simp [h]
theorem zdY {fs : List Fact} {r : List Int} (h : r ∉ fs.map (·.1)) : told fs r = [] := by
 unfold told
 rw [List.filter_eq_nil_iff.mpr, List.map_nil]
 intro f hf z
 exact h (by rw [← of_decide_eq_true z]; exact List.mem_map_of_mem hf)
theorem zb3 {fs : List Fact} {r : List Int} {s : Stt} : s ∈ told fs r ↔ (r, s) ∈ fs := by
 unfold told
 simp only [List.mem_map, List.mem_filter, decide_eq_true_eq]
 constructor
 ·rintro ⟨⟨a, b⟩, ⟨h1, h2⟩, h3⟩
  have e1 : a = r := h2
  have e2 : b = s := h3
  rw [← e1, ← e2]; exact h1
 ·intro h
  exact ⟨(r, s), ⟨h, rfl⟩, rfl⟩
structure TdI (H2 H' : Hp) (d : Addr) (fs : List Fact) (td : Td) (ex : List (List Int)) : Prop where
 at' : H' d = some (.dT (zbU td))
 nd : (td.map (·.1)).Nodup
 ne : ∀ q ∈ td, q.1 ≠ []
 lst : ∀ q ∈ td, SpanAt H' q.2.1 q.2.2
 ad : (td.map (·.2.1)).Nodup
 fresh : ∀ q ∈ td, H2 q.2.1 = none
 same : Same H2 H'
 dn : H2 d = none
 grp : ∀ q ∈ td, q.2.2 = told fs q.1
 rows : ∀ r, r ∈ td.map (·.1) ↔ r ∈ fs.map (·.1) ∨ r ∈ ex
theorem TdI.sm {H2 H' H'' : Hp} {d : Addr} {fs : List Fact} {td : Td} {ex : List (List Int)} (h : TdI H2 H' d fs td ex) (s : Same H' H'') : TdI H2 H'' d fs td ex :=
 ⟨s _ _ h.at', h.nd, h.ne, fun q hq => (h.lst q hq).same s, h.ad, h.fresh, h.same.trans s, h.dn, h.grp, h.rows⟩
theorem TdI.known {H2 H' : Hp} {d : Addr} {fs : List Fact} {td : Td} {ex : List (List Int)} (h : TdI H2 H' d fs td ex) : TDict H' d (zbU td) (td.map (·.1)) :=
 ⟨.inl h.at', by unfold zbU; rw [List.map_map, List.map_map]; rfl, fun k hk => by obtain ⟨q, h1, rfl⟩ := List.mem_map.mp hk; exact h.ne q h1⟩
theorem TdI.add {H2 H' : Hp} {d D : Addr} {fs : List Fact} {td : Td} {row : List Int} (h : TdI H2 H' d fs td []) (hr : row ∉ td.map (·.1)) (ne : row ≠ []) (hD : H' D = some (.lst [])) (fr : H2 D = none) (hn : D ∉ td.map (·.2.1)) :
  TdI H2 (upd H' d (.dT (putK (zbU td) (row.map Sum.inl) (.ref D)))) d fs (td ++ [(row, D, [])]) [row] := by
 have dD : D ≠ d := fun z => by rw [z, h.at'] at hD; cases hD
 have dq : ∀ q ∈ td, q.2.1 ≠ d := fun q hq z => by obtain ⟨_, e, _⟩ := h.lst q hq; rw [z, h.at'] at e; cases e
 have nt : ∀ xs, H' d ≠ some (.tup xs) := fun xs z => by rw [h.at'] at z; cases z
 refine ⟨?_, ?_, fun q hq => ?_, fun q hq => ?_, ?_, fun q hq => ?_, h.same.upd h.dn, h.dn, fun q hq => ?_, fun r => ?_⟩
 ·rw [zac, zfs _ (zeN hr)]; unfold zbU; rw [List.map_append]; rfl
 ·rw [List.map_append]; exact List.nodup_append.mpr ⟨h.nd, by simp, fun x hx y hy z => hr ((show y = row from by simpa using hy) ▸ z ▸ hx)⟩
 ·rcases List.mem_append.mp hq with z | z
  ·exact h.ne q z
  ·rw [List.mem_singleton.mp z]; exact ne
 ·rcases List.mem_append.mp hq with z | z
  ·exact (h.lst q z).wr nt (dq q z)
  ·rw [List.mem_singleton.mp z]
   exact ⟨[], by show upd H' d _ D = _; rw [zaj dD]; exact hD, .nil⟩
 ·rw [List.map_append]; exact List.nodup_append.mpr ⟨h.ad, by simp, fun x hx y hy z => hn ((show y = D from by simpa using hy) ▸ z ▸ hx)⟩
 ·rcases List.mem_append.mp hq with z | z
  ·exact h.fresh q z
  ·rw [List.mem_singleton.mp z]; exact fr
 ·rcases List.mem_append.mp hq with z | z
  ·exact h.grp q z
  ·rw [List.mem_singleton.mp z]
   refine (zdY fun z => hr ((h.rows row).mpr (.inl z))).symm
 ·rw [List.map_append, List.mem_append, h.rows]
  simp
theorem TdI.app {H2 H' : Hp} {d u : Addr} {fs : List Fact} {td : Td} {ex : List (List Int)} {q : List Int × Addr × List Stt} {st : Stt} {xs : List V} (h : TdI H2 H' d fs td ex) (hq : q ∈ td) (hex : ∀ r ∈ ex, r = q.1) (hx : H' q.2.1 = some (.lst xs)) (hs : StsAt H' xs q.2.2)
  (hu : H' u = some (.tup [vO st.1, vO st.2])) : TdI H2 (upd H' q.2.1 (.lst (xs ++ [.ref u]))) d (fs ++ [(q.1, st)]) (td.map fun p => if p.2.1 = q.2.1 then (p.1, p.2.1, p.2.2 ++ [st]) else p) [] := by
 have dq : d ≠ q.2.1 := fun z => by rw [← z, h.at'] at hx; cases hx
 have nt := zbh hx
 have e1 : ∀ p : List Int × Addr × List Stt, (if p.2.1 = q.2.1 then (p.1, p.2.1, p.2.2 ++ [st]) else p).1 = p.1 := fun p => by split <;> rfl
 have e2 : ∀ p : List Int × Addr × List Stt, (if p.2.1 = q.2.1 then (p.1, p.2.1, p.2.2 ++ [st]) else p).2.1 = p.2.1 := fun p => by split <;> rfl
 have m1 : ((td.map fun p => if p.2.1 = q.2.1 then (p.1, p.2.1, p.2.2 ++ [st]) else p).map (·.1)) = td.map (·.1) := by rw [List.map_map]; exact List.map_congr_left fun p _ => e1 p
 have m2 : ((td.map fun p => if p.2.1 = q.2.1 then (p.1, p.2.1, p.2.2 ++ [st]) else p).map (·.2.1)) = td.map (·.2.1) := by rw [List.map_map]; exact List.map_congr_left fun p _ => e2 p
 have m3 : zbU (td.map fun p => if p.2.1 = q.2.1 then (p.1, p.2.1, p.2.2 ++ [st]) else p) = zbU td := by unfold zbU; rw [List.map_map]; exact List.map_congr_left fun p _ => by show (_, _) = (_, _); rw [e1, e2]
 refine ⟨by rw [zaj dq, m3]; exact h.at', by rw [m1]; exact h.nd, fun p hp => ?_, fun p hp => ?_, by rw [m2]; exact h.ad, fun p hp => ?_, h.same.upd (h.fresh q hq), h.dn, fun p hp => ?_, fun r => ?_⟩
 ·obtain ⟨p, hp1, rfl⟩ := List.mem_map.mp hp; rw [e1]; exact h.ne p hp1
 ·obtain ⟨p, hp1, rfl⟩ := List.mem_map.mp hp
  rw [e2]
  by_cases z : p.2.1 = q.2.1
  ·rw [if_pos z, zeB h.ad hp1 hq z]
   refine ⟨_, zac, zav (R := StAt (upd H' q.2.1 (.lst (xs ++ [.ref u])))) ⟨u, rfl, zbk nt _ _ hu⟩ (StsAt.wr nt hs)⟩
  ·rw [if_neg z]; exact (h.lst p hp1).wr nt z
 ·obtain ⟨p, hp1, rfl⟩ := List.mem_map.mp hp; rw [e2]; exact h.fresh p hp1
 ·obtain ⟨p, hp1, rfl⟩ := List.mem_map.mp hp
  rw [e1, zgc, ← h.grp p hp1]
  by_cases z : p.2.1 = q.2.1
  ·rw [if_pos z, zeB h.ad hp1 hq z, if_pos rfl]
  ·rw [if_neg z, if_neg, List.append_nil]
   intro z'
   have : p = q := zeB h.nd hp1 hq z'.symm
   exact z (by rw [this])
 ·rw [m1, h.rows, List.map_append, List.mem_append]
  have hqr := (h.rows q.1).mp (List.mem_map_of_mem hq)
  constructor
  ·rintro (z | z)
   ·exact .inl (.inl z)
   ·exact .inl (.inr (by rw [hex r z]; simp))
  ·rintro ((z | z) | z)
   ·exact .inl z
   ·have : r = q.1 := by simpa using z
    rw [this]; exact hqr
   ·cases z
def EntN (H H' : Hp) (D : Addr) (v : V) (e : List Int × List Stt) : Prop := ∃ t p q, v = .ref t ∧ H' t = some (.tup [.ref p, .ref q]) ∧ H' p = some (.tup (e.1.map V.int)) ∧ SpanAt H' q e.2 ∧ H q = none ∧ q ≠ D
def SheetN (H H' : Hp) (D : Addr) (es : List (List Int × List Stt)) : Prop := ∃ xs, H' D = some (.lst xs) ∧ Paired (EntN H H' D) xs es
theorem SheetN.at' {H H' : Hp} {D : Addr} {es : List (List Int × List Stt)} (h : SheetN H H' D es) : SheetAt H' D es := let ⟨xs, a, b⟩ := h; ⟨xs, a, Paired.mapP b (by rintro _ _ ⟨t, p, q, x1, x2, x3, x4, _⟩; exact ⟨t, p, q, x1, x2, x3, x4⟩)⟩
structure ShOf (fs : List Fact) (es : List (List Int × List Stt)) : Prop where
 ord : (es.map (·.1)).Pairwise fun a b => lexI b a = false
 nd : (es.map (·.1)).Nodup
 rows : ∀ r, r ∈ es.map (·.1) ↔ r ∈ fs.map (·.1)
 can : ∀ e ∈ es, Can e.2
 few : ∀ e ∈ es, e.2.length ≤ 63
 sp : ∀ e ∈ es, ∀ m, zah m e.2 = zah m (told fs e.1)
theorem ShOf.uniq {fs fs' : List Fact} {es es' : List (List Int × List Stt)} (h : ShOf fs es) (h' : ShOf fs' es') (hr : ∀ r, r ∈ fs.map (·.1) ↔ r ∈ fs'.map (·.1)) (hs : ∀ r m, zah m (told fs r) = zah m (told fs' r)) : es = es' := by
 refine zd0 (zcg ((List.perm_ext_iff_of_nodup h.nd h'.nd).mpr fun r => ?_) h.ord h'.ord) fun e he e' he' eq => ?_
 ·rw [h.rows, h'.rows, hr]
 ·exact zfb (h.can e he) (h'.can e' he') fun m => by rw [h.sp e he, h'.sp e' he', eq, hs]
end Prf
namespace L2
open PySem
end L2
namespace Prf
open PySem L2 Wr
def zb2 (f : Fact) : PyData := .tuple [dRow f.1, dO f.2.1, dO f.2.2]
theorem FactAt.den {K : PySem.W.Frag} {H : Hp} {v : V} {f : Fact} (h : FactAt H v f) : Den K H v (zb2 f) := by
 refine zaa ?_; intro G_; obtain ⟨t, p, rfl, h2, h3⟩ := h
 exact .tup (SqT.of h2) (.cons (RowAt.den ⟨p, rfl, h3⟩) (.cons (zhr _) (.cons (zhr _) .nil)))
theorem zcU {K : PySem.W.Frag} {H : Hp} : ∀ {vs : List V} {fs : List Fact}, Paired (FactAt H) vs fs → DenAll K H vs (fs.map zb2)
 | _, _, .nil => .nil
 | _, _, .cons r t => .cons (FactAt.den r) (zcU t)
theorem zcZ : ∀ fs : List Fact, PyData.canLayAll0 (fs.map zb2) = true ∧ PyData.depthAll (fs.map zb2) ≤ 2
 | [] => by simp [PyData.canLayAll0, PyData.depthAll]
 | f :: fs => by
  have ih := zcZ fs
  have e1 := zcf f.1
  have h1 : ∀ o, (dO o).canLay0 = true ∧ (dO o).depth = 0 := fun o => by cases o <;> simp [dO, PyData.canLay0, PyData.depth]
  have d1 : PyData.depth (dRow f.1) = 1 := by simp [dRow, PyData.depth, e1.2]
  have c1 : PyData.canLay0 (dRow f.1) = true := by simp [dRow, PyData.canLay0, e1.1]
  have a := h1 f.2.1
  have b := h1 f.2.2
  have d2 : PyData.depth (zb2 f) ≤ 2 := by
   simp only [zb2, PyData.depth, PyData.depthAll, d1, a.2, b.2]
   lia
  have c2 : PyData.canLay0 (zb2 f) = true := by simp only [zb2, PyData.canLay0, PyData.canLayAll0, c1, a.1, b.1]; rfl
  rw [List.map_cons]
  simp only [PyData.canLayAll0, PyData.depthAll, c2, ih.1]
  exact ⟨rfl, by have := ih.2; lia⟩
theorem zcv (fs : List Fact) : SeqAt.shaped (.list (fs.map zb2)) = true := by
 have e := zcZ fs
 unfold SeqAt.shaped
 simp only [PyData.canLay0, PyData.depth, e.1, Bool.true_and]
 exact decide_eq_true (by have := e.2; lia)
theorem zdp : ∀ fs : List Fact, PyData.eqvAll (fs.map zb2) (fs.map zb2) = true
 | [] => by simp [PyData.eqvAll]
 | f :: fs => by
  have h2 := zc1 f.1 f.1
  simp only [decide_true] at h2
  have h1 : ∀ o, PyData.eqv (dO o) (dO o) = true := fun o => by cases o <;> simp [dO, PyData.eqv]
  simp [PyData.eqvAll, zb2, PyData.eqv, dRow, h2, h1, zdp fs]
theorem zhi (fs : List Fact) : PyData.eqv (.list (fs.map zb2)) (.list (fs.map zb2)) = true := by rw [PyData.eqv]; exact zdp fs
theorem KnI.setV {H2 H' : Hp} {d : Addr} {n : Nat} {kn : Kn} {q : List Int × Addr × List Bool} (v : Bool) (h : KnI H2 H' d n kn) (hq : q ∈ kn) (j : Nat) :
  KnI H2 (upd H' q.2.1 (.lst ((q.2.2.set j v).map V.bl))) d n (kn.map fun p => if p.2.1 = q.2.1 then (p.1, p.2.1, p.2.2.set j v) else p) := by
 have dq : d ≠ q.2.1 := fun z => by have := h.lit q hq; rw [← z, h.at'] at this; cases this
 have e1 : ∀ p : List Int × Addr × List Bool, (if p.2.1 = q.2.1 then (p.1, p.2.1, p.2.2.set j v) else p).1 = p.1 := fun p => by split <;> rfl
 have e2 : ∀ p : List Int × Addr × List Bool, (if p.2.1 = q.2.1 then (p.1, p.2.1, p.2.2.set j v) else p).2.1 = p.2.1 := fun p => by split <;> rfl
 have m1 : ((kn.map fun p => if p.2.1 = q.2.1 then (p.1, p.2.1, p.2.2.set j v) else p).map (·.1)) = kn.map (·.1) := by rw [List.map_map]; exact List.map_congr_left fun p _ => e1 p
 have m2 : ((kn.map fun p => if p.2.1 = q.2.1 then (p.1, p.2.1, p.2.2.set j v) else p).map (·.2.1)) = kn.map (·.2.1) := by rw [List.map_map]; exact List.map_congr_left fun p _ => e2 p
 have m3 : zbp (kn.map fun p => if p.2.1 = q.2.1 then (p.1, p.2.1, p.2.2.set j v) else p) = zbp kn := by unfold zbp; rw [List.map_map]; exact List.map_congr_left fun p _ => by show (_, _) = (_, _); rw [e1, e2]
 refine ⟨by rw [zaj dq, m3]; exact h.at', by rw [m1]; exact h.nd, fun p hp => ?_, fun p hp => ?_, by rw [m2]; exact h.ad, fun p hp => ?_, fun p hp => ?_, h.same.upd (h.fresh q hq), h.dn⟩
 ·obtain ⟨p, hp1, rfl⟩ := List.mem_map.mp hp; rw [e1]; exact h.ne p hp1
 ·obtain ⟨p, hp1, rfl⟩ := List.mem_map.mp hp
  rw [e2]
  by_cases z : p.2.1 = q.2.1
  ·rw [if_pos z, zeB h.ad hp1 hq z, zac]
  ·rw [if_neg z, zaj z]; exact h.lit p hp1
 ·obtain ⟨p, hp1, rfl⟩ := List.mem_map.mp hp
  split
  ·rw [List.length_set]; exact h.len p hp1
  ·exact h.len p hp1
 ·obtain ⟨p, hp1, rfl⟩ := List.mem_map.mp hp; rw [e2]; exact h.fresh p hp1
structure Cor (g : List Int) (fs : List Fact) (kn : Kn) (ex : List (List Int)) : Prop where
 bits : ∀ q ∈ kn, ∀ m, (q.2.2[zaU g m]?).getD false = zah m (told fs q.1)
 rows : ∀ r, r ∈ kn.map (·.1) ↔ r ∈ fs.map (·.1) ∨ r ∈ ex
theorem ze6 {fs : List Fact} {L : Nat} (h : ∀ f ∈ fs, f.1.length = L) : ∀ f ∈ fs, f.1.length = zbP fs := by
 intro f hf
 cases fs with
 | nil => cases hf
 | cons x fs => rw [h f hf]; exact (h x List.mem_cons_self).symm
theorem zhT (fs : List Fact) (r : List Int) : (told fs r).length ≤ fs.length := by unfold told; rw [List.length_map]; exact List.length_filter_le _ _
end Prf
namespace L2
open PySem PySem.Spec PyProof.Rows
section
variable {X : Cx} {a b : Expr} {ta tb : TE} {pos : Pos}
end
end L2
namespace Prf
open PySem L2 Wr
abbrev Ent := List Int × List Stt
structure ShB (φ : List Int → Int → Bool) (es : List Ent) : Prop where
 ord : (es.map (·.1)).Pairwise fun a b => lexI b a = false
 nd : (es.map (·.1)).Nodup
 can : ∀ e ∈ es, Can e.2
 sp : ∀ e ∈ es, ∀ m, zah m e.2 = φ e.1 m
 all : ∀ r m, φ r m = true → r ∈ es.map (·.1)
 non : ∀ e ∈ es, ∃ m, φ e.1 m = true
theorem ShB.uniq {φ ψ : List Int → Int → Bool} {es es' : List Ent} (h : ShB φ es) (h' : ShB ψ es') (e : ∀ r m, φ r m = ψ r m) : es = es' := by
 have sub : ∀ {φ ψ : List Int → Int → Bool} {es es' : List Ent}, ShB φ es → ShB ψ es' → (∀ r m, φ r m = ψ r m) → ∀ r, r ∈ es.map (·.1) → r ∈ es'.map (·.1) := fun {φ ψ es es'} h h' e r hr => by
  refine zaa ?_; intro G_; obtain ⟨x, hx, rfl⟩ := List.mem_map.mp hr
  obtain ⟨m, hm⟩ := h.non x hx
  exact h'.all _ m (by rw [← e]; exact hm)
 refine zd0 (zcg ((List.perm_ext_iff_of_nodup h.nd h'.nd).mpr fun r => ⟨sub h h' e r, sub h' h (fun r m => (e r m).symm) r⟩) h.ord h'.ord) fun x hx x' hx' eq => ?_
 exact zfb (h.can x hx) (h'.can x' hx') fun m => by rw [h.sp x hx, h'.sp x' hx', eq, e]
theorem zkw {s : Stt} (h : okS s) : ∃ m, inS m s = true := by
 obtain ⟨m, hm⟩ := zbx (r := []) h
 exact ⟨m, by simpa [zah] using hm⟩
theorem ShOf.shB {fs : List Fact} {es : List Ent} (h : ShOf fs es) (ok : ∀ f ∈ fs, okS f.2) : ShB (fun r m => zah m (told fs r)) es := by
 refine ⟨h.ord, h.nd, h.can, h.sp, fun r m hm => ?_, fun e he => ?_⟩
 ·refine zaa ?_; intro G_; obtain ⟨s, hs, _⟩ := List.any_eq_true.mp hm
  exact (h.rows r).mpr (List.mem_map.mpr ⟨(r, s), zb3.mp hs, rfl⟩)
 ·refine zaa ?_; intro G_; obtain ⟨f, hf, ef⟩ := List.mem_map.mp ((h.rows e.1).mp (List.mem_map_of_mem he))
  obtain ⟨m, hm⟩ := zkw (ok f hf)
  exact ⟨m, List.any_eq_true.mpr ⟨f.2, zb3.mpr (by rw [← ef]; exact hf), hm⟩⟩
def zaf (es : List Ent) : List Fact := es.flatMap fun e => e.2.map fun s => (e.1, s)
theorem za1 {es : List Ent} {f : Fact} : f ∈ zaf es ↔ ∃ e ∈ es, f.1 = e.1 ∧ f.2 ∈ e.2 := by
 unfold zaf
 rw [List.mem_flatMap]
 constructor
 ·rintro ⟨e, he, hf⟩
  refine zaa ?_; intro G_; obtain ⟨s, hs, rfl⟩ := List.mem_map.mp hf
  exact ⟨e, he, rfl, hs⟩
 ·rintro ⟨e, he, h1, h2⟩
  exact ⟨e, he, List.mem_map.mpr ⟨f.2, h2, by rw [← h1]⟩⟩
theorem zeb {es : List Ent} {r : List Int} {m : Int} : zah m (told (zaf es) r) = true ↔ ∃ e ∈ es, e.1 = r ∧ zah m e.2 = true := by
 constructor
 ·intro h
  refine zaa ?_; intro G_; obtain ⟨s, hs, hm⟩ := List.any_eq_true.mp h
  refine zaa ?_; intro G_; obtain ⟨e, he, h1, h2⟩ := za1.mp (zb3.mp hs)
  exact ⟨e, he, h1.symm, List.any_eq_true.mpr ⟨s, h2, hm⟩⟩
 ·rintro ⟨e, he, rfl, h⟩
  refine zaa ?_; intro G_; obtain ⟨s, hs, hm⟩ := List.any_eq_true.mp h
  exact List.any_eq_true.mpr ⟨s, zb3.mpr (za1.mpr ⟨e, he, rfl, hs⟩), hm⟩
theorem ShB.told {φ : List Int → Int → Bool} {es : List Ent} (h : ShB φ es) (r : List Int) (m : Int) : zah m (told (zaf es) r) = φ r m := by
 rw [Bool.eq_iff_iff, zeb]
 constructor
 ·rintro ⟨e, he, rfl, hm⟩
  rw [← h.sp e he]; exact hm
 ·intro hm
  refine zaa ?_; intro G_; obtain ⟨e, he, rfl⟩ := List.mem_map.mp (h.all r m hm)
  exact ⟨e, he, rfl, by rw [h.sp e he]; exact hm⟩
theorem zif {fs fs' : List Fact} {r : List Int} : told (fs ++ fs') r = told fs r ++ told fs' r := by unfold told; rw [List.filter_append, List.map_append]
theorem zfa {es : List Ent} {n k : Nat} (h1 : es.length ≤ n) (h2 : ∀ e ∈ es, e.2.length ≤ k) : (zaf es).length ≤ n * k := by
 induction es generalizing n with
 | nil => simp [zaf]
 | cons e es ih =>
  cases n with
  | zero => simp at h1
  | succ n =>
   have ih' := ih (n := n) (by simpa using h1) fun x hx => h2 x (List.mem_cons_of_mem _ hx)
   have he := h2 e List.mem_cons_self
   show (List.map _ e.2 ++ zaf es).length ≤ _
   rw [List.length_append, List.length_map, Nat.succ_mul]
   lia
theorem zcB {es : List Ent} {k : Nat} (nd : (es.map (·.1)).Nodup) (h2 : ∀ e ∈ es, e.2.length ≤ k) (r : List Int) : (told (zaf es) r).length ≤ k := by
 induction es with
 | nil => simp [zaf, Prf.told]
 | cons e es ih =>
  rw [List.map_cons, List.nodup_cons] at nd
  have he := h2 e List.mem_cons_self
  show (told (List.map _ e.2 ++ zaf es) r).length ≤ k
  rw [zif, List.length_append]
  by_cases z : e.1 = r
  ·have : told (zaf es) r = [] := zdY fun hr => by
    refine zaa ?_; intro G_; obtain ⟨f, hf, rfl⟩ := List.mem_map.mp hr
    refine zaa ?_; intro G_; obtain ⟨x, hx, h1, _⟩ := za1.mp hf
    exact nd.1 (by rw [z, h1]; exact List.mem_map_of_mem hx)
   rw [this, List.length_nil]
   have := zhT (List.map (fun s => (e.1, s)) e.2) r
   rw [List.length_map] at this
   lia
  ·have : told (List.map (fun s => (e.1, s)) e.2) r = [] := zdY fun hr => by
    refine zaa ?_; intro G_; obtain ⟨f, hf, rfl⟩ := List.mem_map.mp hr
    refine zaa ?_; intro G_; obtain ⟨s, _, rfl⟩ := List.mem_map.mp hf
    exact z rfl
   rw [this, List.length_nil]
   have := ih nd.2 fun x hx => h2 x (List.mem_cons_of_mem _ hx)
   lia
theorem zfZ {α β : Type} {R : α → β → Prop} : ∀ {xs xs' : List α} {ys ys' : List β}, Paired R xs ys → Paired R xs' ys' → Paired R (xs ++ xs') (ys ++ ys') := by
 intro xs xs' ys ys' p h
 induction p with
 | nil => exact h
 | cons r t ih => exact .cons r ih
def litOf (kn : Kn) (r : List Int) : List Bool := ((kn.find? fun q => decide (q.1 = r)).map (·.2.2)).getD []
def hasT (kn : Kn) (r : List Int) : Bool := (litOf kn r).any id
theorem zji (kn : Kn) (k : Nat) (r : List Int) : zeu kn k r = ((litOf kn r)[k]?).getD false := rfl
theorem zfA : ∀ {kn : Kn} {q : List Int × Addr × List Bool}, (kn.map (·.1)).Nodup → q ∈ kn → litOf kn q.1 = q.2.2
 | [], _, _, h => nomatch h
 | p :: kn, q, nd, h => by
  rw [List.map_cons, List.nodup_cons] at nd
  rcases List.mem_cons.mp h with rfl | h
  ·simp [litOf]
  ·have e : p.1 ≠ q.1 := fun z => nd.1 (by rw [z]; exact List.mem_map_of_mem h)
   have := zfA nd.2 h
   unfold litOf at *
   rw [List.find?_cons, decide_eq_false e]
   exact this
theorem lit_none {kn : Kn} {r : List Int} (h : r ∉ kn.map (·.1)) : litOf kn r = [] := by
 unfold litOf
 rw [List.find?_eq_none.mpr]
 ·rfl
 ·intro q hq z
  exact h (by rw [← of_decide_eq_true z]; exact List.mem_map_of_mem hq)
theorem zh7 {g : List Int} (inc : Inc g) {k : Nat} (hk : k ≤ g.length) (h1 : 1 ≤ g.length) : ∃ m, zaU g m = k := by
 cases k with
 | zero => exact ⟨g[0] - 1, ze8 inc (by simp)⟩
 | succ k => exact ⟨g[k], zh1 inc (by simp)⟩
theorem ziF {l : List Bool} : l.any id = true ↔ ∃ k, k < l.length ∧ (l[k]?).getD false = true := by
 rw [List.any_eq_true]
 constructor
 ·rintro ⟨b, hb, e⟩
  refine zaa ?_; intro G_; obtain ⟨k, hk, rfl⟩ := List.mem_iff_getElem.mp hb
  exact ⟨k, hk, by simpa [hk] using e⟩
 ·rintro ⟨k, hk, e⟩
  exact ⟨l[k], List.getElem_mem hk, by simpa [hk] using e⟩
theorem zi8 {kn : Kn} {g : List Int} {es : List Ent} {ks : List (List Int)} (inc : Inc g) (h1 : 1 ≤ g.length) (nd : (kn.map (·.1)).Nodup) (len : ∀ q ∈ kn, q.2.2.length = g.length + 1) (pm : ks.Perm (kn.map (·.1))) (pw : ks.Pairwise fun a b => lexI b a = false)
  (em : es.map (·.1) = ks.filter (hasT kn)) (good : ∀ e ∈ es, zjy kn g e) : ShB (fun r m => zeu kn (zaU g m) r) es := by
 refine ⟨by rw [em]; exact pw.sublist List.filter_sublist, by rw [em]; exact (pm.nodup_iff.mpr nd).sublist List.filter_sublist, fun e he => ?_, fun e he m => zhY nd (good e he) m, fun r m hm => ?_, fun e he => ?_⟩
 ·refine zaa ?_; intro G_; obtain ⟨_, _, _, x, _⟩ := good e he; exact x
 ·have hr : r ∈ kn.map (·.1) := by
   by_cases z : r ∈ kn.map (·.1)
   ·exact z
   ·rw [zji, lit_none z] at hm
    simp at hm
  rw [em]
  refine List.mem_filter.mpr ⟨pm.mem_iff.mpr hr, ziF.mpr ⟨zaU g m, ?_, hm⟩⟩
  obtain ⟨q, hq, rfl⟩ := List.mem_map.mp hr
  rw [zfA nd hq, len q hq]
  have := za4 g m
  lia
 ·have hm : e.1 ∈ ks.filter (hasT kn) := by rw [← em]; exact List.mem_map_of_mem he
  obtain ⟨h2, h3⟩ := List.mem_filter.mp hm
  refine zaa ?_; intro G_; obtain ⟨k, hk, hb⟩ := ziF.mp h3
  refine zaa ?_; intro G_; obtain ⟨q, hq, eq⟩ := List.mem_map.mp (pm.mem_iff.mp h2)
  rw [← eq, zfA nd hq, len q hq] at hk
  obtain ⟨m, em'⟩ := zh7 inc (k := k) (by lia) h1
  exact ⟨m, by rw [em']; exact hb⟩
end Prf
namespace L2
end L2
namespace Prf
open PySem L2 Wr
theorem SheetN.x {H H' : Hp} {D l : Addr} {es : List Ent} {o : HO} (h : SheetN H H' D es) (hD : H D = none) (hl : H l = some o) : zj3 H' D l es := by
 refine zaa ?_; intro G_; obtain ⟨xs, a, b⟩ := h
 exact ⟨xs, a, Paired.mapP b fun _ _ ⟨t, p, q, x1, x2, x3, x4, x5, x6⟩ => ⟨t, p, q, x1, x2, x3, x4, fun z => by rw [z, hl] at x5; cases x5⟩, fun z => by rw [z, hl] at hD; cases hD⟩
theorem ShB.ne {φ : List Int → Int → Bool} {es : List Ent} (h : ShB φ es) : ∀ e ∈ es, e.2 ≠ [] := fun e he z => by
 obtain ⟨m, hm⟩ := h.non e he
 rw [← h.sp e he, z] at hm
 cases hm
end Prf
namespace L2
open PySem Wr
variable {Ls : List LSite} {H H' : Hp}
end L2
namespace Prf
open PySem L2 Wr
variable {Ls : List LSite} {H H' : Hp}
end Prf
namespace L2
open PySem PySem.Spec PyProof.Rows
section
variable {X : Cx}
end
end L2
namespace Prf
open PySem L2 Wr
structure KnF (ob : Obj) (H0 H' : Hp) (d : Addr) (n : Nat) (kn : Kn) : Prop where
 at' : H' d = some (.frz ob (.dT (zbp kn)))
 nd : (kn.map (·.1)).Nodup
 ne : ∀ q ∈ kn, q.1 ≠ []
 lit : ∀ q ∈ kn, H' q.2.1 = some (.lst (q.2.2.map V.bl))
 ad : (kn.map (·.2.1)).Nodup
 len : ∀ q ∈ kn, q.2.2.length = n + 1
 off : ∀ b u, H0 b = some u → b ≠ d → b ∉ kn.map (·.2.1) → H' b = some u
theorem KnI.frz {ob : Obj} {H2 H' : Hp} {d : Addr} {n : Nat} {kn : Kn} (h : KnI H2 H' d n kn) : KnF ob H' (upd H' d (.frz ob (.dT (zbp kn)))) d n kn := by
 have nl : ∀ q ∈ kn, q.2.1 ≠ d := fun q hq z => by have := h.lit q hq; rw [z, h.at'] at this; cases this
 exact ⟨zac, h.nd, h.ne, fun q hq => by rw [zaj (nl q hq)]; exact h.lit q hq, h.ad, h.len, fun b u e n1 _ => by rw [zaj n1]; exact e⟩
end Prf
namespace L2
open PySem PySem.Spec PyProof.Rows
section
variable {X : Cx}
variable {pos p2 : Pos} {a b : Expr} {ta tb : TE}
end
end L2
namespace Prf
open PySem L2 Wr
end Prf
namespace L2
open PySem PySem.Spec PyProof.Rows
section
variable {X : Cx}
def rSlS : V → Option Int → Option Int → Hp → VK → Prop := fun x lo hi H Q => ∃ z, x = .str z ∧ z.length ≤ sizeLine ∧ Q (.str (Txt.slice z lo hi)) H
theorem zkR : SlR X rSlS := by
 intro pins s σ H x v vl vu lo hi sl Q I rx hs pl pu ⟨z, e, hz, q⟩
 subst e
 obtain ⟨t, rfl⟩ := rx
 refine ⟨"str", _, PySem.F.slot_str_getitem.lookup, typeIs_str _ _ _, ?_⟩
 obtain ⟨o, ho, hc, hd⟩ := hs
 have fin : (Txt.slice z lo hi).length ≤ sizeLine ∧ ∀ t' k, EP X pins σ Q (.str (Txt.slice z lo hi) t') { s with toks := k } := ⟨Nat.le_trans (Txt.slice_le z _ _) hz, fun t' k => ⟨.str _, H, I.tok k, ⟨_, rfl⟩, q⟩⟩
 cases pl with
 | none =>
  cases pu with
  | none => exact wpAny_getItem_str_slice (l := none) (u := none) (st := none) ⟨o, ho, hc, hd⟩ rfl (post_val_or_str fin)
  | int j u => exact wpAny_getItem_str_slice (l := none) (u := some (j, u)) (st := none) ⟨o, ho, hc, hd⟩ rfl (post_val_or_str fin)
 | int i t1 =>
  cases pu with
  | none => exact wpAny_getItem_str_slice (l := some (i, t1)) (u := none) (st := none) ⟨o, ho, hc, hd⟩ rfl (post_val_or_str fin)
  | int j u => exact wpAny_getItem_str_slice (l := some (i, t1)) (u := some (j, u)) (st := none) ⟨o, ho, hc, hd⟩ rfl (post_val_or_str fin)
variable {pos p2 apos cpos : Pos} {a b o : Expr} {ta tb to : TE} {t : TA}
theorem zli : JIx X rIxS := ⟨zki⟩
theorem zja (ha : JE X a ta) (hb : JE X b tb) : JE X (.Subscript a (.Slice (some b) none none p2) pos) (tSl rSlS ta (ziT tb) zeT) := ⟨zfw zkR ha.h (zgG hb.h) zhj⟩
theorem zle : JC X (.builtin "len") (fun xs H Q => ∃ z, xs = [.str z] ∧ z.length ≤ sizeLine ∧ Q (.int z.length) H) := ⟨zep⟩
def rJoin (K : PySem.W.Frag) : V → List V → Hp → VK → Prop := fun x xs H Q => ∃ (z : Str) (p : Addr) (ys : List Str), x = .str z ∧ xs = [.ref p] ∧ SqL K H p (ys.map V.str) ∧ (ys.map (·.length)).sum + ys.length * z.length ≤ 16777216 ∧ Q (.str (Txt.join z ys)) H
theorem zek : ∀ {ys : List Str} {us : List Value}, Vals (ys.map V.str) us → StrsAre us ys
 | [], _, .nil => .nil
 | y :: ys, _, .cons r t => by obtain ⟨k, rfl⟩ := r; exact .cons y k (zek t)
theorem zjc : MtR X "str.join" (rJoin X.K) := by
 intro pins s σ H x xs v us Q I rx r ⟨z, p, ys, e1, e2, hp, hw, q⟩
 subst e1 e2
 obtain ⟨t, rfl⟩ := rx
 obtain ⟨u, rfl, ru⟩ := vals1 r
 cases ru
 obtain ⟨its, rv, pl, _⟩ := I.list hp
 exact join_list pl.isList (by simpa using zek rv) hw fun t' k => ⟨.str _, H, I.tok k, ⟨_, rfl⟩, q⟩
theorem zfv {e1 : Expr} (ho : JE X o to) (ha : JA X [e1] t) (hbase : attributeBase o "join" X.env (eval o X.env) = eval o X.env := by rfl) (hline : (apos.endLine == cpos.line) = true := by rfl) :
  JE X (.Call (.Attribute o "join" apos) [e1] [] cpos) (tBM X.K "str" (rJoin X.K) to t) :=
 ⟨zfG PySem.F.plainAttrs_str PySem.F.slot_str_join PySem.F.type_str_join zjc ho.h ha.h hbase (by rw [ha.hd.star, (Nsts.star ha.rs _)]; rfl) hline (ha.hd.star _ _) (ha.rs.no _ _)⟩
end
end L2
namespace Prf
open PySem L2 Wr PySem.Builtin PySem.Builtin.Str
theorem zlh {n j : Nat} (h : j ≤ n) : strSliceIndices none (some (j : Int)) 1 n = List.range j := by
 unfold strSliceIndices sliceRange
 simp only [show (1 : Int) > 0 by decide, if_true]
 rw [if_neg (show ¬ ((j : Int) < 0) by omega)]
 have e : max 0 (min (j : Int) (n : Int)) = (j : Int) := by omega
 rw [e]
 have c : (if (0 : Int) < (j : Int) then ((j : Int) - 0 + 1 - 1) / 1 else 0).toNat = j := by
  split
  ·rw [Int.ediv_one]; omega
  ·omega
 rw [c]
 conv => rhs; rw [← List.map_id (List.range j)]
 exact List.map_congr_left fun k _ => by show (0 + 1 * (k : Int)).toNat = k; omega
theorem zhR {n i : Nat} (h : i ≤ n) : strSliceIndices (some (i : Int)) none 1 n = (List.range (n - i)).map (· + i) := by
 unfold strSliceIndices sliceRange
 simp only [show (1 : Int) > 0 by decide, if_true]
 rw [if_neg (show ¬ ((i : Int) < 0) by omega)]
 have e : max 0 (min (i : Int) (n : Int)) = (i : Int) := by omega
 rw [e]
 have c : (if (i : Int) < (n : Int) then ((n : Int) - (i : Int) + 1 - 1) / 1 else 0).toNat = n - i := by
  split
  ·rw [Int.ediv_one]; omega
  ·omega
 rw [c]
 exact List.map_congr_left fun k _ => by show ((i : Int) + 1 * (k : Int)).toNat = k + i; omega
theorem zd9 {α : Type} {l : List α} : ∀ {j : Nat}, j ≤ l.length → (List.range j).filterMap (fun k => l[k]?) = l.take j
 | 0, _ => rfl
 | j + 1, h => by
  have hl : j < l.length := by omega
  rw [List.range_succ, List.filterMap_append, zd9 (by omega), List.take_succ_eq_append_getElem hl]
  simp [hl]
theorem zgQ {α : Type} {l : List α} {i : Nat} (h : i ≤ l.length) : ((List.range (l.length - i)).map (· + i)).filterMap (fun k => l[k]?) = l.drop i := by
 rw [List.filterMap_map]
 have e : ((fun k => l[k]?) ∘ fun x => x + i) = fun k => (l.drop i)[k]? := by
  funext k
  show l[k + i]? = (l.drop i)[k]?
  rw [List.getElem?_drop, Nat.add_comm]
 rw [e, zd9 (by rw [List.length_drop]; exact Nat.le_refl _), List.take_of_length_le (by rw [List.length_drop]; exact Nat.le_refl _)]
theorem str_len (z : PySem.Str) : z.length = z.cps.toList.length := by show z.cps.size = _; simp
theorem zfS {z : PySem.Str} {i : Nat} (h : i ≤ z.length) : (Txt.slice z (some (i : Int)) none).cps.toList = z.cps.toList.drop i := by
 unfold Txt.slice
 rw [zhR h]
 split
 ·rename_i c
  have : z.length - i = z.length := by simpa using c
  rcases Nat.eq_zero_or_pos z.length with hz | hz
  ·have : z.cps.toList = [] := List.length_eq_zero_iff.mp (by rw [← str_len]; exact hz)
   rw [this]; simp
  ·have : i = 0 := by omega
   rw [this, List.drop_zero]
 ·show (((List.range (z.length - i)).map (· + i)).filterMap (fun k => z.cps[k]?)).toArray.toList = _
  rw [← zgQ (by rw [← str_len]; exact h), str_len]
  simp
theorem zd2 (a b : PySem.Str) : (a ++ b).cps.toList = a.cps.toList ++ b.cps.toList := by
 show (a.cps ++ b.cps).toList = _
 simp
theorem zgv {a b : PySem.Str} (h : a.cps.toList = b.cps.toList) : a = b := by
 cases a with | mk x => cases b with | mk y => simp at h; rw [h]
end Prf
namespace L2
open PySem PySem.Spec PyProof.Rows PySem.NumText
def numS (n : Int) : Str := Str.ofString (toString n)
theorem zbQ (m : Nat) : (numS (m : Int)).cps.toList = (Nat.toDigits 10 m).map Char.toNat := PySem.W.KIN.signs_num m
theorem zdB (k : Nat) : (numS (Int.negSucc k)).cps.toList = 45 :: (Nat.toDigits 10 (k + 1)).map Char.toNat := by
 unfold numS
 rw [signs_ofString]
 show (("-" ++ Nat.repr (k + 1) : String)).toList.map Char.toNat = _
 rw [String.toList_append, List.map_append, Nat.toList_repr]
 rfl
theorem zdt (m : Nat) : AllDigits ((Nat.toDigits 10 m).map Char.toNat) := by
 intro c hc
 obtain ⟨ch, hch, e⟩ := List.mem_map.mp hc
 have r := digit_range (Nat.isDigit_of_mem_toDigits (by decide) (by decide) hch)
 rw [← e]
 exact r
theorem zf9 (m : Nat) : (Nat.toDigits 10 m).map Char.toNat ≠ [] := by
 intro e
 have h := toDigits_len_ge 10 m
 rw [List.map_eq_nil_iff.mp e] at h
 exact absurd h (by decide)
theorem str_len (x : Str) : x.cps.toList.length = x.length := Array.length_toList
theorem zb7 {n : Int} {k : Nat} (hk : 0 < k) (h : n.natAbs < 10 ^ k) : (numS n).length ≤ k + 1 := by
 cases n with
 | ofNat m =>
  have : (numS (m : Int)).length ≤ k := toString_length_le (by omega) hk (by have h' : m < 10 ^ k := h; exact_mod_cast h')
  exact Nat.le_succ_of_le this
 | negSucc m =>
  have h' : m + 1 < 10 ^ k := h
  have e : (numS ((m + 1 : Nat) : Int)).length ≤ k := toString_length_le (by omega) hk (by exact_mod_cast h')
  rw [← str_len, zbQ, List.length_map] at e
  rw [← str_len, zdB, List.length_cons, List.length_map]
  omega
theorem zfN {n : Int} (h : n.natAbs < 10 ^ 100) : intText? (numS n) = some n := by
 have hl := zb7 (k := 100) (by decide) h
 cases n with
 | ofNat m =>
  have e := intText_digits (x := numS (m : Int)) (by rw [zbQ]; exact zdt m) (by rw [zbQ]; exact zf9 m) (Nat.le_trans hl (by decide))
  rw [zbQ, PySem.W.KIN.val_back] at e
  exact e
 | negSucc m =>
  have e := intText_neg (x := numS (Int.negSucc m)) (zdB m) (zdt _) (zf9 _) (Nat.le_trans hl (by decide))
  rw [PySem.W.KIN.val_back] at e
  rw [e, Int.negSucc_eq]
  rfl
end L2
namespace L2
open PySem PySem.Spec PyProof.Rows PySem.NumText Prf
def gl (sep : List Nat) : List (List Nat) → List Nat
 | [] => []
 | [p] => p
 | p :: q :: r => p ++ (sep ++ gl sep (q :: r))
theorem zbN (sep : PySem.Str) : ∀ ys : List PySem.Str, (PySem.Str.join sep ys).cps.toList = gl sep.cps.toList (ys.map fun y => y.cps.toList)
 | [] => rfl
 | [y] => rfl
 | y :: z :: r => by
  show (y ++ sep ++ PySem.Str.join sep (z :: r)).cps.toList = _
  rw [zd2, zd2, zbN sep (z :: r)]
  show _ = y.cps.toList ++ (sep.cps.toList ++ gl sep.cps.toList ((z :: r).map fun y => y.cps.toList))
  rw [List.append_assoc]
theorem zed {c : Nat} : ∀ {a b x y : List Nat}, c ∉ a → c ∉ b → a ++ c :: x = b ++ c :: y → a = b ∧ x = y
 | [], [], _, _, _, _, h => ⟨rfl, by simpa using h⟩
 | [], d :: b, _, _, _, hb, h => by
  simp only [List.nil_append, List.cons_append, List.cons.injEq] at h
  exact absurd (by rw [h.1]; exact List.mem_cons_self) hb
 | d :: a, [], _, _, ha, _, h => by
  simp only [List.nil_append, List.cons_append, List.cons.injEq] at h
  exact absurd (by rw [h.1]; exact List.mem_cons_self) ha
 | d :: a, e :: b, _, _, ha, hb, h => by
  simp only [List.cons_append, List.cons.injEq] at h
  obtain ⟨e1, e2⟩ := zed (fun z => ha (List.mem_cons_of_mem _ z)) (fun z => hb (List.mem_cons_of_mem _ z)) h.2
  exact ⟨by rw [h.1, e1], e2⟩
theorem zfd {c : Nat} {t : List Nat} : ∀ {P P' : List (List Nat)}, P ≠ [] → P' ≠ [] → (∀ p ∈ P, c ∉ p) → (∀ p ∈ P', c ∉ p) → gl (c :: t) P = gl (c :: t) P' → P = P'
 | [], _, h, _, _, _, _ => absurd rfl h
 | _, [], _, h, _, _, _ => absurd rfl h
 | [p], [q], _, _, _, _, e => by have e' : p = q := e; rw [e']
 | [p], q :: r :: s, _, _, h1, _, e => by
  have e' : p = q ++ (c :: t ++ gl (c :: t) (r :: s)) := e
  exact absurd (by rw [e']; exact List.mem_append_right _ (List.mem_append_left _ List.mem_cons_self)) (h1 p List.mem_cons_self)
 | q :: r :: s, [p], _, _, _, h2, e => by
  have e' : q ++ (c :: t ++ gl (c :: t) (r :: s)) = p := e
  exact absurd (by rw [← e']; exact List.mem_append_right _ (List.mem_append_left _ List.mem_cons_self)) (h2 p List.mem_cons_self)
 | p :: q :: r, p' :: q' :: r', _, _, h1, h2, e => by
  have e' : p ++ c :: (t ++ gl (c :: t) (q :: r)) = p' ++ c :: (t ++ gl (c :: t) (q' :: r')) := e
  obtain ⟨e1, e2⟩ := zed (h1 p List.mem_cons_self) (h2 p' List.mem_cons_self) e'
  have e3 := zfd (by simp) (by simp) (fun x hx => h1 x (List.mem_cons_of_mem _ hx)) (fun x hx => h2 x (List.mem_cons_of_mem _ hx)) (List.append_cancel_left e2)
  rw [e1, e3]
theorem zdw : ∀ {a b : List PySem.Str}, (a.map fun y => y.cps.toList) = (b.map fun y => y.cps.toList) → a = b
 | [], [], _ => rfl
 | [], _ :: _, h => by simp at h
 | _ :: _, [], h => by simp at h
 | x :: a, y :: b, h => by
  simp only [List.map_cons, List.cons.injEq] at h
  rw [zgv h.1, zdw h.2]
theorem zgx {c : Nat} {ws : List PySem.Str} (ne : ws ≠ []) (free : ∀ w ∈ ws, c ∉ w.cps.toList) : Txt.split (PySem.Str.join ⟨#[c]⟩ ws) ⟨#[c]⟩ = ws := by
 refine zdw (zfd (c := c) (t := []) (by have := split_pos (PySem.Str.join ⟨#[c]⟩ ws) ⟨#[c]⟩; intro z; have z' := congrArg List.length z; simp at z'; rw [z'] at this; simp at this) (by simpa using ne) (fun p hp => ?_) (fun p hp => ?_) ?_)
 ·obtain ⟨w, hw, rfl⟩ := List.mem_map.mp hp
  exact StrLaws.split_free _ c w hw
 ·obtain ⟨w, hw, rfl⟩ := List.mem_map.mp hp
  exact free w hw
 ·have e := StrLaws.join_split (PySem.Str.join ⟨#[c]⟩ ws) ⟨#[c]⟩
  have e' := congrArg (fun y : PySem.Str => y.cps.toList) e
  simp only [zbN] at e'
  exact e'
end L2
namespace L2
open PySem PySem.Spec PyProof.Rows PySem.NumText Prf StrLaws Builtin.Str
theorem zco (x y : PySem.Str) (c a b : Nat) (hc : ∀ j, x.cps.toList[j]? = some c → At x y x.length j) (hn : ∀ k, a ≤ k → k < b → ¬ At x y x.length k) : c ∉ (strSub x a b).cps.toList := by
 intro hm
 rw [strSub_toList] at hm
 obtain ⟨j, hj⟩ := List.getElem?_of_mem hm
 have hlt : j < b - a := by
  have h1 : j < ((x.cps.toList.drop a).take (b - a)).length := (List.getElem?_eq_some_iff.mp hj).1
  simp at h1
  omega
 rw [List.getElem?_take_of_lt hlt, List.getElem?_drop] at hj
 exact hn (a + j) (by omega) (by omega) (hc _ hj)
theorem zcW (x y : PySem.Str) (c : Nat) (hc : ∀ j, x.cps.toList[j]? = some c → At x y x.length j) : ∀ (cuts : List Nat) (a f : Nat), ChainG x y x.length a cuts f → (∀ k, f ≤ k → ¬ At x y x.length k) → ∀ p ∈ partsFrom x y.length a cuts, c ∉ p.cps.toList
 | [], a, f, h, hn, p, hp => by
  have e : f = a := h
  subst e
  rw [List.mem_singleton.mp hp]
  exact zco x y c f x.length hc fun k h1 _ => hn k h1
 | d :: r, a, f, h, hn, p, hp => by
  rcases List.mem_cons.mp hp with rfl | hp'
  ·exact zco x y c a d hc h.2.2.1
  ·exact zcW x y c hc r _ f h.2.2.2 hn p hp'
theorem ze2 (x y : PySem.Str) (c : Nat) (hy : 1 ≤ y.length) (hk : Builtin.Str.strKind y ≤ Builtin.Str.strKind x) (hc : ∀ j, x.cps.toList[j]? = some c → At x y x.length j) : ∀ p ∈ Txt.split x y, c ∉ p.cps.toList := by
 obtain ⟨f, hG, hn⟩ := occ_tight x y hy
 unfold Txt.split
 split
 ·rename_i h
  intro p hp
  rw [List.mem_singleton.mp hp]
  intro hm
  obtain ⟨j, hj⟩ := List.getElem?_of_mem hm
  have hA := hc j hj
  rw [Bool.or_eq_true, decide_eq_true_eq, decide_eq_true_eq] at h
  rcases h with h | h
  ·have := hA.1; omega
  ·omega
 ·split
  ·rename_i he
   intro p hp
   rw [List.mem_singleton.mp hp]
   have e0 : occurrences x y 0 x.length (x.length + 1) = [] := List.isEmpty_iff.mp he
   rw [e0] at hG
   have ef : f = 0 := hG
   subst ef
   rw [← sub_whole x]
   exact zco x y c 0 x.length hc fun k h1 _ => hn k h1
  ·rw [partsBetween_eq]
   exact zcW x y c hc _ 0 f hG hn
theorem zlc {c : Nat} {t : List Nat} (ht : c ∉ t) : ∀ {P : List (List Nat)}, (∀ p ∈ P, c ∉ p) → ∀ j, (gl (c :: t) P)[j]? = some c → ∃ z, (gl (c :: t) P).drop j = c :: t ++ z
 | [], _, j, h => by simp [gl] at h
 | [p], hp, j, h => absurd (List.mem_of_getElem? (show p[j]? = some c from h)) (hp p List.mem_cons_self)
 | p :: q :: r, hp, j, h => by
  have e : gl (c :: t) (p :: q :: r) = p ++ (c :: t ++ gl (c :: t) (q :: r)) := rfl
  rw [e] at h ⊢
  by_cases h1 : j < p.length
  ·rw [List.getElem?_append_left h1] at h
   exact absurd (List.mem_of_getElem? h) (hp p List.mem_cons_self)
  ·rw [List.getElem?_append_right (by omega)] at h
   rw [List.drop_append, List.drop_eq_nil_of_le (by omega), List.nil_append]
   by_cases h2 : j - p.length < (c :: t).length
   ·rw [List.getElem?_append_left h2] at h
    cases e0 : j - p.length with
    | zero => exact ⟨gl (c :: t) (q :: r), by simp⟩
    | succ k =>
     rw [e0] at h
     exact absurd (List.mem_of_getElem? (show t[k]? = some c from h)) ht
   ·rw [List.getElem?_append_right (by omega)] at h
    obtain ⟨z, hz⟩ := zlc ht (P := q :: r) (fun x hx => hp x (List.mem_cons_of_mem _ hx)) _ h
    refine ⟨z, ?_⟩
    rw [List.drop_append, List.drop_eq_nil_of_le (by omega), List.nil_append]
    exact hz
theorem zh3 (x : PySem.Str) : 1 ≤ Builtin.Str.strKind x := by
 unfold Builtin.Str.strKind
 split
 ·exact Nat.le_refl _
 ·split <;> omega
theorem zhd {c d : Nat} {ws : List PySem.Str} (hcd : c ≠ d) (hk : Builtin.Str.strKind ⟨#[c, d]⟩ = 1) (ne : ws ≠ []) (free : ∀ w ∈ ws, c ∉ w.cps.toList) : Txt.split (PySem.Str.join ⟨#[c, d]⟩ ws) ⟨#[c, d]⟩ = ws := by
 have fr : ∀ p ∈ ws.map (fun y => y.cps.toList), c ∉ p := fun p hp => by obtain ⟨w, hw, rfl⟩ := List.mem_map.mp hp; exact free w hw
 have eg := zbN ⟨#[c, d]⟩ ws
 refine zdw (zfd (c := c) (t := [d]) (by have := split_pos (PySem.Str.join ⟨#[c, d]⟩ ws) ⟨#[c, d]⟩; intro z; have z' := congrArg List.length z; simp at z'; rw [z'] at this; simp at this) (by simpa using ne) (fun p hp => ?_) fr ?_)
 ·obtain ⟨w, hw, rfl⟩ := List.mem_map.mp hp
  refine ze2 _ ⟨#[c, d]⟩ c (Nat.le_succ 1) (by rw [hk]; exact zh3 _) (fun j hj => ?_) w hw
  rw [eg] at hj
  obtain ⟨z, hz⟩ := zlc (t := [d]) (by simpa using hcd) fr j hj
  have hz' : (PySem.Str.join ⟨#[c, d]⟩ ws).cps.toList.drop j = c :: [d] ++ z := by rw [eg]; exact hz
  refine ⟨?_, ?_⟩
  ·have h1 := congrArg List.length hz'
   rw [List.length_drop, ← Prf.str_len] at h1
   have h2 : (c :: [d] ++ z).length = z.length + 2 := by simp
   rw [h2] at h1
   show j + 2 ≤ _
   omega
  ·rw [subAt_eq, hz']
   simp [PySem.Str.length]
 ·have e := StrLaws.join_split (PySem.Str.join ⟨#[c, d]⟩ ws) ⟨#[c, d]⟩
  have e' := congrArg (fun y : PySem.Str => y.cps.toList) e
  simp only [zbN] at e'
  exact e'
end L2
namespace L2
open PySem PySem.Spec PyProof.Rows PySem.NumText Prf Builtin.Str
section
variable {X : Cx} {o : Expr} {to : TE} {t : TA} {apos cpos : Pos}
theorem zfy : JC X (.type "str") (fun xs H Q => ∃ n : Int, xs = [.int n] ∧ n.natAbs.log2 < 1920 ∧ Q (.str (numS n)) H) := by
 refine ⟨fun pins s σ H xs us Q I r h => ?_⟩
 obtain ⟨n, rfl, hn, q⟩ := h
 obtain ⟨u, rfl, tk, rfl⟩ := vals1 r
 exact P.str_of_int hn ⟨.str _, H, I.tok _, ⟨_, rfl⟩, q⟩
theorem zlb : JC X (.type "int") (fun xs H Q => ∃ (z : PySem.Str) (n : Int), xs = [.str z] ∧ PySem.intText? z = some n ∧ z.length ≤ 640 ∧ Q (.int n) H) := by
 refine ⟨fun pins s σ H xs us Q I r h => ?_⟩
 obtain ⟨z, n, rfl, hn, hl, q⟩ := h
 obtain ⟨u, rfl, tk, rfl⟩ := vals1 r
 exact PySem.W.KIN.call_text hn hl ⟨.int n, H, I.tok _, ⟨_, rfl⟩, q⟩
def ziw : V → List V → Hp → VK → Prop := fun x xs H Q => ∃ (z y : PySem.Str), x = .str z ∧ xs = [.str y] ∧ (y.length == 0) = false ∧ z.length + 2 ≤ sizeLine ∧ ∀ D, H D = none → Q (.ref D) (upd H D (.lst ((Txt.split z y).map V.str)))
theorem zib : ∀ (ys : List PySem.Str) (k : Nat), Vals (ys.map V.str) (strValues (numbered k ys)) := by
 intro ys
 induction ys with
 | nil => intro k; exact .nil
 | cons y ys ih => intro k; exact .cons ⟨_, rfl⟩ (ih _)
theorem zia : MtR X "str.split" ziw := by
 intro pins s σ H x xs v us Q I rx r h
 obtain ⟨z, y, rfl, rfl, hy, hz, q⟩ := h
 obtain ⟨t, rfl⟩ := rx
 obtain ⟨u, rfl, u', rfl⟩ := vals1 r
 have hs := split_le z y
 have fin : ∀ (its : List Value) (t' : Nat), Vals ((Txt.split z y).map V.str) its → EP X pins σ Q (.ref s.heap.objs.size) { s with heap := s.heap.push { cls := .type "list", data := .seq its.toArray }, toks := t' } := fun its t' hv =>
  ⟨.ref s.heap.objs.size, _, I.lnew hv (by rw [List.length_map]; omega), rfl, q _ (I.hok.fresh (Nat.le_refl _))⟩
 cases h1 : (decide (z.length < y.length) || decide (Builtin.Str.strKind z < Builtin.Str.strKind y))
 ·cases hf : (occurrences z y 0 z.length (z.length + 1)).isEmpty
  ·have es : Txt.split z y = partsBetween z (occurrences z y 0 z.length (z.length + 1)) y.length := by unfold Txt.split; rw [if_neg (by rw [h1]; decide), if_neg (by rw [hf]; decide)]
   refine call_meets F.slot_str_split (typeIs_str _ _ _) F.entry_str_split (F.args_str_split_2 _ _) (meets_str_split_sep z y t u' h1 hy hf (by omega) (by rw [← es]; omega)) ?_
   show EP X pins σ Q (.ref s.heap.objs.size) { s with toks := _, heap := s.heap.push { cls := .type "list", data := .seq (strsFrom s.toks (partsBetween z (occurrences z y 0 z.length (z.length + 1)) y.length)).toArray } }
   rw [strsFrom_eq, ← es]
   exact fin _ _ (zib _ _)
  ·have es : Txt.split z y = [z] := by unfold Txt.split; rw [if_neg (by rw [h1]; decide), if_pos hf]
   refine call_meets F.slot_str_split (typeIs_str _ _ _) F.entry_str_split (F.args_str_split_2 _ _) (meets_str_split_not_found z y t u' h1 hy hf) ?_
   exact fin [.str z t] s.toks (by rw [es]; exact .cons ⟨_, rfl⟩ .nil)
 ·have es : Txt.split z y = [z] := by unfold Txt.split; rw [if_pos h1]
  refine call_meets F.slot_str_split (typeIs_str _ _ _) F.entry_str_split (F.args_str_split_2 _ _) (meets_str_split_cannot_occur z y t u' h1) ?_
  exact fin [.str z t] s.toks (by rw [es]; exact .cons ⟨_, rfl⟩ .nil)
theorem zgr {e1 : Expr} (ho : JE X o to) (ha : JA X [e1] t) (hbase : attributeBase o "split" X.env (eval o X.env) = eval o X.env := by rfl) (hline : (apos.endLine == cpos.line) = true := by rfl) :
  JE X (.Call (.Attribute o "split" apos) [e1] [] cpos) (tBM X.K "str" ziw to t) :=
 ⟨zfG PySem.F.plainAttrs_str PySem.F.slot_str_split PySem.F.type_str_split zia ho.h ha.h hbase (by rw [ha.hd.star, (Nsts.star ha.rs _)]; rfl) hline (ha.hd.star _ _) (ha.rs.no _ _)⟩
end
end L2
namespace L2
open PySem PySem.Spec PyProof.Rows PySem.NumText Prf Builtin.Str
def Its (z : PySem.Str) : It := ⟨fun i _ => i < z.cps.size, fun i H x H' => H' = H ∧ ∃ c, z.cps[i]? = some c ∧ x = .str ⟨#[c]⟩, fun i _ => z.cps.size ≤ i⟩
theorem zh5 {P : Program} {w : World} {K : PySem.W.Frag} {tg : Expr} (z : PySem.Str) (t : Tok) (it : Addr) : Turn P w K tg (Its z) [it] it (fun i h => h.IsStrIter it "str_ascii_iterator" z t i) where
 mem := by simp
 obj := fun i h st b hb => by
  have e : b = it := by simpa using hb
  subst e
  obtain ⟨o, e, c, d⟩ := st
  exact ⟨o, e, fun v z => by rw [d] at z; cases z⟩
 keep := fun i h h' st k => by
  obtain ⟨o, e, c, d⟩ := st
  exact ⟨o, k it (by simp) o e, c, d⟩
 item := by
  intro X hP hw hK hc i pins s σ H E I hf st hg
  subst hP hw hK
  have hi : i < z.cps.size := hg
  obtain ⟨f0, f1, f2, f3, f4, f5⟩ := hf it (by simp)
  have hx : z.cps[i]? = some z.cps[i] := by simp [hi]
  refine wpAny_pyNext_ascii_item st hx fun h' st' sb => ?_
  have I1 : Inv X pins σ H { s with heap := h', toks := s.toks + 1 } := I.turned (t' := s.toks + 1) (fun b o hb e => (sb.2 b hb).trans e) f0 f1 f3 f4 f5
  obtain ⟨o, e, c, d⟩ := id st'
  exact ⟨_, rfl, zhG (s := { s with heap := h', toks := s.toks + 1 }) e c d (by decide) ⟨.str ⟨#[z.cps[i]]⟩, H, I1, ⟨_, rfl⟩, ⟨rfl, _, hx, rfl⟩, st', fun b hb => (hf b hb).1⟩⟩
 done := by
  intro X hP hw hK hc i pins s σ H E I hf st hg
  subst hP hw hK
  have hi : z.cps.size ≤ i := hg
  obtain ⟨f0, f1, f2, f3, f4, f5⟩ := hf it (by simp)
  exact wpAny_pyNext_ascii_end (I.ok.hd hc) st (by simp [hi]) fun h' eb => ⟨rfl, I.turned (t' := s.toks) (fun b o hb e => eb b o hb e) f0 f1 f3 f4 f5⟩
 self := fun _ _ _ _ _ st h => wpAny_pyIter_striter_ascii st h
section
variable {X : Cx} {tg : Expr}
def iStr (tl : TE) : TI := fun σ H R => tl σ H fun x H1 => ∃ z, x = .str z ∧ z.cps.all (· < 128) = true ∧ R (Its z) H1
theorem zkP {l : Expr} {tl : TE} (hl : PE X l tl) : PI X tg l (iStr tl) := by
 intro pins s σ H R I h
 refine thn (hl pins s σ H _ I h) fun v s1 q => ?_
 obtain ⟨x, H1, I1, r1, z, rfl, ha, q⟩ := q
 obtain ⟨t, rfl⟩ := r1
 refine wpAny_pyIter_ascii ha ?_
 refine ⟨s1.heap.objs.size, [s1.heap.objs.size], _, _, H1, rfl, I1.kept (t' := s1.toks) fun b o e => Heap.get?_push_of_some _ e, zh5 z t _, ⟨_, Heap.get?_push_size _ rfl, rfl, rfl⟩, fun b hb => ?_, q⟩
 have e : b = s1.heap.objs.size := by simpa using hb
 subst e
 exact I1.fpOk (Nat.le_refl _) (I1.hok.fresh (Nat.le_refl _))
theorem zlK {e : Expr} {te : TE} (h : JE X e te) : JI X tg e (iStr te) := ⟨zkP h.h⟩
theorem zhI {g : TG} {tt : TT} {te : TE} {Q : VK} {σ : St} {H : Hp} {D : Addr} {z : PySem.Str} (Pv : Nat → St → Hp → Prop) (h0 : Pv 0 σ H)
  (hs : ∀ i c σ H, z.cps[i]? = some c → Pv i σ H → g (.str ⟨#[c]⟩) σ H fun σ2 H2 => tt σ2 H2 fun b H3 => if b = true then te σ2 H3 fun v H4 => ∃ zs, H4 D = some (.lst zs) ∧ zs.length < sizeLine ∧ Pv (i + 1) σ2 (upd H4 D (.lst (zs ++ [v]))) else Pv (i + 1) σ2 H3)
  (hd : ∀ σ H, Pv z.cps.size σ H → Q (.ref D) H) : zex (Its z) g tt te D Q σ H := by
 refine ⟨fun i m σ H => m = z.cps.size - i ∧ i ≤ z.cps.size ∧ Pv i σ H, ⟨z.cps.size, by simp, Nat.zero_le _, h0⟩, ?_⟩
 rintro i m σ H ⟨rfl, hi, p⟩
 by_cases hlt : i < z.cps.size
 ·refine .inr ⟨hlt, fun σ' H' => Pv (i + 1) σ' H', fun σ' H' p' => ⟨z.cps.size - (i + 1), by omega, rfl, hlt, p'⟩, fun x H' y => ?_⟩
  obtain ⟨rfl, c, hc, rfl⟩ := y
  exact hs i c σ _ hc p
 ·have e : i = z.cps.size := by omega
  subst e
  exact .inl ⟨Nat.le_refl _, hd σ H p⟩
def rInS : R2 := fun x y H Q => ∃ (c : Nat) (z : PySem.Str), x = .str ⟨#[c]⟩ ∧ y = .str z ∧ Q (.bl (decide (c ∈ z.cps.toList))) H
theorem zk7 : OpR X (compareOp .In) rInS := by
 intro pins s σ H x y v u Q I rx ry h
 obtain ⟨c, z, rfl, rfl, q⟩ := h
 obtain ⟨t1, rfl⟩ := rx
 obtain ⟨t2, rfl⟩ := ry
 exact in_str ⟨.bl _, H, I, rfl, by rw [StrLaws.found_one]; exact q⟩
def zjt (K : PySem.W.Frag) : List V → Hp → VK → Prop := fun vs H Q => ∃ l bs, vs = [.ref l] ∧ SqL K H l (List.map V.bl bs) ∧ Q (.bl (bs.all id)) H
theorem all_range (bs : List Bool) : (List.range bs.length).all (fun i => bs.getD i true) = bs.all id := by
 have e : bs = (List.range bs.length).map fun i => bs.getD i true := by
  apply List.ext_getElem (by simp)
  intro i h1 h2
  simp [h1]
 conv => rhs; rw [e]
 rw [List.all_map]
 rfl
theorem zdu (hc : X.calm = true) : zcA X (.builtin "all") (zjt X.K) := by
 intro pins s σ H vs us Q I r ⟨l, bs, e, hl, q⟩
 subst e
 obtain ⟨u, rfl, ru⟩ := Vals.one r
 cases ru
 obtain ⟨its, rv, pl, _⟩ := I.list hl
 have ei := zce rv
 subst ei
 have hd : X.A.in1.handled = none := I.ok.hd hc
 have hlt : l < s.heap.objs.size := by obtain ⟨o, n, e, _⟩ := pl; exact Heap.lt_size e
 refine call_all_walk (wpAny_pyIter_list pl.isList ⟨_, _, _, _, _, _, (fun i => bs.getD i true), rfl, Walks.list hd _ l (Nat.ne_of_lt hlt) _, ⟨⟨_, Heap.get?_push_size _ rfl, rfl, rfl⟩, pl.isList.push _⟩, ?_, fun h' tk hk => ?_⟩)
 ·intro i v s' Q' E' hv hq
  have hv' : (List.map Value.bool bs)[i]? = some v := by simpa using hv
  rw [List.getElem?_map] at hv'
  cases e : bs[i]? with
  | none => rw [e] at hv'; cases hv'
  | some b =>
   rw [e] at hv'
   cases hv'
   have eb : bs.getD i true = b := by rw [List.getD_eq_getElem?_getD, e]; rfl
   dsimp only at hq
   rw [eb] at hq
   exact wpAny_truthy_bool hq
 ·have ek : (List.map Value.bool bs).toArray.size = bs.length := by simp
  rw [ek, all_range]
  refine ⟨.bl _, H, I.kept (fun b o q' => hk b o (fun hm => ?_) (Heap.get?_push_of_some _ q')), rfl, q⟩
  have : b = s.heap.objs.size := by simpa using hm
  exact absurd (this ▸ Heap.lt_size q') (Nat.lt_irrefl _)
theorem zlr (hc : X.calm = true := by rfl) : JC X (.builtin "all") (zjt X.K) := ⟨zdu hc⟩
theorem zly {a b : Expr} {ta tb : TE} {pos : Pos} (ha : JE X a ta) (hb : JE X b tb) (hm : ∀ r, behindInMarks .In b = r → r = false := by intro _ h; exact h ▸ rfl) : JE X (.Compare a [.In] [b] pos) (tOp rInS ta tb) := ⟨zf6 zk7 ha.h hb.h (hm _ rfl)⟩
end
end L2
namespace L2
open PySem PySem.Spec PyProof.Rows PySem.NumText Prf Builtin.Str
section
variable {X : Cx} {o : Expr} {to : TE} {t : TA} {apos cpos : Pos}
def zcn (z : PySem.Str) (c : Nat) : Bool := match z.cps.toList with | d :: _ => d == c | [] => false
def zgX : V → List V → Hp → VK → Prop := fun x xs H Q => ∃ (z : PySem.Str) (c : Nat), x = .str z ∧ xs = [.str ⟨#[c]⟩] ∧ Q (.bl (zcn z c)) H
theorem zhf (z : PySem.Str) (c : Nat) : (decide (0 + (⟨#[c]⟩ : PySem.Str).length ≤ z.length) && subAt z ⟨#[c]⟩ 0) = zcn z c := by
 have hl := Prf.str_len z
 rw [StrLaws.subAt_eq, hl]
 unfold zcn
 cases z.cps.toList with
 | nil => rfl
 | cons d r =>
  have e1 : (⟨#[c]⟩ : PySem.Str).length = 1 := rfl
  rw [e1]
  have e2 : decide (0 + 1 ≤ (d :: r).length) = true := by simp
  rw [e2]
  show (true && ([d] == [c])) = (d == c)
  rw [Bool.true_and, Bool.eq_iff_iff]
  simp
theorem zgR : MtR X "str.startswith" zgX := by
 intro pins s σ H x xs v us Q I rx r h
 obtain ⟨z, c, rfl, rfl, q⟩ := h
 obtain ⟨t, rfl⟩ := rx
 obtain ⟨u, rfl, u', rfl⟩ := vals1 r
 refine call_meets F.slot_str_startswith (typeIs_str _ _ _) F.entry_str_startswith (F.args_str_startswith_2 _ _) (gives_str_startswith z ⟨#[c]⟩ t u').meets ?_
 rw [zhf]
 exact ⟨.bl (zcn z c), H, I, rfl, q⟩
theorem zhX {e1 : Expr} (ho : JE X o to) (ha : JA X [e1] t) (hbase : attributeBase o "startswith" X.env (eval o X.env) = eval o X.env := by rfl) (hline : (apos.endLine == cpos.line) = true := by rfl) :
  JE X (.Call (.Attribute o "startswith" apos) [e1] [] cpos) (tBM X.K "str" zgX to t) :=
 ⟨zfG PySem.F.plainAttrs_str PySem.F.slot_str_startswith PySem.F.type_str_startswith zgR ho.h ha.h hbase (by rw [ha.hd.star, (Nsts.star ha.rs _)]; rfl) hline (ha.hd.star _ _) (ha.rs.no _ _)⟩
end
end L2
namespace L2
open PySem PySem.Spec PyProof.Rows PySem.NumText Prf Builtin.Str
theorem zfr : ∀ d : Nat, d < 10 → (Nat.digitChar d).toNat = 48 + d := by decide
theorem zgW (m : Nat) (h : 0 < m) : ∃ c r, (Nat.toDigits 10 m).map Char.toNat = c :: r ∧ 49 ≤ c ∧ c ≤ 57 := by
 induction m using Nat.strongRecOn with
 | _ m ih =>
  by_cases h1 : m < 10
  ·rw [Nat.toDigits_of_lt_base h1]
   exact ⟨_, [], rfl, by rw [zfr m h1]; omega, by rw [zfr m h1]; omega⟩
  ·have hm : m % 10 < 10 := Nat.mod_lt m (by decide)
   have t : Nat.toDigits 10 (m / 10) ++ Nat.toDigits 10 (m % 10) = Nat.toDigits 10 (10 * (m / 10) + m % 10) := Nat.toDigits_append_toDigits (by decide) (by omega) hm
   rw [Nat.div_add_mod] at t
   obtain ⟨c, r, e, a, b⟩ := ih (m / 10) (by omega) (by omega)
   rw [← t, List.map_append, e]
   exact ⟨c, _, rfl, a, b⟩
theorem zgL : (Nat.toDigits 10 0).map Char.toNat = [48] := by decide
def figs (n : Int) : List Nat := (Nat.toDigits 10 n.natAbs).map Char.toNat
theorem zbr (n : Int) : (numS n).cps.toList = if n < 0 then 45 :: figs n else figs n := by
 cases n with
 | ofNat m => rw [if_neg (by simp)]; exact zbQ m
 | negSucc m => rw [if_pos (Int.negSucc_lt_zero m)]; exact zdB m
theorem zb9 (n : Int) : ∀ c ∈ figs n, 48 ≤ c ∧ c ≤ 57 := zdt _
theorem zfR (n : Int) : zcn (numS n) 45 = decide (n < 0) := by
 unfold zcn
 rw [zbr]
 by_cases h : n < 0
 ·rw [if_pos h, decide_eq_true h]; rfl
 ·rw [if_neg h, decide_eq_false h]
  have a := zb9 n
  cases e : figs n with
  | nil => rfl
  | cons d r =>
   rw [e] at a
   have := a d List.mem_cons_self
   show (d == 45) = false
   rw [beq_eq_false_iff_ne]
   omega
theorem zf4 (n : Int) : (n = 0 ∧ figs n = [48]) ∨ (n ≠ 0 ∧ ∃ c r, figs n = c :: r ∧ 49 ≤ c ∧ c ≤ 57) := by
 by_cases h : n = 0
 ·subst h; exact .inl ⟨rfl, zgL⟩
 ·exact .inr ⟨h, zgW _ (by omega)⟩
theorem zhq {n : Int} {k : Nat} (hk : 0 < k) (h : n.natAbs < 10 ^ k) : (figs n).length ≤ k := by
 have e : (numS ((n.natAbs : Nat) : Int)).length ≤ k := toString_length_le (by omega) hk (by exact_mod_cast h)
 rw [Prf.str_len, zbQ] at e
 exact e
end L2
namespace Prf
open PySem L2 Wr
def top (i : Nat) : Stmt := PySem.Challenge.pw_whenrows_k72_sheets_as_texts.main.body.getD i (.Pass ⟨0, 0, 0, 0⟩)
noncomputable def zde : {s : Stmt // top 6 = s} := ⟨.FunctionDef _ _ _ _ _ _ _ _ _ _, rfl⟩
noncomputable abbrev zaH : Stmt := zde.1
noncomputable def zbM : {s : Stmt // top 7 = s} := ⟨.FunctionDef _ _ _ _ _ _ _ _ _ _, rfl⟩
noncomputable abbrev zak : Stmt := zbM.1
noncomputable def zfX : {s : Stmt // top 8 = s} := ⟨.FunctionDef _ _ _ _ _ _ _ _ _ _, rfl⟩
noncomputable abbrev zbf : Stmt := zfX.1
noncomputable def zcV : {s : Stmt // top 9 = s} := ⟨.FunctionDef _ _ _ _ _ _ _ _ _ _, rfl⟩
noncomputable abbrev zau : Stmt := zcV.1
noncomputable def ze1 : {s : Stmt // top 10 = s} := ⟨.FunctionDef _ _ _ _ _ _ _ _ _ _, rfl⟩
noncomputable abbrev za7 : Stmt := ze1.1
noncomputable def zdO : {s : Stmt // top 11 = s} := ⟨.FunctionDef _ _ _ _ _ _ _ _ _ _, rfl⟩
noncomputable abbrev zaO : Stmt := zdO.1
noncomputable def zeh : {s : Stmt // top 13 = s} := ⟨.FunctionDef _ _ _ _ _ _ _ _ _ _, rfl⟩
noncomputable abbrev za0 : Stmt := zeh.1
noncomputable def zbv : {s : Stmt // top 14 = s} := ⟨.FunctionDef _ _ _ _ _ _ _ _ _ _, rfl⟩
noncomputable abbrev zai : Stmt := zbv.1
noncomputable def zet : {s : Stmt // top 15 = s} := ⟨.FunctionDef _ _ _ _ _ _ _ _ _ _, rfl⟩
noncomputable abbrev zaW : Stmt := zet.1
noncomputable def zdb : {s : Stmt // top 21 = s} := ⟨.FunctionDef _ _ _ _ _ _ _ _ _ _, rfl⟩
noncomputable abbrev zaA : Stmt := zdb.1
noncomputable def zdZ : {s : Stmt // top 22 = s} := ⟨.FunctionDef _ _ _ _ _ _ _ _ _ _, rfl⟩
noncomputable abbrev zaL : Stmt := zdZ.1
noncomputable def zdd : {s : Stmt // top 23 = s} := ⟨.FunctionDef _ _ _ _ _ _ _ _ _ _, rfl⟩
noncomputable abbrev zaB : Stmt := zdd.1
noncomputable def zcS : {s : Stmt // top 24 = s} := ⟨.FunctionDef _ _ _ _ _ _ _ _ _ _, rfl⟩
noncomputable abbrev zaw : Stmt := zcS.1
noncomputable def zcD : {s : Stmt // top 25 = s} := ⟨.FunctionDef _ _ _ _ _ _ _ _ _ _, rfl⟩
noncomputable abbrev zas : Stmt := zcD.1
noncomputable def zc8 : {s : Stmt // top 26 = s} := ⟨.FunctionDef _ _ _ _ _ _ _ _ _ _, rfl⟩
noncomputable abbrev zaD : Stmt := zc8.1
noncomputable def zdC : {s : Stmt // top 27 = s} := ⟨.FunctionDef _ _ _ _ _ _ _ _ _ _, rfl⟩
noncomputable abbrev zaN : Stmt := zdC.1
noncomputable def zc9 : {s : Stmt // top 28 = s} := ⟨.FunctionDef _ _ _ _ _ _ _ _ _ _, rfl⟩
noncomputable abbrev zaG : Stmt := zc9.1
noncomputable def zes : {s : Stmt // top 29 = s} := ⟨.FunctionDef _ _ _ _ _ _ _ _ _ _, rfl⟩
noncomputable abbrev zaX : Stmt := zes.1
noncomputable def zd6 : {s : Stmt // top 31 = s} := ⟨.FunctionDef _ _ _ _ _ _ _ _ _ _, rfl⟩
noncomputable abbrev zaZ : Stmt := zd6.1
noncomputable def zdH : {s : Stmt // top 32 = s} := ⟨.FunctionDef _ _ _ _ _ _ _ _ _ _, rfl⟩
noncomputable abbrev zaM : Stmt := zdH.1
noncomputable def zcy : {s : Stmt // top 33 = s} := ⟨.FunctionDef _ _ _ _ _ _ _ _ _ _, rfl⟩
noncomputable abbrev zar : Stmt := zcy.1
noncomputable def zdP : {s : Stmt // top 34 = s} := ⟨.FunctionDef _ _ _ _ _ _ _ _ _ _, rfl⟩
noncomputable abbrev zaJ : Stmt := zdP.1
noncomputable def zeE : {s : Stmt // top 35 = s} := ⟨.FunctionDef _ _ _ _ _ _ _ _ _ _, rfl⟩
noncomputable abbrev zaY : Stmt := zeE.1
noncomputable def zda : {s : Stmt // top 36 = s} := ⟨.FunctionDef _ _ _ _ _ _ _ _ _ _, rfl⟩
noncomputable abbrev zaF : Stmt := zda.1
noncomputable def zdy : {s : Stmt // top 37 = s} := ⟨.FunctionDef _ _ _ _ _ _ _ _ _ _, rfl⟩
noncomputable abbrev zaK : Stmt := zdy.1
noncomputable def zi0 : {s : Stmt // top 38 = s} := ⟨.FunctionDef _ _ _ _ _ _ _ _ _ _, rfl⟩
noncomputable abbrev zbT : Stmt := zi0.1
section
variable {P : Program} {w : World} {K : PySem.W.Frag} {mg : Str → Option Value} {base : Heap}
def mixF (c j : Int) : Int := if c % 2 = 1 ∧ c / 2 ^ (27 : Int).toNat ≠ 0 then c / 2 ^ (1 + 20 * j).toNat % 1048576 else
 (((c * (2 * j + 3) + j) % 2147483629 * ((c * (2 * j + 3) + j) % 2147483629) + 1) * 48271 % 2147483629) * (((c * (2 * j + 3) + j) % 2147483629 * ((c * (2 * j + 3) + j) % 2147483629) + 1) * 48271 % 2147483629) % 2147483587
theorem ziU (c j : Int) : 0 ≤ mixF c j := by unfold mixF; split <;> exact Int.emod_nonneg _ (by decide)
def zfi : Sp := fun vs H Q _ => ∃ (c j : Int), vs = [.int c, .int j] ∧ 0 ≤ j ∧ j ≤ 1000 ∧ Q (.int (mixF c j)) H
def zeX : Sp := fun vs H Q _ => ∃ (c j : Int), vs = [.int c, .int j] ∧ 0 ≤ j ∧ j ≤ 1000 ∧ ∀ r : Int, 0 ≤ r → Q (.int r) H
theorem zhH (vs : List V) (H : Hp) (Q : VK) (E : XK) (h : zeX vs H Q E) : zfi vs H Q E := let ⟨c, j, e, a, b, k⟩ := h; ⟨c, j, e, a, b, k _ (ziU c j)⟩
theorem zjz : FnScope ["_law_cell", "_law_j", "_law_number"] ["_law_cell", "_law_j"] (zab zaZ) := ⟨rfl, rfl, rfl, by decide +kernel, rfl, by decide +kernel, by decide +kernel⟩
theorem zgj {f : Addr} {fd : FuncData} (F : Fun K "_law_mix" "_law_mix" zaZ f fd) : FnOk P w K mg base CX0 1 f fd ["_law_cell", "_law_j"] zfi := by
 refine F.okJ zjz (fun vs H Q E h => ?_) (fun cdv A outer s H vs Q E hr h => ?_)
 ·obtain ⟨c, j, rfl, _⟩ := h
  rfl
 ·obtain ⟨c, j, rfl, j0, j1, k⟩ := h
  refine ⟨_, zag (s_if (JW.jt (w_and (zbl o_eq (e_op zbt (e_v 0) e_i) e_i) (zgw (zbl o_ne (e_op zjR (e_v 0) e_i) e_i))))
    (zan (zaR (e_op zbt (e_op zjR (e_v 0) (e_op zch e_i (e_op zf1 e_i (e_v 1)))) e_i))) zbo)
   (zag (zay 2 zjz.nd (e_op zbt (e_op zch (e_op zf1 (e_v 0) (e_op zch (e_op zf1 e_i (e_v 1)) e_i)) (e_v 1)) e_i))
   (zag (zay 2 zjz.nd (e_op zbt (e_op zf1 (e_op zch (e_op zf1 (e_v 2) (e_v 2)) e_i) e_i) e_i))
   (zan (zaR (e_op zbt (e_op zf1 (e_v 2) (e_v 2)) e_i))))), ?_⟩
  have two : ∀ D : Ends, D.rt = Q → ¬ (c % 2 = 1 ∧ c / 2 ^ (27 : Int).toNat ≠ 0) → tSeq (tAsg (tOp (rI (fun _ j => 0 < j) fun i j => .int (i % j)) (tOp (rI0 fun i j => .int (i + j)) (tOp (rI CMul fun i j => .int (i * j)) (tVar 0) (tOp (rI0 fun i j => .int (i + j)) (tOp (rI CMul fun i j => .int (i * j)) (tC (.int 2)) (tVar 1)) (tC (.int 3)))) (tVar 1)) (tC (.int 2147483629))) (za5 2))
    (tSeq (tAsg (tOp (rI (fun _ j => 0 < j) fun i j => .int (i % j)) (tOp (rI CMul fun i j => .int (i * j)) (tOp (rI0 fun i j => .int (i + j)) (tOp (rI CMul fun i j => .int (i * j)) (tVar 2) (tVar 2)) (tC (.int 1))) (tC (.int 48271))) (tC (.int 2147483629))) (za5 2))
    (tRet (tOp (rI (fun _ j => 0 < j) fun i j => .int (i % j)) (tOp (rI CMul fun i j => .int (i * j)) (tVar 2) (tVar 2)) (tC (.int 2147483587))))) D [some (.int c), some (.int j), none] H := by
   intro D hD hno
   have ek : mixF c j = _ := if_neg hno
   rw [ek] at k
   refine ⟨_, rfl, _, rfl, _, _, rfl, rfl, .inl ⟨by decide, by decide⟩, _, _, rfl, rfl, _, _, rfl, rfl, .inr ⟨by omega, by omega⟩, _, rfl, _, _, rfl, rfl, _, _, rfl, rfl, pz, ?_⟩
   have a1 : 0 ≤ (c * (2 * j + 3) + j) % 2147483629 := Int.emod_nonneg _ (by decide)
   have a2 : (c * (2 * j + 3) + j) % 2147483629 < 2147483629 := Int.emod_lt_of_pos _ (by decide)
   show tSeq _ _ D [some (.int c), some (.int j), some (.int ((c * (2 * j + 3) + j) % 2147483629))] H
   generalize (c * (2 * j + 3) + j) % 2147483629 = n1 at a1 a2 k ⊢
   refine ⟨_, rfl, _, rfl, _, _, rfl, rfl, .inl ⟨by omega, by omega⟩, _, _, rfl, rfl, _, _, rfl, rfl, .inr ⟨by decide, by decide⟩, _, _, rfl, rfl, pz, ?_⟩
   have b1 : 0 ≤ (n1 * n1 + 1) * 48271 % 2147483629 := Int.emod_nonneg _ (by decide)
   have b2 : (n1 * n1 + 1) * 48271 % 2147483629 < 2147483629 := Int.emod_lt_of_pos _ (by decide)
   show tRet (tOp (rI (fun _ j => 0 < j) fun i j => .int (i % j)) (tOp (rI CMul fun i j => .int (i * j)) (tVar 2) (tVar 2)) (tC (.int 2147483587))) D [some (.int c), some (.int j), some (.int ((n1 * n1 + 1) * 48271 % 2147483629))] H
   generalize (n1 * n1 + 1) * 48271 % 2147483629 = n2 at b1 b2 k ⊢
   refine ⟨_, rfl, _, rfl, _, _, rfl, rfl, .inl ⟨by omega, by omega⟩, _, _, rfl, rfl, pz, ?_⟩
   show D.rt _ _
   rw [hD]
   exact k
  refine ⟨_, rfl, _, _, rfl, rfl, pz, rfl, _, rfl, ?_⟩
  refine ite2 (fun h1 => ?_) (fun h1 => iteF (two _ rfl fun z => h1 (decide_eq_true (congrArg V.int z.1))))
  refine ⟨_, rfl, _, _, rfl, rfl, pn, rfl, _, rfl, ?_⟩
  refine ite2 (fun h2 => ?_) (fun h2 => two _ rfl fun z => h2 (by simpa using z.2))
  refine ⟨_, rfl, _, rfl, _, _, rfl, rfl, .inl ⟨by decide, by decide⟩, _, _, rfl, rfl, _, _, rfl, rfl, by omega, _, _, rfl, rfl, pz, ?_⟩
  have ek : mixF c j = _ := if_pos ⟨V.int.inj (of_decide_eq_true h1), by simpa using h2⟩
  rw [ek] at k
  exact k
end
theorem zhV {g : List Int} {y x : Int} (hg : Inc g) {i : Nat} (hi : i + 1 = g.length) (hy : g[i]? = some y) (h : y < x) : Inc (g ++ [x]) := by
 refine List.pairwise_append.mpr ⟨hg, List.pairwise_singleton _ _, fun a ha b hb => ?_⟩
 rw [List.mem_singleton.mp hb]
 obtain ⟨j, hj, rfl⟩ := List.mem_iff_getElem.mp ha
 by_cases e : j = i
 ·subst e
  obtain ⟨h1, e1⟩ := List.getElem?_eq_some_iff.mp hy
  omega
 ·have := zeC hg (i := j) (j := i) (x := g[j]) (by simp [hj]) hy (by omega)
  omega
section
variable {P : Program} {w : World} {K : PySem.W.Frag} {mg : Str → Option Value} {base : Heap}
def zf5 : Sp := fun vs H Q _ => ∃ (c : Int), vs = [.int c] ∧ ∀ (a : Addr) (H' : Hp) (g : List Int), Same H H' → H a = none → H' a = some (.lst (g.map V.int)) → Inc g → 2 ≤ g.length → g.length ≤ 39 → (∀ x ∈ g, -(10 ^ 60 - 1) < x ∧ x < 10 ^ 60 - 1) → Q (.ref a) H'
theorem zcL : FnScope ["_law_cell", "_law_many", "_law_wide", "_law_start", "_law_found", "_law_k"] ["_law_cell"] (zab zaM) := ⟨rfl, rfl, rfl, by decide +kernel, rfl, by decide +kernel, by decide +kernel⟩
theorem ziQ {f : Addr} {fd : FuncData} (F : Fun K "_law_grid" "_law_grid" zaM f fd) (mr : mg "range" = none) (FM : FnP P w K mg base 1 "_law_mix" ["_law_cell", "_law_j"] zeX) : FnOk P w K mg base CX0 2 f fd ["_law_cell"] zf5 := by
 refine F.okJ zcL (fun vs H Q E h => ?_) (fun cdv A outer s H vs Q E hr h => ?_)
 ·obtain ⟨c, rfl, _⟩ := h
  rfl
 ·obtain ⟨c, rfl, k⟩ := h
  refine ⟨_, zag (zay 1 zcL.nd (e_ix zbc (zb4 (ac e_i (ac e_i (ac e_i (ac e_i (a1 e_i)))))) (e_op zbt (e_fn FM hr (ac (e_v 0) (a1 e_i))) e_i)))
   (zag (zay 2 zcL.nd (e_ix zbc (zb4 (ac e_i (ac e_i (ac e_i (a1 (e_op zju e_i e_i)))))) (e_op zbt (e_fn FM hr (ac (e_v 0) (a1 e_i))) e_i)))
   (zag (zay 3 zcL.nd (e_op zbt (e_v 0) (e_op zju e_i e_i)))
   (zag (s_if (zbl o_eq (e_op zbt (e_fn FM hr (ac (e_v 0) (a1 e_i))) e_i) e_i) (zan (zay 3 zcL.nd (e_un zdc (e_v 3)))) zbo)
   (zag (zay 4 zcL.nd (zb4 (a1 (e_v 3))))
   (zag (zdA (ziB mr (a1 (e_op zhv (e_v 1) e_i))) (g_n 5 zcL.nd)
    (zan (zfF (e_v 4) (e_op zch (e_op zch (e_ix zbc (e_v 4) (e_v 5)) e_i) (e_op zbt (e_fn FM hr (ac (e_v 0) (a1 (e_op zch e_i (e_v 5))))) (e_v 2))))))
   (zan (zaR (e_v 4)))))))), ?_⟩
  refine ⟨by show 5 ≤ sizeLine; decide, fun p1 h1 => ?_⟩
  refine ⟨_, rfl, c, 1, rfl, by decide, by decide, fun r hr1 => ⟨_, _, rfl, rfl, pz, ?_⟩⟩
  have r1 : 0 ≤ r % 5 := Int.emod_nonneg _ (by decide)
  have r2 : r % 5 < 5 := Int.emod_lt_of_pos _ (by decide)
  obtain ⟨many, hm, em⟩ := zcI (ns := [2, 3, 5, 8, 12]) r1 (by simpa using r2)
  refine ⟨p1, _, _, _, rfl, rfl, SqL.of zac, em, ?_⟩
  have hm2 : 2 ≤ many ∧ many ≤ 39 := by simp at hm; omega
  have s1 : Same H (upd H p1 (.lst [.int 2, .int 3, .int 5, .int 8, .int 12])) := (Same.refl H).upd h1
  generalize upd H p1 (.lst [.int 2, .int 3, .int 5, .int 8, .int 12]) = H1 at s1 ⊢
  refine ⟨_, _, rfl, rfl, ⟨by decide, by decide, by decide⟩, by show 4 ≤ sizeLine; decide, fun p2 h2 => ?_⟩
  refine ⟨_, rfl, c, 2, rfl, by decide, by decide, fun r' hr2 => ⟨_, _, rfl, rfl, pz, ?_⟩⟩
  have r3 : 0 ≤ r' % 4 := Int.emod_nonneg _ (by decide)
  have r4 : r' % 4 < 4 := Int.emod_lt_of_pos _ (by decide)
  obtain ⟨wide, hw, ew⟩ := zcI (ns := [1, 2, 3, 10 ^ (20 : Int).toNat]) r3 (by simpa using r4)
  refine ⟨p2, _, _, _, rfl, rfl, SqL.of zac, ew, ?_⟩
  have hw2 : 0 < wide := by
   simp at hw
   rcases hw with z | z | z | z
   ·omega
   ·omega
   ·omega
   ·rw [z]; decide
  have hw3 : wide ≤ 10 ^ 20 := by
   simp at hw
   rcases hw with z | z | z | z
   ·rw [z]; decide
   ·rw [z]; decide
   ·rw [z]; decide
   ·rw [z]; decide
  have s2 : Same H (upd H1 p2 (.lst [.int 1, .int 2, .int 3, .int (10 ^ (20 : Int).toNat)])) := s1.trans ((Same.refl H1).upd h2)
  generalize upd H1 p2 (.lst [.int 1, .int 2, .int 3, .int (10 ^ (20 : Int).toNat)]) = H2 at s2 ⊢
  refine ⟨_, rfl, _, _, rfl, rfl, ⟨by decide, by decide, by decide⟩, _, _, rfl, rfl, by show (0 : Int) < 10 ^ (59 : Int).toNat; decide, ?_⟩
  refine ⟨_, rfl, c, 3, rfl, by decide, by decide, fun r5 hr5 => ⟨_, _, rfl, rfl, pz, rfl, _, rfl, ?_⟩⟩
  have rest : ∀ st : Int, -(10 ^ 59) ≤ st → st ≤ 10 ^ 59 → tSeq (tAsg (tLst (zap (tVar 3) tNil)) (za5 4)) (tSeq (tFor (ziS (zap (tOp (rI0 fun i j => .int (i - j)) (tVar 1) (tC (.int 1))) tNil)) (za5 5)
    (zem (tBM K "list" zbW (tVar 4) (zap (tOp (rI0 fun i j => .int (i + j)) (tOp (rI0 fun i j => .int (i + j)) (tOp (rIxL K) (tVar 4) (tVar 5)) (tC (.int 1)))
     (tOp (rI (fun _ j => 0 < j) fun i j => .int (i % j)) (zci zeX [] E0 (zap (tVar 0) (zap (tOp (rI0 fun i j => .int (i + j)) (tC (.int 4)) (tVar 5)) tNil))) (tVar 2))) tNil)))) (tRet (tVar 4)))
    { nx := fun _ H' => Q .non H', rt := Q } [some (.int c), some (.int many), some (.int wide), some (.int st), none, none] H2 := by
   intro st b1 b2
   refine ⟨_, rfl, by show 1 ≤ sizeLine; decide, fun p3 h3 => ?_⟩
   refine ⟨_, rfl, _, _, rfl, rfl, _, rfl, by omega, by omega, zgA (n := (many - 1).toNat) (fun i σ H3 => ∃ (g : List Int) (o : Option V), σ = [some (.int c), some (.int many), some (.int wide), some (.int st), some (.ref p3), o] ∧ Same H2 H3 ∧ H3 p3 = some (.lst (g.map V.int)) ∧ Inc g ∧ g.length = i + 1 ∧ ∀ x ∈ g, -(10 ^ 59) ≤ x ∧ x ≤ 10 ^ 59 + i * 10 ^ 20)
    ⟨[st], none, rfl, (Same.refl _).upd h3, zac, List.pairwise_singleton _ _, rfl, fun x hx => by rw [List.mem_singleton.mp hx]; exact ⟨b1, by simpa using b2⟩⟩ ?_ ?_⟩
   ·rintro i σ H3 hi ⟨g, o, rfl, sm, hp, inc, hlen, bd⟩
    have hil : i < g.length := by omega
    have hgi : g[i]? = some g[i] := by simp [hil]
    have e0 : (0 : Int) + (i : Int) = ((i : Nat) : Int) := by omega
    have hat : atI (g.map V.int) (0 + (i : Int)) = some (.int g[i]) := by rw [e0]; exact zbL (by simp [hil])
    refine ⟨_, rfl, .inl ⟨rfl, _, SqL.of hp⟩, ?_⟩
    refine ⟨_, rfl, _, rfl, p3, _, _, _, rfl, rfl, SqL.of hp, hat, _, _, rfl, rfl, _, rfl, _, rfl, _, _, rfl, rfl, c, _, rfl, by omega, by omega, fun r6 hr6 => ?_⟩
    refine ⟨_, rfl, _, _, rfl, rfl, hw2, _, _, rfl, rfl, p3, _, _, rfl, rfl, hp, zam (by rw [List.length_map]; omega), ?_⟩
    have hx : g[i] < g[i] + 1 + r6 % wide := by
     have := Int.emod_nonneg r6 (show wide ≠ 0 by omega)
     omega
    refine ⟨g ++ [g[i] + 1 + r6 % wide], _, rfl, sm.upd h3, ?_, zhV inc (by omega) hgi hx, by rw [List.length_append, List.length_singleton]; omega, fun x hxx => ?_⟩
    ·rw [zac]
     simp
    ·have m1 := Int.emod_lt_of_pos r6 hw2
     have m2 := Int.emod_nonneg r6 (show wide ≠ 0 by omega)
     have bi := bd g[i] (List.getElem_mem hil)
     have ei : ((i + 1 : Nat) : Int) * 10 ^ 20 = (i : Int) * 10 ^ 20 + 10 ^ 20 := by rw [Int.natCast_add, Int.add_mul]; simp
     have p20 : (0 : Int) ≤ 10 ^ 20 := by decide
     rw [ei]
     generalize (i : Int) * 10 ^ 20 = A at *
     generalize (10 : Int) ^ 20 = B at *
     generalize (10 : Int) ^ 59 = C at *
     generalize r6 % wide = D at *
     rcases List.mem_append.mp hxx with z | z
     ·have := bd x z; omega
     ·rw [List.mem_singleton.mp z]; omega
   ·rintro σ H3 ⟨g, o, rfl, sm, hp, inc, hlen, bd⟩
    refine ⟨_, rfl, k p3 H3 g (s2.trans sm) (s2.free h3) hp inc (by omega) (by omega) fun x hx => ?_⟩
    have bx := bd x hx
    have hm : (((many - 1).toNat : Nat) : Int) * 10 ^ 20 ≤ 38 * 10 ^ 20 := Int.mul_le_mul_of_nonneg_right (by omega) (by decide)
    have q1 : (38 : Int) * 10 ^ 20 ≤ 10 ^ 59 := by decide
    have q2 : (10 : Int) ^ 60 = 10 * 10 ^ 59 := by decide
    have q3 : (1 : Int) < 10 ^ 59 := by decide
    rw [q2]
    generalize (((many - 1).toNat : Nat) : Int) * 10 ^ 20 = A at *
    generalize (38 : Int) * 10 ^ 20 = B at *
    generalize (10 : Int) ^ 59 = C at *
    omega
  have c1 : 0 ≤ c % 10 ^ (59 : Int).toNat := Int.emod_nonneg _ (by decide)
  have c2 : c % 10 ^ (59 : Int).toNat < 10 ^ (59 : Int).toNat := Int.emod_lt_of_pos _ (by decide)
  have e59 : (10 : Int) ^ (59 : Int).toNat = 10 ^ 59 := rfl
  refine ite2 (fun _ => ?_) (fun _ => rest _ (by rw [e59] at *; omega) (by rw [e59] at *; omega))
  exact ⟨_, rfl, _, rfl, rest _ (by rw [e59] at *; omega) (by rw [e59] at *; omega)⟩
def zhE : Sp := fun vs H Q _ => ∃ (a : Addr) (g : List Int) (f l : Nat), vs = [.ref a, .int f, .int l] ∧ H a = some (.lst (g.map V.int)) ∧ f ≤ g.length ∧ ∀ t, H t = none → Q (.ref t) (upd H t (.tup [vO (stt g f l).1, vO (stt g f l).2]))
theorem zgP : FnScope ["_law_grid_here", "_law_first", "_law_last", "_law_start", "_law_end"] ["_law_grid_here", "_law_first", "_law_last"] (zab zar) := ⟨rfl, rfl, rfl, by decide +kernel, rfl, by decide +kernel, by decide +kernel⟩
theorem zj6 {f : Addr} {fd : FuncData} (F : Fun K "_law_stretch" "_law_stretch" zar f fd) (ml : mg "len" = none) : FnOk P w K mg base CX0 1 f fd ["_law_grid_here", "_law_first", "_law_last"] zhE := by
 refine F.okJ zgP (fun vs H Q E h => ?_) (fun cdv A outer s H vs Q E hr h => ?_)
 ·obtain ⟨a, g, f, l, rfl, _⟩ := h
  rfl
 ·obtain ⟨a, g, f, l, rfl, ha, hf, k⟩ := h
  refine ⟨_, zag (zay 3 zgP.nd e_n) (zag (zay 4 zgP.nd e_n)
   (zag (s_if (zbl o_gt (e_v 1) e_i) (zan (zay 3 zgP.nd (e_ix zbc (e_v 0) (e_op zhv (e_v 1) e_i)))) zbo)
   (zag (s_if (zbl o_lt (e_v 2) (e_cb zcm ml PySem.boot_len (a1 (e_v 0)))) (zan (zay 4 zgP.nd (e_ix zbc (e_v 0) (e_v 2)))) zbo)
   (zan (zaR (zcK (ac (e_v 3) (a1 (e_v 4))))))))), ?_⟩
  have second : ∀ v : V, v = vO (stt g f l).1 → tSeq (tIfS (zea (tOp (rI0 fun i j => .bl (decide (i < j))) (tVar 2) (tCB (fun xs H Q => ∃ p ys, xs = [.ref p] ∧ (SqL K H p ys ∨ SqT K H p ys) ∧ Q (.int ys.length) H) (zap (tVar 0) tNil))))
    (tAsg (tOp (rIxL K) (tVar 0) (tVar 2)) (za5 4)) zfK) (tRet (tTup (zap (tVar 3) (zap (tVar 4) tNil)))) { nx := fun _ H' => Q .non H', rt := Q } [some (.ref a), some (.int f), some (.int l), some v, some .non] H := by
   intro v hv
   refine ⟨_, rfl, _, rfl, a, _, rfl, .inl (SqL.of ha), _, _, rfl, rfl, _, rfl, ?_⟩
   refine ite2 (fun hc => ?_) (fun hc => ?_)
   ·have hl : l < g.length := by
     have := of_decide_eq_true hc
     rw [List.length_map] at this
     omega
    refine ⟨_, rfl, _, rfl, a, _, _, _, rfl, rfl, SqL.of ha, zbL (v := .int g[l]) (by simp [hl]), ?_⟩
    refine ⟨_, rfl, _, rfl, by show 2 ≤ sizeLine; decide, fun t ht => ?_⟩
    have e2 : (V.int g[l]) = vO (stt g f l).2 := by show _ = vO (g[l]?); simp [hl, vO]
    rw [hv, e2]
    exact k t ht
   ·have hl : ¬ l < g.length := by
     intro z
     refine hc (decide_eq_true ?_)
     rw [List.length_map]
     omega
    refine ⟨_, rfl, _, rfl, by show 2 ≤ sizeLine; decide, fun t ht => ?_⟩
    have e2 : V.non = vO (stt g f l).2 := by show _ = vO (g[l]?); rw [List.getElem?_eq_none (by omega)]; rfl
    rw [hv, e2]
    exact k t ht
  refine ⟨_, rfl, _, _, rfl, rfl, _, rfl, ?_⟩
  refine ite2 (fun hc => ?_) (fun hc => ?_)
  ·have h0 : 0 < f := by have := of_decide_eq_true hc; omega
   have hl : f - 1 < g.length := by omega
   have e1 : ((f : Nat) : Int) - 1 = ((f - 1 : Nat) : Int) := by omega
   refine ⟨_, rfl, _, rfl, _, _, rfl, rfl, a, _, _, _, rfl, rfl, SqL.of ha, (by rw [e1]; exact zbL (v := .int g[f - 1]) (by simp [hl])), second _ ?_⟩
   show _ = vO (if f = 0 then none else g[f - 1]?)
   rw [if_neg (by omega)]
   simp [hl, vO]
  ·have h0 : f = 0 := by
    refine Nat.eq_zero_of_not_pos fun z => hc (decide_eq_true ?_)
    omega
   refine second _ ?_
   show _ = vO (if f = 0 then none else g[f - 1]?)
   rw [if_pos h0]
   rfl
end
section
variable {P : Program} {w : World} {K : PySem.W.Frag} {mg : Str → Option Value} {base : Heap}
def zfu : Sp := fun vs H Q _ => ∃ (a b : Addr) (g : List Int) (lit : List Bool), vs = [.ref a, .ref b] ∧ H a = some (.lst (g.map V.int)) ∧ H b = some (.lst (lit.map V.bl)) ∧ Inc g ∧ lit.length = g.length + 1 ∧ g.length ≤ 39 ∧
 ∀ (r : Addr) (H' : Hp) (zs : List Stt), Same H H' → H r = none → SpanAt H' r zs → zs.length ≤ 50 → Can zs → (∀ m, zah m zs = (lit[zaU g m]?).getD false) → Q (.ref r) H'
theorem zdm : FnScope ["_law_grid_here", "_law_lit", "_law_found", "_law_first", "_law_last"] ["_law_grid_here", "_law_lit"] (zab zaJ) := ⟨rfl, rfl, rfl, by decide +kernel, rfl, by decide +kernel, by decide +kernel⟩
theorem zjD {f : Addr} {fd : FuncData} (F : Fun K "_law_span" "_law_span" zaJ f fd) (ml : mg "len" = none) (FS : FnP P w K mg base 1 "_law_stretch" ["_law_grid_here", "_law_first", "_law_last"] zhE) : FnOk P w K mg base CX0 2 f fd ["_law_grid_here", "_law_lit"] zfu := by
  refine F.okJ zdm (fun vs H Q E h => ?_) (fun cdv A outer s H vs Q E hr h => ?_)
  · obtain ⟨a, b, g, lit, rfl, _⟩ := h
    rfl
  · obtain ⟨a, b, g, lit, rfl, ha, hb, inc, hlen, h39, k⟩ := h
    refine ⟨_, zag (zay 2 zdm.nd (zb4 a0)) (zag (zay 3 zdm.nd e_i)
      (zag (zgI (zbl o_lt (e_v 3) (e_cb zcm ml PySem.boot_len (a1 (e_v 1))))
        (zag (zay 4 zdm.nd (e_v 3))
        (zag (zgI (JW.jt (w_and (zbl o_lt (e_v 4) (e_cb zcm ml PySem.boot_len (a1 (e_v 1)))) (zgw (zk6 (e_ix zbc (e_v 1) (e_v 4)))))) (zan (zay 4 zdm.nd (e_op zch (e_v 4) e_i))))
        (zag (s_if (zbl o_gt (e_v 4) (e_v 3)) (zan (zfF (e_v 2) (e_fn FS hr (ac (e_v 0) (ac (e_v 3) (a1 (e_op zhv (e_v 4) e_i))))))) zbo)
        (zan (zay 3 zdm.nd (e_op zch (e_v 4) e_i)))))))
      (zan (zaR (e_v 2))))), ?_⟩
    refine ⟨Nat.zero_le _, fun r hr0 => ?_⟩
    refine ⟨fun m σ H2 => ∃ (n : Nat) (R : List (Nat × Nat)) (zs : List V) (o : Option V), m = lit.length + 1 - n ∧ n ≤ lit.length + 1 ∧ σ = [some (.ref a), some (.ref b), some (.ref r), some (.int n), o] ∧ Same H H2 ∧ H2 r = some (.lst zs) ∧
        StsAt H2 zs (R.map fun q => stt g q.1 q.2) ∧ Runs lit R n ∧ zs.length ≤ n,
      ⟨_, 0, [], [], none, rfl, Nat.zero_le _, rfl, (Same.refl H).upd hr0, zac, .nil, zfE lit, Nat.le_refl _⟩, ?_⟩
    rintro m σ H2 ⟨n, R, zs, o, rfl, hn1, rfl, sm, hz, st, runs, hzl⟩
    have hb2 : H2 b = some (.lst (lit.map V.bl)) := sm _ _ hb
    refine ⟨_, rfl, _, rfl, b, _, rfl, .inl (SqL.of hb2), _, _, rfl, rfl, _, rfl, ?_⟩
    refine ite2 (fun hc => ?_) (fun hc => ?_)
    · have hn : n < lit.length := by
        have := of_decide_eq_true hc
        rw [List.length_map] at this
        omega
      refine ⟨fun σ' H' => ∃ (n' : Nat) (R : List (Nat × Nat)) (zs : List V) (o : Option V), n < n' ∧ n' ≤ lit.length + 1 ∧ σ' = [some (.ref a), some (.ref b), some (.ref r), some (.int n'), o] ∧ Same H H' ∧ H' r = some (.lst zs) ∧
          StsAt H' zs (R.map fun q => stt g q.1 q.2) ∧ Runs lit R n' ∧ zs.length ≤ n', fun σ' H' ⟨n', R', zs', o', h1, h2, h3, h4⟩ => ⟨_, by omega, n', R', zs', o', rfl, h2, h3, h4⟩, ?_⟩
      refine ⟨_, rfl, ?_⟩
      have tail : ∀ last : Nat, n ≤ last → last ≤ lit.length → (∀ k, n ≤ k → k < last → lit[k]? = some true) → (last < lit.length → lit[last]? = some false) →
          tSeq (tIfS (zea (tOp (rI0 fun i j => .bl (decide (j < i))) (tVar 4) (tVar 3))) (zem (tBM K "list" zbW (tVar 2) (zap (zci zhE [] E0 (zap (tVar 0) (zap (tVar 3) (zap (tOp (rI0 fun i j => .int (i - j)) (tVar 4) (tC (.int 1))) tNil)))) tNil))) zfK)
            (tAsg (tOp (rI0 fun i j => .int (i + j)) (tVar 4) (tC (.int 1))) (za5 3))
            { nx := fun σ' H' => ∃ (n' : Nat) (R : List (Nat × Nat)) (zs : List V) (o : Option V), n < n' ∧ n' ≤ lit.length + 1 ∧ σ' = [some (.ref a), some (.ref b), some (.ref r), some (.int n'), o] ∧ Same H H' ∧ H' r = some (.lst zs) ∧
                StsAt H' zs (R.map fun q => stt g q.1 q.2) ∧ Runs lit R n' ∧ zs.length ≤ n', rt := Q,
              bk := fun σ H => tRet (tVar 2) { nx := fun _ H' => Q .non H', rt := Q } σ H,
              ct := fun σ' H' => ∃ (n' : Nat) (R : List (Nat × Nat)) (zs : List V) (o : Option V), n < n' ∧ n' ≤ lit.length + 1 ∧ σ' = [some (.ref a), some (.ref b), some (.ref r), some (.int n'), o] ∧ Same H H' ∧ H' r = some (.lst zs) ∧
                StsAt H' zs (R.map fun q => stt g q.1 q.2) ∧ Runs lit R n' ∧ zs.length ≤ n' }
            [some (.ref a), some (.ref b), some (.ref r), some (.int n), some (.int last)] H2 := by
        intro last h1 h2 ht hf
        refine ⟨_, rfl, _, rfl, _, _, rfl, rfl, _, rfl, ?_⟩
        have ein : ((last : Nat) : Int) + 1 = ((last + 1 : Nat) : Int) := by omega
        refine ite2 (fun hc => ?_) (fun hc => ?_)
        · have hlt : n < last := by have := of_decide_eq_true hc; omega
          have e1 : ((last : Nat) : Int) - 1 = ((last - 1 : Nat) : Int) := by omega
          refine ⟨_, rfl, .inl ⟨rfl, _, SqL.of hz⟩, _, rfl, _, rfl, _, rfl, _, _, rfl, rfl, a, g, n, last - 1, ?_, sm _ _ ha, by omega, fun t ht' => ?_⟩
          · show [V.ref a, V.int n, V.int ((last : Int) - 1)] = _
            rw [e1]
          have sm3 : Same H2 (upd H2 t (.tup [vO (stt g n (last - 1)).1, vO (stt g n (last - 1)).2])) := (Same.refl _).upd ht'
          refine ⟨r, zs, _, rfl, rfl, sm3 _ _ hz, zam (by omega), ?_⟩
          refine ⟨_, rfl, _, _, rfl, rfl, last + 1, R ++ [(n, last - 1)], zs ++ [.ref t], some (.int last), by omega, by omega, ?_, fun c u e => ?_, zac, ?_, zhg runs hlt h2 ht hf, by rw [List.length_append, List.length_singleton]; omega⟩
          · show [some (V.ref a), some (V.ref b), some (V.ref r), some (V.int ((last : Int) + 1)), some (V.int last)] = _
            rw [ein]
          · rw [zaj (zal e hr0)]; exact sm3 _ _ (sm c u e)
          · rw [List.map_append]
            exact StsAt.wr (zbh (sm3 _ _ hz)) (zav (R := StAt (upd H2 t (.tup [vO (stt g n (last - 1)).1, vO (stt g n (last - 1)).2]))) ⟨t, rfl, zac⟩ (StsAt.same sm3 st))
        · have hlt : last = n := by
            have : ¬ n < last := fun z => hc (decide_eq_true (by omega))
            omega
          subst hlt
          refine ⟨_, rfl, _, _, rfl, rfl, last + 1, R, zs, some (.int last), by omega, by omega, ?_, sm, hz, st, zgU runs hf, by omega⟩
          show [some (V.ref a), some (V.ref b), some (V.ref r), some (V.int ((last : Int) + 1)), some (V.int last)] = _
          rw [ein]
      refine ⟨fun m σ H3 => ∃ last : Nat, m = lit.length - last ∧ σ = [some (.ref a), some (.ref b), some (.ref r), some (.int n), some (.int last)] ∧ H3 = H2 ∧ n ≤ last ∧ last ≤ lit.length ∧ ∀ k, n ≤ k → k < last → lit[k]? = some true,
        ⟨_, n, rfl, rfl, rfl, Nat.le_refl _, by omega, fun k h1 h2 => by omega⟩, ?_⟩
      rintro m σ H3 ⟨last, rfl, rfl, rfl, h1, h2, h3⟩
      refine ⟨_, rfl, _, rfl, b, _, rfl, .inl (SqL.of hb2), _, _, rfl, rfl, _, rfl, ?_⟩
      refine ite2 (fun hc => ?_) (fun hc => ?_)
      · have hl : last < lit.length := by
          have := of_decide_eq_true hc
          rw [List.length_map] at this
          omega
        refine ⟨_, rfl, _, rfl, b, _, _, .bl lit[last], rfl, rfl, SqL.of hb2, zbL (by simp [hl]), lit[last], rfl, ?_⟩
        cases e : lit[last] with
        | true =>
          refine iteT ?_
          refine ⟨_, fun σ' H' z => z, _, rfl, _, _, rfl, rfl, lit.length - (last + 1), by omega, last + 1, rfl, ?_, rfl, by omega, by omega, fun k k1 k2 => ?_⟩
          · have ein : ((last : Nat) : Int) + 1 = ((last + 1 : Nat) : Int) := by omega
            show [some (V.ref a), some (V.ref b), some (V.ref r), some (V.int n), some (V.int ((last : Int) + 1))] = _
            rw [ein]
          · by_cases hk : k < last
            · exact h3 k k1 hk
            · obtain rfl : k = last := by omega
              simp [hl, e]
        | false =>
          refine iteF ?_
          exact tail last h1 h2 h3 fun _ => by simp [hl, e]
      · refine iteF ?_
        have hl : ¬ last < lit.length := fun z => hc (decide_eq_true (by rw [List.length_map]; omega))
        exact tail last h1 h2 h3 fun z => absurd z hl
    · have hn : lit.length ≤ n := by
        have : ¬ n < lit.length := fun z => hc (decide_eq_true (by rw [List.length_map]; omega))
        omega
      obtain ⟨c1, c2⟩ := zhx inc hlen hn runs
      have l1 : zs.length = R.length := by have := Paired.length st; rw [List.length_map] at this; exact this
      exact ⟨_, rfl, k r H2 _ sm hr0 ⟨zs, hz, st⟩ (by rw [List.length_map]; omega) c1 c2⟩
end
section
variable {P : Program} {w : World} {K : PySem.W.Frag} {mg : Str → Option Value} {base : Heap}
def keyO : Option Int → List Int
 | none => [0, 0]
 | some a => [1, a]
def zeS (K : PySem.W.Frag) : Sp := fun vs H Q _ => ∃ (p : Addr) (a b : Option Int), vs = [.ref p] ∧ SqT K H p [vO a, vO b] ∧ ∀ t, H t = none → Q (.ref t) (upd H t (.tup ((keyO a).map V.int)))
theorem zjb : FnScope ["stretch"] ["stretch"] (zab zau) := ⟨rfl, rfl, rfl, by decide +kernel, rfl, by decide +kernel, by decide +kernel⟩
theorem zht {f : Addr} {fd : FuncData} (F : Fun K "start_order" "start_order" zau f fd) : FnOk P w K mg base CX0 1 f fd ["stretch"] (zeS K) := by
 refine F.okJ zjb (fun vs H Q E h => ?_) (fun cdv A outer s H vs Q E hr h => ?_)
 ·obtain ⟨p, a, b, rfl, _⟩ := h
  rfl
 ·obtain ⟨p, a, b, rfl, hp, k⟩ := h
  refine ⟨_, zag (s_if (zgi ( (e_ix zcC (e_v 0) e_i))) (zan (zaR (zcK (ac e_i (a1 e_i))))) zbo)
   (zan (zaR (zcK (ac e_i (a1 (e_ix zcC (e_v 0) e_i)))))), ?_⟩
  refine ⟨_, rfl, p, _, 0, _, rfl, rfl, hp, rfl, _, rfl, ?_⟩
  cases a with
  | none =>
   refine iteT ?_
   exact ⟨by show 2 ≤ sizeLine; decide, fun t ht => k t ht⟩
  | some a =>
   refine iteF ?_
   exact ⟨_, rfl, p, _, 0, _, rfl, rfl, hp, rfl, by show 2 ≤ sizeLine; decide, fun t ht => k t ht⟩
def zfe (K : PySem.W.Frag) : Sp := fun vs H Q _ => ∃ (p : Addr) (a b s : Option Int), vs = [.ref p, vO s] ∧ SqT K H p [vO a, vO b] ∧ Q (.bl (zb6 (a, b) s)) H
theorem ziP : FnScope ["stretch", "start"] ["stretch", "start"] (zab za7) := ⟨rfl, rfl, rfl, by decide +kernel, rfl, by decide +kernel, by decide +kernel⟩
theorem zhL {f : Addr} {fd : FuncData} (F : Fun K "reaches" "reaches" za7 f fd) : FnOk P w K mg base CX0 1 f fd ["stretch", "start"] (zfe K) := by
 refine F.okJ ziP (fun vs H Q E h => ?_) (fun cdv A outer s H vs Q E hr h => ?_)
 ·obtain ⟨p, a, b, s, rfl, _⟩ := h
  rfl
 ·obtain ⟨p, a, b, st, rfl, hp, k⟩ := h
  refine ⟨_, zan (zaR (e_or (zhW ( (e_v 1))) (e_or (zhW ( (e_ix zcC (e_v 0) e_i))) (zi6 (zgM o_le (e_v 1) (e_ix zcC (e_v 0) e_i)))))), ?_⟩
  refine ⟨_, rfl, _, rfl, ?_⟩
  cases st with
  | none => exact iteT k
  | some c =>
   refine iteF ?_
   refine ⟨_, rfl, p, _, 1, _, rfl, rfl, hp, rfl, _, rfl, ?_⟩
   cases b with
   | none => exact iteT k
   | some b =>
    refine iteF ?_
    exact ⟨_, rfl, _, rfl, p, _, 1, _, rfl, rfl, hp, rfl, _, _, rfl, rfl, k⟩
def zeR : Sp := fun vs H Q _ => ∃ (a b : Option Int), vs = [vO a, vO b] ∧ Q (vO (zca a b)) H
theorem zjE : FnScope ["one", "other"] ["one", "other"] (zab zaO) := ⟨rfl, rfl, rfl, by decide +kernel, rfl, by decide +kernel, by decide +kernel⟩
theorem zhO {f : Addr} {fd : FuncData} (F : Fun K "later_end" "later_end" zaO f fd) (mx : mg "max" = none) : FnOk P w K mg base CX0 1 f fd ["one", "other"] zeR := by
 refine F.okJ zjE (fun vs H Q E h => ?_) (fun cdv A outer s H vs Q E hr h => ?_)
 ·obtain ⟨a, b, rfl, _⟩ := h
  rfl
 ·obtain ⟨a, b, rfl, k⟩ := h
  refine ⟨_, zag (s_if (JW.jt (w_or (zgi ( (e_v 0))) (zig (zgi ( (e_v 1)))))) (zan (zaR e_n)) zbo)
   (zan (zaR (e_cb zlv mx PyProof.Rows.boot_max (ac (e_v 0) (a1 (e_v 1)))))), ?_⟩
  refine ⟨_, rfl, _, rfl, ?_⟩
  cases a with
  | none => exact iteT (iteT (by cases b <;> exact k))
  | some a =>
   refine iteF ?_
   refine ⟨_, rfl, _, rfl, ?_⟩
   cases b with
   | none => exact iteT k
   | some b =>
    refine iteF ?_
    refine ⟨_, rfl, _, rfl, a, b, rfl, ?_⟩
    have e : (if b > a then b else a) = max a b := by split <;> omega
    rw [e]
    exact k
end
def kfH (H : Hp) : V → List Int
 | .ref t => (match H t with
  | some (.tup (.int a :: _)) => [1, a]
  | _ => [0, 0])
 | _ => [0, 0]
theorem zc6 {H : Hp} {v : V} {s : Stt} (h : StAt H v s) : kfH H v = keyO s.1 := by
 obtain ⟨t, rfl, h2⟩ := h
 obtain ⟨a, b⟩ := s
 cases a <;> simp only [kfH, h2, vO, keyO]
theorem zkN (H : Hp) (v : V) : kfH H v ≠ [] := by
 unfold kfH
 split
 ·split <;> simp
 ·simp
theorem zg1 {a b : Option Int} (h : lexI (keyO b) (keyO a) = false) : leO a b := by
 cases a with
 | none => trivial
 | some x =>
  cases b with
  | none => simp [keyO, lexI] at h
  | some y => simp [keyO, lexI] at h; show x ≤ y; omega
theorem zcM {H : Hp} : ∀ {ys : List V} {ts : List Stt}, StsAt H ys ts → zaV (kfH H) ys → ts.Pairwise fun s q => leO s.1 q.1
 | _, _, .nil, _ => .nil
 | _, _, .cons r t, h => by
  obtain ⟨h1, h2⟩ := List.pairwise_cons.mp h
  refine List.pairwise_cons.mpr ⟨fun q hq => ?_, zcM t h2⟩
  have go : ∀ {ys : List V} {ts : List Stt}, StsAt H ys ts → q ∈ ts → ∃ y ∈ ys, StAt H y q := by
   intro ys ts p
   induction p with
   | nil => intro z; cases z
   | cons r _ ih =>
    intro z
    rcases List.mem_cons.mp z with e | z
    ·subst e; exact ⟨_, List.mem_cons_self, r⟩
    ·obtain ⟨y, hy, k⟩ := ih z
     exact ⟨y, List.mem_cons_of_mem _ hy, k⟩
  obtain ⟨y, hy, k⟩ := go t hq
  have := h1 y hy
  rw [zc6 r, zc6 k] at this
  exact zg1 this
theorem zie {α : Type} {l : List α} {i : Nat} {x q : α} (h : l[i]? = some x) (hq : q ∈ l.drop (i + 1)) : q ∈ l.drop i := by
 obtain ⟨hi, e⟩ := List.getElem?_eq_some_iff.mp h
 rw [List.drop_eq_getElem_cons hi]
 exact List.mem_cons_of_mem _ hq
theorem zhb {l : List Stt} (h : l.Pairwise fun s q => leO s.1 q.1) {i : Nat} {x : Stt} (hx : l[i]? = some x) : ∀ q ∈ l.drop (i + 1), leO x.1 q.1 := by
 obtain ⟨hi, e⟩ := List.getElem?_eq_some_iff.mp hx
 have h2 : (l.drop i).Pairwise fun s q => leO s.1 q.1 := h.sublist (List.drop_sublist _ _)
 rw [List.drop_eq_getElem_cons hi, e] at h2
 exact (List.pairwise_cons.mp h2).1
section
variable {P : Program} {w : World} {K : PySem.W.Frag} {mg : Str → Option Value} {base : Heap}
def zcH : Sp := fun vs H Q _ => ∃ (l : Addr) (ss : List Stt), vs = [.ref l] ∧ SpanAt H l ss ∧ (∀ s ∈ ss, okS s) ∧ ss.length < 64 ∧
 ∀ (r : Addr) (H' : Hp) (zs : List Stt), Same H H' → H r = none → SpanAt H' r zs → Can zs → zs.length ≤ ss.length → (∀ m, zah m zs = zah m ss) → Q (.ref r) H'
theorem zcJ : FnScope ["stretches", "span", "start", "end"] ["stretches"] (zab zbf) := ⟨rfl, rfl, rfl, by decide +kernel, rfl, by decide +kernel, by decide +kernel⟩
structure TidInv (H : Hp) (l sp D : Addr) (ys : List V) (ts : List Stt) (i : Nat) (σ : St) (H2 : Hp) : Prop where
 ex : ∃ (o1 o2 : Option V) (zs : List V) (acc : List Stt), σ = [some (.ref l), some (.ref sp), o1, o2] ∧ Same H H2 ∧ H2 D = some (.lst ys) ∧ StsAt H2 ys ts ∧ H2 sp = some (.lst zs) ∧ StsAt H2 zs acc ∧
  Tidy acc (ts.take i) ∧ (∀ init p, acc = init ++ [p] → ∀ q ∈ ts.drop i, leO p.1 q.1) ∧ acc.length ≤ i ∧ (acc = [] → i = 0)
theorem zga {f : Addr} {fd : FuncData} (F : Fun K "tidied" "tidied" zbf f fd) (ms : mg "sorted" = none) (FO : FnP P w K mg base 1 "start_order" ["stretch"] (zeS K))
  (FR : FnP P w K mg base 1 "reaches" ["stretch", "start"] (zfe K)) (FL : FnP P w K mg base 1 "later_end" ["one", "other"] zeR) : FnOk P w K mg base CX0 4 f fd ["stretches"] zcH := by
 refine F.okJ zcJ (fun vs H Q E h => ?_) (fun cdv A outer s H vs Q E hr h => ?_)
 ·obtain ⟨l, ss, rfl, _⟩ := h
  rfl
 ·obtain ⟨l, ss, rfl, ⟨xs, hl, hs⟩, ok, h64, k⟩ := h
  refine ⟨_, zag (zay 1 zcJ.nd (zb4 a0))
   (zag (zdA (zbg (zjw FO hr ms (a1 (e_v 0)))) (zee (zaI (g_n 2 zcJ.nd) (zaI (g_n 3 zcJ.nd) zct)))
    (zan (s_if (JW.jt (w_and (zk6 (e_v 1)) (zgw (zeg (e_fn FR hr (ac (e_ix zbc (e_v 1) (e_un zdc e_i)) (a1 (e_v 2))))))))
     (zan (zkE (zcK (ac (e_ix zcC (e_ix zbc (e_v 1) (e_un zdc e_i)) e_i)
      (ac (e_fn FL hr (ac (e_ix zcC (e_ix zbc (e_v 1) (e_un zdc e_i)) e_i) (a1 (e_v 3)))) a0))) (zkX (e_v 1) (e_un zdc e_i) ziq)))
     (zan (zfF (e_v 1) (zcK (ac (e_v 2) (a1 (e_v 3)))))))))
   (zan (zaR (e_v 1)))), ?_⟩
  refine ⟨Nat.zero_le _, fun sp hsp => ?_⟩
  have s0 : Same H (upd H sp (.lst [])) := (Same.refl H).upd hsp
  have hlen : xs.length = ss.length := Paired.length hs
  refine ⟨_, rfl, l, xs, kfH (upd H sp (.lst [])), rfl, SqL.of (s0 _ _ hl), by omega, fun x _ => zkN _ x, fun H2 y sm hy => ?_, fun D H' ys sm hD hD' hp hso => ?_⟩
  ·obtain ⟨st, _, sy⟩ := zcq (hs.same s0) hy
   rw [zc6 sy]
   obtain ⟨t, rfl, ht⟩ := sy
   exact ⟨t, st.1, st.2, rfl, SqT.of (sm _ _ ht), fun t' ht' => ⟨t', rfl, zac, (Same.refl _).upd ht'⟩⟩
  have s1 : Same H H' := s0.trans sm
  obtain ⟨ts, pt, st⟩ := zeQ hp (hs.same s1)
  have rise : ts.Pairwise fun s q => leO s.1 q.1 := by
   refine zcM st ?_
   refine hso.imp_of_mem fun {a b} ha hb hab => ?_
   obtain ⟨u, _, ua⟩ := zcq (hs.same s0) (hp.mem_iff.mp ha)
   obtain ⟨v, _, vb⟩ := zcq (hs.same s0) (hp.mem_iff.mp hb)
   rw [zc6 ua, zc6 vb] at hab
   rw [zc6 (ua.same sm), zc6 (vb.same sm)]
   exact hab
  have oks : ∀ s ∈ ts, okS s := fun s hs' => ok s (pt.mem_iff.mp hs')
  have hH'sp : H' sp = some (.lst []) := sm _ _ zac
  have nD : H D = none := s0.free hD
  have nDsp : D ≠ sp := fun e => by rw [e, zac] at hD; cases hD
  refine ⟨D, rfl, ⟨_, SqL.of hD'⟩, zbF (K := K) (a := D) (xs := ys) (TidInv H l sp D ys ts) ⟨none, none, [], [], rfl, s1, hD', st, hH'sp, .nil, zf2, fun init p e => absurd e (by simp), Nat.le_refl _, fun _ => rfl⟩
   (fun i σ H2 _ t => let ⟨_, _, _, _, _, _, h, _⟩ := t.ex; SqL.of h) ?_ ?_⟩
  ·rintro i x σ H2 hx ⟨o1, o2, zs, acc, rfl, sm2, hD2, st2, hsp2, sz, T, hle, hal, hnil⟩
   obtain ⟨q, hq, t, rfl, ht⟩ := zax st2 hx
   have hqm : q ∈ ts := List.mem_of_getElem? hq
   have lzs : zs.length = acc.length := Paired.length sz
   have hi : i < ys.length := (List.getElem?_eq_some_iff.mp hx).1
   have lys : ys.length < 64 := by rw [hp.length_eq]; omega
   have lrest : ∀ z ∈ ts.drop (i + 1), leO q.1 z.1 := zhb rise hq
   refine ⟨t, _, rfl, SqT.of ht, rfl, _, _, rfl, _, _, rfl, rfl, ?_⟩
   have app : ∀ (acc' : List Stt), Tidy (acc ++ [q]) (ts.take (i + 1)) → zem (tBM K "list" zbW (tVar 1) (zap (tTup (zap (tVar 2) (zap (tVar 3) tNil))) tNil)) { nx := TidInv H l sp D ys ts (i + 1), rt := Q, bk := fun σ' H' => tRet (tVar 1) { nx := fun _ H' => Q .non H', rt := Q } σ' H', ct := TidInv H l sp D ys ts (i + 1) }
     [some (.ref l), some (.ref sp), some (vO q.1), some (vO q.2)] H2 := fun _ T' => by
    refine ⟨_, rfl, .inl ⟨rfl, _, SqL.of hsp2⟩, _, rfl, _, rfl, by show 2 ≤ sizeLine; decide, fun t' ht' => ?_⟩
    have nt : sp ≠ t' := zal hsp2 ht'
    have sm3 : Same H2 (upd H2 t' (.tup [vO q.1, vO q.2])) := (Same.refl _).upd ht'
    refine ⟨sp, zs, _, rfl, rfl, sm3 _ _ hsp2, zam (by omega), ?_⟩
    refine ⟨_, _, zs ++ [.ref t'], acc ++ [q], rfl, fun b o e => ?_, ?_, ?_, zac, ?_, T', fun init p e z hz => ?_, by rw [List.length_append, List.length_singleton]; omega, fun e => absurd e (by simp)⟩
    ·rw [zaj (zal e hsp)]; exact sm3 _ _ (sm2 b o e)
    ·rw [zaj nDsp]; exact sm3 _ _ hD2
    ·exact (st2.same sm3).wr (zbh (sm3 _ _ hsp2))
    ·exact StsAt.wr (zbh (sm3 _ _ hsp2)) (zav (R := StAt (upd H2 t' (.tup [vO q.1, vO q.2]))) ⟨t', rfl, zac⟩ (sz.same sm3))
    ·have e2 := (List.append_inj_right' e rfl)
     have e3 : q = p := by simpa using e2
     rw [← e3]
     exact lrest z hz
   rcases List.eq_nil_or_concat acc with rfl | ⟨init, p, rfl⟩
   ·-- nothing yet
    cases sz
    have h0 : i = 0 := hnil rfl
    refine ⟨_, rfl, false, .inl ⟨[], SqL.of hsp2, rfl⟩, iteF (iteF (app [] ?_))⟩
    subst h0
    rw [take_snoc hq, List.take_zero]
    exact zf3 (oks q hqm)
   ·rw [List.concat_eq_append] at *
    obtain ⟨zi, z, rfl, sz1, tz, rfl, hz⟩ := zcu sz
    have hpq : leO p.1 q.1 := hle init p rfl q (by rw [List.drop_eq_getElem_cons (List.getElem?_eq_some_iff.mp hq).1, (List.getElem?_eq_some_iff.mp hq).2]; exact List.mem_cons_self)
    refine ⟨_, rfl, true, .inl ⟨_, SqL.of hsp2, by simp⟩, iteT ?_⟩
    refine ⟨_, rfl, _, rfl, sp, _, -1, .ref tz, rfl, rfl, SqL.of hsp2, zdJ zi _, _, rfl, tz, p.1, p.2, q.1, rfl, SqT.of hz, _, rfl, ?_⟩
    cases e : zb6 (p.1, p.2) q.1 with
    | false =>
     refine iteF (app [] ?_)
     rw [take_snoc hq]
     exact zhM T hpq e (oks q hqm)
    | true =>
     refine iteT ?_
     refine ⟨_, rfl, _, rfl, sp, _, -1, .ref tz, rfl, rfl, SqL.of hsp2, zdJ zi _, tz, _, 0, _, rfl, rfl, SqT.of hz, rfl, _, rfl, _, rfl, sp, _, -1, .ref tz, rfl, rfl, SqL.of hsp2, zdJ zi _, tz, _, 1, _, rfl, rfl, SqT.of hz, rfl, _, rfl, p.2, q.2, rfl, ?_⟩
     refine ⟨by show 2 ≤ sizeLine; decide, fun t' ht' => ?_⟩
     have nt : sp ≠ t' := zal hsp2 ht'
     have sm3 : Same H2 (upd H2 t' (.tup [vO p.1, vO (zca p.2 q.2)])) := (Same.refl _).upd ht'
     have hix : ixN (zi ++ [V.ref tz]).length (-1) = some zi.length := by
      unfold ixN
      rw [List.length_append, List.length_singleton, if_neg (by decide), if_pos (by omega)]
      congr 1
      omega
     refine ⟨_, rfl, _, rfl, sp, _, -1, zi.length, rfl, rfl, sm3 _ _ hsp2, hix, ?_⟩
     have eset : (zi ++ [V.ref tz]).set zi.length (.ref t') = zi ++ [.ref t'] := by simp
     rw [eset]
     refine ⟨_, _, zi ++ [.ref t'], init ++ [(p.1, zca p.2 q.2)], rfl, fun b o e => ?_, ?_, ?_, zac, ?_, ?_, fun init' p' e z hz' => ?_, ?_, fun e => absurd e (by simp)⟩
     ·rw [zaj (zal e hsp)]; exact sm3 _ _ (sm2 b o e)
     ·rw [zaj nDsp]; exact sm3 _ _ hD2
     ·exact (st2.same sm3).wr (zbh (sm3 _ _ hsp2))
     ·exact StsAt.wr (zbh (sm3 _ _ hsp2)) (zav (R := StAt (upd H2 t' (.tup [vO p.1, vO (zca p.2 q.2)]))) ⟨t', rfl, zac⟩ (StsAt.same sm3 sz1))
     ·rw [take_snoc hq]
      exact zfH T hpq e (oks q hqm)
     ·have e2 := (List.append_inj_right' e rfl)
      have e3 : (p.1, zca p.2 q.2) = p' := by simpa using e2
      rw [← e3]
      exact hle init p rfl z (zie hq hz')
     ·rw [List.length_append, List.length_singleton] at *; omega
  ·-- return span
   rintro σ H2 ⟨o1, o2, zs, acc, rfl, sm2, hD2, st2, hsp2, sz, T, hle, hal, hnil⟩
   have lt : ts.length = ys.length := (Paired.length st2).symm
   rw [← lt, List.take_length] at T
   exact ⟨_, rfl, k sp H2 acc sm2 hsp ⟨zs, hsp2, sz⟩ T.can (by have := pt.length_eq; omega) fun m => (T.eq m).trans (zff pt m)⟩
end
section
variable {P : Program} {w : World} {K : PySem.W.Frag} {mg : Str → Option Value} {base : Heap}
def zbH (d : Int) : Nat := (1 + mixF d 61 % 5).toNat
theorem zh8 (d : Int) : 1 ≤ zbH d ∧ zbH d ≤ 5 := by
 unfold zbH
 have h1 := Int.emod_nonneg (mixF d 61) (show (5 : Int) ≠ 0 by decide)
 have h2 := Int.emod_lt_of_pos (mixF d 61) (show (0 : Int) < 5 by decide)
 omega
def zb1 : Sp := fun vs H Q _ => ∃ (d n : Int), vs = [.int d, .int n] ∧ ∀ (t : Addr) (H' : Hp) (row : List Int), Same H H' → H t = none → H' t = some (.tup (row.map V.int)) → row.length = zbH d → (∀ x ∈ row, x.natAbs < 10 ^ 60) → Q (.ref t) H'
theorem zbA : FnScope ["_law_drawn", "_law_number", "_law_far", "_law_some", "_law_digits"] ["_law_drawn", "_law_number"] (zab zaY) := ⟨rfl, rfl, rfl, by decide +kernel, rfl, by decide +kernel, by decide +kernel⟩
theorem zeP {f : Addr} {fd : FuncData} (F : Fun K "_law_row" "_law_row" zaY f fd) (B : Blts mg) (FM : FnP P w K mg base 1 "_law_mix" ["_law_cell", "_law_j"] zeX) (FMF : FnP P w K mg base 1 "_law_mix" ["_law_cell", "_law_j"] zfi) : FnOk P w K mg base CX0 2 f fd ["_law_drawn", "_law_number"] zb1 := by
 refine F.okJ zbA (fun vs H Q E h => ?_) (fun cdv A outer s H vs Q E hr h => ?_)
 ·obtain ⟨_, _, rfl, _⟩ := h
  rfl
 ·obtain ⟨d, n, rfl, k⟩ := h
  have nd : (["_law_digit", "_law_some"] : List Str).Nodup := by decide +kernel
  refine ⟨_, (zag (zay 2 zbA.nd (e_op zch e_i (e_op zbt (e_v 0) (e_op zhv (e_op zju e_i e_i) e_i))))
   (zag (zay 3 zbA.nd (zb4 (ac (e_v 2) (ac (e_un zdc (e_v 2)) (a1 (e_ix zbc (zb4 (ac e_i (a1 (e_op zch (e_v 2) e_i)))) (e_op zbt (e_fn FM hr (ac (e_v 0) (a1 e_i))) e_i)))))))
   (zag (zay 4 zbA.nd (zb4 (ac (e_op zbt (e_v 1) e_i) (ac (e_op zbt (e_op zgn (e_v 1) e_i) e_i) (ac (e_op zbt (e_op zgn (e_v 1) e_i) e_i) (ac (e_op zbt (e_v 1) e_i) (a1 (e_op zbt (e_op zgn (e_v 1) e_i) e_i))))))))
   (zan (zaR (e_ct zgo B.tuple PyProof.Rows.boot_tuple (a1c (zbJ (Nc := ["_law_digit", "_law_some"]) (js := [none, some 3]) (g := (za5 0)) (tt := tYes) (te := (tOp (rIxL K) (tVar 1) (tVar 0)))
   (zba rfl rfl rfl rfl (fun x c h => by (obtain ⟨rfl, rfl⟩ : x = _ ∧ c = _ := (by simpa using h)); rfl) rfl rfl rfl) (zbg (zgF (e_v 4) (e_op zch e_i (e_op zbt (e_fn FMF hr (ac (e_v 0) (a1 e_i))) e_i))))
   (fun pins C s3 H3 fp => ⟨(g_n 0 nd), .inl ⟨rfl, rfl⟩, (e_ix zbc (e_v 1) (e_v 0))⟩))))))))), ?_⟩
  refine ⟨_, rfl, _, _, rfl, rfl, ⟨by decide, by decide, by decide⟩, _, _, rfl, rfl, _, _, rfl, rfl, by show (0 : Int) < 10 ^ (60 : Int).toNat - 3; decide, _, _, rfl, rfl, ?_⟩
  show tSeq _ _ _ [some (.int d), some (.int n), some (.int (2 + d % (10 ^ (60 : Int).toNat - 3))), none, none] H
  have far1 : 2 ≤ 2 + d % (10 ^ (60 : Int).toNat - 3) := by
   have := Int.emod_nonneg d (show (10 ^ (60 : Int).toNat - 3 : Int) ≠ 0 by decide)
   omega
  have far2 : 2 + d % (10 ^ (60 : Int).toNat - 3) ≤ 10 ^ 60 - 2 := by
   have := Int.emod_lt_of_pos d (show (0 : Int) < 10 ^ (60 : Int).toNat - 3 by decide)
   have e : ((10 : Int) ^ (60 : Int).toNat) = 10 ^ 60 := rfl
   rw [e] at this ⊢
   omega
  generalize 2 + d % (10 ^ (60 : Int).toNat - 3) = far at far1 far2 ⊢
  refine ⟨_, rfl, _, rfl, _, rfl, _, rfl, _, _, rfl, rfl, by show 2 ≤ sizeLine; decide, fun p1 h1 => ?_⟩
  refine ⟨_, rfl, d, 60, rfl, by decide, by decide, fun r hr1 => ⟨_, _, rfl, rfl, pz, ?_⟩⟩
  have r1 : 0 ≤ r % 2 := Int.emod_nonneg _ (by decide)
  have r2 : r % 2 < 2 := Int.emod_lt_of_pos _ (by decide)
  obtain ⟨third, th, et⟩ := zcI (ns := [0, far + 1]) r1 (by simpa using r2)
  have bnd : ∀ q ∈ ([far, -far, third] : List Int), q.natAbs < 10 ^ 60 := fun q hq => by
   simp only [List.mem_cons, List.not_mem_nil, or_false] at hq th
   rcases hq with rfl | rfl | rfl <;> omega
  refine ⟨p1, _, _, _, rfl, rfl, SqL.of zac, et, ?_⟩
  have s1 : Same H (upd H p1 (.lst [.int 0, .int (far + 1)])) := (Same.refl H).upd h1
  generalize upd H p1 (.lst [.int 0, .int (far + 1)]) = H1 at s1 ⊢
  refine ⟨by show 3 ≤ sizeLine; decide, fun ps hps => ?_⟩
  have s2 : Same H1 (upd H1 ps (.lst [.int far, .int (-far), .int third])) := (Same.refl H1).upd hps
  have g2 : upd H1 ps (.lst [.int far, .int (-far), .int third]) ps = some (.lst (([far, -far, third] : List Int).map V.int)) := zac
  generalize upd H1 ps (.lst [.int far, .int (-far), .int third]) = H2 at s2 g2 ⊢
  refine ⟨_, rfl, _, _, rfl, rfl, pz, _, rfl, _, _, rfl, rfl, ⟨by decide, by decide⟩, _, _, rfl, rfl, pz, _, rfl, _, _, rfl, rfl, ⟨by decide, by decide⟩, _, _, rfl, rfl, pz, _, rfl, _, _, rfl, rfl, pz, _, rfl, _, _, rfl, rfl, ⟨by decide, by decide⟩, _, _, rfl, rfl, pz, by show 5 ≤ sizeLine; decide, fun pd hpd => ?_⟩
  have s3 : Same H2 (upd H2 pd (.lst [.int (n % 3), .int (n / 3 % 3), .int (n / 9 % 3), .int (n % 3), .int (n / 3 % 3)])) := (Same.refl H2).upd hpd
  have g3 : upd H2 pd (.lst [.int (n % 3), .int (n / 3 % 3), .int (n / 9 % 3), .int (n % 3), .int (n / 3 % 3)]) pd = some (.lst (([n % 3, n / 3 % 3, n / 9 % 3, n % 3, n / 3 % 3] : List Int).map V.int)) := zac
  generalize upd H2 pd (.lst [.int (n % 3), .int (n / 3 % 3), .int (n / 9 % 3), .int (n % 3), .int (n / 3 % 3)]) = H3 at s3 g3 ⊢
  have dig : ∀ x ∈ ([n % 3, n / 3 % 3, n / 9 % 3, n % 3, n / 3 % 3] : List Int), 0 ≤ x ∧ x < 3 := by
   intro x hx
   simp only [List.mem_cons, List.not_mem_nil, or_false] at hx
   rcases hx with rfl | rfl | rfl | rfl | rfl <;> exact ⟨Int.emod_nonneg _ (by decide), Int.emod_lt_of_pos _ (by decide)⟩
  have dl : ([n % 3, n / 3 % 3, n / 9 % 3, n % 3, n / 3 % 3] : List Int).length = 5 := rfl
  generalize ([n % 3, n / 3 % 3, n / 9 % 3, n % 3, n / 3 % 3] : List Int) = ds at g3 dig dl
  refine ⟨_, rfl, _, rfl, d, 61, rfl, by decide, by decide, _, _, rfl, rfl, pz, _, _, rfl, rfl, _, rfl, pd, _, rfl, SqL.of g3, fun pq hpq => ?_⟩
  obtain ⟨c, ec, hc, c5, cr⟩ : ∃ c : Nat, 1 + mixF d 61 % 5 = (c : Int) ∧ 1 ≤ c ∧ c ≤ 5 ∧ c = zbH d := by
   have h1 := Int.emod_nonneg (mixF d 61) (show (5 : Int) ≠ 0 by decide)
   have h2 := Int.emod_lt_of_pos (mixF d 61) (show (0 : Int) < 5 by decide)
   exact ⟨(1 + mixF d 61 % 5).toNat, by omega, by omega, by omega, rfl⟩
  rw [ec, zfg]
  have s4 : Same H3 (upd H3 pq (.lst ((ds.take c).map V.int))) := (Same.refl H3).upd hpq
  have g4 : upd H3 pq (.lst ((ds.take c).map V.int)) pq = some (.lst ((ds.take c).map V.int)) := zac
  generalize upd H3 pq (.lst ((ds.take c).map V.int)) = H4 at s4 g4 ⊢
  have ne : (ds.take c).length = zbH d := by rw [List.length_take]; omega
  have dig' : ∀ x ∈ ds.take c, 0 ≤ x ∧ x < 3 := fun x hx => dig x (List.mem_of_mem_take hx)
  have l5 : (ds.take c).length ≤ 5 := by rw [List.length_take]; omega
  generalize ds.take c = es at g4 ne dig' l5
  have gs := s4 _ _ (s3 _ _ g2)
  refine ⟨pq, rfl, ⟨_, SqL.of g4⟩, fun D hD => ?_⟩
  refine za9 (K := K) (a := pq) (xs := es.map V.int) (fun i _ σ H5 => ∃ (o : Option V) (row : List Int), σ = [o, some (.ref ps)] ∧ Same H4 H5 ∧ H5 D = some (.lst (row.map V.int)) ∧ row.length = i ∧ ∀ x ∈ row, x.natAbs < 10 ^ 60)
   ⟨none, [], rfl, (Same.refl H4).upd hD, zac, rfl, fun x h => nomatch h⟩ (fun i _ σ H5 _ ⟨_, _, _, sm, _⟩ => SqL.of (sm _ _ g4)) ?_ ?_
  ·rintro i x _ σ H5 hx ⟨o, row, rfl, sm, h5, lr, br⟩
   obtain ⟨v, ev, rfl⟩ := zeq hx
   have hi : i < es.length := (List.getElem?_eq_some_iff.mp ev).1
   obtain ⟨b1, b2⟩ := dig' v (List.mem_of_getElem? ev)
   obtain ⟨q, mq, eq⟩ := zcI (ns := [far, -far, third]) b1 (by simpa using b2)
   refine ⟨_, rfl, _, rfl, ps, _, _, _, rfl, rfl, SqL.of (sm _ _ gs), eq, _, h5, zam (by rw [List.length_map]; omega), [], _, row ++ [q], rfl, sm.upd hD, by rw [zac]; simp, by rw [List.length_append, List.length_singleton]; omega, fun x hx => (List.mem_append.mp hx).elim (br x) fun z => by rw [List.mem_singleton.mp z]; exact bnd q mq⟩
  ·rintro _ σ H5 ⟨o, row, rfl, sm, h5, lr, br⟩
   rw [List.length_map] at lr
   have s05 := s1.trans (s2.trans (s3.trans (s4.trans sm)))
   refine ⟨D, _, rfl, .inl ⟨SqL.of h5, fun t ht => k t _ row (s05.trans ((Same.refl H5).upd ht)) (s05.free ht) zac (lr.trans ne) br⟩⟩
end
section
variable {P : Program} {w : World} {K : PySem.W.Frag} {mg : Str → Option Value} {base : Heap}
def zbd : Sp := fun vs H Q _ => ∃ (a b : Option Int), vs = [vO a, vO b] ∧ Q (.bl (okB (a, b))) H
theorem zdS : FnScope ["start", "end"] ["start", "end"] (zab zaH) := ⟨rfl, rfl, rfl, by decide +kernel, rfl, by decide +kernel, by decide +kernel⟩
theorem zdX {f : Addr} {fd : FuncData} (F : Fun K "is_stretch" "is_stretch" zaH f fd) : FnOk P w K mg base CX0 1 f fd ["start", "end"] zbd := by
 refine F.okJ zdS (fun vs H Q E h => ?_) (fun cdv A outer s H vs Q E hr h => ?_)
 ·obtain ⟨_, _, rfl, _⟩ := h
  rfl
 ·obtain ⟨a, b, rfl, k⟩ := h
  refine ⟨_, (zan (zaR (e_or (zhW (e_v 0)) (e_or (zhW (e_v 1)) (zi6 (zgM o_lt (e_v 0) (e_v 1))))))), ?_⟩
  refine ⟨_, rfl, _, rfl, ?_⟩
  cases a with
  | none => exact iteT k
  | some a =>
   refine iteF ⟨_, rfl, _, rfl, ?_⟩
   cases b with
   | none => exact iteT k
   | some b => exact iteF ⟨_, rfl, _, rfl, _, _, rfl, rfl, k⟩
def zaS (CS : Addr) : Sp := fun vs H Q E => ∃ (a b : Option Int), vs = [vO a, vO b] ∧ (okS (a, b) → Q .non H) ∧ (¬ okS (a, b) → E (.ref CS) none H)
theorem zbS : FnScope ["start", "end"] ["start", "end"] (zab zak) := ⟨rfl, rfl, rfl, by decide +kernel, rfl, by decide +kernel, by decide +kernel⟩
theorem zbR {f CS : Addr} {fd : FuncData} (F : Fun K "refuse_no_stretch" "refuse_no_stretch" zak f fd) (O : ErrC K mg "NoStretch" CS) (FI : FnP P w K mg base 1 "is_stretch" ["start", "end"] zbd) :
  FnOk P w K mg base (CXe P w) 2 f fd ["start", "end"] (zaS CS) := by
 refine F.okX zbS (fun vs H Q E h => ?_) (fun cdv A outer s H vs Q E hr h => ?_)
 ·obtain ⟨_, _, rfl, _⟩ := h
  rfl
 ·obtain ⟨a, b, rfl, k1, k2⟩ := h
  refine ⟨_, (zan (s_if (zg8 (zeg (e_fn FI hr (ac (e_v 0) (a1 (e_v 1)))))) (zan (zgd zd5 O e_s)) zbo)), ?_⟩
  refine ⟨_, rfl, _, rfl, a, b, rfl, _, rfl, ?_⟩
  cases e : okB (a, b) with
  | true => exact iteF (k1 (zeL.mp e))
  | false => exact iteT ⟨rfl, k2 fun z => by rw [zeL.mpr z] at e; cases e⟩
def zaC (CW : Addr) : Sp := fun vs H Q E => ∃ (a : Addr) (xs : List V) (fs : List Fact), vs = [.ref a] ∧ H a = some (.lst xs) ∧ Paired (FactAt H) xs fs ∧ fs.length ≤ 100000 ∧
 ((∀ f ∈ fs, f.1.length = zbP fs) → ∀ H', Same H H' → Q .non H') ∧ ((∃ f ∈ fs, f.1.length ≠ zbP fs) → ∀ H', Same H H' → E (.ref CW) none H')
theorem za6 : FnScope ["facts", "place", "fact"] ["facts"] (zab zai) := ⟨rfl, rfl, rfl, by decide +kernel, rfl, by decide +kernel, by decide +kernel⟩
theorem zbz {f CW : Addr} {fd : FuncData} (F : Fun K "refuse_unlike_widths" "refuse_unlike_widths" zai f fd) (B : Blts mg) (O : ErrC K mg "NoWidth" CW) :
  FnOk P w K mg base (CXe P w) 1 f fd ["facts"] (zaC CW) := by
 refine F.okX za6 (fun vs H Q E h => ?_) (fun cdv A outer s H vs Q E hr h => ?_)
 ·obtain ⟨_, _, _, rfl, _⟩ := h
  rfl
 ·obtain ⟨a, xs, fs, rfl, ha, hp, hz, k1, k2⟩ := h
  have nd := za6.nd
  refine ⟨_, (zan (zdA (zkA B.enumerate (a1 (e_v 0))) (zee (zaI (g_n 1 nd) (zaI (g_n 2 nd) zct)))
    (zan (s_if (zbl o_ne (e_cb zcm B.len PySem.boot_len (a1 (e_ix zcC (e_v 2) e_i))) (e_cb zcm B.len PySem.boot_len (a1 (e_ix zcC (e_ix zbc (e_v 0) e_i) e_i))))
     (zan (zgd zd5 O (zkB (zcr e_s (zcr (zlj (e_v 1)) (zcr e_s zlf)))))) zbo)) zhh)), ?_⟩
  have lx : xs.length = fs.length := Paired.length hp
  refine ⟨_, rfl, a, rfl, ⟨xs, SqL.of ha⟩, zhQ (K := K) (a := a) (xs := xs) (fun i σ H' => ∃ o1 o2, σ = [some (.ref a), o1, o2] ∧ Same H H' ∧ ∀ f ∈ fs.take i, f.1.length = zbP fs)
   ⟨none, none, rfl, Same.refl H, fun f h => by simp at h⟩ (fun i σ H' _ ⟨_, _, _, sm, _⟩ => SqL.of (sm _ _ ha)) ?_ ?_⟩
  ·rintro i x T σ H' hx ⟨o1, o2, rfl, sm, good⟩ hT
   obtain ⟨f, hf, t, p, rfl, ht, hpp⟩ := zax hp hx
   have s1 : Same H' (upd H' T (.tup [.int i, .ref t])) := (Same.refl H').upd hT
   have u1 : upd H' T (.tup [.int i, .ref t]) T = some (.tup [.int i, .ref t]) := zac
   generalize upd H' T (.tup [.int i, .ref t]) = H1 at s1 u1 ⊢
   have s01 := sm.trans s1
   have hi : i < fs.length := (List.getElem?_eq_some_iff.mp hf).1
   obtain ⟨g, fs', rfl⟩ : ∃ g fs', fs = g :: fs' := by cases fs with | nil => simp at hi | cons g fs' => exact ⟨g, fs', rfl⟩
   obtain ⟨y, ys, rfl⟩ : ∃ y ys, xs = y :: ys := by cases xs with | nil => simp at lx | cons y ys => exact ⟨y, ys, rfl⟩
   obtain ⟨t0, p0, rfl, ht0, hp0⟩ : FactAt H y g := by cases hp with | cons r _ => exact r
   refine ⟨T, _, rfl, SqT.of u1, rfl, _, _, rfl, _, _, rfl, rfl, ?_⟩
   refine ⟨_, rfl, t, _, 0, _, rfl, rfl, SqT.of (s01 _ _ ht), rfl, p, _, rfl, .inr (SqT.of (s01 _ _ hpp)), _, rfl, a, _, 0, _, rfl, rfl, SqL.of (s01 _ _ ha), (show atI _ ((0 : Nat) : Int) = _ from zbL rfl), t0, _, 0, _, rfl, rfl, SqT.of (s01 _ _ ht0), rfl, p0, _, rfl, .inr (SqT.of (s01 _ _ hp0)), rfl, _, rfl, ?_⟩
   refine ite2 (fun hc => ?_) (fun hc => ?_)
   ·have ne : f.1.length ≠ zbP (g :: fs') := fun z => by
     have z' : f.1.length = g.1.length := z
     simp [z'] at hc
    refine ⟨_, rfl, by decide +kernel, _, rfl, _, rfl, ?_, _, rfl, ?_, _, rfl, by decide +kernel, rfl, k2 ⟨f, List.mem_of_getElem? hf, ne⟩ _ s01⟩
    ·exact zey (by omega)
    ·exact zjh (zey (by omega))
   ·have eq : f.1.length = zbP (g :: fs') := by
     have : f.1.length = g.1.length := by
      by_cases z : f.1.length = g.1.length
      ·exact z
      ·exfalso; exact hc (by simp; omega)
     exact this
    refine ⟨_, _, rfl, s01, fun f' h' => ?_⟩
    rw [take_snoc hf] at h'
    rcases List.mem_append.mp h' with z | z
    ·exact good f' z
    ·rw [List.mem_singleton.mp z]; exact eq
  ·rintro σ H' ⟨o1, o2, rfl, sm, good⟩
   rw [lx, List.take_length] at good
   exact k1 good _ sm
end
section
variable {P : Program} {w : World} {K : PySem.W.Frag} {mg : Str → Option Value} {base : Heap}
def zbY (CS CW : Addr) : Sp := fun vs H Q E => ∃ (a : Addr) (xs : List V) (fs : List Fact), vs = [.ref a] ∧ H a = some (.lst xs) ∧ Paired (FactAt H) xs fs ∧ fs.length ≤ 5000 ∧ (∀ f ∈ fs, f.1 ≠ []) ∧
  ((∀ f ∈ fs, okS f.2) → (∀ f ∈ fs, f.1.length = zbP fs) → (∃ rs : List (List Int), rs.length < 64 ∧ ∀ f ∈ fs, f.1 ∈ rs) ∧ (∀ r, (told fs r).length < 64) ∧
    ∀ (D : Addr) (H' : Hp) (es : List (List Int × List Stt)), Same H H' → H D = none → SheetN H H' D es → ShOf fs es → Q (.ref D) H') ∧
  ((∃ f ∈ fs, ¬ okS f.2) → ∀ H', Same H H' → E (.ref CS) none H') ∧
  ((∀ f ∈ fs, okS f.2) → (∃ f ∈ fs, f.1.length ≠ zbP fs) → ∀ H', Same H H' → E (.ref CW) none H')
theorem zc3 : FnScope ["facts", "fact", "told", "row", "start", "end"] ["facts"] (zab za0) := ⟨rfl, rfl, rfl, by decide +kernel, rfl, by decide +kernel, by decide +kernel⟩
theorem zeY {f CS CW : Addr} {fd : FuncData} (F : Fun K "sheet_of" "sheet_of" za0 f fd) (B : Blts mg) (FR : FnX P w K mg base 2 "refuse_no_stretch" ["start", "end"] (zaS CS))
  (FW : FnX P w K mg base 1 "refuse_unlike_widths" ["facts"] (zaC CW)) (FT : FnP P w K mg base 4 "tidied" ["stretches"] zcH) : FnOk P w K mg base (CXe P w) 5 f fd ["facts"] (zbY CS CW) := by
 refine F.okX zc3 (fun vs H Q E h => ?_) (fun cdv A outer s H vs Q E hr h => ?_)
 ·obtain ⟨_, _, _, rfl, _⟩ := h
  rfl
 ·obtain ⟨a, xs, fs, rfl, ha, hp, hz, ne, k1, k2, k3⟩ := h
  have nd := zc3.nd
  have nd2 : (["row", "told"] : List Str).Nodup := by decide +kernel
  refine ⟨_, (zag (zdA (zbg (e_v 0)) (g_n 1 nd)
    (zan (ziE ((x_fn FR hr (ac (e_ix zcC (e_v 1) e_i) (a1 (e_ix zcC (e_v 1) e_i)))).je zeD))) zhh)
   (zag (ziE ((x_fn FW hr (a1 (e_v 0))).je zeD))
   (zag (zis 2 nd zg9)
   (zag (zdA (zbg (e_v 0)) (zee (zaI (g_n 3 nd) (zaI (g_n 4 nd) (zaI (g_n 5 nd) zct))))
    (zan (zfF (zfk hr (e_v 2) (ac (e_v 3) (a1 (zb4 a0)))) (zcK (ac (e_v 4) (a1 (e_v 5)))))) zhh)
   (zan (zaR (zbJ (Nc := ["row", "told"]) (js := [none, some 2]) (g := (za5 0)) (tt := tYes) (te := (tTup (zap (tVar 0) (zap (zci zcH [] E0 (zap (zh0 (tVar 1) (tVar 0)) tNil)) tNil))))
   (zba rfl rfl rfl rfl (fun x c h => by (obtain ⟨rfl, rfl⟩ : x = _ ∧ c = _ := (by simpa using h)); rfl) rfl rfl rfl) (zbg (e_cb zgK B.sorted PyProof.Rows.boot_sorted (a1 (e_v 2))))
   (fun pins C s3 H3 fp => ⟨(g_n 0 nd2), .inl ⟨rfl, rfl⟩, (zcK (ac (e_v 0) (a1 (e_fn FT hr (a1 (ziv hr (e_v 1) (e_v 0)))))))⟩)))))))), ?_⟩
  have lx : xs.length = fs.length := Paired.length hp
  refine ⟨_, rfl, a, rfl, ⟨xs, SqL.of ha⟩, zbF (K := K) (a := a) (xs := xs) (fun i σ H' => ∃ o1, σ = [some (.ref a), o1, none, none, none, none] ∧ Same H H' ∧ ∀ f ∈ fs.take i, okS f.2)
   ⟨none, rfl, Same.refl H, fun f h => by simp at h⟩ (fun i σ H' _ ⟨_, _, sm, _⟩ => SqL.of (sm _ _ ha)) ?_ ?_⟩
  ·rintro i x σ H' hx ⟨o1, rfl, sm, good⟩
   obtain ⟨f, hf, t, p, rfl, ht, hpp⟩ := zax hp hx
   refine ⟨_, rfl, t, _, 1, _, rfl, rfl, SqT.of (sm _ _ ht), rfl, _, rfl, t, _, 2, _, rfl, rfl, SqT.of (sm _ _ ht), rfl, f.2.1, f.2.2, rfl, fun g => ⟨_, rfl, sm, fun f' h' => ?_⟩, fun b => k2 ⟨f, List.mem_of_getElem? hf, b⟩ _ sm⟩
   rw [take_snoc hf] at h'
   rcases List.mem_append.mp h' with z | z
   ·exact good f' z
   ·rw [List.mem_singleton.mp z]; exact g
  rintro σ H1 ⟨o1, rfl, s1, oks⟩
  rw [lx, List.take_length] at oks
  refine ⟨_, rfl, a, xs, fs, rfl, s1 _ _ ha, za2 s1 hp, by omega, fun same H2 s2 => ?_, fun ex H2 s2 => k3 oks ex _ (s1.trans s2)⟩
  obtain ⟨⟨rs, rs64, rsm⟩, few, k⟩ := k1 oks same
  have s02 := s1.trans s2
  refine fun pd hpd => ?_
  have td0 : TdI H2 (upd H2 pd (.dT [])) pd [] [] [] := ⟨zac, .nil, (fun q h => nomatch h), (fun q h => nomatch h), .nil, (fun q h => nomatch h), (Same.refl H2).upd hpd, hpd, (fun q h => nomatch h), fun r => by simp⟩
  have rows_le : ∀ {fs' : List Fact} {td : Td}, (∀ f ∈ fs', f ∈ fs) → (td.map (·.1)).Nodup → (∀ r, r ∈ td.map (·.1) ↔ r ∈ fs'.map (·.1) ∨ r ∈ ([] : List (List Int))) → td.length < 64 := by
   intro fs' td sub nd' rows
   have := zby nd' (m := rs) fun r hr => by
    rcases (rows r).mp hr with z | z
    ·obtain ⟨f, hf, rfl⟩ := List.mem_map.mp z
     exact rsm f (sub f hf)
    ·cases z
   rw [List.length_map] at this
   omega
  refine ⟨_, rfl, a, rfl, ⟨xs, SqL.of (td0.same _ _ (s02 _ _ ha))⟩, zbF (K := K) (a := a) (xs := xs) (fun i σ H' => ∃ (td : Td) (o1 o3 o4 o5 : Option V), σ = [some (.ref a), o1, some (.ref pd), o3, o4, o5] ∧ TdI H2 H' pd (fs.take i) td [])
   ⟨[], _, none, none, none, rfl, td0⟩ (fun i σ H' _ ⟨_, _, _, _, _, _, h⟩ => SqL.of (h.same _ _ (s02 _ _ ha))) ?_ ?_⟩
  ·rintro i x σ H' hx ⟨td, o1, o3, o4, o5, rfl, I⟩
   obtain ⟨f, hf, t, p, rfl, ht, hpp⟩ := zax hp hx
   have s' := s02.trans I.same
   have hfm : f ∈ fs := List.mem_of_getElem? hf
   refine ⟨t, _, rfl, SqT.of (s' _ _ ht), rfl, _, _, rfl, _, _, rfl, _, _, rfl, rfl, ?_⟩
   refine ⟨_, rfl, .inr (.inr (.inl ⟨rfl, .inr ⟨_, I.at'⟩⟩)), _, rfl, Nat.zero_le _, fun D hD => ?_⟩
   have s3 : Same H' (upd H' D (.lst [])) := (Same.refl H').upd hD
   have u3 : upd H' D (.lst []) D = some (.lst []) := zac
   generalize upd H' D (.lst []) = H3 at s3 u3 ⊢
   have I3 := I.sm s3
   have lk : (zbU td).length < sizeLine := by
    unfold zbU; rw [List.length_map]
    have := rows_le (fs' := fs.take i) (fun f hf => List.mem_of_mem_take hf) I.nd I.rows
    exact zam (by omega)
   have htup : H3 p = some (.tup ((f.1.map Sum.inl : List Key).map kV)) := by rw [zcN]; exact s3 _ _ (s' _ _ hpp)
   have app : ∀ (H5 : Hp) (td5 : Td) (ex : List (List Int)) (q : List Int × Addr × List Stt), TdI H2 H5 pd (fs.take i) td5 ex → q ∈ td5 → q.1 = f.1 → (∀ r ∈ ex, r = q.1) →
     (tyV K "list" (.ref q.2.1) H5 ∧ zap (tTup (zap (tVar 4) (zap (tVar 5) tNil))) tNil [some (.ref a), o1, some (.ref pd), some (.ref p), some (vO f.2.1), some (vO f.2.2)] H5 fun xs H6 => zbW (.ref q.2.1) xs H6 fun _ H7 =>
      ∃ (td : Td) (o1' o3 o4 o5 : Option V), [some (V.ref a), o1, some (.ref pd), some (.ref p), some (vO f.2.1), some (vO f.2.2)] = [some (.ref a), o1', some (.ref pd), o3, o4, o5] ∧ TdI H2 H7 pd (fs.take (i + 1)) td []) := by
    intro H5 td5 ex q I5 hq eq hex
    obtain ⟨ys, hy, sy⟩ := I5.lst q hq
    refine ⟨.inl ⟨rfl, _, SqL.of hy⟩, _, rfl, _, rfl, by show 2 ≤ sizeLine; decide, fun u hu => ?_⟩
    have s6 : Same H5 (upd H5 u (.tup [vO f.2.1, vO f.2.2])) := (Same.refl H5).upd hu
    have u6 : upd H5 u (.tup [vO f.2.1, vO f.2.2]) u = some (.tup [vO f.2.1, vO f.2.2]) := zac
    generalize upd H5 u (.tup [vO f.2.1, vO f.2.2]) = H6 at s6 u6 ⊢
    have ly : ys.length ≤ 5000 := by
     have h1 := Paired.length sy
     have h2 := congrArg List.length (I5.grp q hq)
     have h3 : (told (fs.take i) q.1).length ≤ (fs.take i).length := by unfold told; rw [List.length_map]; exact List.length_filter_le _ _
     rw [List.length_take] at h3
     omega
    have I7 := (I5.sm s6).app (st := f.2) hq hex (s6 _ _ hy) (sy.same s6) u6
    rw [eq, ← take_snoc (x := f) hf] at I7
    exact ⟨q.2.1, ys, _, rfl, rfl, s6 _ _ hy, Nat.lt_of_le_of_lt ly (by decide), _, _, _, _, _, rfl, I7⟩
   refine ⟨pd, p, .ref D, zbU td, f.1.map Sum.inl, rfl, rfl, I3.at', htup, lk, ?_⟩
   by_cases hr' : f.1 ∈ td.map (·.1)
   ·obtain ⟨q, hq, eq⟩ := List.mem_map.mp hr'
    have hv := zgE I3.nd hq
    rw [eq] at hv
    rw [hv]
    exact app H3 td [] q I3 hq eq fun r h => nomatch h
   ·rw [zeN hr']
    have fD : H2 D = none := I.same.free hD
    have nD : D ∉ td.map (·.2.1) := fun z => by
     obtain ⟨q, hq, e⟩ := List.mem_map.mp z
     obtain ⟨_, e', _⟩ := I.lst q hq
     rw [e, hD] at e'
     cases e'
    exact app _ _ [f.1] (f.1, D, []) (I3.add hr' (ne f hfm) u3 fD nD) (List.mem_append_right _ (by simp)) rfl fun r h => by simpa using h
  rintro σ H3 ⟨td, o1, o3, o4, o5, rfl, I⟩
  rw [lx, List.take_length] at I
  have l64 : td.length < 64 := rows_le (fs' := fs) (fun f hf => hf) I.nd I.rows
  have lk : (zbU td).length < 64 := by unfold zbU; rw [List.length_map]; exact l64
  refine ⟨_, rfl, pd, pd, _, _, rfl, I.known, .inl rfl, lk, fun D2 ys2 ks' hD2 p2 pm2 pw2 => ?_⟩
  have t3 : Same H3 (upd H3 D2 (.lst ys2)) := (Same.refl H3).upd hD2
  have u3 : upd H3 D2 (.lst ys2) D2 = some (.lst ys2) := zac
  have p3 := zd8 t3 p2
  generalize upd H3 D2 (.lst ys2) = Hb at t3 u3 p3 ⊢
  have Ib := I.sm t3
  have ly2 : ys2.length = ks'.length := Paired.length p3
  have lks : ks'.length < 64 := by rw [pm2.length_eq, List.length_map]; exact l64
  have s0b := s02.trans Ib.same
  refine ⟨D2, rfl, ⟨_, SqL.of u3⟩, fun D3 hD3 => ?_⟩
  have f3 : H D3 = none := s0b.free hD3
  refine za9 (K := K) (a := D2) (xs := ys2) (fun i _ σ H4 => ∃ (o : Option V) (zs : List V) (es : List (List Int × List Stt)), σ = [o, some (.ref pd)] ∧ Same Hb H4 ∧ H4 D3 = some (.lst zs) ∧ Paired (EntN H H4 D3) zs es ∧ es.map (·.1) = ks'.take i ∧ ∀ e ∈ es, Can e.2 ∧ e.2.length ≤ 63 ∧ ∀ m, zah m e.2 = zah m (told fs e.1))
   ⟨none, [], [], rfl, (Same.refl Hb).upd hD3, zac, .nil, rfl, fun e h => nomatch h⟩ (fun i _ σ H4 _ ⟨_, _, _, _, sm, _⟩ => SqL.of (sm _ _ u3)) ?_ ?_
  ·rintro i x _ σ H4 hx ⟨o, zs, es, rfl, sm, h4, pr, em, good⟩
   obtain ⟨row, er, t, rfl, ht⟩ := zax p3 hx
   have hrow : row ∈ td.map (·.1) := pm2.mem_iff.mp (List.mem_of_getElem? er)
   obtain ⟨q, hq, rfl⟩ := List.mem_map.mp hrow
   have I4 := Ib.sm sm
   have hv := zgE I4.nd hq
   have ht4 : H4 t = some (.tup ((q.1.map Sum.inl : List Key).map kV)) := by rw [zcN]; exact sm _ _ ht
   have eg := I.grp q hq
   refine ⟨_, rfl, _, rfl, _, rfl, pd, _, rfl, .inr ⟨_, _, t, .inl I4.at', rfl, ht4, hv.symm⟩, q.2.1, q.2.2, rfl, I4.lst q hq, fun st hst => ?_, by rw [eg]; exact few _, fun r H5 ss s5 hr5 hspan can lss eqs => ⟨by show 2 ≤ sizeLine; decide, fun u hu => ?_⟩⟩
   ·rw [eg] at hst
    exact oks _ (zb3.mp hst)
   have s6 : Same H5 (upd H5 u (.tup [.ref t, .ref r])) := (Same.refl H5).upd hu
   have u6 : upd H5 u (.tup [.ref t, .ref r]) u = some (.tup [.ref t, .ref r]) := zac
   generalize upd H5 u (.tup [.ref t, .ref r]) = H6 at s6 u6 ⊢
   have s46 := s5.trans s6
   have h6 := s46 _ _ h4
   have lz : zs.length = es.length := Paired.length pr
   have le : es.length = (ks'.take i).length := by rw [← em, List.length_map]
   rw [List.length_take] at le
   have nr : r ≠ D3 := fun z => by rw [z, h4] at hr5; cases hr5
   have fr : H r = none := (s0b.trans sm).free hr5
   have few' := few q.1
   refine ⟨zs, h6, zam (by omega), [], _, zs ++ [.ref u], es ++ [(q.1, ss)], rfl, (sm.trans s46).upd hD3, zac, ?_, by rw [List.map_append, em, take_snoc er]; rfl, fun e he => ?_⟩
   ·have wr : ∀ {v : V} {e : List Int × List Stt}, EntN H H6 D3 v e → EntN H (upd H6 D3 (.lst (zs ++ [.ref u]))) D3 v e := fun ⟨t, p, q, a1, a2, a3, a4, a5, a6⟩ => ⟨t, p, q, a1, zbk (zbh h6) _ _ a2, zbk (zbh h6) _ _ a3, a4.wr (zbh h6) a6, a5, a6⟩
    exact zav (R := EntN H (upd H6 D3 (.lst (zs ++ [.ref u]))) D3) (wr (e := (q.1, ss)) ⟨u, t, r, rfl, u6, (sm.trans s46) _ _ ht, hspan.same s6, fr, nr⟩) (Paired.mapP pr fun _ _ ⟨t, p, q, a1, a2, a3, a4, a5, a6⟩ => wr ⟨t, p, q, a1, s46 _ _ a2, s46 _ _ a3, a4.same s46, a5, a6⟩)
   ·rcases List.mem_append.mp he with z | z
    ·exact good e z
    ·rw [List.mem_singleton.mp z]
     refine ⟨can, ?_, fun m => by rw [eqs m, eg]⟩
     rw [eg] at lss
     show ss.length ≤ 63
     omega
  ·rintro _ σ H4 ⟨o, zs, es, rfl, sm, h4, pr, em, good⟩
   rw [ly2, List.take_length] at em
   refine k D3 H4 es (s0b.trans sm) f3 ⟨zs, h4, pr⟩ ⟨by rw [em]; exact pw2, by rw [em]; exact (pm2.nodup_iff).mpr I.nd, fun r => ?_, fun e he => (good e he).1, fun e he => (good e he).2.1, fun e he => (good e he).2.2⟩
   rw [em, pm2.mem_iff, I.rows]
   simp
end
theorem za8 {es : List Ent} {i : Nat} {e : Ent} (h : es[i]? = some e) : zaf (es.take (i + 1)) = zaf (es.take i) ++ e.2.map fun s => (e.1, s) := by
 rw [take_snoc h]; unfold zaf; rw [List.flatMap_append]; simp
theorem zbI (es : List Ent) (i : Nat) : (zaf (es.take i)).length ≤ (zaf es).length := by
 have : zaf es = zaf (es.take i) ++ zaf (es.drop i) := by
  have e := List.take_append_drop i es
  conv => lhs; rw [← e]
  unfold zaf; rw [List.flatMap_append]
 rw [this, List.length_append]; omega
section
variable {P : Program} {w : World} {K : PySem.W.Frag} {mg : Str → Option Value} {base : Heap}
def zbX : Sp := fun vs H Q _ => ∃ (a : Addr) (es : List Ent), vs = [.ref a] ∧ SheetAt H a es ∧ (zaf es).length ≤ 4900 ∧
 ∀ (r : Addr) (H' : Hp) (xs : List V), Same H H' → H r = none → H' r = some (.lst xs) → Paired (FactAt H') xs (zaf es) → Q (.ref r) H'
theorem zcR : FnScope ["entries", "facts", "row", "span"] ["entries"] (zab zaW) := ⟨rfl, rfl, rfl, by decide +kernel, rfl, by decide +kernel, by decide +kernel⟩
theorem ze9 {f : Addr} {fd : FuncData} (F : Fun K "facts_of" "facts_of" zaW f fd) : FnOk P w K mg base CX0 1 f fd ["entries"] zbX := by
 refine F.okJ zcR (fun vs H Q E h => ?_) (fun cdv A outer s H vs Q E hr h => ?_)
 ·obtain ⟨_, _, rfl, _⟩ := h
  rfl
 ·obtain ⟨a, es, rfl, ⟨xs, ha, hs⟩, hz, k⟩ := h
  have nd := zcR.nd
  have nd3 : (["start", "end", "row"] : List Str).Nodup := by decide +kernel
  refine ⟨_, (zag (zay 1 nd (zb4 a0))
   (zag (zdA (zbg (e_v 0)) (zee (zaI (g_n 2 nd) (zaI (g_n 3 nd) zct)))
    (zan (zls (e_v 1) (a1c (zbJ (Nc := ["start", "end", "row"]) (js := [none, none, some 2]) (g := (gTup K 2 (zeW (za5 0) (zeW (za5 1) gNil)))) (tt := tYes) (te := (tTup (zap (tVar 2) (zap (tVar 0) (zap (tVar 1) tNil)))))
   (zba rfl rfl rfl rfl (fun x c h => by (obtain ⟨rfl, rfl⟩ : x = _ ∧ c = _ := (by simpa using h)); rfl) rfl rfl rfl) (zbg (e_v 3))
   (fun pins C s3 H3 fp => ⟨(zee (zaI (g_n 0 nd3) (zaI (g_n 1 nd3) zct))), .inl ⟨rfl, rfl⟩, (zcK (ac (e_v 2) (ac (e_v 0) (a1 (e_v 1)))))⟩))))))
   (zan (zaR (e_v 1))))), ?_⟩
  have lx : xs.length = es.length := Paired.length hs
  refine ⟨Nat.zero_le _, fun b hb => ?_⟩
  have s0 : Same H (upd H b (.lst [])) := (Same.refl H).upd hb
  refine ⟨_, rfl, a, rfl, ⟨xs, SqL.of (s0 _ _ ha)⟩, zbF (K := K) (a := a) (xs := xs) (fun i σ H' => ∃ (o1 o2 : Option V) (ys : List V), σ = [some (.ref a), some (.ref b), o1, o2] ∧ Same H H' ∧ H' b = some (.lst ys) ∧ Paired (FactAt H') ys (zaf (es.take i)))
   ⟨none, none, [], rfl, s0, zac, .nil⟩ (fun i σ H' _ ⟨_, _, _, _, sm, _⟩ => SqL.of (sm _ _ ha)) ?_ ?_⟩
  ·rintro i x σ H2 hx ⟨o1, o2, ys, rfl, sm, h2, pr⟩
   obtain ⟨e, he, t, p, q, rfl, ht, hp, ⟨zs, hq, hzs⟩⟩ := zax hs hx
   have ltk := zbI es (i + 1)
   rw [za8 he, List.length_append, List.length_map] at ltk
   have lzs : zs.length = e.2.length := Paired.length hzs
   refine ⟨t, _, rfl, SqT.of (sm _ _ ht), rfl, _, _, rfl, _, _, rfl, rfl, ?_⟩
   refine ⟨_, rfl, .inl ⟨rfl, _, SqL.of h2⟩, _, rfl, q, rfl, ⟨zs, SqL.of (sm _ _ hq)⟩, fun D hD => ?_⟩
   refine za9 (K := K) (a := q) (xs := zs) (fun j _ σ H4 => ∃ (o1 o2 : Option V) (ws : List V), σ = [o1, o2, some (.ref p)] ∧ Same H2 H4 ∧ H4 D = some (.lst ws) ∧ Paired (FactAt H4) ws ((e.2.take j).map fun s => (e.1, s)))
    ⟨none, none, [], rfl, (Same.refl H2).upd hD, zac, .nil⟩ (fun j _ σ H4 _ ⟨_, _, _, _, sm4, _⟩ => SqL.of (sm4 _ _ (sm _ _ hq))) ?_ ?_
   ·rintro j y _ σ H4 hy ⟨o1, o2, ws, rfl, sm4, h4, pw⟩
    obtain ⟨st, hst, u, rfl, hu⟩ := zax hzs hy
    have s04 := sm.trans sm4
    refine ⟨u, _, rfl, SqT.of (s04 _ _ hu), rfl, _, _, rfl, _, _, rfl, rfl, ?_⟩
    refine ⟨_, rfl, _, rfl, _, rfl, by show 3 ≤ sizeLine; decide, fun v hv => ?_⟩
    have s5 : Same H4 (upd H4 v (.tup [.ref p, vO st.1, vO st.2])) := (Same.refl H4).upd hv
    have u5 : upd H4 v (.tup [.ref p, vO st.1, vO st.2]) v = some (.tup [.ref p, vO st.1, vO st.2]) := zac
    generalize upd H4 v (.tup [.ref p, vO st.1, vO st.2]) = H5 at s5 u5 ⊢
    have lw := Paired.length pw
    rw [List.length_map, List.length_take] at lw
    have nt := zbh (s5 _ _ h4)
    refine ⟨ws, s5 _ _ h4, Nat.lt_of_le_of_lt (show ws.length ≤ 5000 by omega) (by decide), [], _, _, ws ++ [.ref v], rfl, (sm4.trans s5).upd hD, zac, ?_⟩
    rw [take_snoc hst, List.map_append]
    show Paired (FactAt (upd H5 D (.lst (ws ++ [.ref v])))) (ws ++ [.ref v]) (((e.2.take j).map fun s => (e.1, s)) ++ [(e.1, st)])
    have fv : FactAt (upd H5 D (.lst (ws ++ [.ref v]))) (.ref v) (e.1, st) := ⟨v, p, rfl, zbk nt _ _ u5, zbk nt _ _ ((s04.trans s5) _ _ hp)⟩
    exact zav (R := FactAt (upd H5 D (.lst (ws ++ [.ref v])))) fv (zbs (fun b zs h => zbk nt b zs (s5 _ _ h)) pw)
   ·rintro _ σ H4 ⟨o1, o2, ws, rfl, sm4, h4, pw⟩
    rw [lzs, List.take_length] at pw
    have nbD : b ≠ D := zal h2 hD
    have ly := Paired.length pr
    have lw := Paired.length pw
    rw [List.length_map] at lw
    have nt := zbh (sm4 _ _ h2)
    refine ⟨b, D, ys, ws, rfl, rfl, sm4 _ _ h2, h4, Nat.le_trans (show ys.length + ws.length ≤ 5000 by omega) (by decide), _, _, ys ++ ws, rfl, (sm.trans sm4).upd hb, zac, ?_⟩
    rw [za8 he]
    exact zfZ (zbs (fun b zs h => zbk nt b zs (sm4 _ _ h)) pr) (zbs (fun b zs h => zbk nt b zs h) pw)
  ·rintro σ H2 ⟨o1, o2, ys, rfl, sm, h2, pr⟩
   rw [lx, List.take_length] at pr
   exact ⟨_, rfl, k b H2 ys sm hb h2 pr⟩
end
end Prf
namespace L2
open PySem PySem.Spec PyProof.Rows
def tNev : TS := fun _ _ _ => False
theorem zfC {X : Cx} {st : Stmt} : JS X st tNev := ⟨fun _ _ _ _ _ _ h => h.elim⟩
theorem zfl {X : Cx} {x : Str} {pos : Pos} {u : Value} {v : V} (hm : X.mg x = some u) (hr : RelV v u) (hg : Gl X x := by rfl) (hd : (x == ("__debug__" : Str)) = false := by decide +kernel) : JE X (.Name x pos) (tC v) := ⟨zgy hg hm hr hd⟩
end L2
namespace Prf
open PySem L2 Wr
section
variable {P : Program} {w : World} {K : PySem.W.Frag} {mg : Str → Option Value} {base : Heap}
def FIG : Str := "0123456789"
theorem zjU {c : Nat} (h : 48 ≤ c ∧ c ≤ 57) : c ∈ FIG.cps.toList := by
 have : ∀ c : Nat, c < 58 → 48 ≤ c → c ∈ FIG.cps.toList := by decide +kernel
 exact this c (by omega) h.1
def zbj : Sp := fun vs H Q _ => ∃ n : Int, vs = [.str (numS n)] ∧ n.natAbs < 10 ^ 60 ∧ ∀ H', Same H H' → Q (.bl true) H'
theorem zbO : FnScope ["text", "below_nought", "figures"] ["text"] (zab zas) := ⟨rfl, rfl, rfl, by decide +kernel, rfl, by decide +kernel, by decide +kernel⟩
theorem zc4 {f : Addr} {fd : FuncData} {t1 t2 : Tok} (F : Fun K "tells_number" "tells_number" zas f fd) (B : Blts mg) (gF : mg "FIGURES" = some (.str FIG t1)) (gM : mg "MOST_FIGURES" = some (.int 60 t2)) : FnOk P w K mg base CX0 1 f fd ["text"] zbj := by
 refine F.okJ zbO (fun vs H Q E h => ?_) (fun cdv A outer s H vs Q E hr h => ?_)
 ·obtain ⟨_, rfl, _⟩ := h
  rfl
 ·obtain ⟨n, rfl, hn, k⟩ := h
  have nd := zbO.nd
  have nd1 : (["sign"] : List Str).Nodup := by decide +kernel
  refine ⟨_, (zag (zay 1 nd (zhX (e_v 0) (a1 e_s)))
   (zag (zay 2 nd (zjF (zeg (e_v 1)) (zja (e_v 0) e_i) (e_v 0)))
   (zag (s_if (zbl o_eq (e_v 2) e_s) (zan (zaR (zlq (e_v 1)))) zbo)
   (zag (s_if (JW.jt (w_or (zbl o_eq (e_v 2) e_s) (w_or (zbl o_eq (e_ix zli (e_v 2) e_i) e_s) (zig (zbl o_gt (e_cb zle B.len PySem.boot_len (a1 (e_v 2))) (zfl (v := .int 60) gM ⟨_, rfl⟩)))))) (zan (zaR e_b)) zbo)
   (zan (zaR (e_cb zlr B.all PyProof.Rows.boot_all (a1c (zbJ (Nc := ["sign"]) (js := [none]) (g := (za5 0)) (tt := tYes) (te := (tOp rInS (tVar 0) (tC (.str FIG))))
   (zba rfl rfl rfl rfl (fun x c h => by cases h) rfl rfl rfl) (zlK (e_v 2))
   (fun pins C s3 H3 fp => ⟨(g_n 0 nd1), .inl ⟨rfl, rfl⟩, (zly (e_v 0) (zfl (v := .str FIG) gF ⟨_, rfl⟩))⟩)))))))))), ?_⟩
  have szl : ∀ m, m ≤ 1000 → m ≤ sizeLine := fun m h => Nat.le_of_lt (zam h)
  have rest : ∀ (fg : Str) (b : Bool), n ≠ 0 → fg.cps.toList = figs n → ∀ D : Ends, (∀ H', Same H H' → D.rt (.bl true) H') →
    tSeq (tIfS (zea (tOp rEq (tVar 2) (tC (.str "0")))) (tRet (zjf (tVar 1))) zfK) (tSeq (tIfS (tOr (zea (tOp rEq (tVar 2) (tC (.str "")))) (tOr (zea (tOp rEq (tOp rIxS (tVar 2) (tC (.int 0))) (tC (.str "0")))) (zea (tOp (rI0 fun i j => .bl (decide (j < i))) (tCB (fun xs H Q => ∃ z, xs = [V.str z] ∧ z.length ≤ sizeLine ∧ Q (V.int z.length) H) (zap (tVar 2) tNil)) (tC (.int 60)))))) (tRet (tC (.bl false))) zfK)
     (tRet (tCB (zjt K) (zap (ziV [none] (iStr (tVar 2)) (za5 0) tYes (tOp rInS (tVar 0) (tC (.str FIG)))) tNil)))) D [some (.str (numS n)), some (.bl b), some (.str fg)] H := by
   intro fg b n0 ef D kD
   obtain ⟨_, c, r, ec, c1, c2⟩ := (zf4 n).resolve_left fun z => n0 z.1
   have hl : fg.length ≤ 60 := by rw [Prf.str_len, ef]; exact zhq (by decide) hn
   have ne0 : fg ≠ "0" := fun z => by
    have := congrArg (fun y : Str => y.cps.toList) z
    simp only [ef, ec] at this
    have e0 : (Str.ofString "0").cps.toList = [48] := by decide +kernel
    rw [e0] at this
    have := (List.cons.inj this).1
    omega
   have ne1 : fg ≠ "" := fun z => by
    have := congrArg (fun y : Str => y.cps.toList) z
    simp only [ef, ec] at this
    have e0 : (Str.ofString "").cps.toList = [] := by decide +kernel
    rw [e0] at this
    cases this
   have ne2 : (⟨#[c]⟩ : Str) ≠ "0" := fun z => by
    have := congrArg (fun y : Str => y.cps.toList) z
    have e0 : (Str.ofString "0").cps.toList = [48] := by decide +kernel
    rw [e0] at this
    have := (List.cons.inj (show [c] = [48] from this)).1
    omega
   refine ⟨_, rfl, rfl, _, rfl, zho ne0 ?_⟩
   refine ⟨_, rfl, rfl, _, rfl, zho ne1 ?_⟩
   refine ⟨_, rfl, fg, 0, c, rfl, rfl, szl _ (by omega), by rw [ef, ec]; exact zbL (show (c :: r)[0]? = some c from rfl), rfl, _, rfl, zho ne2 ?_⟩
   refine ⟨_, rfl, fg, rfl, szl _ (by omega), _, _, rfl, rfl, _, rfl, ?_⟩
   refine ite2 (fun z => absurd (of_decide_eq_true z) (by omega)) (fun _ => ?_)
   refine ⟨_, rfl, fg, rfl, ?_, fun Da hDa => ?_⟩
   ·rw [← Array.all_toList, List.all_eq_true]
    intro x hx
    rw [ef] at hx
    have := zb9 n x hx
    simp; omega
   ·refine zhI (z := fg) (fun i σ H' => ∃ (o : Option V) (bs : List Bool), σ = [o] ∧ Same H H' ∧ H' Da = some (.lst (bs.map V.bl)) ∧ bs = List.replicate i true)
     ⟨none, [], rfl, (Same.refl H).upd hDa, zac, rfl⟩ ?_ ?_
    ·rintro i d σ H' hd ⟨o, bs, rfl, sm, h', rfl⟩
     have hm : d ∈ figs n := by
      rw [← ef]
      exact List.mem_of_getElem? (i := i) (by simpa using hd)
     have hi : i < 60 := by
      have h1 : i < fg.cps.size := (Array.getElem?_eq_some_iff.mp hd).1
      exact Nat.lt_of_lt_of_le h1 hl
     refine ⟨_, rfl, d, FIG, rfl, rfl, _, h', zam (by simp; omega), _, List.replicate (i + 1) true, rfl, sm.upd hDa, ?_, rfl⟩
     rw [decide_eq_true (zjU (zb9 n d hm)), zac, List.replicate_succ', List.map_append]
     rfl
    ·rintro σ H' ⟨o, bs, rfl, sm, h', rfl⟩
     refine ⟨Da, _, rfl, SqL.of h', ?_⟩
     have e : (List.replicate fg.cps.size true).all id = true := by simp
     rw [e]
     exact kD H' sm
  refine ⟨_, rfl, rfl, numS n, 45, rfl, rfl, ?_⟩
  rw [zfR]
  refine ⟨_, rfl, _, rfl, ?_⟩
  by_cases hneg : n < 0
  ·rw [decide_eq_true hneg]
   have l1 : 1 ≤ (numS n).length := by rw [Prf.str_len, zbr, if_pos hneg]; simp
   have l2 := zb7 (k := 60) (by decide) hn
   refine iteT ⟨_, rfl, 1, rfl, numS n, rfl, szl _ (by omega), ?_⟩
   refine rest _ true (by omega) ?_ _ fun H' s' => k H' s'
   have e := zfS (z := numS n) (i := 1) l1
   rw [zbr, if_pos hneg] at e
   exact e
  ·rw [decide_eq_false hneg]
   refine iteF ⟨_, rfl, ?_⟩
   by_cases h0 : n = 0
   ·subst h0
    have e0 : numS 0 = "0" := by decide +kernel
    rw [e0]
    refine ⟨_, rfl, rfl, _, rfl, zi2 ?_⟩
    exact ⟨_, rfl, _, rfl, k H (Same.refl H)⟩
   ·exact rest _ false h0 (by rw [zbr, if_neg hneg]) _ fun H' s' => k H' s'
def zaT : Sp := fun vs H Q _ => ∃ n : Int, vs = [.str (numS n)] ∧ n.natAbs < 10 ^ 60 ∧ ∀ H', Same H H' → Q (.int n) H'
theorem zdi : FnScope ["text"] ["text"] (zab zaw) := ⟨rfl, rfl, rfl, by decide +kernel, rfl, by decide +kernel, by decide +kernel⟩
theorem zdg {f : Addr} {fd : FuncData} (F : Fun K "read_number" "read_number" zaw f fd) (B : Blts mg) (F_tells_number : FnP P w K mg base 1 "tells_number" ["text"] zbj) : FnOk P w K mg base CX0 2 f fd ["text"] zaT := by
 refine F.okJ zdi (fun vs H Q E h => ?_) (fun cdv A outer s H vs Q E hr h => ?_)
 ·obtain ⟨_, rfl, _⟩ := h
  rfl
 ·obtain ⟨n, rfl, hn, k⟩ := h
  refine ⟨_, (zag (s_if (zg8 (zeg (e_fn F_tells_number hr (a1 (e_v 0))))) (zan zfC) zbo)
   (zan (zaR (e_ct zlb B.int PyProof.Rows.boot_int (a1 (e_v 0)))))), ?_⟩
  refine ⟨_, rfl, n, rfl, hn, fun H' s' => ?_⟩
  have hl := zb7 (k := 60) (by decide) hn
  refine ⟨_, rfl, iteF ⟨_, rfl, numS n, n, rfl, zfN (Nat.lt_trans hn (by decide)), by omega, k H' s'⟩⟩
def bndS : Option Int → Str
 | none => "*"
 | some n => numS n
def okN (o : Option Int) : Prop := ∀ n, o = some n → n.natAbs < 10 ^ 60
def zbE : Sp := fun vs H Q _ => ∃ o : Option Int, vs = [.str (bndS o)] ∧ okN o ∧ ∀ H', Same H H' → Q (vO o) H'
theorem zdT : FnScope ["text"] ["text"] (zab zaB) := ⟨rfl, rfl, rfl, by decide +kernel, rfl, by decide +kernel, by decide +kernel⟩
theorem zhw (n : Int) : numS n ≠ "*" := fun z => by
 have e := congrArg (fun y : Str => y.cps.toList) z
 have e0 : (Str.ofString "*").cps.toList = [42] := by decide +kernel
 simp only [zbr, e0] at e
 have a := zb9 n
 split at e
 ·have := (List.cons.inj e).1; omega
 ·rw [e] at a
  have := a 42 List.mem_cons_self
  omega
theorem zdD {f : Addr} {fd : FuncData} (F : Fun K "read_bound" "read_bound" zaB f fd) (F_read_number : FnP P w K mg base 2 "read_number" ["text"] zaT) : FnOk P w K mg base CX0 3 f fd ["text"] zbE := by
 refine F.okJ zdT (fun vs H Q E h => ?_) (fun cdv A outer s H vs Q E hr h => ?_)
 ·obtain ⟨_, rfl, _⟩ := h
  rfl
 ·obtain ⟨o, rfl, ho, k⟩ := h
  refine ⟨_, (zan (zaR (zjF (zbl o_eq (e_v 0) e_s) e_n (e_fn F_read_number hr (a1 (e_v 0)))))), ?_⟩
  cases o with
  | none => exact ⟨_, rfl, rfl, _, rfl, zi2 (k H (Same.refl H))⟩
  | some n => exact ⟨_, rfl, rfl, _, rfl, zho (zhw n) ⟨_, rfl, n, rfl, ho n rfl, fun H' s' => k H' s'⟩⟩
end
theorem zh9 {n : Int} (h : n.natAbs < 10 ^ 60) : n.natAbs.log2 < 1920 := zik (Nat.lt_of_lt_of_le h (Nat.le_trans (show 10 ^ 60 ≤ 2 ^ 200 by decide) (Nat.pow_le_pow_right (by decide) (by decide))))
def SP : Str := ⟨#[32]⟩
def SC : Str := ⟨#[59, 32]⟩
theorem zko : (" " : Str) = SP := by decide +kernel
theorem zlG : ("; " : Str) = SC := by decide +kernel
theorem join_eq (sep : Str) (ys : List Str) : Txt.join sep ys = Str.join sep ys := StrLaws.glued_eq_join sep ys
def zao (f : Fact) : List Str := f.1.map numS ++ [("@" : Str), bndS f.2.1, bndS f.2.2]
def zaP (f : Fact) : Str := Str.join SP (zao f)
def okF (f : Fact) : Prop := (∀ n ∈ f.1, n.natAbs < 10 ^ 60) ∧ okN f.2.1 ∧ okN f.2.2 ∧ f.1 ≠ [] ∧ f.1.length ≤ 5
theorem ziu {c : List Nat} {x y z : List Nat} : ∀ {P : List (List Nat)}, P ≠ [] → gl c (P ++ [x, y, z]) = gl c P ++ (c ++ (x ++ (c ++ (y ++ (c ++ z)))))
 | [], h => absurd rfl h
 | [p], _ => by show p ++ (c ++ (x ++ (c ++ (y ++ (c ++ z))))) = _; rfl
 | p :: q :: r, _ => by
  show p ++ (c ++ gl c (q :: r ++ [x, y, z])) = _
  rw [ziu (P := q :: r) (by simp)]
  show _ = (p ++ (c ++ gl c (q :: r))) ++ _
  simp only [List.append_assoc]
theorem zcj {o : Option Int} (h : okN o) : (bndS o).length ≤ 61 := by
 cases o with
 | none => decide +kernel
 | some n => exact zb7 (by decide) (h n rfl)
theorem zg0 {f : Fact} (ne : f.1 ≠ []) : Txt.join " " (f.1.map numS) ++ ((" @ " : Str) ++ (bndS f.2.1 ++ ((" " : Str) ++ (bndS f.2.2 ++ Str.empty)))) = zaP f := by
 apply zgv
 unfold zaP zao
 have e1 : (" @ " : Str).cps.toList = [32, 64, 32] := by decide +kernel
 have e2 : (" " : Str).cps.toList = [32] := by decide +kernel
 have e3 : ("@" : Str).cps.toList = [64] := by decide +kernel
 have e4 : (Str.empty).cps.toList = [] := by decide +kernel
 rw [zbN, List.map_append]
 simp only [zd2, join_eq, zbN, e1, e2, e3, e4, List.map_cons, List.map_nil]
 rw [ziu (by simpa using ne)]
 show _ = gl [32] _ ++ ([32] ++ ([64] ++ ([32] ++ (_ ++ ([32] ++ _)))))
 simp
section
variable {P : Program} {w : World} {K : PySem.W.Frag} {mg : Str → Option Value} {base : Heap}
def zaQ : Sp := fun vs H Q _ => ∃ o : Option Int, vs = [vO o] ∧ okN o ∧ Q (.str (bndS o)) H
theorem zdI : FnScope ["bound"] ["bound"] (zab zaG) := ⟨rfl, rfl, rfl, by decide +kernel, rfl, by decide +kernel, by decide +kernel⟩
theorem zdU {f : Addr} {fd : FuncData} (F : Fun K "show_bound" "show_bound" zaG f fd) (B : Blts mg) : FnOk P w K mg base CX0 1 f fd ["bound"] zaQ := by
 refine F.okJ zdI (fun vs H Q E h => ?_) (fun cdv A outer s H vs Q E hr h => ?_)
 ·obtain ⟨_, rfl, _⟩ := h
  rfl
 ·obtain ⟨o, rfl, ho, k⟩ := h
  refine ⟨_, (zan (zaR (zjF (zgi (e_v 0)) e_s (e_ct zfy B.str PyProof.Rows.boot_str (a1 (e_v 0)))))), ?_⟩
  cases o with
  | none => exact ⟨_, rfl, _, rfl, iteT k⟩
  | some n => exact ⟨_, rfl, _, rfl, iteF ⟨_, rfl, n, rfl, zh9 (ho n rfl), k⟩⟩
theorem zd4 : FnScope ["_law_bound"] ["_law_bound"] (zab zaK) := ⟨rfl, rfl, rfl, by decide +kernel, rfl, by decide +kernel, by decide +kernel⟩
theorem zel {f : Addr} {fd : FuncData} (F : Fun K "_law_word" "_law_word" zaK f fd) (B : Blts mg) : FnOk P w K mg base CX0 1 f fd ["_law_bound"] zaQ := by
 refine F.okJ zd4 (fun vs H Q E h => ?_) (fun cdv A outer s H vs Q E hr h => ?_)
 ·obtain ⟨_, rfl, _⟩ := h
  rfl
 ·obtain ⟨o, rfl, ho, k⟩ := h
  refine ⟨_, (zag (s_if (zgi (e_v 0)) (zan (zaR e_s)) zbo) (zan (zaR (e_ct zfy B.str PyProof.Rows.boot_str (a1 (e_v 0)))))), ?_⟩
  cases o with
  | none => exact ⟨_, rfl, _, rfl, iteT k⟩
  | some n => exact ⟨_, rfl, _, rfl, iteF ⟨_, rfl, n, rfl, zh9 (ho n rfl), k⟩⟩
def zbV : Sp := fun vs H Q _ => ∃ (p : Addr) (row : List Int), vs = [.ref p] ∧ H p = some (.tup (row.map V.int)) ∧ (∀ n ∈ row, n.natAbs < 10 ^ 60) ∧ row.length ≤ 5 ∧ ∀ H', Same H H' → Q (.str (Txt.join " " (row.map numS))) H'
theorem zeZ : FnScope ["row"] ["row"] (zab zaX) := ⟨rfl, rfl, rfl, by decide +kernel, rfl, by decide +kernel, by decide +kernel⟩
theorem zdW {row : List Int} (h : ∀ n ∈ row, n.natAbs < 10 ^ 60) : ((row.map numS).map (·.length)).sum ≤ row.length * 61 := by
 induction row with
 | nil => simp
 | cons n row ih =>
  have h1 := zb7 (k := 60) (by decide) (h n List.mem_cons_self)
  have h2 := ih fun x hx => h x (List.mem_cons_of_mem _ hx)
  simp only [List.map_cons, List.sum_cons, List.length_cons]
  omega
theorem zeM {f : Addr} {fd : FuncData} (F : Fun K "show_row" "show_row" zaX f fd) (B : Blts mg) : FnOk P w K mg base CX0 1 f fd ["row"] zbV := by
 refine F.okJ zeZ (fun vs H Q E h => ?_) (fun cdv A outer s H vs Q E hr h => ?_)
 ·obtain ⟨_, _, rfl, _⟩ := h
  rfl
 ·obtain ⟨p, row, rfl, hp, hn, l5, k⟩ := h
  have nd1 : (["cell"] : List Str).Nodup := by decide +kernel
  refine ⟨_, (zan (zaR (zfv e_s (a1c (zbJ (Nc := ["cell"]) (js := [none]) (g := (za5 0)) (tt := tYes) (te := (tCB (fun xs H Q => ∃ n : Int, xs = [.int n] ∧ n.natAbs.log2 < 1920 ∧ Q (.str (numS n)) H) (zap (tVar 0) tNil)))
   (zba rfl rfl rfl rfl (fun x c h => by cases h) rfl rfl rfl) (zkG (e_v 0))
   (fun pins C s3 H3 fp => ⟨(g_n 0 nd1), .inl ⟨rfl, rfl⟩, (e_ct zfy B.str PyProof.Rows.boot_str (a1 (e_v 0)))⟩)))))), ?_⟩
  refine ⟨rfl, _, rfl, p, rfl, ⟨_, SqT.of hp⟩, fun D hD => ?_⟩
  refine zfq (K := K) (a := p) (xs := row.map V.int) (fun i σ H' => ∃ o : Option V, σ = [o] ∧ Same H H' ∧ H' D = some (.lst (((row.take i).map numS).map V.str)))
   ⟨none, rfl, (Same.refl H).upd hD, zac⟩ (fun i σ H' _ ⟨_, _, sm, _⟩ => SqT.of (sm _ _ hp)) ?_ ?_
  ·rintro i x σ H' hx ⟨o, rfl, sm, h'⟩
   obtain ⟨n, en, rfl⟩ := zeq hx
   have hi : i < row.length := (List.getElem?_eq_some_iff.mp en).1
   refine ⟨_, rfl, n, rfl, zh9 (hn n (List.mem_of_getElem? en)), _, h', zam (by simp; omega), _, rfl, sm.upd hD, ?_⟩
   rw [zac, take_snoc en, List.map_append, List.map_append]
   rfl
  ·rintro σ H' ⟨o, rfl, sm, h'⟩
   rw [List.length_map, List.take_length] at h'
   have sl := zdW hn
   refine ⟨" ", D, row.map numS, rfl, rfl, SqL.of h', ?_, k H' sm⟩
   have e : (Str.ofString " ").length = 1 := by decide +kernel
   rw [e, List.length_map]
   omega
def zbn : Sp := fun vs H Q _ => ∃ (p : Addr) (fc : Fact), vs = [.ref p, vO fc.2.1, vO fc.2.2] ∧ H p = some (.tup (fc.1.map V.int)) ∧ okF fc ∧ ∀ H', Same H H' → Q (.str (zaP fc)) H'
theorem zcw : FnScope ["row", "start", "end", "cells", "first", "last"] ["row", "start", "end"] (zab zaN) := ⟨rfl, rfl, rfl, by decide +kernel, rfl, by decide +kernel, by decide +kernel⟩
theorem zd7 {f : Addr} {fd : FuncData} (F : Fun K "show_fact" "show_fact" zaN f fd) (F_show_row : FnP P w K mg base 1 "show_row" ["row"] zbV) (F_show_bound : FnP P w K mg base 1 "show_bound" ["bound"] zaQ) : FnOk P w K mg base CX0 2 f fd ["row", "start", "end"] zbn := by
 refine F.okJ zcw (fun vs H Q E h => ?_) (fun cdv A outer s H vs Q E hr h => ?_)
 ·obtain ⟨_, _, rfl, _⟩ := h
  rfl
 ·obtain ⟨p, fc, rfl, hp, ⟨o1, o2, o3, o4, o5⟩, k⟩ := h
  have nd := zcw.nd
  refine ⟨_, (zag (zay 3 nd (e_fn F_show_row hr (a1 (e_v 0))))
   (zag (zay 4 nd (e_fn F_show_bound hr (a1 (e_v 1))))
   (zag (zay 5 nd (e_fn F_show_bound hr (a1 (e_v 2))))
   (zan (zaR (zkB (zcr (ziX (e_v 3)) (zcr e_s (zcr (ziX (e_v 4)) (zcr e_s (zcr (ziX (e_v 5)) zlf))))))))))), ?_⟩
  have szl : ∀ n, n ≤ 1000 → n ≤ sizeLine := fun n h => Nat.le_of_lt (zam h)
  have lr : (Txt.join " " (fc.1.map numS)).length ≤ 400 := by
   have h1 := zdW o1
   have h2 : (Txt.join " " (fc.1.map numS)).length = ((fc.1.map numS).map (·.length)).sum + ((fc.1.map numS).length - 1) * (" " : Str).length := PySem.size_glued _ _
   have e : (Str.ofString " ").length = 1 := by decide +kernel
   rw [h2, e, List.length_map]
   omega
  have b1 := zcj o2
  have b2 := zcj o3
  refine ⟨_, rfl, p, fc.1, rfl, hp, o1, o5, fun H' s' => ?_⟩
  refine ⟨_, rfl, fc.2.1, rfl, o2, ?_⟩
  refine ⟨_, rfl, fc.2.2, rfl, o3, ?_⟩
  refine ⟨_, rfl, _, rfl, szl _ (by omega), _, rfl, by omega, _, rfl, by decide +kernel, _, rfl, _, rfl, szl _ (by omega), _, rfl, by omega, _, rfl, by decide +kernel, _, rfl, _, rfl, szl _ (by omega), _, rfl, by omega, ?_⟩
  show Q (.str _) H'
  rw [zg0 o4]
  exact k H' s'
end
theorem ziJ (c : List Nat) : ∀ P : List (List Nat), (gl c P).length ≤ (P.map List.length).sum + P.length * c.length
 | [] => by simp [gl]
 | [p] => by show p.length ≤ _; simp
 | p :: q :: r => by
  have ih := ziJ c (q :: r)
  have e : (gl c (p :: q :: r)).length = p.length + (c.length + (gl c (q :: r)).length) := by show (p ++ (c ++ gl c (q :: r))).length = _; simp
  rw [e]
  simp only [List.map_cons, List.sum_cons, List.length_cons, Nat.add_mul, Nat.one_mul] at ih ⊢
  omega
theorem zcd {f : Fact} (h : okF f) : (zaP f).length ≤ 600 := by
 obtain ⟨o1, o2, o3, o4, o5⟩ := h
 rw [Prf.str_len]
 unfold zaP
 rw [zbN]
 have h1 := ziJ SP.cps.toList ((zao f).map fun y => y.cps.toList)
 have h2 : ((zao f).map fun y => y.cps.toList).length ≤ 8 := by unfold zao; simp; omega
 have h3 : (((zao f).map fun y => y.cps.toList).map List.length).sum ≤ 5 * 61 + 1 + 61 + 61 := by
  have e : ((zao f).map fun y => y.cps.toList).map List.length = (zao f).map (·.length) := by
   rw [List.map_map]; exact List.map_congr_left fun y _ => (Prf.str_len y).symm
  rw [e]
  unfold zao
  rw [List.map_append, List.sum_append]
  have s1 := zdW o1
  have b1 := zcj o2
  have b2 := zcj o3
  have e1 : (Str.ofString "@").length = 1 := by decide +kernel
  simp only [List.map_cons, List.map_nil, List.sum_cons, List.sum_nil, e1]
  omega
 have h4 : SP.cps.toList.length = 1 := rfl
 rw [h4] at h1
 omega
section
variable {P : Program} {w : World} {K : PySem.W.Frag} {mg : Str → Option Value} {base : Heap}
def zbB : Sp := fun vs H Q _ => ∃ (a : Addr) (es : List Ent), vs = [.ref a] ∧ SheetAt H a es ∧ (zaf es).length ≤ 4000 ∧ (∀ f ∈ zaf es, okF f) ∧ ∀ H', Same H H' → Q (.str (Txt.join "; " ((zaf es).map zaP))) H'
theorem zdQ : FnScope ["sheet"] ["sheet"] (zab zaD) := ⟨rfl, rfl, rfl, by decide +kernel, rfl, by decide +kernel, by decide +kernel⟩
theorem zdG {f : Addr} {fd : FuncData} (F : Fun K "show_sheet" "show_sheet" zaD f fd) (F_facts_of : FnP P w K mg base 1 "facts_of" ["entries"] zbX) (F_show_fact : FnP P w K mg base 2 "show_fact" ["row", "start", "end"] zbn) : FnOk P w K mg base CX0 3 f fd ["sheet"] zbB := by
 refine F.okJ zdQ (fun vs H Q E h => ?_) (fun cdv A outer s H vs Q E hr h => ?_)
 ·obtain ⟨_, _, rfl, _⟩ := h
  rfl
 ·obtain ⟨a, es, rfl, ha, l900, okf, k⟩ := h
  have nd : (["row", "start", "end"] : List Str).Nodup := by decide +kernel
  refine ⟨_, (zan (zaR (zfv e_s (a1c (zbJ (Nc := ["row", "start", "end"]) (js := [none, none, none]) (g := (gTup K 3 (zeW (za5 0) (zeW (za5 1) (zeW (za5 2) gNil))))) (tt := tYes) (te := (zci zbn [] E0 (zap (tVar 0) (zap (tVar 1) (zap (tVar 2) tNil)))))
   (zba rfl rfl rfl rfl (fun x c h => by cases h) rfl rfl rfl) (zbg (e_fn F_facts_of hr (a1 (e_v 0))))
   (fun pins C s3 H3 fp => ⟨(zee (zaI (g_n 0 nd) (zaI (g_n 1 nd) (zaI (g_n 2 nd) zct)))), .inl ⟨rfl, rfl⟩, (e_fn F_show_fact hr (ac (e_v 0) (ac (e_v 1) (a1 (e_v 2)))))⟩)))))), ?_⟩
  refine ⟨rfl, _, rfl, a, es, rfl, ha, by omega, fun r H1 xs s1 hr1 h1 pf => ?_⟩
  have lx : xs.length = (zaf es).length := Paired.length pf
  refine ⟨r, rfl, ⟨xs, SqL.of h1⟩, fun D hD => ?_⟩
  refine za9 (K := K) (a := r) (xs := xs) (fun i _ σ H' => ∃ (p0 p1 p2 : Option V), σ = [p0, p1, p2] ∧ Same H1 H' ∧ H' D = some (.lst ((((zaf es).take i).map zaP).map V.str)))
   ⟨none, none, none, rfl, (Same.refl H1).upd hD, zac⟩ (fun i _ σ H' _ ⟨_, _, _, _, sm, _⟩ => SqL.of (sm _ _ h1)) ?_ ?_
  ·rintro i x _ σ H' hx ⟨p0, p1, p2, rfl, sm, h'⟩
   obtain ⟨fc, hf, t, p, rfl, ht, hp⟩ := zax pf hx
   have hi : i < (zaf es).length := (List.getElem?_eq_some_iff.mp hf).1
   refine ⟨t, _, rfl, SqT.of (sm _ _ ht), rfl, _, _, rfl, _, _, rfl, _, _, rfl, rfl, ?_⟩
   refine ⟨_, rfl, _, rfl, _, rfl, p, fc, rfl, sm _ _ hp, okf fc (List.mem_of_getElem? hf), fun H2 s2 => ?_⟩
   refine ⟨_, s2 _ _ h', Nat.lt_of_le_of_lt (show _ ≤ 4000 by simp; omega) (by decide), [], _, _, _, rfl, (sm.trans s2).upd hD, ?_⟩
   rw [zac, take_snoc hf, List.map_append, List.map_append]
   rfl
  ·rintro _ σ H' ⟨p0, p1, p2, rfl, sm, h'⟩
   rw [lx, List.take_length] at h'
   refine ⟨"; ", D, (zaf es).map zaP, rfl, rfl, SqL.of h', ?_, k H' (s1.trans sm)⟩
   have e : (Str.ofString "; ").length = 2 := by decide +kernel
   have sl : ∀ (fs : List Fact), (∀ f ∈ fs, okF f) → ((fs.map zaP).map (·.length)).sum ≤ fs.length * 600 := by
    intro fs
    induction fs with
    | nil => intro _; simp
    | cons f fs ih =>
     intro h
     have h1 := zcd (h f List.mem_cons_self)
     have h2 := ih fun x hx => h x (List.mem_cons_of_mem _ hx)
     simp only [List.map_cons, List.sum_cons, List.length_cons]
     omega
   have := sl _ okf
   rw [e, List.length_map]
   omega
end
theorem at_neg {α : Type} {xs : List α} {k : Nat} {v : α} (h1 : 1 ≤ k) (h2 : k ≤ xs.length) (h : xs[xs.length - k]? = some v) : atI xs (-(k : Int)) = some v := by
 unfold atI ixN
 rw [if_neg (by omega), if_pos (by omega)]
 show xs[(-(k : Int) + xs.length).toNat]? = some v
 rw [show (-(k : Int) + (xs.length : Int)).toNat = xs.length - k by omega]
 exact h
theorem zjl {xs : List V} {k : Nat} (h1 : 1 ≤ k) : cutV xs none (some (-(k : Int))) = xs.take (xs.length - k) := by
 unfold cutV
 have e1 : HT.sIx xs.length 0 none = 0 := rfl
 have e2 : HT.sIx xs.length xs.length (some (-(k : Int))) = xs.length - k := by
  show (if -(k : Int) < 0 then (-(k : Int) + (xs.length : Int)).toNat else min (-(k : Int)).toNat xs.length) = _
  rw [if_pos (by omega)]
  omega
 rw [e1, e2, List.drop_zero, Nat.sub_zero]
theorem zfB {c : Nat} (hc : c ≠ 45) (hd : ¬ (48 ≤ c ∧ c ≤ 57)) (n : Int) : c ∉ (numS n).cps.toList := by
 rw [zbr]
 have a := zb9 n
 intro h
 split at h
 ·rcases List.mem_cons.mp h with z | z
  ·exact hc z
  ·exact hd (a c z)
 ·exact hd (a c h)
theorem zft {c : Nat} (hc : c ≠ 45) (hd : ¬ (48 ≤ c ∧ c ≤ 57)) (hs : c ≠ 42) (o : Option Int) : c ∉ (bndS o).cps.toList := by
 cases o with
 | none =>
  have e0 : (Str.ofString "*").cps.toList = [42] := by decide +kernel
  show c ∉ (Str.ofString "*").cps.toList
  rw [e0]
  simpa using hs
 | some n => exact zfB hc hd n
theorem zdj {c : Nat} (hc : c ≠ 45) (hd : ¬ (48 ≤ c ∧ c ≤ 57)) (hs : c ≠ 42) (ha : c ≠ 64) (f : Fact) : ∀ w ∈ zao f, c ∉ w.cps.toList := by
 intro w hw
 unfold zao at hw
 rcases List.mem_append.mp hw with h | h
 ·obtain ⟨n, _, rfl⟩ := List.mem_map.mp h
  exact zfB hc hd n
 ·simp only [List.mem_cons, List.not_mem_nil, or_false] at h
  rcases h with rfl | rfl | rfl
  ·have e0 : (Str.ofString "@").cps.toList = [64] := by decide +kernel
   rw [e0]; simpa using ha
  ·exact zft hc hd hs _
  ·exact zft hc hd hs _
theorem zc2 (f : Fact) : Txt.split (zaP f) " " = zao f := by
 rw [zko]
 exact zgx (c := 32) (by unfold zao; simp) (zdj (by decide) (by decide) (by decide) (by decide) f)
section
variable {P : Program} {w : World} {K : PySem.W.Frag} {mg : Str → Option Value} {base : Heap}
def zbm : Sp := fun vs H Q _ => ∃ fc : Fact, vs = [.str (zaP fc)] ∧ okF fc ∧ okS fc.2 ∧ ∀ (t : Addr) (H' : Hp), Same H H' → H t = none → FactAt H' (.ref t) fc → Q (.ref t) H'
theorem zcx : FnScope ["text", "words", "cells", "start", "end"] ["text"] (zab zaL) := ⟨rfl, rfl, rfl, by decide +kernel, rfl, by decide +kernel, by decide +kernel⟩
theorem zeo {f : Addr} {fd : FuncData} {t1 : Tok} (F : Fun K "read_fact" "read_fact" zaL f fd) (B : Blts mg) (gC : mg "MOST_CELLS" = some (.int 5 t1)) (F_read_bound : FnP P w K mg base 3 "read_bound" ["text"] zbE) (F_read_number : FnP P w K mg base 2 "read_number" ["text"] zaT) (F_is_stretch : FnP P w K mg base 1 "is_stretch" ["start", "end"] zbd) : FnOk P w K mg base CX0 4 f fd ["text"] zbm := by
 refine F.okJ zcx (fun vs H Q E h => ?_) (fun cdv A outer s H vs Q E hr h => ?_)
 ·obtain ⟨_, rfl, _⟩ := h
  rfl
 ·obtain ⟨fc, rfl, okf, oks, k⟩ := h
  have fl := zcd okf
  obtain ⟨o1, o2, o3, o4, o5⟩ := okf
  have nd := zcx.nd
  have nd1 : (["cell"] : List Str).Nodup := by decide +kernel
  refine ⟨_, (zag (zay 1 nd (zgr (e_v 0) (a1 e_s)))
   (zag (zay 2 nd (zgF (e_v 1) (e_un zdc e_i)))
   (zag (s_if (JW.jt (w_or (zbl o_lt (e_cb zcm B.len PySem.boot_len (a1 (e_v 2))) e_i) (w_or (zbl o_gt (e_cb zcm B.len PySem.boot_len (a1 (e_v 2))) (zfl (v := .int 5) gC ⟨_, rfl⟩)) (zig (zbl o_ne (e_ix zbc (e_v 1) (e_un zdc e_i)) e_s))))) (zan zfC) zbo)
   (zag (zay 3 nd (e_fn F_read_bound hr (a1 (e_ix zbc (e_v 1) (e_un zdc e_i)))))
   (zag (zay 4 nd (e_fn F_read_bound hr (a1 (e_ix zbc (e_v 1) (e_un zdc e_i)))))
   (zag (s_if (zg8 (zeg (e_fn F_is_stretch hr (ac (e_v 3) (a1 (e_v 4)))))) (zan zfC) zbo)
   (zan (zaR (zcK (acn (e_ct zgo B.tuple PyProof.Rows.boot_tuple (a1c (zbJ (Nc := ["cell"]) (js := [none]) (g := (za5 0)) (tt := tYes) (te := (zci zaT [] E0 (zap (tVar 0) tNil)))
   (zba rfl rfl rfl rfl (fun x c h => by cases h) rfl rfl rfl) (zbg (e_v 2))
   (fun pins C s3 H3 fp => ⟨(g_n 0 nd1), .inl ⟨rfl, rfl⟩, (e_fn F_read_number hr (a1 (e_v 0)))⟩)))) (ac (e_v 3) (a1 (e_v 4))))))))))))), ?_⟩
  have szl : ∀ n, n ≤ 1000 → n ≤ sizeLine := fun n h => Nat.le_of_lt (zam h)
  refine ⟨_, rfl, rfl, zaP fc, " ", rfl, rfl, by decide +kernel, szl _ (by omega), fun D hD => ?_⟩
  rw [zc2]
  have s1 : Same H (upd H D (.lst ((zao fc).map V.str))) := (Same.refl H).upd hD
  have u1 : upd H D (.lst ((zao fc).map V.str)) D = some (.lst ((zao fc).map V.str)) := zac
  generalize upd H D (.lst ((zao fc).map V.str)) = H1 at s1 u1 ⊢
  have lw : ((zao fc).map V.str).length = fc.1.length + 3 := by unfold zao; simp
  refine ⟨_, rfl, 3, rfl, -3, rfl, D, _, rfl, SqL.of u1, fun C hC => ?_⟩
  have ec : cutV ((zao fc).map V.str) none (some (-3)) = (fc.1.map numS).map V.str := by
   have := zjl (xs := (zao fc).map V.str) (k := 3) (by decide)
   rw [lw, Nat.add_sub_cancel] at this
   rw [show (-3 : Int) = -((3 : Nat) : Int) from rfl, this]
   unfold zao
   rw [List.map_append, List.take_append_of_le_length (by simp), List.take_of_length_le (by simp)]
  rw [ec]
  have s2 : Same H1 (upd H1 C (.lst ((fc.1.map numS).map V.str))) := (Same.refl H1).upd hC
  have u2 : upd H1 C (.lst ((fc.1.map numS).map V.str)) C = some (.lst ((fc.1.map numS).map V.str)) := zac
  generalize upd H1 C (.lst ((fc.1.map numS).map V.str)) = H2 at s2 u2 ⊢
  have w3 : ∀ (j : Nat) (v : V), 1 ≤ j → j ≤ 3 → ([V.str "@", V.str (bndS fc.2.1), V.str (bndS fc.2.2)] : List V)[3 - j]? = some v → atI ((zao fc).map V.str) (-(j : Int)) = some v := fun j v h1 h2 h3 => by
   refine at_neg h1 (by rw [lw]; omega) ?_
   rw [lw]
   unfold zao
   rw [List.map_append, List.getElem?_append_right (by simp; omega)]
   simp only [List.length_map]
   rw [show fc.1.length + 3 - j - fc.1.length = 3 - j by omega]
   exact h3
  have l0 : fc.1.length ≠ 0 := fun z => o4 (List.length_eq_zero_iff.mp z)
  have ls : ((fc.1.map numS).map V.str).length = fc.1.length := by simp
  have u12 := s2 _ _ u1
  refine ⟨_, rfl, C, _, rfl, .inl (SqL.of u2), _, _, rfl, rfl, _, rfl, ?_⟩
  rw [ls]
  refine ite2 (fun z => absurd (of_decide_eq_true z) (by omega)) (fun _ => ?_)
  refine ⟨_, rfl, C, _, rfl, .inl (SqL.of u2), _, _, rfl, rfl, _, rfl, ?_⟩
  rw [ls]
  refine ite2 (fun z => absurd (of_decide_eq_true z) (by omega)) (fun _ => ?_)
  refine ⟨_, rfl, _, rfl, D, _, _, _, rfl, rfl, SqL.of u12, w3 3 _ (by decide) (by decide) rfl, rfl, _, rfl, ?_⟩
  refine iteF ?_
  refine ⟨_, rfl, _, rfl, D, _, _, _, rfl, rfl, SqL.of u12, w3 2 _ (by decide) (by decide) rfl, fc.2.1, rfl, o2, fun H3 s3 => ?_⟩
  refine ⟨_, rfl, _, rfl, D, _, _, _, rfl, rfl, SqL.of (s3 _ _ u12), w3 1 _ (by decide) (by decide) rfl, fc.2.2, rfl, o3, fun H4 s4 => ?_⟩
  refine ⟨_, rfl, _, rfl, fc.2.1, fc.2.2, rfl, _, rfl, ?_⟩
  rw [zeL.mpr oks]
  refine iteF ?_
  have s04 := s1.trans (s2.trans (s3.trans s4))
  have u4 := (s3.trans s4) _ _ u2
  refine ⟨_, rfl, C, rfl, ⟨_, SqL.of u4⟩, fun L hL => ?_⟩
  refine za9 (K := K) (a := C) (xs := (fc.1.map numS).map V.str) (fun i _ σ H' => ∃ o : Option V, σ = [o] ∧ Same H4 H' ∧ H' L = some (.lst ((fc.1.take i).map V.int)))
   ⟨none, rfl, (Same.refl H4).upd hL, zac⟩ (fun i _ σ H' _ ⟨_, _, sm, _⟩ => SqL.of (sm _ _ u4)) ?_ ?_
  ·rintro i x _ σ H' hx ⟨o, rfl, sm, h'⟩
   rw [List.map_map] at hx
   obtain ⟨n, en, rfl⟩ := zeq hx
   refine ⟨_, rfl, n, rfl, o1 n (List.mem_of_getElem? en), fun H5 s5 => ?_⟩
   refine ⟨_, s5 _ _ h', zam (by simp; omega), [], _, rfl, (sm.trans s5).upd hL, ?_⟩
   rw [zac, take_snoc en, List.map_append]
   rfl
  ·rintro _ σ H' ⟨o, rfl, sm, h'⟩
   rw [ls, List.take_length] at h'
   refine ⟨L, _, rfl, .inl ⟨SqL.of h', fun t ht => ?_⟩⟩
   have s6 : Same H' (upd H' t (.tup (fc.1.map V.int))) := (Same.refl H').upd ht
   have u6 : upd H' t (.tup (fc.1.map V.int)) t = some (.tup (fc.1.map V.int)) := zac
   generalize upd H' t (.tup (fc.1.map V.int)) = H6 at s6 u6 ⊢
   refine ⟨_, rfl, _, rfl, by show 3 ≤ sizeLine; decide, fun v hv => ?_⟩
   have s7 : Same H6 (upd H6 v (.tup [.ref t, vO fc.2.1, vO fc.2.2])) := (Same.refl H6).upd hv
   exact k v _ (s04.trans (sm.trans (s6.trans s7))) ((s04.trans (sm.trans s6)).free hv) ⟨v, t, rfl, zac, s7 _ _ u6⟩
end
end Prf
namespace L2
open PySem PySem.Spec PyProof.Rows
theorem zk9 {X : Cx} {x : Str} {e : Expr} {te : TE} {pos : Pos} (i : Nat) {pos' : Pos} (hN : X.N.Nodup) (he : JE X e te) (hsw : swapsWith e (some (.Name x pos')) pos.line X.env = pure false := by rfl) (hi : X.N[i]? = some x := by rfl) (hx : Loc X.env.scope x := by first | exact Or.inl rfl | exact Or.inr rfl)
  (hf : X.fn x = true ∨ X.env.scope.names.lookup x = some .local := by first | exact .inl rfl | exact .inr rfl) : JS X (.Assign [.Name x pos'] e pos) (tAsg te (za5 i)) := ⟨zgs hN hi hx he.h hsw hf⟩
end L2
namespace Prf
open PySem L2 Wr
theorem zix {c : Nat} {sep : List Nat} : ∀ {P : List (List Nat)}, c ∈ gl sep P → c ∈ sep ∨ ∃ p ∈ P, c ∈ p
 | [], h => by simp [gl] at h
 | [p], h => .inr ⟨p, List.mem_cons_self, h⟩
 | p :: q :: r, h => by
  have h' : c ∈ p ++ (sep ++ gl sep (q :: r)) := h
  rcases List.mem_append.mp h' with h1 | h1
  ·exact .inr ⟨p, List.mem_cons_self, h1⟩
  ·rcases List.mem_append.mp h1 with h2 | h2
   ·exact .inl h2
   ·rcases zix h2 with h3 | ⟨x, hx, h3⟩
    ·exact .inl h3
    ·exact .inr ⟨x, List.mem_cons_of_mem _ hx, h3⟩
theorem zgO (f : Fact) : 59 ∉ (zaP f).cps.toList := fun h => by
 unfold zaP at h
 rw [zbN] at h
 rcases zix h with h | ⟨p, hp, h⟩
 ·have : SP.cps.toList = [32] := rfl
  rw [this] at h
  simp at h
 ·obtain ⟨w, hw, rfl⟩ := List.mem_map.mp hp
  exact zdj (c := 59) (by decide) (by decide) (by decide) (by decide) f w hw h
def zcs (fs : List Fact) : Str := Txt.join "; " (fs.map zaP)
theorem zc7 {fs : List Fact} (ne : fs ≠ []) : Txt.split (zcs fs) "; " = fs.map zaP := by
 unfold zcs
 rw [join_eq, zlG]
 exact zhd (c := 59) (d := 32) (by decide) (by decide +kernel) (by simpa using ne) fun w hw => by obtain ⟨f, _, rfl⟩ := List.mem_map.mp hw; exact zgO f
theorem zfQ {fs : List Fact} (ne : fs ≠ []) : zcs fs ≠ "" := fun z => by
 have h := zc7 ne
 rw [z] at h
 have e1 : Txt.split "" "; " = [("" : Str)] := by decide +kernel
 rw [e1] at h
 cases fs with
 | nil => exact ne rfl
 | cons f fs =>
  rw [List.map_cons] at h
  have e2 := zc2 f
  rw [← (List.cons.inj h).1] at e2
  have e3 : Txt.split "" " " = [("" : Str)] := by decide +kernel
  rw [e3] at e2
  have := congrArg List.length e2
  unfold zao at this
  simp at this
theorem zgh {fs : List Fact} (h : ∀ f ∈ fs, okF f) : (zcs fs).length ≤ fs.length * 602 := by
 have h2 : (zcs fs).length = ((fs.map zaP).map (·.length)).sum + ((fs.map zaP).length - 1) * ("; " : Str).length := PySem.size_glued _ _
 have e : (Str.ofString "; ").length = 2 := by decide +kernel
 have sl : ∀ (fs : List Fact), (∀ f ∈ fs, okF f) → ((fs.map zaP).map (·.length)).sum ≤ fs.length * 600 := by
  intro fs
  induction fs with
  | nil => intro _; simp
  | cons f fs ih =>
   intro h
   have h1 := zcd (h f List.mem_cons_self)
   have h2 := ih fun x hx => h x (List.mem_cons_of_mem _ hx)
   simp only [List.map_cons, List.sum_cons, List.length_cons]
   omega
 have := sl fs h
 rw [h2, e, List.length_map]
 omega
section
variable {P : Program} {w : World} {K : PySem.W.Frag} {mg : Str → Option Value} {base : Heap}
def zbw : Sp := fun vs H Q _ => ∃ (fs : List Fact) (L : Nat), vs = [.str (zcs fs)] ∧ fs.length ≤ 60 ∧ (∀ f ∈ fs, okF f) ∧ (∀ f ∈ fs, okS f.2) ∧ (∀ f ∈ fs, f.1.length = L) ∧
 ∀ (p : Addr) (H' : Hp) (xs : List V), Same H H' → H p = none → H' p = some (.lst xs) → Paired (FactAt H') xs fs → Q (.ref p) H'
theorem zb8 : FnScope ["text", "facts"] ["text"] (zab zaA) := ⟨rfl, rfl, rfl, by decide +kernel, rfl, by decide +kernel, by decide +kernel⟩
theorem zdz {f : Addr} {fd : FuncData} {t1 : Tok} (F : Fun K "read_facts" "read_facts" zaA f fd) (B : Blts mg) (gM : mg "MOST_FACTS" = some (.int 60 t1)) (F_read_fact : FnP P w K mg base 4 "read_fact" ["text"] zbm) : FnOk P w K mg base CX0 5 f fd ["text"] zbw := by
 refine F.okJ zb8 (fun vs H Q E h => ?_) (fun cdv A outer s H vs Q E hr h => ?_)
 ·obtain ⟨_, _, rfl, _⟩ := h
  rfl
 ·obtain ⟨fs, L, rfl, l60, okf, oks, wid, k⟩ := h
  have nd := zb8.nd
  have nd1 : (["part"] : List Str).Nodup := by decide +kernel
  have nd2 : (["fact", "facts"] : List Str).Nodup := by decide +kernel
  refine ⟨_, (zag (s_if (zg8 (zeg (e_cb zkq B.isinstance PyProof.Rows.boot_isinstance (ac (e_v 0) (a1 (e_ty B.str PyProof.Rows.boot_str)))))) (zan zfC) zbo)
   (zag (s_if (zbl o_eq (e_v 0) e_s) (zan (zaR (zb4 a0))) zbo)
   (zag (zk9 1 nd (zbJ (Nc := ["part"]) (js := [none]) (g := (za5 0)) (tt := tYes) (te := (zci zbm [] E0 (zap (tVar 0) tNil)))
   (zba rfl rfl rfl rfl (fun x c h => by cases h) rfl rfl rfl) (zbg (zgr (e_v 0) (a1 e_s)))
   (fun pins C s3 H3 fp => ⟨(g_n 0 nd1), .inl ⟨rfl, rfl⟩, (e_fn F_read_fact hr (a1 (e_v 0)))⟩)))
   (zag (s_if (zbl o_gt (e_cb zcm B.len PySem.boot_len (a1 (e_v 1))) (zfl (v := .int 60) gM ⟨_, rfl⟩)) (zan zfC) zbo)
   (zag (s_if (zeg (e_cb zlB B.any PyProof.Rows.boot_any (a1c (zbJ (Nc := ["fact", "facts"]) (js := [none, some 1]) (g := (za5 0)) (tt := tYes) (te := (tOp rNe (tCB (fun xs H Q => ∃ p ys, xs = [.ref p] ∧ (SqL K H p ys ∨ SqT K H p ys) ∧ Q (.int ys.length) H) (zap (tOp (rIxT K) (tVar 0) (tC (.int 0))) tNil)) (tCB (fun xs H Q => ∃ p ys, xs = [.ref p] ∧ (SqL K H p ys ∨ SqT K H p ys) ∧ Q (.int ys.length) H) (zap (tOp (rIxT K) (tOp (rIxL K) (tVar 1) (tC (.int 0))) (tC (.int 0))) tNil))))
   (zba rfl rfl rfl rfl (fun x c h => by simp at h; rcases h with ⟨rfl, rfl⟩ <;> rfl) rfl rfl rfl) (zbg (e_v 1))
   (fun pins C s3 H3 fp => ⟨(g_n 0 nd2), .inl ⟨rfl, rfl⟩, (zgM o_ne (e_cb zcm B.len PySem.boot_len (a1 (e_ix zcC (e_v 0) e_i))) (e_cb zcm B.len PySem.boot_len (a1 (e_ix zcC (e_ix zbc (e_v 1) e_i) e_i))))⟩))))) (zan zfC) zbo)
   (zan (zaR (e_v 1)))))))), ?_⟩
  have szl : ∀ n, n ≤ 1000 → n ≤ sizeLine := fun n h => Nat.le_of_lt (zam h)
  have fl := zgh okf
  refine ⟨_, rfl, _, _, _, _, rfl, .str _, zfz K "str", _, rfl, iteF ?_⟩
  by_cases ne : fs = []
  ·subst ne
   have e0 : zcs [] = "" := by decide +kernel
   rw [e0]
   refine ⟨_, rfl, rfl, _, rfl, zi2 ?_⟩
   exact ⟨Nat.zero_le _, fun p hp => k p _ [] ((Same.refl H).upd hp) hp zac .nil⟩
  ·refine ⟨_, rfl, rfl, _, rfl, zho (zfQ ne) ?_⟩
   refine ⟨_, rfl, rfl, zcs fs, "; ", rfl, rfl, by decide +kernel, Nat.le_trans (show _ ≤ 60 * 602 + 2 by omega) (by decide), fun D hD => ?_⟩
   rw [zc7 ne]
   have s1 : Same H (upd H D (.lst ((fs.map zaP).map V.str))) := (Same.refl H).upd hD
   have u1 : upd H D (.lst ((fs.map zaP).map V.str)) D = some (.lst ((fs.map zaP).map V.str)) := zac
   generalize upd H D (.lst ((fs.map zaP).map V.str)) = H1 at s1 u1 ⊢
   refine ⟨D, rfl, ⟨_, SqL.of u1⟩, fun L1 hL => ?_⟩
   refine za9 (K := K) (a := D) (xs := (fs.map zaP).map V.str) (fun i _ σ H' => ∃ (o : Option V) (ys : List V), σ = [o] ∧ Same H1 H' ∧ H' L1 = some (.lst ys) ∧ Paired (FactAt H') ys (fs.take i))
    ⟨none, [], rfl, (Same.refl H1).upd hL, zac, .nil⟩ (fun i _ σ H' _ ⟨_, _, _, sm, _⟩ => SqL.of (sm _ _ u1)) ?_ ?_
   ·rintro i x _ σ H' hx ⟨o, ys, rfl, sm, h', py⟩
    rw [List.map_map] at hx
    obtain ⟨fc, ef, rfl⟩ := zeq hx
    have hi : i < fs.length := (List.getElem?_eq_some_iff.mp ef).1
    have hm := List.mem_of_getElem? ef
    refine ⟨_, rfl, fc, rfl, okf fc hm, oks fc hm, fun t H2 s2 ht hf => ?_⟩
    have h2 := s2 _ _ h'
    have nt := zbh h2
    have ly : ys.length = i := by rw [Paired.length py, List.length_take]; omega
    refine ⟨ys, h2, zam (by omega), [], _, ys ++ [.ref t], rfl, (sm.trans s2).upd hL, zac, ?_⟩
    rw [take_snoc ef]
    exact zav (R := FactAt (upd H2 L1 (.lst (ys ++ [.ref t])))) (FactAt.off (fun b xs h => zbk nt b xs h) hf) (zbs (fun b xs h => zbk nt b xs h) (za2 s2 py))
   ·rintro _ σ H' ⟨o, ys, rfl, sm, h', py⟩
    rw [List.length_map, List.length_map, List.take_length] at py
    have ly : ys.length = fs.length := Paired.length py
    refine ⟨_, rfl, L1, ys, rfl, .inl (SqL.of h'), _, _, rfl, rfl, _, rfl, ?_⟩
    refine ite2 (fun z => absurd (of_decide_eq_true z) (by omega)) (fun _ => ?_)
    refine ⟨_, rfl, L1, rfl, ⟨ys, SqL.of h'⟩, fun L2' hL2 => ?_⟩
    obtain ⟨y0, e0⟩ : ∃ y0, ys[0]? = some y0 := by
     cases ys with
     | nil => exact absurd (List.length_eq_zero_iff.mp ly.symm) ne
     | cons y r => exact ⟨y, rfl⟩
    obtain ⟨f0, ef0, t0, p0, rfl, ht0, hp0⟩ := zax py e0
    have w0 := wid f0 (List.mem_of_getElem? ef0)
    refine za9 (K := K) (a := L1) (xs := ys) (fun i _ σ H2 => ∃ (o : Option V), σ = [o, some (.ref L1)] ∧ Same H' H2 ∧ H2 L2' = some (.lst ((List.replicate i false).map V.bl)))
     ⟨none, rfl, (Same.refl H').upd hL2, zac⟩ (fun i _ σ H2 _ ⟨_, _, sm, _⟩ => SqL.of (sm _ _ h')) ?_ ?_
    ·rintro i x _ σ H2 hx ⟨o, rfl, sm2, h2⟩
     obtain ⟨fc, ef, t, p, rfl, ht, hp⟩ := zax py hx
     have hi : i < fs.length := (List.getElem?_eq_some_iff.mp ef).1
     have wc := wid fc (List.mem_of_getElem? ef)
     refine ⟨_, rfl, t, _, 0, _, rfl, rfl, SqT.of (sm2 _ _ ht), rfl, p, _, rfl, .inr (SqT.of (sm2 _ _ hp)), ?_⟩
     refine ⟨_, rfl, L1, ys, 0, _, rfl, rfl, SqL.of (sm2 _ _ h'), zbL e0, t0, _, 0, _, rfl, rfl, SqT.of (sm2 _ _ ht0), rfl, p0, _, rfl, .inr (SqT.of (sm2 _ _ hp0)), rfl, ?_⟩
     have e : (!decide (V.int ((fc.1.map V.int).length) = V.int ((f0.1.map V.int).length))) = false := by rw [List.length_map, List.length_map, wc, w0]; simp
     rw [e]
     refine ⟨_, h2, zam (by simp; omega), [], _, rfl, sm2.upd hL2, ?_⟩
     rw [zac, List.replicate_succ', List.map_append]
     rfl
    ·rintro _ σ H2 ⟨o, rfl, sm2, h2⟩
     refine ⟨L2', _, rfl, SqL.of h2, ?_⟩
     have e : (List.replicate ys.length false).any id = false := by simp
     rw [e]
     refine ⟨_, rfl, iteF ⟨_, rfl, ?_⟩⟩
     exact k L1 H2 ys (s1.trans (sm.trans sm2)) (s1.free hL) (sm2 _ _ h') (za2 sm2 py)
end
section
variable {P : Program} {w : World} {K : PySem.W.Frag} {mg : Str → Option Value} {base : Heap}
def zbD : Sp := fun vs H Q _ => ∃ (pg pd : Addr) (g : List Int) (kn : Kn), vs = [.ref pg, .ref pd] ∧ H pg = some (.lst (g.map V.int)) ∧ Inc g ∧ 1 ≤ g.length ∧ g.length ≤ 39 ∧ KnownAt H pd kn ∧ (∀ q ∈ kn, q.2.2.length = g.length + 1) ∧ (∀ q ∈ kn, q.2.2.any id = true) ∧ kn.length < 64 ∧
 ∀ (D : Addr) (H' : Hp) (es : List Ent), Same H H' → H D = none → SheetN H H' D es → ShB (fun r m => zeu kn (zaU g m) r) es → (∀ e ∈ es, e.2.length ≤ 50) → (∀ e ∈ es, e.1 ∈ kn.map (·.1)) → Q (.ref D) H'
theorem zdN : FnScope ["_law_grid_here", "_law_known"] ["_law_grid_here", "_law_known"] (zab zaF) := ⟨rfl, rfl, rfl, by decide +kernel, rfl, by decide +kernel, by decide +kernel⟩
theorem zdK {f : Addr} {fd : FuncData} (F : Fun K "_law_sheet" "_law_sheet" zaF f fd) (B : Blts mg) (FP : FnP P w K mg base 2 "_law_span" ["_law_grid_here", "_law_lit"] zfu) : FnOk P w K mg base CX0 3 f fd ["_law_grid_here", "_law_known"] zbD := by
 refine F.okJ zdN (fun vs H Q E h => ?_) (fun cdv A outer s H vs Q E hr h => ?_)
 ·obtain ⟨_, _, _, _, rfl, _⟩ := h
  rfl
 ·obtain ⟨pg, pd, g, kn, rfl, hg0, inc, g1, g39, hk, klen, kany, kn64, fin⟩ := h
  have nd3 : (["_law_row_here", "_law_grid_here", "_law_known"] : List Str).Nodup := by decide +kernel
  refine ⟨_, (zan (zaR (zbJ (Nc := ["_law_row_here", "_law_grid_here", "_law_known"]) (js := [none, some 0, some 1]) (g := (za5 0)) (tt := tYes) (te := (tTup (zap (tVar 0) (zap (zci zfu [] E0 (zap (tVar 1) (zap (zh0 (tVar 2) (tVar 0)) tNil))) tNil))))
   (zba rfl rfl rfl rfl (fun x c h => by simp at h; rcases h with ⟨rfl, rfl⟩ | ⟨rfl, rfl⟩ <;> rfl) rfl rfl rfl) (zbg (e_cb zgK B.sorted PyProof.Rows.boot_sorted (a1 (zla (e_v 1)))))
   (fun pins C s3 H3 fp => ⟨(g_n 0 nd3), .inl ⟨rfl, rfl⟩, (zcK (ac (e_v 0) (a1 (e_fn FP hr (ac (e_v 1) (a1 (ziv hr (e_v 2) (e_v 0))))))))⟩)))), ?_⟩
  have lk : (zbp kn).length < 64 := by unfold zbp; rw [List.length_map]; exact kn64
  refine ⟨_, rfl, pd, _, rfl, hk.at', fun v hv => ?_⟩
  have t2 : Same H (upd H v (vwO v pd)) := (Same.refl H).upd hv
  have u2 : upd H v (vwO v pd) v = some (vwO v pd) := zac
  generalize upd H v (vwO v pd) = Ha at t2 u2 ⊢
  have hka := hk.same t2
  refine ⟨v, pd, _, _, rfl, hka.tdict, .inr u2, lk, fun D2 ys2 ks' hD2 p2 pm2 pw2 => ?_⟩
  have t3 : Same Ha (upd Ha D2 (.lst ys2)) := (Same.refl Ha).upd hD2
  have u3 : upd Ha D2 (.lst ys2) D2 = some (.lst ys2) := zac
  have p3 := zd8 t3 p2
  generalize upd Ha D2 (.lst ys2) = Hb at t3 u3 p3 ⊢
  have t03 := t2.trans t3
  have hkb := hka.same t3
  have hgb := t03 _ _ hg0
  have ly2 : ys2.length = ks'.length := Paired.length p3
  have lks : ks'.length < 64 := by rw [pm2.length_eq, List.length_map]; exact kn64
  refine ⟨D2, rfl, ⟨_, SqL.of u3⟩, fun D3 hD3 => ?_⟩
  have f3 : H D3 = none := t03.free hD3
  refine za9 (K := K) (a := D2) (xs := ys2) (fun i _ σ H4 => ∃ (o : Option V) (xs : List V) (es : List Ent), σ = [o, some (.ref pg), some (.ref pd)] ∧ Same Hb H4 ∧ H4 D3 = some (.lst xs) ∧ Paired (EntN H H4 D3) xs es ∧ es.map (·.1) = (ks'.take i).filter (hasT kn) ∧ ∀ e ∈ es, zjy kn g e)
   ⟨none, [], [], rfl, (Same.refl Hb).upd hD3, zac, .nil, rfl, fun e h => nomatch h⟩ (fun i _ σ H4 _ ⟨_, _, _, _, sm, _⟩ => SqL.of (sm _ _ u3)) ?_ ?_
  ·rintro i x _ σ H4 hx ⟨o, xs, es, rfl, sm, h4, pr, em, good⟩
   obtain ⟨row, er, t, rfl, ht⟩ := zax p3 hx
   have hrow : row ∈ kn.map (·.1) := pm2.mem_iff.mp (List.mem_of_getElem? er)
   obtain ⟨q, hq, rfl⟩ := List.mem_map.mp hrow
   have hk4 := hkb.same sm
   have hv := zgN hk4.nd hq
   have ht4 : H4 t = some (.tup ((q.1.map Sum.inl : List Key).map kV)) := by rw [zcN]; exact sm _ _ ht
   have eh : hasT kn q.1 = true := by unfold hasT; rw [zfA hk.nd hq]; exact kany q hq
   refine ⟨_, rfl, _, rfl, _, rfl, _, rfl, pd, _, rfl, .inr ⟨_, _, t, hk4.at', rfl, ht4, hv.symm⟩, pg, q.2.1, g, q.2.2, rfl, sm _ _ hgb, hk4.lit q hq, inc, klen q hq, g39, fun r H5 zs s5 hr5 hspan lz can eqz => ⟨by show 2 ≤ sizeLine; decide, fun u hu => ?_⟩⟩
   have s6 : Same H5 (upd H5 u (.tup [.ref t, .ref r])) := (Same.refl H5).upd hu
   have u6 : upd H5 u (.tup [.ref t, .ref r]) u = some (.tup [.ref t, .ref r]) := zac
   generalize upd H5 u (.tup [.ref t, .ref r]) = H6 at s6 u6 ⊢
   have s46 := s5.trans s6
   have h6 := s46 _ _ h4
   have lx : xs.length = es.length := Paired.length pr
   have le : es.length = ((ks'.take i).filter (hasT kn)).length := by rw [← em, List.length_map]
   have lf := List.length_filter_le (hasT kn) (ks'.take i)
   rw [List.length_take] at lf
   have nr : r ≠ D3 := fun z => by rw [z, h4] at hr5; cases hr5
   have fr : H r = none := (t03.trans sm).free hr5
   have nt := zbh h6
   have wr : ∀ {v : V} {e : Ent}, EntN H H6 D3 v e → EntN H (upd H6 D3 (.lst (xs ++ [.ref u]))) D3 v e := fun ⟨t, p, q, a1, a2, a3, a4, a5, a6⟩ => ⟨t, p, q, a1, zbk nt _ _ a2, zbk nt _ _ a3, a4.wr nt a6, a5, a6⟩
   refine ⟨xs, h6, zam (by omega), [], _, xs ++ [.ref u], es ++ [(q.1, zs)], rfl, (sm.trans s46).upd hD3, zac, ?_, ?_, fun e he => ?_⟩
   ·exact zav (R := EntN H (upd H6 D3 (.lst (xs ++ [.ref u]))) D3) (wr (e := (q.1, zs)) ⟨u, t, r, rfl, u6, (sm.trans s46) _ _ ht, hspan.same s6, fr, nr⟩) (Paired.mapP pr fun _ _ ⟨t, p, q, a1, a2, a3, a4, a5, a6⟩ => wr ⟨t, p, q, a1, s46 _ _ a2, s46 _ _ a3, a4.same s46, a5, a6⟩)
   ·rw [take_snoc er, List.filter_append, List.map_append, em]
    simp [eh]
   ·rcases List.mem_append.mp he with z | z
    ·exact good e z
    ·rw [List.mem_singleton.mp z]; exact ⟨q, hq, rfl, can, lz, eqz⟩
  ·rintro _ σ H4 ⟨o, xs, es, rfl, sm, h4, pr, em, good⟩
   rw [ly2, List.take_length] at em
   refine fin D3 H4 es (t03.trans sm) f3 ⟨xs, h4, pr⟩ (zi8 inc g1 hk.nd klen pm2 pw2 em good) (fun e he => by obtain ⟨_, _, _, _, x, _⟩ := good e he; exact x) fun e he => ?_
   obtain ⟨q, hq, e1, _⟩ := good e he
   rw [← e1]; exact List.mem_map_of_mem hq
end
section
variable {P : Program} {w : World} {K : PySem.W.Frag} {mg : Str → Option Value} {base : Heap}
theorem zjI {l : List Bool} {j : Nat} (h : j < l.length) : (l.set j true).any id = true := by
 rw [List.any_eq_true]
 exact ⟨true, List.mem_iff_getElem?.mpr ⟨j, by simp [h]⟩, rfl⟩
def ziG (K : PySem.W.Frag) : Sp := fun vs H Q _ => ∃ (a : Addr) (ns : List Int), vs = [.ref a] ∧ SqL K H a (ns.map V.int) ∧ ns.length ≤ 63 ∧ ∀ H', Q (.bl true) H'
abbrev ziZ (K : PySem.W.Frag) : Sp := ziG K
theorem ziA : FnScope ["_law_script", "_law_cells", "_law_drawn", "_law_grid_here", "_law_known", "_law_cell", "_law_row_here", "_law_lit", "_law_sheet_here", "_law_facts", "_law_texts", "_law_span_here", "_law_start", "_law_end", "_law_words", "_law_found"] ["_law_script"] (zab zbT) := ⟨rfl, rfl, rfl, by decide +kernel, rfl, by decide +kernel, by decide +kernel⟩
theorem zjN {f CS CW : Addr} {fd : FuncData} (F : Fun K "law" "law" zbT f fd) (B : Blts mg) (FM : FnP P w K mg base 1 "_law_mix" ["_law_cell", "_law_j"] zeX) (FG : FnP P w K mg base 2 "_law_grid" ["_law_cell"] zf5)
  (FH : FnP P w K mg base 3 "_law_sheet" ["_law_grid_here", "_law_known"] zbD) (FR : FnP P w K mg base 2 "_law_row" ["_law_drawn", "_law_number"] zb1) (FW : FnP P w K mg base 1 "_law_word" ["_law_bound"] zaQ)
  (FS : FnP P w K mg base 3 "show_sheet" ["sheet"] zbB) (FD : FnP P w K mg base 5 "read_facts" ["text"] zbw) (FO : FnX P w K mg base 5 "sheet_of" ["facts"] (zbY CS CW)) : FnOk P w K mg base CX0 6 f fd ["_law_script"] (ziG K) := by
 refine F.okJ ziA (fun vs H Q E h => ?_) (fun cdv A outer s H vs Q E hr h => ?_)
 ·obtain ⟨a, ns, rfl, _⟩ := h
  rfl
 ·obtain ⟨a, ns, rfl, hS, h63, k⟩ := h
  have nd := ziA.nd
  have nd1 : (["_law_k"] : List Str).Nodup := by decide +kernel
  have nd2 : (["_law_cell"] : List Str).Nodup := by decide +kernel
  refine ⟨_, (zag (zay 1 nd (zgF (e_v 0) e_i))
   (zag (zay 2 nd (e_cb zlx B.sum PyProof.Rows.boot_sum (a1 (e_v 1))))
   (zag (zay 3 nd (e_fn FG hr (a1 (e_v 2))))
   (zag (zis 4 nd zg9)
   (zag (zdA (zbg (e_v 1)) (g_n 5 nd)
    (zag (zay 6 nd (e_fn FR hr (ac (e_v 2) (a1 (e_op zbt (e_fn FM hr (ac (e_v 5) (a1 e_i))) e_i)))))
    (zag (zay 7 nd (zfk hr (e_v 4) (ac (e_v 6) (acn (zbJ (Nc := ["_law_k"]) (js := [none]) (g := (za5 0)) (tt := tYes) (te := (tC (.bl false)))
   (zba rfl rfl rfl rfl (fun x c h => by cases h) rfl rfl rfl) (ziB B.range (a1 (e_op zch (e_cb zcm B.len PySem.boot_len (a1 (e_v 3))) e_i)))
   (fun pins C s3 H3 fp => ⟨(g_n 0 nd1), .inl ⟨rfl, rfl⟩, e_b⟩)) a0))))
    (zan (zkE e_b (zkX (e_v 7) (e_op zbt (e_fn FM hr (ac (e_v 5) (a1 e_i))) (e_cb zcm B.len PySem.boot_len (a1 (e_v 7)))) ziq))))))
   (zag (zay 8 nd (e_fn FH hr (ac (e_v 3) (a1 (e_v 4)))))
   (zag (zay 9 nd (zb4 a0))
   (zag (zay 10 nd (zb4 a0))
   (zag (zdA (zbg (e_v 8)) (zee (zaI (g_n 6 nd) (zaI (g_n 11 nd) zct)))
    (zan (zdA (zbg (e_v 11)) (zee (zaI (g_n 12 nd) (zaI (g_n 13 nd) zct)))
     (zag (zfF (e_v 9) (zcK (ac (e_v 6) (ac (e_v 12) (a1 (e_v 13))))))
     (zag (zay 14 nd (e_op zlM (zbJ (Nc := ["_law_cell"]) (js := [none]) (g := (za5 0)) (tt := tYes) (te := (tCB (fun xs H Q => ∃ n : Int, xs = [.int n] ∧ n.natAbs.log2 < 1920 ∧ Q (.str (numS n)) H) (zap (tVar 0) tNil)))
   (zba rfl rfl rfl rfl (fun x c h => by cases h) rfl rfl rfl) (zkG (e_v 6))
   (fun pins C s3 H3 fp => ⟨(g_n 0 nd2), .inl ⟨rfl, rfl⟩, (e_ct zfy B.str PyProof.Rows.boot_str (a1 (e_v 0)))⟩)) (zb4 (ac e_s (ac (e_fn FW hr (a1 (e_v 12))) (a1 (e_fn FW hr (a1 (e_v 13)))))))))
     (zan (zfF (e_v 10) (zfv e_s (a1 (e_v 14))))))))))
   (zag (zay 15 nd (e_fn FS hr (a1 (e_v 8))))
   (zag (s_if (JW.jt (w_or (zg8 (zeg (e_cb zkq B.isinstance PyProof.Rows.boot_isinstance (ac (e_v 15) (a1 (e_ty B.str PyProof.Rows.boot_str)))))) (w_or (zbl o_ne (e_v 15) (zfv e_s (a1 (e_v 10)))) (zig (zbl (zlI hr) (e_v 8) (e_fn FH hr (ac (e_v 3) (a1 (e_v 4))))))))) (zan (zaR e_b)) zbo)
   (zag (s_if (zbl o_gt (e_cb zcm B.len PySem.boot_len (a1 (e_v 9))) e_i) (zan (zaR e_b)) zbo)
   (zan (zaR (zlm (zgM (zkQ hr) (e_fn FD hr (a1 (e_v 15))) (e_v 9)) (zi6 (zgM (zkQ hr) ((x_fn FO hr (a1 (e_fn FD hr (a1 (e_v 15))))).je zkL) (e_v 8)))))))))))))))))), ?_⟩
  refine ⟨_, rfl, 63, rfl, a, _, rfl, hS, fun pc hpc => ?_⟩
  have e63 : cutV (ns.map V.int) none (some 63) = (ns.take 63).map V.int := zfg ns 63
  rw [e63]
  have s1 : Same H (upd H pc (.lst ((ns.take 63).map V.int))) := (Same.refl H).upd hpc
  have c62 : (ns.take 63).length ≤ 63 := by rw [List.length_take]; omega
  generalize ns.take 63 = cs at s1 c62 ⊢
  have hc1 : upd H pc (.lst (cs.map V.int)) pc = some (.lst (cs.map V.int)) := zac
  generalize upd H pc (.lst (cs.map V.int)) = H1 at s1 hc1 ⊢
  refine ⟨_, rfl, pc, cs, rfl, SqL.of hc1, ?_⟩
  show tSeq _ _ _ [some (.ref a), some (.ref pc), some (.int cs.sum), none, none, none, none, none, none, none, none, none, none, none, none, none] H1
  generalize cs.sum = dr
  refine ⟨_, rfl, _, rfl, fun pg H2 g sm2 hpg hg inc g2 g39 gb => ?_⟩
  have hc2 := sm2 _ _ hc1
  have rlb := zh8 dr
  have en : (((g.map V.int).length : Int) + 1).toNat = g.length + 1 := by rw [List.length_map]; omega
  have litC : ∀ (H2 : Hp) (Q' : VK) (D : Addr), H2 D = none → (∀ H3, Same H2 H3 → H3 D = some (.lst ((List.replicate (g.length + 1) false).map V.bl)) → Q' (.ref D) H3) → zex (Itr 0 (((g.map V.int).length : Int) + 1).toNat) (za5 0) tYes (tC (.bl false)) D Q' [none] (upd H2 D (.lst [])) := by
   intro H2 Q' D hD hq
   rw [en]
   refine zfV (n := g.length + 1) (fun i σ H3 => ∃ o, σ = [o] ∧ Same H2 H3 ∧ H3 D = some (.lst (List.replicate i (V.bl false)))) ⟨none, rfl, (Same.refl _).upd hD, zac⟩ ?_ ?_
   ·rintro i σ H3 hi ⟨o, rfl, sm, h3⟩
    refine ⟨_, h3, zam (by rw [List.length_replicate]; omega), _, rfl, sm.upd hD, ?_⟩
    rw [zac, List.replicate_succ']
   ·rintro σ H3 ⟨o, rfl, sm3, hl3⟩
    rw [zjP] at hl3
    exact hq H3 sm3 hl3
  refine fun pd hpd => ?_
  have kn0 : KnI H2 (upd H2 pd (.dT [])) pd g.length [] := ⟨zac, .nil, (fun q h => nomatch h), (fun q h => nomatch h), .nil, (fun q h => nomatch h), (fun q h => nomatch h), (Same.refl H2).upd hpd, hpd⟩
  refine ⟨_, rfl, pc, rfl, ⟨_, SqL.of (kn0.same _ _ hc2)⟩, zbF (K := K) (a := pc) (xs := cs.map V.int) (fun i σ H' => ∃ (kn : Kn) (o5 o6 o7 : Option V), σ = [some (.ref a), some (.ref pc), some (.int dr), some (.ref pg), some (.ref pd), o5, o6, o7, none, none, none, none, none, none, none, none] ∧ KnI H2 H' pd g.length kn ∧ kn.length ≤ i ∧ (∀ q ∈ kn, q.1.length = zbH dr ∧ (∀ x ∈ q.1, x.natAbs < 10 ^ 60) ∧ q.2.2.any id = true))
   ⟨[], none, none, none, rfl, kn0, Nat.le_refl _, fun q h => nomatch h⟩ (fun i σ H' _ ⟨_, _, _, _, _, h, _⟩ => SqL.of (h.same _ _ hc2)) ?_ ?_⟩
  ·rintro i x σ H' hx ⟨kn, o5, o6, o7, rfl, I, hkl, wk⟩
   obtain ⟨cell, rfl⟩ := zk4 hx
   have hi : i < cs.length := by simpa using (List.getElem?_eq_some_iff.mp hx).1
   refine ⟨_, rfl, _, rfl, cell, 50, rfl, by decide, by decide, fun r1 hr1 => ⟨_, _, rfl, rfl, pz, dr, _, rfl, fun t H3 row s3 ht h3 wl bl => ?_⟩⟩
   have I3 := I.sm s3
   have hg3 := I3.same _ _ hg
   refine ⟨_, rfl, .inr (.inr (.inl ⟨rfl, .inr ⟨_, I3.at'⟩⟩)), _, rfl, ?_⟩
   refine ⟨_, rfl, pg, _, rfl, .inl (SqL.of hg3), _, _, rfl, rfl, _, rfl, by rw [List.length_map]; omega, by rw [List.length_map]; omega, fun D hD => litC H3 _ D hD fun H4 s4 h4 => ?_⟩
   have I4 := I3.sm s4
   have store : ∀ (H5 : Hp) (kn5 : Kn) (q : List Int × Addr × List Bool), KnI H2 H5 pd g.length kn5 → q ∈ kn5 → kn5.length ≤ i + 1 → (∀ p ∈ kn5, p.1.length = zbH dr ∧ (∀ x ∈ p.1, x.natAbs < 10 ^ 60) ∧ (p.2.1 = q.2.1 ∨ p.2.2.any id = true)) → ∀ (E' : Ends), (∀ σ H', (∃ (kn : Kn) (o5 o6 o7 : Option V), σ = [some (.ref a), some (.ref pc), some (.int dr), some (.ref pg), some (.ref pd), o5, o6, o7, none, none, none, none, none, none, none, none] ∧ KnI H2 H' pd g.length kn ∧ kn.length ≤ i + 1 ∧ (∀ q ∈ kn, q.1.length = zbH dr ∧ (∀ x ∈ q.1, x.natAbs < 10 ^ 60) ∧ q.2.2.any id = true)) → E'.nx σ H') →
     tAsg (tC (.bl true)) (gSub (tVar 7) (tOp (rI (fun _ j => 0 < j) fun i j => .int (i % j)) (zci zeX [] E0 (zap (tVar 5) (zap (tC (.int 51)) tNil))) (tCB (fun xs H Q => ∃ p ys, xs = [.ref p] ∧ (SqL K H p ys ∨ SqT K H p ys) ∧ Q (.int ys.length) H) (zap (tVar 7) tNil))) zjj) E' [some (.ref a), some (.ref pc), some (.int dr), some (.ref pg), some (.ref pd), some (.int cell), some (.ref t), some (.ref q.2.1), none, none, none, none, none, none, none, none] H5 := by
    intro H5 kn5 q I5 hq hk5 w5 E' nx
    have hl := I5.lit q hq
    have ll := I5.len q hq
    refine ⟨_, rfl, _, rfl, cell, 51, rfl, by decide, by decide, fun r2 hr2 => ?_⟩
    have pos0 : (0 : Int) < ((q.2.2.map V.bl).length : Int) := by rw [List.length_map, ll]; omega
    have h1 := Int.emod_nonneg r2 (show ((q.2.2.map V.bl).length : Int) ≠ 0 by omega)
    have h2 := Int.emod_lt_of_pos r2 pos0
    refine ⟨_, rfl, q.2.1, _, rfl, .inl (SqL.of hl), _, _, rfl, rfl, pos0, q.2.1, _, _, (r2 % ((q.2.2.map V.bl).length : Int)).toNat, rfl, rfl, hl, ?_, ?_⟩
    ·unfold ixN
     rw [if_pos h1, if_pos h2]
    ·rw [← List.map_set (f := V.bl) (a := true)]
     refine nx _ _ ⟨_, _, _, _, rfl, KnI.setV true I5 hq _, by rw [List.length_map]; exact hk5, fun p hp => ?_⟩
     obtain ⟨p, hp1, rfl⟩ := List.mem_map.mp hp
     obtain ⟨a1, a2, a3⟩ := w5 p hp1
     have lp := I5.len p hp1
     split
     ·refine ⟨a1, a2, zjI ?_⟩
      rw [lp]
      rw [List.length_map, ll] at h2 ⊢
      omega
     ·rename_i hne
      exact ⟨a1, a2, a3.resolve_left hne⟩
   have lk : (zbp kn).length < sizeLine := by unfold zbp; rw [List.length_map]; exact zam (by omega)
   have htup : H4 t = some (.tup ((row.map Sum.inl : List Key).map kV)) := by rw [zcN]; exact s4 _ _ h3
   refine ⟨pd, t, .ref D, zbp kn, row.map Sum.inl, rfl, rfl, I4.at', htup, lk, ?_⟩
   by_cases hr' : row ∈ kn.map (·.1)
   ·obtain ⟨q, hq, eq⟩ := List.mem_map.mp hr'
    have hv := zgN I4.nd hq
    rw [eq] at hv
    rw [hv]
    exact store H4 kn q I4 hq (by omega) (fun p hp => ⟨(wk p hp).1, (wk p hp).2.1, .inr (wk p hp).2.2⟩) _ fun σ H' h => h
   ·rw [ze0 hr']
    have fD : H2 D = none := I3.same.free hD
    have nD : D ∉ kn.map (·.2.1) := fun z => by
     obtain ⟨q, hq, e⟩ := List.mem_map.mp z
     have := I3.lit q hq
     rw [e, hD] at this
     cases this
    have ner : row ≠ [] := fun z => by rw [z] at wl; simp at wl; omega
    refine store _ _ (row, D, List.replicate (g.length + 1) false) (I4.add hr' ner h4 List.length_replicate fD nD) (List.mem_append_right _ (by simp)) (by rw [List.length_append, List.length_singleton]; omega) (fun q hq => ?_) _ fun σ H' h => h
    rcases List.mem_append.mp hq with z | z
    ·exact ⟨(wk q z).1, (wk q z).2.1, .inr (wk q z).2.2⟩
    ·rw [List.mem_singleton.mp z]; exact ⟨wl, bl, .inl rfl⟩
  ·rintro σ H3 ⟨kn, o5, o6, o7, rfl, I3, hkl, wk⟩
   rw [List.length_map] at hkl
   refine ⟨_, rfl, _, rfl, pg, pd, g, kn, rfl, I3.same _ _ hg, inc, by omega, g39, I3.known, I3.len, fun q hq => (wk q hq).2.2, by omega, fun pa H4 es s4 hpa shA phA fewA subA => ?_⟩
   refine ⟨Nat.zero_le _, fun pf hpf => ?_⟩
   have s5 : Same H4 (upd H4 pf (.lst [])) := (Same.refl H4).upd hpf
   have u5 : upd H4 pf (.lst []) pf = some (.lst []) := zac
   generalize upd H4 pf (.lst []) = H5 at s5 u5 ⊢
   refine ⟨Nat.zero_le _, fun px hpx => ?_⟩
   have s6 : Same H5 (upd H5 px (.lst [])) := (Same.refl H5).upd hpx
   have u6 : upd H5 px (.lst []) px = some (.lst []) := zac
   have npx : pf ≠ px := fun z => by rw [← z, u5] at hpx; cases hpx
   have hpx4 : H4 px = none := s5.free hpx
   generalize upd H5 px (.lst []) = H6 at s6 u6 ⊢
   have s46 := s5.trans s6
   obtain ⟨xs, hxs, pe⟩ := shA.at'
   have lxe : xs.length = es.length := Paired.length pe
   have eslen : es.length ≤ 63 := by
    have h1 := zby phA.nd (m := kn.map (·.1)) fun x hx => by obtain ⟨e, he, rfl⟩ := List.mem_map.mp hx; exact subA e he
    rw [List.length_map, List.length_map] at h1
    omega
   have flen : (zaf es).length ≤ 63 * 50 := Nat.le_trans (zfa (Nat.le_refl _) fewA) (Nat.mul_le_mul_right _ eslen)
   have big : ∀ n, n ≤ 4000 → n < sizeLine := fun n h => Nat.lt_of_le_of_lt h (by decide)
   have okA : ∀ e ∈ es, ∀ st ∈ e.2, okF (e.1, st) := fun e he st hst => by
    obtain ⟨q, hq, eq⟩ := List.mem_map.mp (subA e he)
    obtain ⟨w1, w2, _⟩ := wk q hq
    rw [eq] at w1 w2
    have hb := zg7 (g := g) (φ := fun j => zeu kn j e.1) (phA.can e he) (phA.sp e he)
    have hN : ∀ x ∈ bnds e.2, x.natAbs < 10 ^ 60 := fun x hx => by have := gb x (hb x hx); omega
    refine ⟨w2, fun n h => hN n ?_, fun n h => hN n ?_, fun z => ?_, by rw [w1]; exact rlb.2⟩
    ·exact List.mem_flatMap.mpr ⟨st, hst, List.mem_append_left _ (by have h' : st.1 = some n := h; rw [h']; simp)⟩
    ·exact List.mem_flatMap.mpr ⟨st, hst, List.mem_append_right _ (by have h' : st.2 = some n := h; rw [h']; simp)⟩
    ·have z' : e.1 = [] := z
     rw [z'] at w1
     simp at w1
     omega
   refine ⟨_, rfl, pa, rfl, ⟨xs, SqL.of (s46 _ _ hxs)⟩, zbF (K := K) (a := pa) (xs := xs) (fun i σ H' => ∃ (o6 o11 o12 o13 o14 : Option V) (ys : List V), σ = [some (.ref a), some (.ref pc), some (.int dr), some (.ref pg), some (.ref pd), o5, o6, o7, some (.ref pa), some (.ref pf), some (.ref px), o11, o12, o13, o14, none] ∧ Same H4 H' ∧ H' pf = some (.lst ys) ∧ Paired (FactAt H') ys (zaf (es.take i)) ∧ H' px = some (.lst (((zaf (es.take i)).map zaP).map V.str)))
    ⟨_, none, none, none, none, [], rfl, s46, s6 _ _ u5, .nil, u6⟩ (fun i σ H' _ ⟨_, _, _, _, _, _, _, sm, _⟩ => SqL.of (sm _ _ hxs)) ?_ ?_⟩
   ·rintro i x σ H7 hx ⟨o6, o11, o12, o13, o14, ys, rfl, sm, hf, py, ht⟩
    obtain ⟨e, he, t, p, q, rfl, ht1, hp1, zs, hq1, pz⟩ := zax pe hx
    have hem := List.mem_of_getElem? he
    have lz : zs.length = e.2.length := Paired.length pz
    refine ⟨t, _, rfl, SqT.of (sm _ _ ht1), rfl, _, _, rfl, _, _, rfl, rfl, ?_⟩
    refine ⟨_, rfl, q, rfl, ⟨zs, SqL.of (sm _ _ hq1)⟩, zbF (K := K) (a := q) (xs := zs) (fun j σ H' => ∃ (o12 o13 o14 : Option V) (ys : List V), σ = [some (.ref a), some (.ref pc), some (.int dr), some (.ref pg), some (.ref pd), o5, some (.ref p), o7, some (.ref pa), some (.ref pf), some (.ref px), some (.ref q), o12, o13, o14, none] ∧ Same H4 H' ∧ H' pf = some (.lst ys) ∧ Paired (FactAt H') ys (zaf (es.take i) ++ (e.2.take j).map fun st => (e.1, st)) ∧ H' px = some (.lst (((zaf (es.take i) ++ (e.2.take j).map fun st => (e.1, st)).map zaP).map V.str)))
     ⟨_, _, _, ys, rfl, sm, hf, by simpa using py, by simpa using ht⟩ (fun j σ H' _ ⟨_, _, _, _, _, sm, _⟩ => SqL.of (sm _ _ hq1)) ?_ ?_⟩
    ·rintro j y σ H8 hy ⟨o12, o13, o14, ys, rfl, sm8, hf8, py8, ht8⟩
     obtain ⟨st, hs, u, rfl, hu⟩ := zax pz hy
     have hsm := List.mem_of_getElem? hs
     have okf := okA e hem st hsm
     have fl := zcd okf
     obtain ⟨k1, k2, k3, k4, k5⟩ := id okf
     have k1' : ∀ n ∈ e.1, n.natAbs < 10 ^ 60 := k1
     have ly : ys.length = (zaf (es.take i)).length + j := by
      rw [Paired.length py8, List.length_append, List.length_map, List.length_take]
      have := (List.getElem?_eq_some_iff.mp hs).1
      omega
     have ly2 : ys.length ≤ 3200 := by
      have h1 := zbI es (i + 1)
      rw [za8 he, List.length_append, List.length_map] at h1
      have := (List.getElem?_eq_some_iff.mp hs).1
      omega
     refine ⟨u, _, rfl, SqT.of (sm8 _ _ hu), rfl, _, _, rfl, _, _, rfl, rfl, ?_⟩
     refine ⟨_, rfl, .inl ⟨rfl, _, SqL.of hf8⟩, _, rfl, _, rfl, _, rfl, by show 3 ≤ sizeLine; decide, fun v hv => ?_⟩
     have s9 : Same H8 (upd H8 v (.tup [.ref p, vO st.1, vO st.2])) := (Same.refl H8).upd hv
     have u9 : upd H8 v (.tup [.ref p, vO st.1, vO st.2]) v = some (.tup [.ref p, vO st.1, vO st.2]) := zac
     generalize upd H8 v (.tup [.ref p, vO st.1, vO st.2]) = H9 at s9 u9 ⊢
     have hf9 := s9 _ _ hf8
     have ht9 := s9 _ _ ht8
     have nt := zbh hf9
     refine ⟨pf, ys, _, rfl, rfl, hf9, big _ (by omega), ?_⟩
     have sm10 : Same H4 (upd H9 pf (.lst (ys ++ [.ref v]))) := (sm8.trans s9).upd hpf
     have hf10 : upd H9 pf (.lst (ys ++ [.ref v])) pf = some (.lst (ys ++ [.ref v])) := zac
     have ht10 : upd H9 pf (.lst (ys ++ [.ref v])) px = some (.lst (((zaf (es.take i) ++ (e.2.take j).map fun st => (e.1, st)).map zaP).map V.str)) := by rw [zaj npx.symm]; exact ht9
     have py10 : Paired (FactAt (upd H9 pf (.lst (ys ++ [.ref v])))) (ys ++ [.ref v]) (zaf (es.take i) ++ (e.2.take (j + 1)).map fun st => (e.1, st)) := by
      rw [take_snoc hs, List.map_append, ← List.append_assoc]
      exact zav (R := FactAt (upd H9 pf (.lst (ys ++ [.ref v])))) (FactAt.off (f := (e.1, st)) (fun b xs h => zbk nt b xs h) ⟨v, p, rfl, u9, (sm8.trans s9) _ _ hp1⟩) (zbs (fun b xs h => zbk nt b xs h) (za2 s9 py8))
     generalize upd H9 pf (.lst (ys ++ [.ref v])) = H10 at sm10 hf10 ht10 py10 ⊢
     have hp10 := sm10 _ _ hp1
     refine ⟨_, rfl, p, rfl, ⟨_, SqT.of hp10⟩, fun D hD => ?_⟩
     refine zfq (K := K) (a := p) (xs := e.1.map V.int) (fun i σ H' => ∃ o : Option V, σ = [o] ∧ Same H10 H' ∧ H' D = some (.lst (((e.1.take i).map numS).map V.str)))
      ⟨none, rfl, (Same.refl H10).upd hD, zac⟩ (fun i σ H' _ ⟨_, _, sm, _⟩ => SqT.of (sm _ _ hp10)) ?_ ?_
     ·rintro i x σ H' hx ⟨o, rfl, smw, h'⟩
      obtain ⟨n, en, rfl⟩ := zeq hx
      have hi : i < e.1.length := (List.getElem?_eq_some_iff.mp en).1
      have k5' : e.1.length ≤ 5 := k5
      refine ⟨_, rfl, n, rfl, zh9 (k1' n (List.mem_of_getElem? en)), _, h', zam (by simp; omega), _, rfl, smw.upd hD, ?_⟩
      rw [zac, take_snoc en, List.map_append, List.map_append]
      rfl
     ·rintro σ H11 ⟨o, rfl, s11, hD11⟩
      rw [List.length_map, List.take_length] at hD11
      refine ⟨_, rfl, st.1, rfl, k2, _, rfl, st.2, rfl, k3, by show 3 ≤ sizeLine; decide, fun w1 hw1 => ?_⟩
      have s12 : Same H11 (upd H11 w1 (.lst [.str "@", .str (bndS st.1), .str (bndS st.2)])) := (Same.refl H11).upd hw1
      have u12 : upd H11 w1 (.lst [.str "@", .str (bndS st.1), .str (bndS st.2)]) w1 = some (.lst [.str "@", .str (bndS st.1), .str (bndS st.2)]) := zac
      generalize upd H11 w1 (.lst [.str "@", .str (bndS st.1), .str (bndS st.2)]) = H12 at s12 u12 ⊢
      have k5' : e.1.length ≤ 5 := k5
      refine ⟨D, w1, _, _, rfl, rfl, s12 _ _ hD11, u12, Nat.le_of_lt (zam (by simp; omega)), fun c hc => ?_⟩
      have ew : ((e.1.map numS).map V.str ++ [V.str "@", V.str (bndS st.1), V.str (bndS st.2)]) = (zao (e.1, st)).map V.str := by unfold zao; rw [List.map_append]; rfl
      rw [ew]
      have s13 : Same H12 (upd H12 c (.lst ((zao (e.1, st)).map V.str))) := (Same.refl H12).upd hc
      have u13 : upd H12 c (.lst ((zao (e.1, st)).map V.str)) c = some (.lst ((zao (e.1, st)).map V.str)) := zac
      generalize upd H12 c (.lst ((zao (e.1, st)).map V.str)) = H13 at s13 u13 ⊢
      have sX := s11.trans (s12.trans s13)
      have ht13 := sX _ _ ht10
      have hf13 := sX _ _ hf10
      have nt13 := zbh ht13
      have lt : ((zaf (es.take i) ++ (e.2.take j).map fun st => (e.1, st)).map zaP).length ≤ 3200 := by rw [List.length_map, ← Paired.length py8]; exact ly2
      refine ⟨_, rfl, .inl ⟨rfl, _, SqL.of ht13⟩, rfl, _, rfl, " ", c, zao (e.1, st), rfl, rfl, SqL.of u13, ?_, ?_⟩
      ·have h1 : ((zao (e.1, st)).map (·.length)).sum ≤ 5 * 61 + 1 + 61 + 61 := by
        unfold zao
        rw [List.map_append, List.sum_append]
        have sl := zdW k1'
        have b1 : (bndS st.1).length ≤ 61 := zcj k2
        have b2 : (bndS st.2).length ≤ 61 := zcj k3
        have e1 : (Str.ofString "@").length = 1 := by decide +kernel
        simp only [List.map_cons, List.map_nil, List.sum_cons, List.sum_nil, e1]
        omega
       have h2 : (zao (e.1, st)).length ≤ 8 := by unfold zao; simp; omega
       have e : (Str.ofString " ").length = 1 := by decide +kernel
       rw [e]
       omega
      ·have ej : Txt.join " " (zao (e.1, st)) = zaP (e.1, st) := by rw [join_eq, zko]; rfl
       rw [ej]
       refine ⟨px, _, _, rfl, rfl, ht13, big _ (by rw [List.length_map]; omega), _, _, _, ys ++ [.ref v], rfl, (sm10.trans sX).upd hpx4, ?_, ?_, ?_⟩
       ·rw [zaj npx]; exact hf13
       ·exact zbs (fun b xs h => zbk nt13 b xs h) (za2 sX py10)
       ·rw [zac, take_snoc hs]
        simp
    ·rintro σ H8 ⟨o12, o13, o14, ys, rfl, sm8, hf8, py8, ht8⟩
     rw [lz, List.take_length] at py8 ht8
     refine ⟨_, _, _, _, _, ys, rfl, sm8, hf8, ?_, ?_⟩
     ·rw [za8 he]; exact py8
     ·rw [za8 he]; exact ht8
   ·rintro σ H7 ⟨o6, o11, o12, o13, o14, ys, rfl, sm, hf, py, ht⟩
    rw [lxe, List.take_length] at py ht
    have okfA : ∀ f ∈ zaf es, okF f := fun f hf => by
     obtain ⟨e, he, h1, h2⟩ := za1.mp hf
     have := okA e he f.2 h2
     rw [← h1] at this
     exact this
    have oksA : ∀ f ∈ zaf es, okS f.2 := fun f hf => by
     obtain ⟨e, he, h1, h2⟩ := za1.mp hf
     exact (phA.can e he).1 _ h2
    have widA : ∀ f ∈ zaf es, f.1.length = zbH dr := fun f hf => by
     obtain ⟨e, he, h1, h2⟩ := za1.mp hf
     obtain ⟨q, hq, eq⟩ := List.mem_map.mp (subA e he)
     rw [h1, ← eq]
     exact (wk q hq).1
    have ly : ys.length = (zaf es).length := Paired.length py
    refine ⟨_, rfl, pa, es, rfl, shA.at'.same sm, by omega, okfA, fun H8 s8 => ?_⟩
    have sm8 := sm.trans s8
    have ht8 := s8 _ _ ht
    have hf8 := s8 _ _ hf
    have py8 := za2 s8 py
    have slen : (((zaf es).map zaP).map (·.length)).sum ≤ (zaf es).length * 600 := by
     have sl : ∀ (fs : List Fact), (∀ f ∈ fs, okF f) → ((fs.map zaP).map (·.length)).sum ≤ fs.length * 600 := by
      intro fs
      induction fs with
      | nil => intro _; simp
      | cons f fs ih =>
       intro h
       have h1 := zcd (h f List.mem_cons_self)
       have h2 := ih fun x hx => h x (List.mem_cons_of_mem _ hx)
       simp only [List.map_cons, List.sum_cons, List.length_cons]
       omega
     exact sl _ okfA
    refine ⟨_, rfl, _, _, _, _, rfl, .str _, zfz K "str", _, rfl, iteF ?_⟩
    refine ⟨_, rfl, rfl, _, rfl, "; ", px, (zaf es).map zaP, rfl, rfl, SqL.of ht8, ?_, rfl, _, rfl, ?_⟩
    ·have e : (Str.ofString "; ").length = 2 := by decide +kernel
     rw [e, List.length_map]
     omega
    have e1 : (!decide (V.str (Txt.join "; " ((zaf es).map zaP)) = V.str (Txt.join "; " ((zaf es).map zaP)))) = false := by simp
    rw [e1]
    refine iteF ?_
    have I8 := I3.sm (s4.trans sm8)
    refine ⟨_, rfl, _, rfl, _, rfl, pg, pd, g, kn, rfl, I8.same _ _ hg, inc, by omega, g39, I8.known, I8.len, fun q hq => (wk q hq).2.2, by omega, fun pk H9 es' s9 hpk shK phK fewK subK => ?_⟩
    obtain rfl : es' = es := phK.uniq phA fun r m => rfl
    obtain ⟨xa, hxa, hpa'⟩ := id (shA.at'.same (sm8.trans s9))
    obtain ⟨xk, hxk, hpk'⟩ := id shK.at'
    refine ⟨_, _, .lst (SqL.of hxa) (zcF hpa'), .lst (SqL.of hxk) (zcF hpk'), zbC _, zbC _, _, rfl, ?_⟩
    rw [zeG]
    refine iteF ?_
    have hf9 := s9 _ _ hf8
    have py9 := za2 s9 py8
    refine ⟨_, rfl, pf, ys, rfl, .inl (SqL.of hf9), _, _, rfl, rfl, _, rfl, ?_⟩
    refine ite2 (fun _ => k _) (fun c60 => ?_)
    have l60 : (zaf es').length ≤ 60 := by
     have h1 : ¬ ((60 : Int) < (ys.length : Int)) := fun z => c60 (decide_eq_true z)
     omega
    refine ⟨_, rfl, zaf es', zbH dr, rfl, l60, okfA, oksA, widA, fun p1 H10 x1 s10 hp1 h10 pf1 => ?_⟩
    refine ⟨_, rfl, _, _, .lst (SqL.of h10) (zcU pf1), .lst (SqL.of (s10 _ _ hf9)) (zcU (za2 s10 py9)), zcv _, zcv _, _, rfl, ?_⟩
    rw [zhi]
    refine iteT ⟨_, rfl, zaf es', zbH dr, rfl, l60, okfA, oksA, widA, fun p2 H11 x2 s11 hp2 h11 pf2 => ?_⟩
    refine ⟨p2, x2, zaf es', rfl, h11, pf2, by omega, fun f hf => (okfA f hf).2.2.2.1, fun _ _ => ⟨⟨kn.map (·.1), by rw [List.length_map]; omega, fun f hf => ?_⟩, fun r => Nat.lt_of_le_of_lt (zcB phA.nd fewA r) (by decide), fun D3 H12 es3 s12 hD3 sh3 so3 => ?_⟩, fun ⟨f, hf, b⟩ _ _ => b (oksA f hf), fun _ ⟨f, hf, b⟩ _ _ => b (ze6 widA f hf)⟩
    ·obtain ⟨e, he, h1, h2⟩ := za1.mp hf
     rw [h1]
     exact subA e he
    ·obtain rfl : es3 = es' := (so3.shB oksA).uniq phA fun r m => phA.told r m
     obtain ⟨z3, hz3, hp3⟩ := id sh3.at'
     obtain ⟨xb, hxb, hpb'⟩ := id (shA.at'.same (sm8.trans (s9.trans (s10.trans (s11.trans s12)))))
     refine ⟨_, rfl, _, _, .lst (SqL.of hz3) (zcF hp3), .lst (SqL.of hxb) (zcF hpb'), zbC _, zbC _, ?_⟩
     rw [zeG]
     exact k _
end
theorem ar1 {α : Type} {us : List α} (h : us.length = 1) : ∃ a, us = [a] := List.length_eq_one_iff.mp h
theorem ar2 {α : Type} {us : List α} (h : us.length = 2) : ∃ a b, us = [a, b] := by
 match us, h with
 | [a, b], _ => exact ⟨a, b, rfl⟩
theorem ar3 {α : Type} {us : List α} (h : us.length = 3) : ∃ a b c, us = [a, b, c] := by
 match us, h with
 | [a, b, c], _ => exact ⟨a, b, c, rfl⟩
theorem all_mk {l : PySem.W.OpenLaw} {w : World} {K : PySem.W.Frag} {h : Heap} {mg : Str → Option Value} {fa f0 f1 f2 f3 f4 f5 f6 f7 f8 f9 f10 f11 f12 f13 f14 f15 f16 f17 f18 f19 f20 f21 f22 f23 f24 f25 : Addr} (X : K.In h) (G : h.Ns mainGlobals mg) (hfa : mg "law" = some (.ref fa))
  {od0 an0 od1 an1 od2 an2 od3 an3 od4 an4 od5 an5 od6 an6 od7 an7 od8 an8 od9 an9 od10 an10 od11 an11 od12 an12 od13 an13 od14 an14 od15 an15 od16 an16 od17 an17 od18 an18 od19 an19 od20 an20 od21 an21 od22 an22 od23 an23 od24 an24 od25 an25 : Option Addr} {sl0 sl1 sl2 sl3 sl4 sl5 sl6 sl7 sl8 sl9 sl10 sl11 sl12 sl13 sl14 sl15 sl16 sl17 sl18 sl19 sl20 sl21 sl22 sl23 sl24 sl25 : Array (Option Value)} {oc0 kV0 dc0 pm0 cd0 ct0 oc1 kV1 dc1 pm1 cd1 ct1 oc2 kV2 dc2 pm2 cd2 ct2 oc3 kV3 dc3 pm3 cd3 ct3 oc4 kV4 dc4 pm4 cd4 ct4 oc5 kV5 dc5 pm5 cd5 ct5 oc6 kV6 dc6 pm6 cd6 ct6 oc7 kV7 dc7 pm7 cd7 ct7 oc8 kV8 dc8 pm8 cd8 ct8 oc9 kV9 dc9 pm9 cd9 ct9 oc10 kV10 dc10 pm10 cd10 ct10 oc11 kV11 dc11 pm11 cd11 ct11 oc12 kV12 dc12 pm12 cd12 ct12 oc13 kV13 dc13 pm13 cd13 ct13 oc14 kV14 dc14 pm14 cd14 ct14 oc15 kV15 dc15 pm15 cd15 ct15 oc16 kV16 dc16 pm16 cd16 ct16 oc17 kV17 dc17 pm17 cd17 ct17 oc18 kV18 dc18 pm18 cd18 ct18 oc19 kV19 dc19 pm19 cd19 ct19 oc20 kV20 dc20 pm20 cd20 ct20 oc21 kV21 dc21 pm21 cd21 ct21 oc22 kV22 dc22 pm22 cd22 ct22 oc23 kV23 dc23 pm23 cd23 ct23 oc24 kV24 dc24 pm24 cd24 ct24 oc25 kV25 dc25 pm25 cd25 ct25 : Value}
  (a0 : PySem.W.nsIn K mainGlobals "is_stretch" = some (some (.ref f0))) (l0 : K.lookup f0 = some ⟨oc0, od0, .func (PySem.W.fnOf "is_stretch" "is_stretch" (zae (top 6)) (zad (top 6)) (zab (top 6)) .none kV0 dc0 pm0 an0 cd0 ct0), sl0⟩) (c0 : PySem.W.codeIn K cd0 "is_stretch" = true) (k0 : PySem.W.keepIn K (.ref f0) = true)
  (a1 : PySem.W.nsIn K mainGlobals "refuse_no_stretch" = some (some (.ref f1))) (l1 : K.lookup f1 = some ⟨oc1, od1, .func (PySem.W.fnOf "refuse_no_stretch" "refuse_no_stretch" (zae (top 7)) (zad (top 7)) (zab (top 7)) .none kV1 dc1 pm1 an1 cd1 ct1), sl1⟩) (c1 : PySem.W.codeIn K cd1 "refuse_no_stretch" = true) (k1 : PySem.W.keepIn K (.ref f1) = true)
  (a2 : PySem.W.nsIn K mainGlobals "tidied" = some (some (.ref f2))) (l2 : K.lookup f2 = some ⟨oc2, od2, .func (PySem.W.fnOf "tidied" "tidied" (zae (top 8)) (zad (top 8)) (zab (top 8)) .none kV2 dc2 pm2 an2 cd2 ct2), sl2⟩) (c2 : PySem.W.codeIn K cd2 "tidied" = true) (k2 : PySem.W.keepIn K (.ref f2) = true)
  (a3 : PySem.W.nsIn K mainGlobals "start_order" = some (some (.ref f3))) (l3 : K.lookup f3 = some ⟨oc3, od3, .func (PySem.W.fnOf "start_order" "start_order" (zae (top 9)) (zad (top 9)) (zab (top 9)) .none kV3 dc3 pm3 an3 cd3 ct3), sl3⟩) (c3 : PySem.W.codeIn K cd3 "start_order" = true) (k3 : PySem.W.keepIn K (.ref f3) = true)
  (a4 : PySem.W.nsIn K mainGlobals "reaches" = some (some (.ref f4))) (l4 : K.lookup f4 = some ⟨oc4, od4, .func (PySem.W.fnOf "reaches" "reaches" (zae (top 10)) (zad (top 10)) (zab (top 10)) .none kV4 dc4 pm4 an4 cd4 ct4), sl4⟩) (c4 : PySem.W.codeIn K cd4 "reaches" = true) (k4 : PySem.W.keepIn K (.ref f4) = true)
  (a5 : PySem.W.nsIn K mainGlobals "later_end" = some (some (.ref f5))) (l5 : K.lookup f5 = some ⟨oc5, od5, .func (PySem.W.fnOf "later_end" "later_end" (zae (top 11)) (zad (top 11)) (zab (top 11)) .none kV5 dc5 pm5 an5 cd5 ct5), sl5⟩) (c5 : PySem.W.codeIn K cd5 "later_end" = true) (k5 : PySem.W.keepIn K (.ref f5) = true)
  (a6 : PySem.W.nsIn K mainGlobals "sheet_of" = some (some (.ref f6))) (l6 : K.lookup f6 = some ⟨oc6, od6, .func (PySem.W.fnOf "sheet_of" "sheet_of" (zae (top 13)) (zad (top 13)) (zab (top 13)) .none kV6 dc6 pm6 an6 cd6 ct6), sl6⟩) (c6 : PySem.W.codeIn K cd6 "sheet_of" = true) (k6 : PySem.W.keepIn K (.ref f6) = true)
  (a7 : PySem.W.nsIn K mainGlobals "refuse_unlike_widths" = some (some (.ref f7))) (l7 : K.lookup f7 = some ⟨oc7, od7, .func (PySem.W.fnOf "refuse_unlike_widths" "refuse_unlike_widths" (zae (top 14)) (zad (top 14)) (zab (top 14)) .none kV7 dc7 pm7 an7 cd7 ct7), sl7⟩) (c7 : PySem.W.codeIn K cd7 "refuse_unlike_widths" = true) (k7 : PySem.W.keepIn K (.ref f7) = true)
  (a8 : PySem.W.nsIn K mainGlobals "facts_of" = some (some (.ref f8))) (l8 : K.lookup f8 = some ⟨oc8, od8, .func (PySem.W.fnOf "facts_of" "facts_of" (zae (top 15)) (zad (top 15)) (zab (top 15)) .none kV8 dc8 pm8 an8 cd8 ct8), sl8⟩) (c8 : PySem.W.codeIn K cd8 "facts_of" = true) (k8 : PySem.W.keepIn K (.ref f8) = true)
  (a9 : PySem.W.nsIn K mainGlobals "read_facts" = some (some (.ref f9))) (l9 : K.lookup f9 = some ⟨oc9, od9, .func (PySem.W.fnOf "read_facts" "read_facts" (zae (top 21)) (zad (top 21)) (zab (top 21)) .none kV9 dc9 pm9 an9 cd9 ct9), sl9⟩) (c9 : PySem.W.codeIn K cd9 "read_facts" = true) (k9 : PySem.W.keepIn K (.ref f9) = true)
  (a10 : PySem.W.nsIn K mainGlobals "read_fact" = some (some (.ref f10))) (l10 : K.lookup f10 = some ⟨oc10, od10, .func (PySem.W.fnOf "read_fact" "read_fact" (zae (top 22)) (zad (top 22)) (zab (top 22)) .none kV10 dc10 pm10 an10 cd10 ct10), sl10⟩) (c10 : PySem.W.codeIn K cd10 "read_fact" = true) (k10 : PySem.W.keepIn K (.ref f10) = true)
  (a11 : PySem.W.nsIn K mainGlobals "read_bound" = some (some (.ref f11))) (l11 : K.lookup f11 = some ⟨oc11, od11, .func (PySem.W.fnOf "read_bound" "read_bound" (zae (top 23)) (zad (top 23)) (zab (top 23)) .none kV11 dc11 pm11 an11 cd11 ct11), sl11⟩) (c11 : PySem.W.codeIn K cd11 "read_bound" = true) (k11 : PySem.W.keepIn K (.ref f11) = true)
  (a12 : PySem.W.nsIn K mainGlobals "read_number" = some (some (.ref f12))) (l12 : K.lookup f12 = some ⟨oc12, od12, .func (PySem.W.fnOf "read_number" "read_number" (zae (top 24)) (zad (top 24)) (zab (top 24)) .none kV12 dc12 pm12 an12 cd12 ct12), sl12⟩) (c12 : PySem.W.codeIn K cd12 "read_number" = true) (k12 : PySem.W.keepIn K (.ref f12) = true)
  (a13 : PySem.W.nsIn K mainGlobals "tells_number" = some (some (.ref f13))) (l13 : K.lookup f13 = some ⟨oc13, od13, .func (PySem.W.fnOf "tells_number" "tells_number" (zae (top 25)) (zad (top 25)) (zab (top 25)) .none kV13 dc13 pm13 an13 cd13 ct13), sl13⟩) (c13 : PySem.W.codeIn K cd13 "tells_number" = true) (k13 : PySem.W.keepIn K (.ref f13) = true)
  (a14 : PySem.W.nsIn K mainGlobals "show_sheet" = some (some (.ref f14))) (l14 : K.lookup f14 = some ⟨oc14, od14, .func (PySem.W.fnOf "show_sheet" "show_sheet" (zae (top 26)) (zad (top 26)) (zab (top 26)) .none kV14 dc14 pm14 an14 cd14 ct14), sl14⟩) (c14 : PySem.W.codeIn K cd14 "show_sheet" = true) (k14 : PySem.W.keepIn K (.ref f14) = true)
  (a15 : PySem.W.nsIn K mainGlobals "show_fact" = some (some (.ref f15))) (l15 : K.lookup f15 = some ⟨oc15, od15, .func (PySem.W.fnOf "show_fact" "show_fact" (zae (top 27)) (zad (top 27)) (zab (top 27)) .none kV15 dc15 pm15 an15 cd15 ct15), sl15⟩) (c15 : PySem.W.codeIn K cd15 "show_fact" = true) (k15 : PySem.W.keepIn K (.ref f15) = true)
  (a16 : PySem.W.nsIn K mainGlobals "show_bound" = some (some (.ref f16))) (l16 : K.lookup f16 = some ⟨oc16, od16, .func (PySem.W.fnOf "show_bound" "show_bound" (zae (top 28)) (zad (top 28)) (zab (top 28)) .none kV16 dc16 pm16 an16 cd16 ct16), sl16⟩) (c16 : PySem.W.codeIn K cd16 "show_bound" = true) (k16 : PySem.W.keepIn K (.ref f16) = true)
  (a17 : PySem.W.nsIn K mainGlobals "show_row" = some (some (.ref f17))) (l17 : K.lookup f17 = some ⟨oc17, od17, .func (PySem.W.fnOf "show_row" "show_row" (zae (top 29)) (zad (top 29)) (zab (top 29)) .none kV17 dc17 pm17 an17 cd17 ct17), sl17⟩) (c17 : PySem.W.codeIn K cd17 "show_row" = true) (k17 : PySem.W.keepIn K (.ref f17) = true)
  (a18 : PySem.W.nsIn K mainGlobals "_law_mix" = some (some (.ref f18))) (l18 : K.lookup f18 = some ⟨oc18, od18, .func (PySem.W.fnOf "_law_mix" "_law_mix" (zae (top 31)) (zad (top 31)) (zab (top 31)) .none kV18 dc18 pm18 an18 cd18 ct18), sl18⟩) (c18 : PySem.W.codeIn K cd18 "_law_mix" = true) (k18 : PySem.W.keepIn K (.ref f18) = true)
  (a19 : PySem.W.nsIn K mainGlobals "_law_grid" = some (some (.ref f19))) (l19 : K.lookup f19 = some ⟨oc19, od19, .func (PySem.W.fnOf "_law_grid" "_law_grid" (zae (top 32)) (zad (top 32)) (zab (top 32)) .none kV19 dc19 pm19 an19 cd19 ct19), sl19⟩) (c19 : PySem.W.codeIn K cd19 "_law_grid" = true) (k19 : PySem.W.keepIn K (.ref f19) = true)
  (a20 : PySem.W.nsIn K mainGlobals "_law_stretch" = some (some (.ref f20))) (l20 : K.lookup f20 = some ⟨oc20, od20, .func (PySem.W.fnOf "_law_stretch" "_law_stretch" (zae (top 33)) (zad (top 33)) (zab (top 33)) .none kV20 dc20 pm20 an20 cd20 ct20), sl20⟩) (c20 : PySem.W.codeIn K cd20 "_law_stretch" = true) (k20 : PySem.W.keepIn K (.ref f20) = true)
  (a21 : PySem.W.nsIn K mainGlobals "_law_span" = some (some (.ref f21))) (l21 : K.lookup f21 = some ⟨oc21, od21, .func (PySem.W.fnOf "_law_span" "_law_span" (zae (top 34)) (zad (top 34)) (zab (top 34)) .none kV21 dc21 pm21 an21 cd21 ct21), sl21⟩) (c21 : PySem.W.codeIn K cd21 "_law_span" = true) (k21 : PySem.W.keepIn K (.ref f21) = true)
  (a22 : PySem.W.nsIn K mainGlobals "_law_row" = some (some (.ref f22))) (l22 : K.lookup f22 = some ⟨oc22, od22, .func (PySem.W.fnOf "_law_row" "_law_row" (zae (top 35)) (zad (top 35)) (zab (top 35)) .none kV22 dc22 pm22 an22 cd22 ct22), sl22⟩) (c22 : PySem.W.codeIn K cd22 "_law_row" = true) (k22 : PySem.W.keepIn K (.ref f22) = true)
  (a23 : PySem.W.nsIn K mainGlobals "_law_sheet" = some (some (.ref f23))) (l23 : K.lookup f23 = some ⟨oc23, od23, .func (PySem.W.fnOf "_law_sheet" "_law_sheet" (zae (top 36)) (zad (top 36)) (zab (top 36)) .none kV23 dc23 pm23 an23 cd23 ct23), sl23⟩) (c23 : PySem.W.codeIn K cd23 "_law_sheet" = true) (k23 : PySem.W.keepIn K (.ref f23) = true)
  (a24 : PySem.W.nsIn K mainGlobals "_law_word" = some (some (.ref f24))) (l24 : K.lookup f24 = some ⟨oc24, od24, .func (PySem.W.fnOf "_law_word" "_law_word" (zae (top 37)) (zad (top 37)) (zab (top 37)) .none kV24 dc24 pm24 an24 cd24 ct24), sl24⟩) (c24 : PySem.W.codeIn K cd24 "_law_word" = true) (k24 : PySem.W.keepIn K (.ref f24) = true)
  (a25 : PySem.W.nsIn K mainGlobals "law" = some (some (.ref f25))) (l25 : K.lookup f25 = some ⟨oc25, od25, .func (PySem.W.fnOf "law" "law" (zae (top 38)) (zad (top 38)) (zab (top 38)) .none kV25 dc25 pm25 an25 cd25 ct25), sl25⟩) (c25 : PySem.W.codeIn K cd25 "law" = true) (k25 : PySem.W.keepIn K (.ref f25) = true)
  (z0 : PySem.W.nsIn K mainGlobals "sorted" = some none)
  (z1 : PySem.W.nsIn K mainGlobals "max" = some none)
  (z2 : PySem.W.nsIn K mainGlobals "min" = some none)
  (z3 : PySem.W.nsIn K mainGlobals "any" = some none)
  (z4 : PySem.W.nsIn K mainGlobals "all" = some none)
  (z5 : PySem.W.nsIn K mainGlobals "sum" = some none)
  (z6 : PySem.W.nsIn K mainGlobals "len" = some none)
  (z7 : PySem.W.nsIn K mainGlobals "range" = some none)
  (z8 : PySem.W.nsIn K mainGlobals "isinstance" = some none)
  (z9 : PySem.W.nsIn K mainGlobals "list" = some none)
  (z10 : PySem.W.nsIn K mainGlobals "tuple" = some none)
  (z11 : PySem.W.nsIn K mainGlobals "int" = some none)
  (z12 : PySem.W.nsIn K mainGlobals "bool" = some none)
  (z13 : PySem.W.nsIn K mainGlobals "str" = some none)
  (z14 : PySem.W.nsIn K mainGlobals "dict" = some none)
  (z15 : PySem.W.nsIn K mainGlobals "set" = some none)
  (z16 : PySem.W.nsIn K mainGlobals "zip" = some none)
  (z17 : PySem.W.nsIn K mainGlobals "enumerate" = some none)
  (z18 : PySem.W.nsIn K mainGlobals "reversed" = some none)
  {g1 g2 : Addr} {tk1 tk2 tk3 tk4 : Tok} (e1 : PySem.W.nsIn K mainGlobals "NoStretch" = some (some (.ref g1))) (x1 : PySem.W.excIn K g1 veM "ValueError.__new__" = true) (e2 : PySem.W.nsIn K mainGlobals "NoWidth" = some (some (.ref g2))) (x2 : PySem.W.excIn K g2 veM "ValueError.__new__" = true)
  (m1 : PySem.W.nsIn K mainGlobals "FIGURES" = some (some (.str FIG tk1))) (m2 : PySem.W.nsIn K mainGlobals "MOST_FIGURES" = some (some (.int 60 tk2))) (m3 : PySem.W.nsIn K mainGlobals "MOST_CELLS" = some (some (.int 5 tk3))) (m4 : PySem.W.nsIn K mainGlobals "MOST_FACTS" = some (some (.int 60 tk4)))
  : ∃ fd : FuncData, (∀ (s : Shared) (v : Value), BindsTo s fd ⟨[v], []⟩ [("_law_script", v)]) ∧ ∀ base : Heap, K.In base → base.Ns mainGlobals mg → FnOk l.prog w K mg base CX0 6 fa fd ["_law_script"] (ziZ K) := by
 have e := hfa.symm.trans (PySem.W.mg_of X G a25)
 cases e
 have F0 : Fun K "is_stretch" "is_stretch" zaH f0 (PySem.W.fnOf "is_stretch" "is_stretch" (zae zaH) (zad zaH) (zab zaH) .none kV0 dc0 pm0 an0 cd0 ct0) := zaz (st := zaH) l0 c0 k0
 have b0 := F0.binds (ps := ["start", "end"]) fun _ _ _ _ _ _ us hl => by obtain ⟨_, _, rfl⟩ := ar2 hl; rfl
 have F1 : Fun K "refuse_no_stretch" "refuse_no_stretch" zak f1 (PySem.W.fnOf "refuse_no_stretch" "refuse_no_stretch" (zae zak) (zad zak) (zab zak) .none kV1 dc1 pm1 an1 cd1 ct1) := zaz (st := zak) l1 c1 k1
 have b1 := F1.binds (ps := ["start", "end"]) fun _ _ _ _ _ _ us hl => by obtain ⟨_, _, rfl⟩ := ar2 hl; rfl
 have F2 : Fun K "tidied" "tidied" zbf f2 (PySem.W.fnOf "tidied" "tidied" (zae zbf) (zad zbf) (zab zbf) .none kV2 dc2 pm2 an2 cd2 ct2) := zaz (st := zbf) l2 c2 k2
 have b2 := F2.binds (ps := ["stretches"]) fun _ _ _ _ _ _ us hl => by obtain ⟨_, rfl⟩ := ar1 hl; rfl
 have F3 : Fun K "start_order" "start_order" zau f3 (PySem.W.fnOf "start_order" "start_order" (zae zau) (zad zau) (zab zau) .none kV3 dc3 pm3 an3 cd3 ct3) := zaz (st := zau) l3 c3 k3
 have b3 := F3.binds (ps := ["stretch"]) fun _ _ _ _ _ _ us hl => by obtain ⟨_, rfl⟩ := ar1 hl; rfl
 have F4 : Fun K "reaches" "reaches" za7 f4 (PySem.W.fnOf "reaches" "reaches" (zae za7) (zad za7) (zab za7) .none kV4 dc4 pm4 an4 cd4 ct4) := zaz (st := za7) l4 c4 k4
 have b4 := F4.binds (ps := ["stretch", "start"]) fun _ _ _ _ _ _ us hl => by obtain ⟨_, _, rfl⟩ := ar2 hl; rfl
 have F5 : Fun K "later_end" "later_end" zaO f5 (PySem.W.fnOf "later_end" "later_end" (zae zaO) (zad zaO) (zab zaO) .none kV5 dc5 pm5 an5 cd5 ct5) := zaz (st := zaO) l5 c5 k5
 have b5 := F5.binds (ps := ["one", "other"]) fun _ _ _ _ _ _ us hl => by obtain ⟨_, _, rfl⟩ := ar2 hl; rfl
 have F6 : Fun K "sheet_of" "sheet_of" za0 f6 (PySem.W.fnOf "sheet_of" "sheet_of" (zae za0) (zad za0) (zab za0) .none kV6 dc6 pm6 an6 cd6 ct6) := zaz (st := za0) l6 c6 k6
 have b6 := F6.binds (ps := ["facts"]) fun _ _ _ _ _ _ us hl => by obtain ⟨_, rfl⟩ := ar1 hl; rfl
 have F7 : Fun K "refuse_unlike_widths" "refuse_unlike_widths" zai f7 (PySem.W.fnOf "refuse_unlike_widths" "refuse_unlike_widths" (zae zai) (zad zai) (zab zai) .none kV7 dc7 pm7 an7 cd7 ct7) := zaz (st := zai) l7 c7 k7
 have b7 := F7.binds (ps := ["facts"]) fun _ _ _ _ _ _ us hl => by obtain ⟨_, rfl⟩ := ar1 hl; rfl
 have F8 : Fun K "facts_of" "facts_of" zaW f8 (PySem.W.fnOf "facts_of" "facts_of" (zae zaW) (zad zaW) (zab zaW) .none kV8 dc8 pm8 an8 cd8 ct8) := zaz (st := zaW) l8 c8 k8
 have b8 := F8.binds (ps := ["entries"]) fun _ _ _ _ _ _ us hl => by obtain ⟨_, rfl⟩ := ar1 hl; rfl
 have F9 : Fun K "read_facts" "read_facts" zaA f9 (PySem.W.fnOf "read_facts" "read_facts" (zae zaA) (zad zaA) (zab zaA) .none kV9 dc9 pm9 an9 cd9 ct9) := zaz (st := zaA) l9 c9 k9
 have b9 := F9.binds (ps := ["text"]) fun _ _ _ _ _ _ us hl => by obtain ⟨_, rfl⟩ := ar1 hl; rfl
 have F10 : Fun K "read_fact" "read_fact" zaL f10 (PySem.W.fnOf "read_fact" "read_fact" (zae zaL) (zad zaL) (zab zaL) .none kV10 dc10 pm10 an10 cd10 ct10) := zaz (st := zaL) l10 c10 k10
 have b10 := F10.binds (ps := ["text"]) fun _ _ _ _ _ _ us hl => by obtain ⟨_, rfl⟩ := ar1 hl; rfl
 have F11 : Fun K "read_bound" "read_bound" zaB f11 (PySem.W.fnOf "read_bound" "read_bound" (zae zaB) (zad zaB) (zab zaB) .none kV11 dc11 pm11 an11 cd11 ct11) := zaz (st := zaB) l11 c11 k11
 have b11 := F11.binds (ps := ["text"]) fun _ _ _ _ _ _ us hl => by obtain ⟨_, rfl⟩ := ar1 hl; rfl
 have F12 : Fun K "read_number" "read_number" zaw f12 (PySem.W.fnOf "read_number" "read_number" (zae zaw) (zad zaw) (zab zaw) .none kV12 dc12 pm12 an12 cd12 ct12) := zaz (st := zaw) l12 c12 k12
 have b12 := F12.binds (ps := ["text"]) fun _ _ _ _ _ _ us hl => by obtain ⟨_, rfl⟩ := ar1 hl; rfl
 have F13 : Fun K "tells_number" "tells_number" zas f13 (PySem.W.fnOf "tells_number" "tells_number" (zae zas) (zad zas) (zab zas) .none kV13 dc13 pm13 an13 cd13 ct13) := zaz (st := zas) l13 c13 k13
 have b13 := F13.binds (ps := ["text"]) fun _ _ _ _ _ _ us hl => by obtain ⟨_, rfl⟩ := ar1 hl; rfl
 have F14 : Fun K "show_sheet" "show_sheet" zaD f14 (PySem.W.fnOf "show_sheet" "show_sheet" (zae zaD) (zad zaD) (zab zaD) .none kV14 dc14 pm14 an14 cd14 ct14) := zaz (st := zaD) l14 c14 k14
 have b14 := F14.binds (ps := ["sheet"]) fun _ _ _ _ _ _ us hl => by obtain ⟨_, rfl⟩ := ar1 hl; rfl
 have F15 : Fun K "show_fact" "show_fact" zaN f15 (PySem.W.fnOf "show_fact" "show_fact" (zae zaN) (zad zaN) (zab zaN) .none kV15 dc15 pm15 an15 cd15 ct15) := zaz (st := zaN) l15 c15 k15
 have b15 := F15.binds (ps := ["row", "start", "end"]) fun _ _ _ _ _ _ us hl => by obtain ⟨_, _, _, rfl⟩ := ar3 hl; rfl
 have F16 : Fun K "show_bound" "show_bound" zaG f16 (PySem.W.fnOf "show_bound" "show_bound" (zae zaG) (zad zaG) (zab zaG) .none kV16 dc16 pm16 an16 cd16 ct16) := zaz (st := zaG) l16 c16 k16
 have b16 := F16.binds (ps := ["bound"]) fun _ _ _ _ _ _ us hl => by obtain ⟨_, rfl⟩ := ar1 hl; rfl
 have F17 : Fun K "show_row" "show_row" zaX f17 (PySem.W.fnOf "show_row" "show_row" (zae zaX) (zad zaX) (zab zaX) .none kV17 dc17 pm17 an17 cd17 ct17) := zaz (st := zaX) l17 c17 k17
 have b17 := F17.binds (ps := ["row"]) fun _ _ _ _ _ _ us hl => by obtain ⟨_, rfl⟩ := ar1 hl; rfl
 have F18 : Fun K "_law_mix" "_law_mix" zaZ f18 (PySem.W.fnOf "_law_mix" "_law_mix" (zae zaZ) (zad zaZ) (zab zaZ) .none kV18 dc18 pm18 an18 cd18 ct18) := zaz (st := zaZ) l18 c18 k18
 have b18 := F18.binds (ps := ["_law_cell", "_law_j"]) fun _ _ _ _ _ _ us hl => by obtain ⟨_, _, rfl⟩ := ar2 hl; rfl
 have F19 : Fun K "_law_grid" "_law_grid" zaM f19 (PySem.W.fnOf "_law_grid" "_law_grid" (zae zaM) (zad zaM) (zab zaM) .none kV19 dc19 pm19 an19 cd19 ct19) := zaz (st := zaM) l19 c19 k19
 have b19 := F19.binds (ps := ["_law_cell"]) fun _ _ _ _ _ _ us hl => by obtain ⟨_, rfl⟩ := ar1 hl; rfl
 have F20 : Fun K "_law_stretch" "_law_stretch" zar f20 (PySem.W.fnOf "_law_stretch" "_law_stretch" (zae zar) (zad zar) (zab zar) .none kV20 dc20 pm20 an20 cd20 ct20) := zaz (st := zar) l20 c20 k20
 have b20 := F20.binds (ps := ["_law_grid_here", "_law_first", "_law_last"]) fun _ _ _ _ _ _ us hl => by obtain ⟨_, _, _, rfl⟩ := ar3 hl; rfl
 have F21 : Fun K "_law_span" "_law_span" zaJ f21 (PySem.W.fnOf "_law_span" "_law_span" (zae zaJ) (zad zaJ) (zab zaJ) .none kV21 dc21 pm21 an21 cd21 ct21) := zaz (st := zaJ) l21 c21 k21
 have b21 := F21.binds (ps := ["_law_grid_here", "_law_lit"]) fun _ _ _ _ _ _ us hl => by obtain ⟨_, _, rfl⟩ := ar2 hl; rfl
 have F22 : Fun K "_law_row" "_law_row" zaY f22 (PySem.W.fnOf "_law_row" "_law_row" (zae zaY) (zad zaY) (zab zaY) .none kV22 dc22 pm22 an22 cd22 ct22) := zaz (st := zaY) l22 c22 k22
 have b22 := F22.binds (ps := ["_law_drawn", "_law_number"]) fun _ _ _ _ _ _ us hl => by obtain ⟨_, _, rfl⟩ := ar2 hl; rfl
 have F23 : Fun K "_law_sheet" "_law_sheet" zaF f23 (PySem.W.fnOf "_law_sheet" "_law_sheet" (zae zaF) (zad zaF) (zab zaF) .none kV23 dc23 pm23 an23 cd23 ct23) := zaz (st := zaF) l23 c23 k23
 have b23 := F23.binds (ps := ["_law_grid_here", "_law_known"]) fun _ _ _ _ _ _ us hl => by obtain ⟨_, _, rfl⟩ := ar2 hl; rfl
 have F24 : Fun K "_law_word" "_law_word" zaK f24 (PySem.W.fnOf "_law_word" "_law_word" (zae zaK) (zad zaK) (zab zaK) .none kV24 dc24 pm24 an24 cd24 ct24) := zaz (st := zaK) l24 c24 k24
 have b24 := F24.binds (ps := ["_law_bound"]) fun _ _ _ _ _ _ us hl => by obtain ⟨_, rfl⟩ := ar1 hl; rfl
 have F25 : Fun K "law" "law" zbT _ (PySem.W.fnOf "law" "law" (zae zbT) (zad zbT) (zab zbT) .none kV25 dc25 pm25 an25 cd25 ct25) := zaz (st := zbT) l25 c25 k25
 have y0 := PySem.W.mg_none_of X G z0
 have y1 := PySem.W.mg_none_of X G z1
 have y2 := PySem.W.mg_none_of X G z2
 have y3 := PySem.W.mg_none_of X G z3
 have y4 := PySem.W.mg_none_of X G z4
 have y5 := PySem.W.mg_none_of X G z5
 have y6 := PySem.W.mg_none_of X G z6
 have y7 := PySem.W.mg_none_of X G z7
 have y8 := PySem.W.mg_none_of X G z8
 have y9 := PySem.W.mg_none_of X G z9
 have y10 := PySem.W.mg_none_of X G z10
 have y11 := PySem.W.mg_none_of X G z11
 have y12 := PySem.W.mg_none_of X G z12
 have y13 := PySem.W.mg_none_of X G z13
 have y14 := PySem.W.mg_none_of X G z14
 have y15 := PySem.W.mg_none_of X G z15
 have y16 := PySem.W.mg_none_of X G z16
 have y17 := PySem.W.mg_none_of X G z17
 have y18 := PySem.W.mg_none_of X G z18
 refine ⟨PySem.W.fnOf "law" "law" (zae zbT) (zad zbT) (zab zbT) .none kV25 dc25 pm25 an25 cd25 ct25, fun s v => .of_eq rfl, fun base _ _ => ?_⟩
 have B : Blts mg := ⟨y0, y1, y2, y3, y4, y5, y6, y7, y8, y9, y10, y11, y12, y13, y14, y15, y16, y17, y18⟩
 have F_start_order : FnP l.prog w K mg base 1 "start_order" ["stretch"] (zeS K) := ⟨_, _, zht F3, PySem.W.mg_of X G a3, k3, b3⟩
 have F_reaches : FnP l.prog w K mg base 1 "reaches" ["stretch", "start"] (zfe K) := ⟨_, _, zhL F4, PySem.W.mg_of X G a4, k4, b4⟩
 have F_later_end : FnP l.prog w K mg base 1 "later_end" ["one", "other"] zeR := ⟨_, _, zhO F5 B.max, PySem.W.mg_of X G a5, k5, b5⟩
 have F_tidied : FnP l.prog w K mg base 4 "tidied" ["stretches"] zcH := ⟨_, _, zga F2 B.sorted F_start_order F_reaches F_later_end, PySem.W.mg_of X G a2, k2, b2⟩
 have F_is_stretch : FnP l.prog w K mg base 1 "is_stretch" ["start", "end"] zbd := ⟨_, _, zdX F0, PySem.W.mg_of X G a0, k0, b0⟩
 have F_refuse_no_stretch : FnX l.prog w K mg base 2 "refuse_no_stretch" ["start", "end"] (zaS g1) := ⟨_, _, zbR F1 ⟨PySem.W.mg_of X G e1, x1⟩ F_is_stretch, PySem.W.mg_of X G a1, k1, b1⟩
 have F_refuse_unlike_widths : FnX l.prog w K mg base 1 "refuse_unlike_widths" ["facts"] (zaC g2) := ⟨_, _, zbz F7 B ⟨PySem.W.mg_of X G e2, x2⟩, PySem.W.mg_of X G a7, k7, b7⟩
 have F_sheet_of : FnX l.prog w K mg base 5 "sheet_of" ["facts"] (zbY g1 g2) := ⟨_, _, zeY F6 B F_refuse_no_stretch F_refuse_unlike_widths F_tidied, PySem.W.mg_of X G a6, k6, b6⟩
 have F_facts_of : FnP l.prog w K mg base 1 "facts_of" ["entries"] zbX := ⟨_, _, ze9 F8, PySem.W.mg_of X G a8, k8, b8⟩
 have F__law_mixF : FnP l.prog w K mg base 1 "_law_mix" ["_law_cell", "_law_j"] zfi := ⟨_, _, zgj F18, PySem.W.mg_of X G a18, k18, b18⟩
 have F__law_mix : FnP l.prog w K mg base 1 "_law_mix" ["_law_cell", "_law_j"] zeX := ⟨_, _, (zgj F18).imp zhH, PySem.W.mg_of X G a18, k18, b18⟩
 have F__law_grid : FnP l.prog w K mg base 2 "_law_grid" ["_law_cell"] zf5 := ⟨_, _, ziQ F19 B.range F__law_mix, PySem.W.mg_of X G a19, k19, b19⟩
 have F__law_stretch : FnP l.prog w K mg base 1 "_law_stretch" ["_law_grid_here", "_law_first", "_law_last"] zhE := ⟨_, _, zj6 F20 B.len, PySem.W.mg_of X G a20, k20, b20⟩
 have F__law_span : FnP l.prog w K mg base 2 "_law_span" ["_law_grid_here", "_law_lit"] zfu := ⟨_, _, zjD F21 B.len F__law_stretch, PySem.W.mg_of X G a21, k21, b21⟩
 have F__law_row : FnP l.prog w K mg base 2 "_law_row" ["_law_drawn", "_law_number"] zb1 := ⟨_, _, zeP F22 B F__law_mix F__law_mixF, PySem.W.mg_of X G a22, k22, b22⟩
 have F__law_sheet : FnP l.prog w K mg base 3 "_law_sheet" ["_law_grid_here", "_law_known"] zbD := ⟨_, _, zdK F23 B F__law_span, PySem.W.mg_of X G a23, k23, b23⟩
 have F_tells_number : FnP l.prog w K mg base 1 "tells_number" ["text"] zbj := ⟨_, _, zc4 F13 B (PySem.W.mg_of X G m1) (PySem.W.mg_of X G m2), PySem.W.mg_of X G a13, k13, b13⟩
 have F_read_number : FnP l.prog w K mg base 2 "read_number" ["text"] zaT := ⟨_, _, zdg F12 B F_tells_number, PySem.W.mg_of X G a12, k12, b12⟩
 have F_read_bound : FnP l.prog w K mg base 3 "read_bound" ["text"] zbE := ⟨_, _, zdD F11 F_read_number, PySem.W.mg_of X G a11, k11, b11⟩
 have F_read_fact : FnP l.prog w K mg base 4 "read_fact" ["text"] zbm := ⟨_, _, zeo F10 B (PySem.W.mg_of X G m3) F_read_bound F_read_number F_is_stretch, PySem.W.mg_of X G a10, k10, b10⟩
 have F_read_facts : FnP l.prog w K mg base 5 "read_facts" ["text"] zbw := ⟨_, _, zdz F9 B (PySem.W.mg_of X G m4) F_read_fact, PySem.W.mg_of X G a9, k9, b9⟩
 have F_show_bound : FnP l.prog w K mg base 1 "show_bound" ["bound"] zaQ := ⟨_, _, zdU F16 B, PySem.W.mg_of X G a16, k16, b16⟩
 have F_show_row : FnP l.prog w K mg base 1 "show_row" ["row"] zbV := ⟨_, _, zeM F17 B, PySem.W.mg_of X G a17, k17, b17⟩
 have F_show_fact : FnP l.prog w K mg base 2 "show_fact" ["row", "start", "end"] zbn := ⟨_, _, zd7 F15 F_show_row F_show_bound, PySem.W.mg_of X G a15, k15, b15⟩
 have F_show_sheet : FnP l.prog w K mg base 3 "show_sheet" ["sheet"] zbB := ⟨_, _, zdG F14 F_facts_of F_show_fact, PySem.W.mg_of X G a14, k14, b14⟩
 have F__law_word : FnP l.prog w K mg base 1 "_law_word" ["_law_bound"] zaQ := ⟨_, _, zel F24 B, PySem.W.mg_of X G a24, k24, b24⟩
 exact zjN F25 B F__law_mix F__law_grid F__law_sheet F__law_row F__law_word F_show_sheet F_read_facts F_sheet_of
theorem walk {l : PySem.W.OpenLaw} {q : Program} {loose : List Str} {XP : (Str → Option Value) → Heap → Prop} {YP : World → Heap → Prop} {d : DefRec} {K : Params → PySem.W.Frag} (hn : l.most = some 63) (hdf : d.params.defaults = [])
  (hY : ∀ (w : World) (h : Heap), YP w h → (K w.params).In h) (F : ∀ (w : World) (mg : Str → Option Value) (fa : Addr) (h : Heap), (K w.params).In h → h.Ns mainGlobals mg → mg d.name = some (.ref fa) →
   ∃ fd : FuncData, (∀ (s : Shared) (u : Value), BindsTo s fd ⟨[u], []⟩ [("_law_script", u)]) ∧ ∀ base : Heap, (K w.params).In base → base.Ns mainGlobals mg → FnOk l.prog w (K w.params) mg base CX0 6 fa fd ["_law_script"] (ziZ (K w.params))) :
  PySem.W.WalkO q loose XP YP l.row.toRowW d [] (fun f vs => PySem.call f vs) :=
 L2.walk_of (n := 63) (k := 6) (x := "_law_script") (CX := fun _ => CX0) (sp := fun w => ziZ (K w.params)) hn (by decide) hdf ⟨rfl, by decide, by decide⟩ hY F (fun _ _ a ns hl _ hS => ⟨a, ns, rfl, hS, hl, fun _ => rfl⟩) fun _ _ _ _ _ z => z
end Prf
open PySem PySem.W PyProof.Rows
set_option maxRecDepth 100000 in
set_option maxHeartbeats 0 in
theorem PySem.Challenge.cw_whenrows_k72_sheets_as_texts_holds : PySem.Challenge.rw_whenrows_k72_sheets_as_texts.Holds := by
 w_on; o_law; k_head; (case hw => w_witness2)
 k_fill
 refine Prf.walk (l := PySem.Challenge.rw_whenrows_k72_sheets_as_texts) rfl rfl (fun w h Y => PySem.W.kIn_of Y) ?F
 case F =>
  intro w mg fa h KX G hmg
  refine' Prf.all_mk KX G hmg ?a0 ?l0 ?c0 ?k0 ?a1 ?l1 ?c1 ?k1 ?a2 ?l2 ?c2 ?k2 ?a3 ?l3 ?c3 ?k3 ?a4 ?l4 ?c4 ?k4 ?a5 ?l5 ?c5 ?k5 ?a6 ?l6 ?c6 ?k6 ?a7 ?l7 ?c7 ?k7 ?a8 ?l8 ?c8 ?k8 ?a9 ?l9 ?c9 ?k9 ?a10 ?l10 ?c10 ?k10 ?a11 ?l11 ?c11 ?k11 ?a12 ?l12 ?c12 ?k12 ?a13 ?l13 ?c13 ?k13 ?a14 ?l14 ?c14 ?k14 ?a15 ?l15 ?c15 ?k15 ?a16 ?l16 ?c16 ?k16 ?a17 ?l17 ?c17 ?k17 ?a18 ?l18 ?c18 ?k18 ?a19 ?l19 ?c19 ?k19 ?a20 ?l20 ?c20 ?k20 ?a21 ?l21 ?c21 ?k21 ?a22 ?l22 ?c22 ?k22 ?a23 ?l23 ?c23 ?k23 ?a24 ?l24 ?c24 ?k24 ?a25 ?l25 ?c25 ?k25 ?z0 ?z1 ?z2 ?z3 ?z4 ?z5 ?z6 ?z7 ?z8 ?z9 ?z10 ?z11 ?z12 ?z13 ?z14 ?z15 ?z16 ?z17 ?z18 ?e1 ?x1 ?e2 ?x2 ?m1 ?m2 ?m3 ?m4
  (case a0 => k_is); (case l0 => k_is); (case c0 => k_is); (case k0 => k_is)
  (case a1 => k_is); (case l1 => k_is); (case c1 => k_is); (case k1 => k_is)
  (case a2 => k_is); (case l2 => k_is); (case c2 => k_is); (case k2 => k_is)
  (case a3 => k_is); (case l3 => k_is); (case c3 => k_is); (case k3 => k_is)
  (case a4 => k_is); (case l4 => k_is); (case c4 => k_is); (case k4 => k_is)
  (case a5 => k_is); (case l5 => k_is); (case c5 => k_is); (case k5 => k_is)
  (case a6 => k_is); (case l6 => k_is); (case c6 => k_is); (case k6 => k_is)
  (case a7 => k_is); (case l7 => k_is); (case c7 => k_is); (case k7 => k_is)
  (case a8 => k_is); (case l8 => k_is); (case c8 => k_is); (case k8 => k_is)
  (case a9 => k_is); (case l9 => k_is); (case c9 => k_is); (case k9 => k_is)
  (case a10 => k_is); (case l10 => k_is); (case c10 => k_is); (case k10 => k_is)
  (case a11 => k_is); (case l11 => k_is); (case c11 => k_is); (case k11 => k_is)
  (case a12 => k_is); (case l12 => k_is); (case c12 => k_is); (case k12 => k_is)
  (case a13 => k_is); (case l13 => k_is); (case c13 => k_is); (case k13 => k_is)
  (case a14 => k_is); (case l14 => k_is); (case c14 => k_is); (case k14 => k_is)
  (case a15 => k_is); (case l15 => k_is); (case c15 => k_is); (case k15 => k_is)
  (case a16 => k_is); (case l16 => k_is); (case c16 => k_is); (case k16 => k_is)
  (case a17 => k_is); (case l17 => k_is); (case c17 => k_is); (case k17 => k_is)
  (case a18 => k_is); (case l18 => k_is); (case c18 => k_is); (case k18 => k_is)
  (case a19 => k_is); (case l19 => k_is); (case c19 => k_is); (case k19 => k_is)
  (case a20 => k_is); (case l20 => k_is); (case c20 => k_is); (case k20 => k_is)
  (case a21 => k_is); (case l21 => k_is); (case c21 => k_is); (case k21 => k_is)
  (case a22 => k_is); (case l22 => k_is); (case c22 => k_is); (case k22 => k_is)
  (case a23 => k_is); (case l23 => k_is); (case c23 => k_is); (case k23 => k_is)
  (case a24 => k_is); (case l24 => k_is); (case c24 => k_is); (case k24 => k_is)
  (case a25 => k_is); (case l25 => k_is); (case c25 => k_is); (case k25 => k_is)
  (case z0 => k_is); (case z1 => k_is); (case z2 => k_is); (case z3 => k_is); (case z4 => k_is); (case z5 => k_is); (case z6 => k_is); (case z7 => k_is); (case z8 => k_is); (case z9 => k_is); (case z10 => k_is); (case z11 => k_is); (case z12 => k_is); (case z13 => k_is); (case z14 => k_is); (case z15 => k_is); (case z16 => k_is); (case z17 => k_is); (case z18 => k_is)
  (case e1 => k_is); (case e2 => k_is); (case x1 => kernel_rfl); (case x2 => kernel_rfl); (case m1 => k_is); (case m2 => k_is); (case m3 => k_is); (case m4 => k_is)
