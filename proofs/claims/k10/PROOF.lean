import PyProof.Rows.All
import Wide.All
import OpenK.AllK
import Wide.FinOn
import Lean
import PyProof.EqAt
import PyProof.EqKinds
import PyProof.TupleCall
import PyProof.P3Eq
import PyProof.NeData
import KE.KIsAll
import PyProof.SumAny
import PySem.Challenge.RW_deltahouse_k10_a_row_passes
set_option Elab.async false
set_option linter.all false
set_option maxRecDepth 100000
set_option maxHeartbeats 4000000
/-! THE HAND LAYER, for ints, bools, texts, own classes, LISTS and tuples (index, slices, in, append, pop ..), calls, loops. Paste it whole ahead of your own text; what your proof does not reach may be deleted. -/
namespace L2
open PySem PySem.Spec PyProof.Rows

/-- a key: an int or a str -/
abbrev Key := Sum Int Str
def keyIs : Key → Value → Bool
  | .inl k, v => Value.isInt k v
  | .inr x, v => Value.isStrOf x v
def keyH (w : World) : Key → Int
  | .inl k => hashInt k
  | .inr x => hashStr w x
theorem keyIs_shape : ∀ {k : Key} {v : Value}, keyIs k v = true → (∃ i t, k = Sum.inl i ∧ v = Value.int i t) ∨ (∃ x t, k = Sum.inr x ∧ v = Value.str x t)
  | .inl i, v, h => by
    obtain ⟨t, e⟩ := Value.isInt_shape (k := i) (v := v) h
    exact .inl ⟨i, t, rfl, e⟩
  | .inr x, v, h => by
    obtain ⟨t, e⟩ := Value.isStrOf_shape (x := x) (v := v) h
    exact .inr ⟨x, t, rfl, e⟩
theorem keyIs_int (i : Int) (t : Tok) : keyIs (.inl i) (.int i t) = true := by simp [keyIs, Value.isInt]
theorem keyIs_str (x : Str) (t : Tok) : keyIs (.inr x) (.str x t) = true := by simp [keyIs, Value.isStrOf]
theorem key_ll (a b : Int) : decide ((Sum.inl a : Key) = Sum.inl b) = (a == b) := by
  by_cases e : a = b
  · subst e; simp
  · have h : ¬ (Sum.inl a : Key) = Sum.inl b := fun q => e (Sum.inl.inj q)
    rw [decide_eq_false h]
    exact (beq_eq_false_iff_ne.mpr e).symm
theorem key_rr (a b : Str) : decide ((Sum.inr a : Key) = Sum.inr b) = decide (a = b) := by
  by_cases e : a = b
  · subst e; simp
  · have h : ¬ (Sum.inr a : Key) = Sum.inr b := fun q => e (Sum.inr.inj q)
    rw [decide_eq_false h, decide_eq_false e]
theorem key_lr (a : Int) (b : Str) : decide ((Sum.inl a : Key) = Sum.inr b) = false := decide_eq_false (fun q => nomatch q)
theorem key_rl (a : Str) (b : Int) : decide ((Sum.inr a : Key) = Sum.inl b) = false := decide_eq_false (fun q => nomatch q)

def mixKind (prog : Program) (w : World) : PySem.KeyKind prog w Key where
  is := keyIs
  hash := keyH w
  inj := fun v a b ha hb => by
    rcases keyIs_shape ha with ⟨i, t, rfl, rfl⟩ | ⟨x, t, rfl, rfl⟩
    · rcases keyIs_shape hb with ⟨j, u, rfl, e⟩ | ⟨y, u, rfl, e⟩
      · injection e with e1 _; rw [e1]
      · exact nomatch e
    · rcases keyIs_shape hb with ⟨j, u, rfl, e⟩ | ⟨y, u, rfl, e⟩
      · exact nomatch e
      · injection e with e1 _; rw [e1]
  byValue := fun k v h => by
    rcases keyIs_shape h with ⟨i, t, rfl, rfl⟩ | ⟨x, t, rfl, rfl⟩ <;> rfl
  pyHash := fun hv h => by
    rcases keyIs_shape hv with ⟨i, t, rfl, rfl⟩ | ⟨x, t, rfl, rfl⟩
    · exact wpAny_pyHash_int h
    · exact wpAny_pyHash_str h
  eqBool := fun hu hv h => by
    rcases keyIs_shape hu with ⟨i, t, rfl, rfl⟩ | ⟨x, t, rfl, rfl⟩
    · rcases keyIs_shape hv with ⟨j, u, rfl, rfl⟩ | ⟨y, u, rfl, rfl⟩
      · rw [key_ll] at h; exact wpAny_eqBool_int h
      · rw [key_lr] at h; exact SeqAt.EqAt.int_str i t y u _ _ _ _ h
    · rcases keyIs_shape hv with ⟨j, u, rfl, rfl⟩ | ⟨y, u, rfl, rfl⟩
      · rw [key_rl] at h; exact SeqAt.EqAt.str_int x t j u _ _ _ _ h
      · rw [key_rr] at h; exact wpAny_eqBool_str h
  «strs» := fun k x t v h => by
    rcases keyIs_shape h with ⟨i, u, rfl, e⟩ | ⟨y, u, rfl, e⟩
    · exact nomatch e
    · injection e with e1 _
      subst e1
      cases v <;> rfl

theorem mixKind_is (prog : Program) (w : World) (k : Key) (v : Value) : (mixKind prog w).is k v = keyIs k v := rfl
theorem mixKind_int (prog : Program) (w : World) (i : Int) (t : Tok) : (mixKind prog w).is (.inl i) (.int i t) = true := keyIs_int i t
theorem mixKind_str (prog : Program) (w : World) (x : Str) (t : Tok) : (mixKind prog w).is (.inr x) (.str x t) = true := keyIs_str x t
end L2

namespace L2
open PySem PySem.Spec PyProof.Rows

/-- a value, without the heap -/
inductive V where
  | non | bl (b : Bool) | int (i : Int) | str (x : Str) | byt (b : Array UInt8) | flt (b : UInt64) | ref (a : Addr) | ty (n : String)
  deriving DecidableEq

def RelV : V → Value → Prop
  | .non, u => u = Value.none
  | .bl b, u => u = Value.bool b
  | .int i, u => ∃ t, u = Value.int i t
  | .str x, u => ∃ t, u = Value.str x t
  | .byt b, u => ∃ t, u = Value.bytes b t
  | .flt b, u => ∃ t, u = Value.float b t
  | .ref a, u => u = Value.ref a
  | .ty n, u => u = Value.type n

abbrev Vals : List V → List Value → Prop := Paired RelV
theorem Vals.length {xs : List V} {us : List Value} (r : Vals xs us) : xs.length = us.length := Paired.length r
theorem Vals.get : ∀ {xs : List V} {us : List Value} {i : Nat} {x : V}, Vals xs us → xs[i]? = some x → ∃ u, us[i]? = some u ∧ RelV x u
  | _, _, _, _, .nil, e => by simp at e
  | _, _, 0, _, .cons r _, e => by simp at e; subst e; exact ⟨_, rfl, r⟩
  | _, _, i + 1, x, .cons _ t, e => by
    obtain ⟨u, h1, h2⟩ := Vals.get (i := i) (x := x) t (by simpa using e)
    exact ⟨u, by simpa using h1, h2⟩
theorem Vals.set {x : V} {u : Value} (r : RelV x u) : ∀ {xs : List V} {us : List Value} (i : Nat), Vals xs us → Vals (xs.set i x) (us.set i u)
  | _, _, _, .nil => .nil
  | _, _, 0, .cons _ t => .cons r t
  | _, _, i + 1, .cons q t => .cons q (Vals.set r i t)
theorem Vals.append : ∀ {xs ys : List V} {us ws : List Value}, Vals xs us → Vals ys ws → Vals (xs ++ ys) (us ++ ws)
  | _, _, _, _, .nil, s => s
  | _, _, _, _, .cons r t, s => .cons r (Vals.append t s)
theorem Vals.take : ∀ {xs : List V} {us : List Value} (n : Nat), Vals xs us → Vals (xs.take n) (us.take n)
  | _, _, 0, _ => .nil
  | _, _, _ + 1, .nil => .nil
  | _, _, n + 1, .cons r t => .cons r (Vals.take n t)
theorem Vals.drop : ∀ {xs : List V} {us : List Value} (n : Nat), Vals xs us → Vals (xs.drop n) (us.drop n)
  | _, _, 0, r => r
  | _, _, _ + 1, .nil => .nil
  | _, _, n + 1, .cons _ t => Vals.drop n t
theorem Vals.none_of : ∀ {xs : List V} {us : List Value} {i : Nat}, Vals xs us → xs[i]? = none → us[i]? = none := fun {xs us i} r e => by
  have h1 := r.length
  have h2 : xs.length ≤ i := List.getElem?_eq_none_iff.mp e
  exact List.getElem?_eq_none_iff.mpr (by omega)

def RelO : Option V → Option Value → Prop
  | some v, some u => RelV v u
  | none, none => True
  | _, _ => False
def KV {κ : Type} : List (κ × V) → List (κ × Value) → Prop := Paired fun (p : κ × V) (q : κ × Value) => p.1 = q.1 ∧ RelV p.2 q.2

/-- a key of a dict (00_mix): an int or a text -/
def kV : Key → V
  | .inl i => .int i
  | .inr x => .str x

/-- what stands at a tracked address -/
inductive HO where
  /-- a list -/
  | lst (xs : List V)
  /-- a tuple (never changes) -/
  | tup (xs : List V)
  /-- a dict whose keys are ints and texts; one whose keys are tuples of ints and texts (the empty one is both) -/
  | dK (kvs : List (Key × V)) | dT (kvs : List (List Key × V))
  /-- a set of ints: its members, its size -/
  | set (S : Int → Bool) (n : Nat)
  /-- an instance of the class at C, its dict at dx, its attributes -/
  | ins (C dx : Addr) (fs : List (Str × V))
  /-- the dict of the instance at x -/
  | own (x : Addr)
  /-- the dict of an exception -/
  | xd (fs : List (Str × V))
  /-- a bound method, f of x -/
  | met (f x : Addr)
  /-- a range object lo, lo + 1, .. below hi -/
  | rng (lo hi : Int)
  /-- a thing that is known to the object (the script; a dict while a loop walks it): read, never written while it is so -/
  | frz (o : Obj) (u : HO)
  /-- a code object's table -/
  | tbl (ps : Array Value)
  /-- any other thing, by what is true of its one object (a def of one's own: SetO a S n := HO.ext fun h => ..) -/
  | ext (φ : Heap → Prop)

abbrev Hp := Addr → Option HO
def upd (H : Hp) (a : Addr) (o : HO) : Hp := fun b => if b = a then some o else H b
theorem upd_same {H : Hp} {a : Addr} {o : HO} : upd H a o a = some o := by unfold upd; rw [if_pos rfl]
theorem upd_ne {H : Hp} {a b : Addr} {o : HO} (h : b ≠ a) : upd H a o b = H b := by unfold upd; rw [if_neg h]
theorem upd_upd {H : Hp} {a : Addr} {o u : HO} : upd (upd H a o) a u = upd H a u := by
  funext b; unfold upd; split <;> rfl
/-- two objects of different content stand apart -/
theorem ne_of {H : Hp} {a b : Addr} {o u : HO} (h : H a = some o) (h' : H b = some u) (d : o ≠ u) : a ≠ b := by
  intro e; subst e; rw [h] at h'; exact d (Option.some.inj h')
theorem ne_of_none {H : Hp} {a b : Addr} {o : HO} (h : H a = some o) (h' : H b = none) : a ≠ b := by
  intro e; subst e; rw [h] at h'; cases h'

section
variable (P : Program) (w : World)
def ObjOk (H : Hp) (h : Heap) (a : Addr) : HO → Prop
  | .lst xs => xs.length ≤ sizeLine ∧ ∃ (its : List Value) (n : Nat), Vals xs its ∧ h.get? a = some { cls := .type "list", data := .seq its.toArray n }
  | .tup xs => xs.length ≤ sizeLine ∧ ∃ its : List Value, Vals xs its ∧ IsTup h a its.toArray
  | .dK kvs => kvs.length ≤ sizeLine ∧ (a == sysModules) = false ∧ ∃ vs, KV kvs vs ∧ h.DictOf (mixKind P w) a vs
  | .dT kvs => kvs.length ≤ sizeLine ∧ (a == sysModules) = false ∧ ∃ xs : List (List Key × Addr × Value),
      Paired (fun (p : List Key × V) (q : List Key × Addr × Value) => p.1 = q.1 ∧ H q.2.1 = some (.tup (p.1.map kV)) ∧ RelV p.2 q.2.2) kvs xs ∧
      ∃ o es ep, h.get? a = some o ∧ o.ExactDict ∧ o.data = .dict es ep ∧ es.toList = xs.map (entryOfKey (tupleKind (mixKind P w))) ∧ (xs.map (·.1)).Nodup
  | .set S n => h.SetOf (intKind P w) a S n
  | .ins C dx fs => H dx = some (.own a) ∧ fs.length ≤ 1000 ∧ dx ≠ a ∧ h.get? a = some (PySem.W.instObj C dx) ∧
      ∃ mA, h.Ns1 dx mA ∧ (∀ f, RelO (fs.lookup f) (mA f)) ∧ PySem.Within mA (fs.map (·.1))
  | .own _ => ∃ o, h.get? a = some o
  | .xd fs => ∃ mA, h.Ns1 a mA ∧ ∀ f, RelO (fs.lookup f) (mA f)
  | .rng lo hi => ∃ t u v, h.get? a = some { cls := .type "range", data := .fields #[.int lo t, .int hi u, .int 1 v] }
  | .frz o u => h.get? a = some o ∧ ObjOk H h a u
  | .tbl ps => h.get? a = some { cls := .none, data := .fields ps }
  | .met f x => h.get? a = some (PySem.W.methodObj (.ref f) (.ref x))
  | .ext φ => φ h ∧ (∃ o, h.get? a = some o) ∧ ∀ h1 h2 : Heap, φ h1 → (∀ o, h1.get? a = some o → h2.get? a = some o) → φ h2
/-- the abstract heap is held -/
def HOk (H : Hp) (h : Heap) : Prop := ∀ a o, H a = some o → ObjOk P w H h a o
end

section
variable {P : Program} {w : World} {H H' : Hp} {h h' : Heap} {a : Addr} {o : HO}
theorem ObjOk.lt (x : ObjOk P w H h a o) : a < h.objs.size := by
  cases o with
  | lst xs => obtain ⟨_, _, _, _, e⟩ := x; exact Heap.lt_size e
  | tup xs => obtain ⟨_, _, _, p⟩ := x; exact p.lt
  | dK kvs => obtain ⟨_, _, _, _, o, _, _, e, _⟩ := x; exact Heap.lt_size e
  | dT kvs => obtain ⟨_, _, _, _, o, _, _, e, _⟩ := x; exact Heap.lt_size e
  | set S n => obtain ⟨o, _, _, _, e, _⟩ := x; exact Heap.lt_size e
  | ins C dx fs => obtain ⟨_, _, _, e, _⟩ := x; exact Heap.lt_size e
  | own y => obtain ⟨_, e⟩ := x; exact Heap.lt_size e
  | xd fs => obtain ⟨_, ⟨_, _, _, e, _⟩, _⟩ := x; exact Heap.lt_size e
  | rng lo hi => obtain ⟨_, _, _, e⟩ := x; exact Heap.lt_size e
  | frz ob u => obtain ⟨e, _⟩ := x; exact Heap.lt_size e
  | tbl ps => exact Heap.lt_size (show h.get? a = some _ from x)
  | met f y => exact Heap.lt_size (show h.get? a = some _ from x)
  | ext φ => obtain ⟨_, ⟨_, e⟩, _⟩ := x; exact Heap.lt_size e
theorem Paired.mapP {α β : Type} {F G : α → β → Prop} : ∀ {l₁ : List α} {l₂ : List β}, Paired F l₁ l₂ → (∀ a b, F a b → G a b) → Paired G l₁ l₂
  | _, _, .nil, _ => .nil
  | _, _, .cons r t, f => .cons (f _ _ r) (Paired.mapP t f)
theorem Paired.imp' {α β : Type} {F G : α → β → Prop} (f : ∀ a b, F a b → G a b) {l₁ : List α} {l₂ : List β} (r : Paired F l₁ l₂) : Paired G l₁ l₂ := Paired.mapP r f
/-- what an object's description leans on: its own object, its own dict, the tuples -/
theorem ObjOk.stay (x : ObjOk P w H h a o) (k : ∀ b u, (b = a ∨ H b = some (.own a)) → h.get? b = some u → h'.get? b = some u)
    (ho : ∀ b, H b = some (.own a) → H' b = some (.own a)) (ht : ∀ b xs, H b = some (.tup xs) → H' b = some (.tup xs)) : ObjOk P w H' h' a o := by
  induction o with
  | lst xs => obtain ⟨z, its, n, r, e⟩ := x; exact ⟨z, its, n, r, k _ _ (.inl rfl) e⟩
  | tup xs => obtain ⟨z, its, r, ob, e, c⟩ := x; exact ⟨z, its, r, ob, k _ _ (.inl rfl) e, c⟩
  | dK kvs => obtain ⟨z, y, vs, r, ob, es, ep, e, c⟩ := x; exact ⟨z, y, vs, r, ob, es, ep, k _ _ (.inl rfl) e, c⟩
  | dT kvs =>
    obtain ⟨z, y, xs, r, ob, es, ep, e, c⟩ := x
    exact ⟨z, y, xs, Paired.mapP r fun p q z => ⟨z.1, ht _ _ z.2.1, z.2.2⟩, ob, es, ep, k _ _ (.inl rfl) e, c⟩
  | set S n => obtain ⟨ob, es, ep, t, e, c⟩ := x; exact ⟨ob, es, ep, t, k _ _ (.inl rfl) e, c⟩
  | ins C dx fs =>
    obtain ⟨d, z, ne, e, mA, ⟨od, es, ep, e2, c⟩, r⟩ := x
    exact ⟨ho _ d, z, ne, k _ _ (.inl rfl) e, mA, ⟨od, es, ep, k _ _ (.inr d) e2, c⟩, r⟩
  | own y => obtain ⟨ob, e⟩ := x; exact ⟨ob, k _ _ (.inl rfl) e⟩
  | xd fs => obtain ⟨mA, ⟨od, es, ep, e, c⟩, r⟩ := x; exact ⟨mA, ⟨od, es, ep, k _ _ (.inl rfl) e, c⟩, r⟩
  | rng lo hi => obtain ⟨t, u, v, e⟩ := x; exact ⟨t, u, v, k _ _ (.inl rfl) e⟩
  | frz ob u ih => obtain ⟨e, q⟩ := x; exact ⟨k _ _ (.inl rfl) e, ih q⟩
  | tbl ps =>
    have e : h.get? a = some { cls := .none, data := .fields ps } := x
    show h'.get? a = some { cls := .none, data := .fields ps }
    exact k a _ (.inl rfl) e
  | met f y =>
    have e : h.get? a = some (PySem.W.methodObj (.ref f) (.ref y)) := x
    show h'.get? a = some (PySem.W.methodObj (.ref f) (.ref y))
    exact k a _ (.inl rfl) e
  | ext φ => obtain ⟨p, ⟨o, e⟩, st⟩ := x; exact ⟨st _ _ p fun o q => k _ _ (.inl rfl) q, ⟨o, k _ _ (.inl rfl) e⟩, st⟩
theorem HOk.lt (x : HOk P w H h) (e : H a = some o) : a < h.objs.size := (x a o e).lt
theorem HOk.fresh (x : HOk P w H h) (e : h.objs.size ≤ a) : H a = none := by
  cases q : H a with
  | none => rfl
  | some u => exact absurd (Nat.lt_of_lt_of_le (x.lt q) e) (Nat.lt_irrefl _)
/-- every object of the heap is kept -/
theorem HOk.kept (x : HOk P w H h) (k : ∀ b u, h.get? b = some u → h'.get? b = some u) : HOk P w H h' := fun a o e =>
  (x a o e).stay (fun b u _ q => k b u q) (fun _ q => q) fun _ _ q => q
/-- a new object is laid and tracked -/
theorem HOk.laid (x : HOk P w H h) (k : ∀ b u, h.get? b = some u → h'.get? b = some u) (hp : h.objs.size ≤ a) (new : ObjOk P w (upd H a o) h' a o) : HOk P w (upd H a o) h' := fun b u e => by
  have hn := x.fresh hp
  by_cases hb : b = a
  · subst hb; rw [upd_same] at e; cases e; exact new
  · rw [upd_ne hb] at e
    exact (x b u e).stay (fun c v _ q => k c v q) (fun c q => by rw [upd_ne (ne_of_none q hn)]; exact q) fun c xs q => by rw [upd_ne (ne_of_none q hn)]; exact q
end

/-- what may be read as u: it is u, or a known u -/
def Rd (H : Hp) (a : Addr) (u : HO) : Prop := H a = some u ∨ ∃ o, H a = some (.frz o u)
theorem Rd.of {H : Hp} {a : Addr} {u : HO} (h : H a = some u) : Rd H a u := .inl h
theorem Rd.ok {P : Program} {w : World} {H : Hp} {h : Heap} {a : Addr} {u : HO} (r : Rd H a u) (x : HOk P w H h) : ObjOk P w H h a u := by
  rcases r with r | ⟨o, r⟩
  · exact x a u r
  · obtain ⟨_, q⟩ := x a _ r
    exact q
/-- what may be written -/
def Mut : Option HO → Prop
  | some (.lst _) => True
  | some (.dK _) => True
  | some (.dT _) => True
  | some (.set _ _) => True
  | some (.ins _ _ _) => True
  | some (.ext _) => True
  | _ => False
section
variable {P : Program} {w : World} {H : Hp} {h h' : Heap} {x e : Addr} {o' : HO}
/-- the object at e is changed: x itself, or the dict of the instance x -/
theorem HOk.write (ok : HOk P w H h) (mu : Mut (H x)) (he : e = x ∨ H e = some (.own x)) (k : ∀ b u, b ≠ e → h.get? b = some u → h'.get? b = some u) (heo : ∃ u, h'.get? e = some u)
    (new : ObjOk P w (upd H x o') h' x o') : HOk P w (upd H x o') h' := fun b u q => by
  have nown : ∀ c y, H c = some (.own y) → c ≠ x := fun c y r z => by subst z; rw [r] at mu; exact mu
  have ntup : ∀ c xs, H c = some (.tup xs) → c ≠ x := fun c xs r z => by subst z; rw [r] at mu; exact mu
  by_cases hb : b = x
  · subst hb; rw [upd_same] at q; cases q; exact new
  · rw [upd_ne hb] at q
    by_cases hbe : b = e
    · have q' : H b = some (.own x) := by
        rcases he with z | z
        · exact absurd (hbe.trans z) hb
        · rw [hbe]; exact z
      rw [q] at q'; cases q'
      obtain ⟨v, hv⟩ := heo
      exact ⟨v, by rw [hbe]; exact hv⟩
    · refine (ok b u q).stay (fun c v hc r => k c v ?_ r) (fun c r => by rw [upd_ne (nown c b r)]; exact r) fun c xs r => by rw [upd_ne (ntup c xs r)]; exact r
      rcases hc with rfl | hc
      · exact hbe
      · rintro rfl
        rcases he with z | z
        · exact nown c b hc z
        · rw [hc] at z; cases z; exact hb rfl
end

/-! ### kept unless tracked; of the frames at fs (the callers') the slots may change (an exception that passes writes there); of the records at ex (iterators) nothing is said -/
structure Un (fs ex : List Addr) (H H' : Hp) (h h' : Heap) : Prop where
  keep : ∀ b o, h.get? b = some o → H b = none → b ∉ fs → b ∉ ex → h'.get? b = some o
  slot : ∀ b o, h.get? b = some o → H b = none → b ∈ fs → b ∉ ex → ∃ sl, h'.get? b = some { o with slots := sl }
  free : ∀ b o, h.get? b = some o → H b = none → b ∉ ex → H' b = none
  there : ∀ b o, h.get? b = some o → b ∉ ex → ∃ o', h'.get? b = some o'
  tups : ∀ b xs, H b = some (.tup xs) → H' b = some (.tup xs)
  frzs : ∀ b o u, H b = some (.frz o u) → H' b = some (.frz o u)
  tbls : ∀ b ps, H b = some (.tbl ps) → ∃ more, H' b = some (.tbl (ps ++ more))
section
variable {fs fs' ex ex' : List Addr} {H H1 H2 : Hp} {h h1 h2 h' : Heap} {a x e : Addr} {o : HO}
theorem Un.any (u : Un fs ex H H1 h h1) {b : Addr} {ob : Obj} (q : h.get? b = some ob) (n : H b = none) (hx : b ∉ ex) : ∃ sl, h1.get? b = some { ob with slots := sl } := by
  by_cases hb : b ∈ fs
  · exact u.slot b ob q n hb hx
  · exact ⟨ob.slots, u.keep b ob q n hb hx⟩
theorem Un.trans (a : Un fs ex H H1 h h1) (b : Un fs ex H1 H2 h1 h2) : Un fs ex H H2 h h2 where
  keep := fun c ob q n hc hx => b.keep c ob (a.keep c ob q n hc hx) (a.free c ob q n hx) hc hx
  slot := fun c ob q n hc hx => by
    obtain ⟨sl, e1⟩ := a.slot c ob q n hc hx
    obtain ⟨sl', e2⟩ := b.slot c _ e1 (a.free c ob q n hx) hc hx
    exact ⟨sl', e2⟩
  free := fun c ob q n hx => by
    obtain ⟨o', e1⟩ := a.there c ob q hx
    exact b.free c o' e1 (a.free c ob q n hx) hx
  there := fun c ob q hx => by
    obtain ⟨o', e1⟩ := a.there c ob q hx
    exact b.there c o' e1 hx
  tups := fun c xs q => b.tups c xs (a.tups c xs q)
  frzs := fun c ob xs q => b.frzs c ob xs (a.frzs c ob xs q)
  tbls := fun c ps q => by
    obtain ⟨m1, e1⟩ := a.tbls c ps q
    obtain ⟨m2, e2⟩ := b.tbls c _ e1
    exact ⟨m1 ++ m2, by rw [e2, Array.append_assoc]⟩
theorem Un.kept (k : ∀ b u, h.get? b = some u → h'.get? b = some u) : Un fs ex H H h h' :=
  ⟨fun b ob q _ _ _ => k b ob q, fun b ob q _ _ _ => ⟨ob.slots, k b ob q⟩, fun _ _ _ n _ => n, fun b ob q _ => ⟨ob, k b ob q⟩, fun _ _ q => q, fun _ _ _ q => q, fun _ ps q => ⟨#[], by rw [q]; simp⟩⟩
theorem Un.refl : Un fs ex H H h h := Un.kept fun _ _ q => q
theorem Un.laid (k : ∀ b u, h.get? b = some u → h'.get? b = some u) (hp : h.objs.size ≤ a) (hn : H a = none) : Un fs ex H (upd H a o) h h' where
  keep := fun b u q _ _ _ => k b u q
  slot := fun b u q _ _ _ => ⟨u.slots, k b u q⟩
  free := fun b u q n _ => by rw [upd_ne (Nat.ne_of_lt (Nat.lt_of_lt_of_le (Heap.lt_size q) hp))]; exact n
  there := fun b u q _ => ⟨u, k b u q⟩
  tups := fun b xs q => by rw [upd_ne (ne_of_none q hn)]; exact q
  frzs := fun b u xs q => by rw [upd_ne (ne_of_none q hn)]; exact q
  tbls := fun b ps q => ⟨#[], by rw [upd_ne (ne_of_none q hn), q]; simp⟩
theorem Un.write (mu : Mut (H x)) (he : e = x ∨ H e = some (.own x)) (k : ∀ b u, b ≠ e → h.get? b = some u → h'.get? b = some u) (heo : ∃ u, h'.get? e = some u) : Un fs ex H (upd H x o) h h' := by
  have hx : ∀ b, H b = none → b ≠ x := fun b n z => by subst z; rw [n] at mu; exact mu
  have hb : ∀ b, H b = none → b ≠ e := fun b n z => by
    subst z
    rcases he with r | r
    · exact hx b n r
    · rw [n] at r; cases r
  have hm : ∀ b u, H b = some u → ¬ Mut (some u) → b ≠ x := fun b u q nm z => by subst z; rw [q] at mu; exact nm mu
  refine ⟨fun b u q n _ _ => k b u (hb b n) q, fun b u q n _ _ => ⟨u.slots, k b u (hb b n) q⟩, fun b u q n _ => by rw [upd_ne (hx b n)]; exact n, fun b u q _ => ?_,
    fun b xs q => by rw [upd_ne (hm b _ q fun z => z)]; exact q, fun b u xs q => by rw [upd_ne (hm b _ q fun z => z)]; exact q, fun b ps q => ⟨#[], by rw [upd_ne (hm b _ q fun z => z), q]; simp⟩⟩
  by_cases hbe : b = e
  · subst hbe; exact heo
  · exact ⟨u, k b u hbe q⟩
theorem Un.mono (u : Un fs ex H H1 h h1) (hs : ∀ b ∈ fs, b ∈ fs') (hx : ∀ b ∈ ex, b ∈ ex') : Un fs' ex' H H1 h h1 :=
  ⟨fun b ob q n hb he => u.keep b ob q n (fun z => hb (hs b z)) fun z => he (hx b z), fun _ _ q n _ he => u.any q n fun z => he (hx _ z), fun b ob q n he => u.free b ob q n fun z => he (hx b z), fun b ob q he => u.there b ob q fun z => he (hx b z), u.tups, u.frzs, u.tbls⟩
end

/-! ### the heap without what is tracked -/
def trk (h : Heap) (H : Hp) : List Addr := (List.range h.objs.size).filter fun a => (H a).isSome
def hidT (h : Heap) (H : Hp) : Heap := PySem.W.hideAll h (trk h H)
theorem hidT_size (h : Heap) (H : Hp) : (hidT h H).objs.size = h.objs.size := PySem.W.hideAll_size _ _
theorem hidT_get {h : Heap} {H : Hp} {b : Addr} {o : Obj} (e : h.get? b = some o) (n : H b = none) : (hidT h H).get? b = some o :=
  PySem.W.hideAll_get _ e fun hm => by
    have q : (H b).isSome = true := (List.mem_filter.mp hm).2
    rw [n] at q; simp at q
theorem of_hidT {h : Heap} {H : Hp} {b : Addr} {o : Obj} (e : (hidT h H).get? b = some o) : h.get? b = some o ∧ H b = none := by
  have e' : h.get? b = some o := PySem.W.of_hideAll (trk h H) e
  refine ⟨e', ?_⟩
  cases q : H b with
  | none => rfl
  | some x =>
    have hm : b ∈ trk h H := List.mem_filter.mpr ⟨List.mem_range.mpr (Heap.lt_size e'), by simp [q]⟩
    have z : (hidT h H).get? b = none := PySem.W.hideAll_none (trk h H) hm
    rw [z] at e; cases e

/-! ### OpenK's ledger, filled with every new object but one -/
def allNews (g h : Heap) (L : Addr) : List (Addr × Obj) := (List.range h.objs.size).filterMap fun a => if a = L ∨ (g.get? a).isSome = true then none else (h.get? a).map fun o => (a, o)
theorem mem_allNews {g h : Heap} {L a : Addr} {o : Obj} (h1 : a ≠ L) (h2 : g.get? a = none) (h3 : h.get? a = some o) : (a, o) ∈ allNews g h L :=
  List.mem_filterMap.mpr ⟨a, List.mem_range.mpr (Heap.lt_size h3), by simp [h1, h2, h3]⟩
theorem of_mem_allNews {g h : Heap} {L : Addr} {p : Addr × Obj} (hp : p ∈ allNews g h L) : p.1 ≠ L ∧ g.get? p.1 = none ∧ h.get? p.1 = some p.2 := by
  obtain ⟨b, _, e⟩ := List.mem_filterMap.mp hp
  split at e
  · cases e
  · rename_i hn
    cases q : h.get? b with
    | none => rw [q] at e; simp at e
    | some u =>
      rw [q] at e
      simp only [Option.map_some, Option.some.injEq] at e
      subst e
      refine ⟨fun z => hn (.inl z), ?_, q⟩
      show g.get? b = none
      cases r : g.get? b with
      | none => rfl
      | some v => exact (hn (.inr (by simp [r]))).elim
def rest (g h : Heap) (L d : Addr) : List (Addr × Obj) := (allNews g h L).filter fun p => decide (p.1 ≠ d)
theorem rest_ne {g h : Heap} {L d : Addr} : ∀ p ∈ rest g h L d, p.1 ≠ d := fun p hp => of_decide_eq_true (List.mem_filter.mp hp).2
theorem mem_rest {g h : Heap} {L d a : Addr} {o : Obj} (h1 : a ≠ L) (h2 : g.get? a = none) (h3 : h.get? a = some o) (h4 : a ≠ d) : (a, o) ∈ rest g h L d :=
  List.mem_filter.mpr ⟨mem_allNews h1 h2 h3, decide_eq_true h4⟩
theorem news_all {g h : Heap} {L : Addr} : News g L h (allNews g h L) := fun p hp => let ⟨a, b, c⟩ := of_mem_allNews hp; ⟨c, a, b⟩
theorem news_at {g h : Heap} {L d : Addr} {o : Obj} (h1 : d ≠ L) (h2 : g.get? d = none) (h3 : h.get? d = some o) : News g L h ((d, o) :: rest g h L d) := fun p hp => by
  rcases List.mem_cons.mp hp with rfl | hp
  · exact ⟨h3, h1, h2⟩
  · exact news_all p (List.mem_filter.mp hp).1
/-- behind a rule that changed d alone: all else but the frame is kept -/
theorem kept_of_news {g h h' : Heap} {L d : Addr} {m : Str → Option Value} (k : ∀ b o, g.get? b = some o → h.get? b = some o) (F : Fr g L h' m) (N : News g L h' (rest g h L d)) :
    ∀ b o, b ≠ L → b ≠ d → h.get? b = some o → h'.get? b = some o := fun b o h1 h2 e => by
  cases q : g.get? b with
  | some u =>
    have := k b u q
    rw [e] at this; cases this
    exact F.keep b _ q
  | none => exact (N (b, o) (mem_rest h1 q e h2)).1
end L2

namespace L2
open PySem PySem.Spec PyProof.Rows

/-- the module's facts, over the base: the heap at the law's entry without what is tracked there -/
structure Mod (K : PySem.W.Frag) (mg : Str → Option Value) (base : Heap) : Prop where
  kin : K.In base
  glob : base.Ns mainGlobals mg
  blt : ∃ mb, base.Ns builtinsNs mb ∧ ∀ x : Str, x ≠ "__name__" → mb x = bootBuiltins x
  nolimit : base.NoLimit

/-- the context: a def's body (or a comprehension's block) running. base: fixed through the whole law; s₀, H₀: the entry; outer: the frames whose slots others may change (a def's callers); stack: all frames that run;
   ex: iterators that were made ahead of the entry and are walked here (a comprehension's); fn: the names whose cells were made at the entry (a def: all; a comprehension's block: its own); calm: not within an except suite; pn: pins that every state bears; xe: what is wanted of an exception that leaves the code -/
structure Cx where
  prog : Program
  w : World
  K : PySem.W.Frag
  mg : Str → Option Value
  base : Heap
  A : Around
  N : List Str
  s₀ : Shared
  H₀ : Hp
  env : Env
  outer : List Env
  stack : List Env
  ex : List Addr
  fn : Str → Bool
  calm : Bool
  pn : List (Addr × Obj)
  xe : Value → Shared → Prop
/-- the callers' frames -/
def frs (l : List Env) : List Addr := l.filterMap (·.frame)
abbrev Cx.fs (X : Cx) : List Addr := frs X.outer

def Vis (sc : Scope) (x : Str) : Prop := sc.names.lookup x = some .local ∨ sc.names.lookup x = some .cell ∨ sc.names.lookup x = some .free
def Loc (sc : Scope) (x : Str) : Prop := sc.names.lookup x = some .local ∨ sc.names.lookup x = some .cell
def Look (env : Env) (h : Heap) (m : Str → Option Value) (x : Str) (u : Value) : Prop :=
  (env.kindOf x = some .local ∧ m x = some u) ∨ ((env.kindOf x = some .cell ∨ env.kindOf x = some .free) ∧ ∃ c, env.cells.lookup x = some c ∧ h.IsCell c (some u))

structure Cx.Ok (X : Cx) : Prop where
  mod : Mod X.K X.mg X.base
  kind : X.env.scope.kind = .function
  glob : X.env.globals = mainGlobals
  blt : X.env.builtins = builtinsNs
  above : X.s₀.heap.objs.size ≤ X.env.locals
  inj : ∀ x y c, X.env.cells.lookup x = some c → X.env.cells.lookup y = some c → x = y
  has : ∀ x, (X.env.kindOf x = some .cell ∨ X.env.kindOf x = some .free) → ∃ c, X.env.cells.lookup x = some c
  cab : ∀ x c, X.fn x = true → X.env.cells.lookup x = some c → X.s₀.heap.objs.size ≤ c
  hd : X.calm = true → X.A.handled = none
  frames : X.A.frames = some X.stack
  stk : X.stack = X.outer ∨ (X.stack = X.env :: X.outer ∧ X.env.frame = some X.env.locals)
  exf : ∀ b ∈ X.ex, b ≠ X.env.locals ∧ ∀ x c, X.env.cells.lookup x = some c → c ≠ b
  bs : ∀ b o, X.base.get? b = some o → X.s₀.heap.get? b = some o ∧ X.H₀ b = none
  bsz : X.base.objs.size ≤ X.s₀.heap.objs.size
  noex : ∀ b o, X.base.get? b = some o → b ∉ X.ex
  exfs : ∀ b ∈ X.ex, b ∉ X.fs
  funs : X.s₀.heap.FunFrames X.base X.outer
  frf : ∀ b ∈ X.fs, X.H₀ b = none

structure Inv (X : Cx) (pins : List (Addr × Obj)) (σ : List (Option V)) (H : Hp) (s : Shared) : Prop where
  ok : X.Ok
  os : s.os = X.s₀.os
  bare : AllBare s.gens
  base : Un X.fs X.ex X.H₀ H X.s₀.heap s.heap
  loc : ∃ m, s.heap.Ns X.env.locals m ∧ ∀ (i : Nat) (x : Str) (v : V), X.N[i]? = some x → σ[i]? = some (some v) → Vis X.env.scope x → ∃ u, RelV v u ∧ Look X.env s.heap m x u
  cell : ∀ x c, X.env.cells.lookup x = some c → ∃ v, s.heap.IsCell c v
  free : H X.env.locals = none
  freeC : ∀ x c, X.env.cells.lookup x = some c → H c = none
  pin : ∀ p ∈ X.pn ++ pins, s.heap.get? p.1 = some p.2 ∧ H p.1 = none ∧ p.1 ≠ X.env.locals ∧ p.1 ∉ X.fs ∧ ∀ v, p.2.data ≠ .cell v
  hok : HOk X.prog X.w H s.heap
  len : σ.length = X.N.length

section
variable {X : Cx} {pins : List (Addr × Obj)} {σ : List (Option V)} {H H' : Hp} {s : Shared} {h' : Heap}

theorem Cx.Ok.nofr (ok : X.Ok) {b : Addr} {o : Obj} (e : X.base.get? b = some o) : b ∉ X.fs := fun hb => by
  have := (ok.funs.mem hb).1
  rw [e] at this; cases this
theorem Inv.bs (I : Inv X pins σ H s) : ∀ b o, X.base.get? b = some o → s.heap.get? b = some o ∧ H b = none := fun b o e =>
  ⟨I.base.keep b o (I.ok.bs b o e).1 (I.ok.bs b o e).2 (I.ok.nofr e) (I.ok.noex b o e), I.base.free b o (I.ok.bs b o e).1 (I.ok.bs b o e).2 (I.ok.noex b o e)⟩
theorem Inv.bk (I : Inv X pins σ H s) : ∀ b o, X.base.get? b = some o → s.heap.get? b = some o := fun b o e => (I.bs b o e).1
theorem Inv.mod (I : Inv X pins σ H s) : Mod X.K X.mg X.base := I.ok.mod
theorem Inv.kIn (I : Inv X pins σ H s) : X.K.In s.heap := I.ok.mod.kin.keeps I.bk
theorem Inv.nolimit (I : Inv X pins σ H s) : s.heap.NoLimit := I.ok.mod.nolimit.keeps I.bk
/-- the frame over the base: for OpenK's rules (K.In X.base is I.mod.kin) -/
theorem Inv.fr (I : Inv X pins σ H s) : ∃ m, Fr X.base X.env.locals s.heap m :=
  let ⟨m, hn, _⟩ := I.loc
  ⟨m, hn, I.bk, Nat.le_trans I.ok.bsz I.ok.above⟩
theorem Inv.lt (I : Inv X pins σ H s) : X.env.locals < s.heap.objs.size := let ⟨_, hn, _⟩ := I.loc; hn.lt
theorem Inv.sz (I : Inv X pins σ H s) : X.s₀.heap.objs.size ≤ s.heap.objs.size := Nat.le_trans I.ok.above (Nat.le_of_lt I.lt)
theorem Inv.nofs (I : Inv X pins σ H s) {a : Addr} (h : s.heap.objs.size ≤ a) : a ∉ X.fs := fun hb => by
  obtain ⟨_, o, ho, _⟩ := I.ok.funs.mem hb
  exact absurd (Nat.lt_of_lt_of_le (Heap.lt_size ho) (Nat.le_trans I.sz h)) (Nat.lt_irrefl _)
theorem Inv.cne (I : Inv X pins σ H s) : ∀ x c, X.env.cells.lookup x = some c → c ≠ X.env.locals := fun x c e z => by
  obtain ⟨v, o, ho, hd⟩ := I.cell x c e
  obtain ⟨m, ⟨o', es, ep, ho', hd', _⟩, _⟩ := I.loc
  rw [z, ho'] at ho; cases ho; rw [hd'] at hd; cases hd
theorem Inv.funs (I : Inv X pins σ H s) : s.heap.FunFrames X.base X.outer := by
  have all : ∀ (l : List Env), (∀ b ∈ frs l, b ∈ X.fs) → X.s₀.heap.FunFrames X.base l → s.heap.FunFrames X.base l := by
    intro l
    induction l with
    | nil => intro _ _; trivial
    | cons env r ih =>
      intro hs hl
      obtain ⟨hk, ⟨L, o, hf, hn, ho, hd⟩, hr⟩ := hl
      have hL : L ∈ X.fs := hs L (by unfold frs; rw [List.filterMap_cons, hf]; exact List.mem_cons_self)
      obtain ⟨sl, e⟩ := I.base.slot L o ho (I.ok.frf L hL) hL fun z => I.ok.exfs L z hL
      exact ⟨hk, ⟨L, _, hf, hn, e, hd⟩, ih (fun b hb => hs b (by unfold frs; rw [List.filterMap_cons, hf]; exact List.mem_cons_of_mem _ hb)) hr⟩
  exact all X.outer (fun _ hb => hb) I.ok.funs

/-- the frames that run, for a call -/
theorem Inv.stack (I : Inv X pins σ H s) : s.heap.FunFrames X.base X.stack := by
  rcases I.ok.stk with e | ⟨e, hf⟩
  · rw [e]; exact I.funs
  · rw [e]
    obtain ⟨m, hn, _⟩ := I.loc
    refine .cons (by rw [I.ok.kind]; decide) hf hn ?_ I.funs
    exact Heap.get?_none_of_le (Nat.le_trans I.ok.bsz I.ok.above)
theorem Inv.stkSub (I : Inv X pins σ H s) : ∀ b ∈ frs X.stack, b ∈ X.env.locals :: X.fs := fun b hb => by
  rcases I.ok.stk with e | ⟨e, hf⟩
  · rw [e] at hb; exact List.mem_cons_of_mem _ hb
  · rw [e] at hb
    unfold frs at hb
    rw [List.filterMap_cons, hf] at hb
    exact hb
theorem Inv.stkFree (I : Inv X pins σ H s) : ∀ b ∈ frs X.stack, H b = none := fun b hb => by
  rcases List.mem_cons.mp (I.stkSub b hb) with e | hb
  · rw [e]; exact I.free
  · obtain ⟨_, o, ho, _⟩ := I.ok.funs.mem hb
    exact I.base.free b o ho (I.ok.frf b hb) fun z => I.ok.exfs b z hb

/-- THE STEP: the untracked objects but the frame and the records at ch are kept (the callers' frames up to slots), the frame's map is kept, the new abstract heap is held -/
theorem Inv.step {g' : Array GenState} {t' : Nat} {d' : Drawn} {ch : List Addr} (I : Inv X pins σ H s)
    (hch : ∀ b ∈ ch, (b ∈ X.ex ∨ X.s₀.heap.objs.size ≤ b) ∧ b ≠ X.env.locals ∧ (∀ x c, X.env.cells.lookup x = some c → c ≠ b) ∧ ∀ p ∈ X.pn ++ pins, p.1 ≠ b)
    (keep : ∀ b o, b ≠ X.env.locals → b ∉ X.fs → b ∉ ch → s.heap.get? b = some o → H b = none → h'.get? b = some o)
    (slot : ∀ b o, b ≠ X.env.locals → b ∈ X.fs → b ∉ ch → s.heap.get? b = some o → H b = none → ∃ sl, h'.get? b = some { o with slots := sl }) (free : ∀ b o, b ∉ ch → s.heap.get? b = some o → H b = none → H' b = none)
    (there : ∀ b o, b ∉ ch → s.heap.get? b = some o → ∃ o', h'.get? b = some o')
    (tups : ∀ b xs, H b = some (.tup xs) → H' b = some (.tup xs)) (frzs : ∀ b o u, H b = some (.frz o u) → H' b = some (.frz o u)) (tbls : ∀ b ps, H b = some (.tbl ps) → ∃ more, H' b = some (.tbl (ps ++ more)))
    (ns : ∀ m, s.heap.Ns X.env.locals m → h'.Ns X.env.locals m) (hok : HOk X.prog X.w H' h') (hg : AllBare g') :
    Inv X pins σ H' { s with heap := h', gens := g', drawn := d', toks := t' } := by
  have neL : ∀ b o, X.s₀.heap.get? b = some o → b ≠ X.env.locals := fun b o e => Nat.ne_of_lt (Nat.lt_of_lt_of_le (Heap.lt_size e) I.ok.above)
  have neC : ∀ b o, X.s₀.heap.get? b = some o → b ∉ X.ex → b ∉ ch := fun b o e hx hb => by
    rcases (hch b hb).1 with z | z
    · exact hx z
    · exact absurd (Nat.lt_of_lt_of_le (Heap.lt_size e) z) (Nat.lt_irrefl _)
  have cellK : ∀ x c, X.env.cells.lookup x = some c → ∀ v, s.heap.IsCell c v → h'.IsCell c v := fun x c e v ⟨o, ho, hd⟩ => by
    have nch : c ∉ ch := fun z => (hch c z).2.2.1 x c e rfl
    by_cases hc : c ∈ X.fs
    · obtain ⟨sl, q⟩ := slot c o (I.cne x c e) hc nch ho (I.freeC x c e)
      exact ⟨_, q, hd⟩
    · exact ⟨o, keep c o (I.cne x c e) hc nch ho (I.freeC x c e), hd⟩
  refine ⟨I.ok, I.os, hg, ⟨fun b o e n hb hx => ?_, fun b o e n hb hx => ?_, fun b o e n hx => ?_, fun b o e hx => ?_, fun b xs e => tups b xs (I.base.tups b xs e), fun b o xs e => frzs b o xs (I.base.frzs b o xs e), fun b ps e => ?_⟩, ?_, fun x c e => ?_, ?_, fun x c e => ?_, fun p hp => ?_, hok, I.len⟩
  · exact keep b o (neL b o e) hb (neC b o e hx) (I.base.keep b o e n hb hx) (I.base.free b o e n hx)
  · obtain ⟨sl, e1⟩ := I.base.slot b o e n hb hx
    obtain ⟨sl', e2⟩ := slot b _ (neL b o e) hb (neC b o e hx) e1 (I.base.free b o e n hx)
    exact ⟨sl', e2⟩
  · obtain ⟨o', e1⟩ := I.base.there b o e hx
    exact free b o' (neC b o e hx) e1 (I.base.free b o e n hx)
  · obtain ⟨o', e1⟩ := I.base.there b o e hx
    exact there b o' (neC b o e hx) e1
  · obtain ⟨m1, e1⟩ := I.base.tbls b ps e
    obtain ⟨m2, e2⟩ := tbls b _ e1
    exact ⟨m1 ++ m2, by rw [e2, Array.append_assoc]⟩
  · obtain ⟨m, hn, hl⟩ := I.loc
    refine ⟨m, ns m hn, fun i x v e1 e2 e3 => ?_⟩
    obtain ⟨u, r, l⟩ := hl i x v e1 e2 e3
    refine ⟨u, r, ?_⟩
    rcases l with l | ⟨k, c, e, z⟩
    · exact .inl l
    · exact .inr ⟨k, c, e, cellK x c e _ z⟩
  · obtain ⟨v, z⟩ := I.cell x c e
    exact ⟨v, cellK x c e v z⟩
  · obtain ⟨m, ⟨o, _, _, ho, _⟩, _⟩ := I.loc
    exact free _ o (fun z => (hch _ z).2.1 rfl) ho I.free
  · obtain ⟨v, o, ho, hd⟩ := I.cell x c e
    exact free c o (fun z => (hch c z).2.2.1 x c e rfl) ho (I.freeC x c e)
  · obtain ⟨e, n, ne, nf, d⟩ := I.pin p hp
    have nch : p.1 ∉ ch := fun z => (hch p.1 z).2.2.2 p hp rfl
    exact ⟨keep p.1 p.2 ne nf nch e n, free p.1 p.2 nch e n, ne, nf, d⟩
/-- .. where the frame's own object is kept too -/
theorem Inv.un {t' : Nat} (I : Inv X pins σ H s) (u : Un X.fs [] H H' s.heap h') (hok : HOk X.prog X.w H' h') : Inv X pins σ H' { s with heap := h', toks := t' } := by
  obtain ⟨m, ⟨o, es, ep, ho, r⟩, _⟩ := id I.loc
  obtain ⟨sl, hL⟩ := u.any ho I.free (by simp)
  exact I.step (g' := s.gens) (d' := s.drawn) (ch := []) (fun _ z => nomatch z) (fun b o _ hb _ e n => u.keep b o e n hb (by simp)) (fun b o _ hb _ e n => u.slot b o e n hb (by simp)) (fun b o _ e n => u.free b o e n (by simp)) (fun b o _ e => u.there b o e (by simp)) u.tups u.frzs u.tbls (fun m' hm => by
    obtain ⟨o', es', ep', ho', r'⟩ := hm
    rw [ho] at ho'; cases ho'
    exact ⟨_, es', ep', hL, r'⟩) hok I.bare
/-- behind a call (or a comprehension's block): the slots of this frame may have changed too, the records at ch may have turned -/
theorem Inv.call {g' : Array GenState} {t' : Nat} {d' : Drawn} {ch : List Addr} (I : Inv X pins σ H s) (u : Un (frs X.stack) ch H H' s.heap h') (hok : HOk X.prog X.w H' h') (hg : AllBare g')
    (hch : ∀ b ∈ ch, (b ∈ X.ex ∨ X.s₀.heap.objs.size ≤ b) ∧ b ≠ X.env.locals ∧ (∀ x c, X.env.cells.lookup x = some c → c ≠ b) ∧ ∀ p ∈ X.pn ++ pins, p.1 ≠ b) :
    Inv X pins σ H' { s with heap := h', gens := g', drawn := d', toks := t' } := by
  obtain ⟨m, ⟨o, es, ep, ho, r⟩, _⟩ := id I.loc
  obtain ⟨sl, hL⟩ := u.any ho I.free fun z => (hch _ z).2.1 rfl
  exact I.step (ch := ch) hch (fun b o hL hb hc e n => u.keep b o e n (fun z => (List.mem_cons.mp (I.stkSub b z)).elim hL hb) hc) (fun b o _ _ hc e n => u.any e n hc) (fun b o hc e n => u.free b o e n hc) (fun b o hc e => u.there b o e hc) u.tups u.frzs u.tbls (fun m' hm => by
    obtain ⟨o', es', ep', ho', r'⟩ := hm
    rw [ho] at ho'; cases ho'
    exact ⟨_, es', ep', hL, r'⟩) hok hg
/-- an untracked record of ours (an iterator) has turned -/
theorem Inv.turned {t' : Nat} {it : Addr} (I : Inv X pins σ H s) (k : ∀ b o, b ≠ it → s.heap.get? b = some o → h'.get? b = some o) (hn : H it = none) (hL : it ≠ X.env.locals)
    (h1 : it ∈ X.ex ∨ X.s₀.heap.objs.size ≤ it) (h2 : ∀ x c, X.env.cells.lookup x = some c → c ≠ it) (h3 : ∀ p ∈ X.pn ++ pins, p.1 ≠ it) : Inv X pins σ H { s with heap := h', toks := t' } := by
  have nit : ∀ b u, H b = some u → b ≠ it := fun b u e z => by rw [z, hn] at e; cases e
  refine I.step (g' := s.gens) (d' := s.drawn) (ch := [it]) (fun b hb => ?_) (fun b o _ _ hc e _ => k b o (fun z => hc (by simp [z])) e) (fun b o _ _ hc e _ => ⟨o.slots, k b o (fun z => hc (by simp [z])) e⟩) (fun _ _ _ _ n => n)
    (fun b o hc e => ⟨o, k b o (fun z => hc (by simp [z])) e⟩) (fun _ _ e => e) (fun _ _ _ e => e) (fun b ps e => ⟨#[], by rw [e]; simp⟩) (fun m hm => ?_) (fun b u e => ?_) I.bare
  · have e : b = it := by simpa using hb
    subst e
    exact ⟨h1, hL, h2, h3⟩
  · obtain ⟨o, es, ep, ho, r⟩ := hm
    exact ⟨o, es, ep, k _ o (Ne.symm hL) ho, r⟩
  · refine (I.hok b u e).stay (fun c v hc q => k c v ?_ q) (fun _ q => q) fun _ _ q => q
    rcases hc with z | z
    · rw [z]; exact nit b u e
    · exact nit c _ z
theorem Inv.tok (I : Inv X pins σ H s) (t : Nat) : Inv X pins σ H { s with toks := t } := I.un (h' := s.heap) (t' := t) Un.refl I.hok
/-- all objects kept -/
theorem Inv.kept {t' : Nat} (I : Inv X pins σ H s) (k : ∀ b u, s.heap.get? b = some u → h'.get? b = some u) : Inv X pins σ H { s with heap := h', toks := t' } := I.un (Un.kept k) (I.hok.kept k)
/-- a new object laid and tracked -/
theorem Inv.laid {a : Addr} {o : HO} {t' : Nat} (I : Inv X pins σ H s) (k : ∀ b u, s.heap.get? b = some u → h'.get? b = some u) (hp : s.heap.objs.size ≤ a) (new : ObjOk X.prog X.w (upd H a o) h' a o) :
    Inv X pins σ (upd H a o) { s with heap := h', toks := t' } := I.un (Un.laid k hp (I.hok.fresh hp)) (I.hok.laid k hp new)
/-- an object written -/
theorem Inv.write {x e : Addr} {o : HO} {t' : Nat} (I : Inv X pins σ H s) (mu : Mut (H x)) (he : e = x ∨ H e = some (.own x)) (k : ∀ b u, b ≠ e → s.heap.get? b = some u → h'.get? b = some u) (heo : ∃ u, h'.get? e = some u)
    (new : ObjOk X.prog X.w (upd H x o) h' x o) : Inv X pins σ (upd H x o) { s with heap := h', toks := t' } := I.un (Un.write mu he k heo) (I.hok.write mu he k heo new)
/-- forgetting slots, pins -/
theorem Inv.weak {σ' : List (Option V)} (I : Inv X pins σ H s) (hl : σ'.length = σ.length) (w : ∀ (i : Nat) v, σ'[i]? = some (some v) → σ[i]? = some (some v)) : Inv X pins σ' H s :=
  ⟨I.ok, I.os, I.bare, I.base, let ⟨m, hn, hl'⟩ := I.loc; ⟨m, hn, fun i x v e1 e2 e3 => hl' i x v e1 (w i v e2) e3⟩, I.cell, I.free, I.freeC, I.pin, I.hok, hl.trans I.len⟩
theorem Inv.pins_of {pins' : List (Addr × Obj)} (I : Inv X pins σ H s) (h : ∀ p ∈ pins', s.heap.get? p.1 = some p.2 ∧ H p.1 = none ∧ p.1 ≠ X.env.locals ∧ p.1 ∉ X.fs ∧ ∀ v, p.2.data ≠ .cell v) : Inv X pins' σ H s :=
  ⟨I.ok, I.os, I.bare, I.base, I.loc, I.cell, I.free, I.freeC, fun p hp => (List.mem_append.mp hp).elim (fun z => I.pin p (List.mem_append_left _ z)) (h p), I.hok, I.len⟩

theorem nodup_ix {N : List Str} (hN : N.Nodup) {i j : Nat} {x : Str} (a : N[i]? = some x) (b : N[j]? = some x) : i = j := by
  obtain ⟨h1, e1⟩ := List.getElem?_eq_some_iff.mp a
  obtain ⟨h2, e2⟩ := List.getElem?_eq_some_iff.mp b
  exact (List.getElem_inj hN).mp (e1.trans e2.symm)

/-- a name is stored; what changed -/
theorem store_ok2 {M : Model} {A : Around} {E : Value → Shared → Prop} {i : Nat} {x : Str} {v : V} {u : Value} {Q : Unit → Shared → Prop} (I : Inv X pins σ H s) (hN : X.N.Nodup) (hi : X.N[i]? = some x) (hx : Loc X.env.scope x) (r : RelV v u)
    (h : ∀ s', Inv X pins (σ.set i (some v)) H s' → (∃ a, Heap.SameBut a s.heap s'.heap ∧ (a = X.env.locals ∨ X.env.cells.lookup x = some a)) → Q () s') (hf : X.fn x = true ∨ X.env.scope.names.lookup x = some .local := by first | exact .inl rfl | exact .inr rfl | assumption) : wpAny M A (storeName X.env x u) Q E s := by
  obtain ⟨m, hn, hl⟩ := id I.loc
  have hcls : (X.env.scope.kind == .class || (X.env.scope.kind == .module && X.env.locals != X.env.globals)) = false := by rw [I.ok.kind]; rfl
  have hiσ : i < σ.length := by rw [I.len]; exact (List.getElem?_eq_some_iff.mp hi).1
  have cne := I.cne
  have tracked : ∀ {a : Addr} {h' : Heap}, (∃ o, s.heap.get? a = some o ∧ H a = none) → Heap.SameBut a s.heap h' → HOk X.prog X.w H h' := fun {a h'} ha hs b ob e => by
    obtain ⟨_, _, hfree⟩ := ha
    refine (I.hok b ob e).stay (fun c w' hc q => (hs.2 c ?_).trans q) (fun _ q => q) fun _ _ q => q
    rintro rfl
    rcases hc with rfl | hc
    · rw [hfree] at e; cases e
    · rw [hfree] at hc; cases hc
  rcases hx with hk | hk
  · refine wpAny_storeName_local hk hn (fun h' hn' hs => ?_) hcls
    obtain ⟨oL, _, _, hoL, _⟩ := id hn
    refine h _ ⟨I.ok, I.os, I.bare, ⟨fun b o e n hb hx => ?_, fun b o e n hb hx => ?_, I.base.free, fun b o e hx => ?_, I.base.tups, I.base.frzs, I.base.tbls⟩, ⟨_, hn', fun j y v' e1 e2 e3 => ?_⟩, fun y c e => ?_, I.free, I.freeC, fun p hp => ?_, tracked ⟨oL, hoL, I.free⟩ hs, by simpa using I.len⟩ ⟨_, hs, .inl rfl⟩
    · exact (hs.2 b (Nat.ne_of_lt (Nat.lt_of_lt_of_le (Heap.lt_size e) I.ok.above))).trans (I.base.keep b o e n hb hx)
    · obtain ⟨sl, e1⟩ := I.base.slot b o e n hb hx
      exact ⟨sl, (hs.2 b (Nat.ne_of_lt (Nat.lt_of_lt_of_le (Heap.lt_size e) I.ok.above))).trans e1⟩
    · obtain ⟨o', e1⟩ := I.base.there b o e hx
      exact ⟨o', (hs.2 b (Nat.ne_of_lt (Nat.lt_of_lt_of_le (Heap.lt_size e) I.ok.above))).trans e1⟩
    · by_cases hj : j = i
      · subst hj
        rw [hi] at e1; cases e1
        rw [List.getElem?_set_self hiσ] at e2
        cases e2
        exact ⟨u, r, .inl ⟨hk, by simp⟩⟩
      · rw [List.getElem?_set_ne (Ne.symm hj)] at e2
        obtain ⟨u', r', q⟩ := hl j y v' e1 e2 e3
        refine ⟨u', r', ?_⟩
        rcases q with ⟨k, e⟩ | ⟨k, c, e, z⟩
        · refine .inl ⟨k, ?_⟩
          have : y ≠ x := fun e => hj (nodup_ix hN e1 (e ▸ hi))
          simp [this, e]
        · exact .inr ⟨k, c, e, z.sameBut hs (cne y c e)⟩
    · obtain ⟨w', z⟩ := I.cell y c e
      exact ⟨w', z.sameBut hs (cne y c e)⟩
    · obtain ⟨e, n, ne, nf, d⟩ := I.pin p hp
      exact ⟨(hs.2 p.1 ne).trans e, n, ne, nf, d⟩
  · have hfn : X.fn x = true := by
      rcases hf with z | z
      · exact z
      · rw [z] at hk; cases hk
    obtain ⟨c, hc⟩ := I.ok.has x (.inl hk)
    obtain ⟨w', z⟩ := I.cell x c hc
    refine wpAny_storeName_cell I.ok.kind hk hc z (fun h' hc' hs => ?_)
    obtain ⟨oc, hoc, hocd⟩ := id z
    refine h { s with heap := h' } ⟨I.ok, I.os, I.bare, ⟨fun b o e n hb hx => ?_, fun b o e n hb hx => ?_, I.base.free, fun b o e hx => ?_, I.base.tups, I.base.frzs, I.base.tbls⟩, ⟨m, hn.sameBut hs (Ne.symm (cne x c hc)), fun j y v' e1 e2 e3 => ?_⟩, fun y c' e => ?_, I.free, I.freeC, fun p hp => ?_, tracked ⟨oc, hoc, I.freeC x c hc⟩ hs, by simpa using I.len⟩ ⟨c, hs, .inr hc⟩
    · exact (hs.2 b (Nat.ne_of_lt (Nat.lt_of_lt_of_le (Heap.lt_size e) (I.ok.cab x c hfn hc)))).trans (I.base.keep b o e n hb hx)
    · obtain ⟨sl, e1⟩ := I.base.slot b o e n hb hx
      exact ⟨sl, (hs.2 b (Nat.ne_of_lt (Nat.lt_of_lt_of_le (Heap.lt_size e) (I.ok.cab x c hfn hc)))).trans e1⟩
    · obtain ⟨o', e1⟩ := I.base.there b o e hx
      exact ⟨o', (hs.2 b (Nat.ne_of_lt (Nat.lt_of_lt_of_le (Heap.lt_size e) (I.ok.cab x c hfn hc)))).trans e1⟩
    · by_cases hj : j = i
      · subst hj
        rw [hi] at e1; cases e1
        rw [List.getElem?_set_self hiσ] at e2
        cases e2
        exact ⟨u, r, .inr ⟨.inl hk, c, hc, hc'⟩⟩
      · rw [List.getElem?_set_ne (Ne.symm hj)] at e2
        obtain ⟨u', r', q⟩ := hl j y v' e1 e2 e3
        refine ⟨u', r', ?_⟩
        rcases q with q | ⟨k, c', e, z'⟩
        · exact .inl q
        · refine .inr ⟨k, c', e, z'.sameBut hs ?_⟩
          rintro rfl
          exact hj (nodup_ix hN e1 (I.ok.inj _ _ _ e hc ▸ hi))
    · by_cases hcc : c' = c
      · subst hcc; exact ⟨_, hc'⟩
      · obtain ⟨w2, z2⟩ := I.cell y c' e
        exact ⟨w2, z2.sameBut hs hcc⟩
    · obtain ⟨e, n, ne, nf, d⟩ := I.pin p hp
      refine ⟨(hs.2 p.1 ?_).trans e, n, ne, nf, d⟩
      intro q
      rw [q, hoc] at e
      have q' : oc = p.2 := Option.some.inj e
      exact d w' (by rw [← q']; exact hocd)
theorem store_ok {M : Model} {A : Around} {E : Value → Shared → Prop} {i : Nat} {x : Str} {v : V} {u : Value} {Q : Unit → Shared → Prop} (I : Inv X pins σ H s) (hN : X.N.Nodup) (hi : X.N[i]? = some x) (hx : Loc X.env.scope x) (r : RelV v u)
    (h : ∀ s', Inv X pins (σ.set i (some v)) H s' → Q () s') (hf : X.fn x = true ∨ X.env.scope.names.lookup x = some .local := by first | exact .inl rfl | exact .inr rfl | assumption) : wpAny M A (storeName X.env x u) Q E s :=
  store_ok2 I hN hi hx r (fun s' I' _ => h s' I') hf
/-- behind a call or a block, the state as it is -/
theorem Inv.call' {s' : Shared} {ch : List Addr} (I : Inv X pins σ H s) (ho : s'.os = s.os) (u : Un (frs X.stack) ch H H' s.heap s'.heap) (hok : HOk X.prog X.w H' s'.heap) (hg : AllBare s'.gens)
    (hch : ∀ b ∈ ch, (b ∈ X.ex ∨ X.s₀.heap.objs.size ≤ b) ∧ b ≠ X.env.locals ∧ (∀ x c, X.env.cells.lookup x = some c → c ≠ b) ∧ ∀ p ∈ X.pn ++ pins, p.1 ≠ b) : Inv X pins σ H' s' := by
  obtain ⟨h', g', d', t', o'⟩ := s'
  have e : o' = s.os := ho
  subst e
  exact I.call (g' := g') (t' := t') (d' := d') u hok hg hch
end

/-! ### the judgements -/
/-- an exception: its class, its own dict's address (where it has one), the abstract heap behind it -/
abbrev XK := Value → Option Addr → Hp → Prop
abbrev St := List (Option V)
abbrev VK := V → Hp → Prop
/-- an expression's reading; a test's; an argument list's -/
abbrev TE := St → Hp → VK → Prop
abbrev TT := St → Hp → (Bool → Hp → Prop) → Prop
abbrev TA := St → Hp → (List V → Hp → Prop) → Prop
/-- what is wanted behind a statement -/
structure Ends where
  nx : St → Hp → Prop
  rt : VK
  bk : St → Hp → Prop := fun _ _ => False
  ct : St → Hp → Prop := fun _ _ => False
abbrev TS := Ends → St → Hp → Prop

def EP (X : Cx) (pins : List (Addr × Obj)) (σ : St) (Q : VK) (u : Value) (s' : Shared) : Prop := ∃ v H', Inv X pins σ H' s' ∧ RelV v u ∧ Q v H'
def TP (X : Cx) (pins : List (Addr × Obj)) (σ : St) (Q : Bool → Hp → Prop) (b : Bool) (s' : Shared) : Prop := ∃ H', Inv X pins σ H' s' ∧ Q b H'
def AP (X : Cx) (pins : List (Addr × Obj)) (σ : St) (Q : List V → Hp → Prop) (us : List Value) (s' : Shared) : Prop := ∃ vs H', Inv X pins σ H' s' ∧ Vals vs us ∧ Q vs H'
def SP (X : Cx) (pins : List (Addr × Obj)) (D : Ends) (f : Flow) (s' : Shared) : Prop :=
  match f with
  | .next => ∃ σ' H', Inv X pins σ' H' s' ∧ D.nx σ' H'
  | .brk => ∃ σ' H', Inv X pins σ' H' s' ∧ D.bk σ' H'
  | .cont => ∃ σ' H', Inv X pins σ' H' s' ∧ D.ct σ' H'
  | .ret u => ∃ v σ' H', Inv X pins σ' H' s' ∧ RelV v u ∧ D.rt v H'

def PE (X : Cx) (e : Expr) (t : TE) : Prop :=
  ∀ (pins : List (Addr × Obj)) (s : Shared) (σ : St) (H : Hp) (Q : VK), Inv X pins σ H s → t σ H Q → wpAny (model X.prog X.w) X.A (eval e X.env) (EP X pins σ Q) X.xe s
def PT (X : Cx) (e : Expr) (t : TT) : Prop :=
  ∀ (pins : List (Addr × Obj)) (s : Shared) (σ : St) (H : Hp) (Q : Bool → Hp → Prop), Inv X pins σ H s → t σ H Q → wpAny (model X.prog X.w) X.A (isTrue e X.env (eval e X.env)) (TP X pins σ Q) X.xe s
/-- a test whatever its 'whole' is (and, or) -/
def PW (X : Cx) (e : Expr) (t : TT) : Prop :=
  ∀ (whole : Sem Value) (pins : List (Addr × Obj)) (s : Shared) (σ : St) (H : Hp) (Q : Bool → Hp → Prop), Inv X pins σ H s → t σ H Q → wpAny (model X.prog X.w) X.A (isTrue e X.env whole) (TP X pins σ Q) X.xe s
theorem PW.pt {X : Cx} {e : Expr} {t : TT} (h : PW X e t) : PT X e t := h _
/-- an argument list (no star), from the left -/
def PA (X : Cx) (es : List Expr) (t : TA) : Prop :=
  ∀ (pos : Pos) (pins : List (Addr × Obj)) (s : Shared) (σ : St) (H : Hp) (Q : List V → Hp → Prop), Inv X pins σ H s → t σ H Q → wpAny (model X.prog X.w) X.A (spliced (backTo pos (starEach es X.env))) (AP X pins σ Q) X.xe s
def PS (X : Cx) (st : Stmt) (t : TS) : Prop :=
  ∀ (pins : List (Addr × Obj)) (s : Shared) (σ : St) (H : Hp) (D : Ends), Inv X pins σ H s → t D σ H → wpAny (model X.prog X.w) X.A (exec st X.env) (SP X pins D) X.xe s
def PSs (X : Cx) (st : List Stmt) (t : TS) : Prop :=
  ∀ (pins : List (Addr × Obj)) (s : Shared) (σ : St) (H : Hp) (D : Ends), Inv X pins σ H s → t D σ H → wpAny (model X.prog X.w) X.A (execs st X.env) (SP X pins D) X.xe s
/-- weaken the end -/
theorem thn {α : Type} {t : Sem α} {Q Q' : α → Shared → Prop} {M : Model} {A : Around} {E : Value → Shared → Prop} {s : Shared} (h : wpAny M A t Q E s) (hQ : ∀ a s, Q a s → Q' a s) : wpAny M A t Q' E s := wpAny_mono h hQ fun _ _ x => x
end L2

namespace L2
open PySem PySem.Spec PyProof.Rows
section
variable {X : Cx}

/-- two expressions in a row -/
theorem bin {a b : Expr} {ta tb : TE} (ha : PE X a ta) (hb : PE X b tb) {pins : List (Addr × Obj)} {s : Shared} {σ : St} {H : Hp} {R : V → V → Hp → Prop} (I : Inv X pins σ H s) (h : ta σ H fun x H1 => tb σ H1 fun y H2 => R x y H2)
    {α : Type} {Q : α → Shared → Prop} {f : Value → Value → Sem α}
    (hf : ∀ v u s2 x y H2, Inv X pins σ H2 s2 → RelV x v → RelV y u → R x y H2 → wpAny (model X.prog X.w) X.A (f v u) Q X.xe s2) :
    wpAny (model X.prog X.w) X.A (eval a X.env) (fun v s₁ => wpAny (model X.prog X.w) X.A (eval b X.env) (fun u s₂ => wpAny (model X.prog X.w) X.A (f v u) Q X.xe s₂) X.xe s₁) X.xe s := by
  refine thn (ha pins s σ H _ I h) fun v s1 ⟨x, H1, I1, r1, q1⟩ => ?_
  refine thn (hb pins s1 σ H1 _ I1 q1) fun u s2 ⟨y, H2, I2, r2, q2⟩ => ?_
  exact hf v u s2 x y H2 I2 r1 r2 q2

/-! ### names and constants -/
def tVar (i : Nat) : TE := fun σ H Q => ∃ v, σ[i]? = some (some v) ∧ Q v H
def tC (v : V) : TE := fun _ H Q => Q v H
theorem pe_var {i : Nat} {x : Str} {pos : Pos} (hN : X.N[i]? = some x) (hv : Vis X.env.scope x) (hd : (x == ("__debug__" : Str)) = false := by decide) (hcd : (x == ("__classdict__" : Str)) = false := by decide) : PE X (.Name x pos) (tVar i) := by
  intro pins s σ H Q I h
  obtain ⟨v, e, h⟩ := h
  obtain ⟨m, hn, hl⟩ := I.loc
  obtain ⟨u, r, l⟩ := hl i x v hN e hv
  have fin : EP X pins σ Q u s := ⟨v, H, I, r, h⟩
  rcases l with ⟨hk, hm⟩ | ⟨hk, c, hc, hcell⟩
  · exact wpAny_Name (wpAny_loadName_local I.ok.kind hk hn hm fin) hd
  · rcases hk with hk | hk
    · exact wpAny_Name (wpAny_loadName_cell I.ok.kind hk hc hcell fin) hd
    · exact wpAny_Name (wpAny_loadName_free I.ok.kind hk hc hcell fin hcd) hd
theorem pe_int {i j pos} : PE X (.Constant (.int i) j pos) (tC (.int i)) := fun _ _ _ H _ I h => wpAny_Constant_int ⟨.int i, H, I.tok _, ⟨_, rfl⟩, h⟩
theorem pe_bl {b j pos} : PE X (.Constant (.bool b) j pos) (tC (.bl b)) := fun _ _ _ H _ I h => Constant_bool ⟨.bl b, H, I, rfl, h⟩
theorem pe_non {j pos} : PE X (.Constant .none j pos) (tC .non) := fun _ _ _ H _ I h => Constant_none ⟨.non, H, I, rfl, h⟩
theorem pe_str {x j pos} : PE X (.Constant (.str x) j pos) (tC (.str x)) := fun _ _ _ H _ I h => Calls.Constant_str ⟨.str x, H, I.tok _, ⟨_, rfl⟩, h⟩

/-- a global name of the def -/
def Gl (X : Cx) (x : Str) : Prop := X.env.kindOf x = some .globalImplicit
theorem ld_glob {E : Value → Shared → Prop} {pins : List (Addr × Obj)} {s : Shared} {σ : St} {H : Hp} {x : Str} {u : Value} {pos : Pos} {Q : Value → Shared → Prop} (I : Inv X pins σ H s) (hg : Gl X x) (hm : X.mg x = some u) (h : Q u s)
    (hd : (x == ("__debug__" : Str)) = false := by decide) : wpAny (model X.prog X.w) X.A (eval (.Name x pos) X.env) Q E s :=
  Calls.Name_function_global I.ok.kind hg (Calls.loadGlobal_global (by rw [I.ok.glob]; exact I.mod.glob.keeps I.bk) hm h) hd
theorem ld_blt {E : Value → Shared → Prop} {pins : List (Addr × Obj)} {s : Shared} {σ : St} {H : Hp} {x : Str} {u : Value} {pos : Pos} {Q : Value → Shared → Prop} (I : Inv X pins σ H s) (hg : Gl X x) (hm : X.mg x = none) (hv : bootBuiltins x = some u) (h : Q u s)
    (hn : x ≠ "__name__" := by decide) (hd : (x == ("__debug__" : Str)) = false := by decide) : wpAny (model X.prog X.w) X.A (eval (.Name x pos) X.env) Q E s := by
  obtain ⟨mb, h1, h2⟩ := I.mod.blt
  exact Calls.Name_function_global I.ok.kind hg (Calls.loadGlobal_builtin (by rw [I.ok.glob]; exact I.mod.glob.keeps I.bk) hm (by rw [I.ok.blt]; exact h1.keeps I.bk) ((h2 x hn).trans hv) h) hd
/-- a module's constant, a class, a function, as a value -/
theorem pe_glob {x : Str} {v : V} {u : Value} {pos : Pos} (hg : Gl X x) (hm : X.mg x = some u) (r : RelV v u) (hd : (x == ("__debug__" : Str)) = false := by decide) : PE X (.Name x pos) (tC v) :=
  fun _ _ _ H _ I h => ld_glob I hg hm ⟨v, H, I, r, h⟩ hd
theorem pe_bltn {x : Str} {v : V} {u : Value} {pos : Pos} (hg : Gl X x) (hm : X.mg x = none) (hv : bootBuiltins x = some u) (r : RelV v u) (hn : x ≠ "__name__" := by decide) (hd : (x == ("__debug__" : Str)) = false := by decide) : PE X (.Name x pos) (tC v) :=
  fun _ _ _ H _ I h => ld_blt I hg hm hv ⟨v, H, I, r, h⟩ hn hd

/-! ### arithmetic -/
/-- two ints -/
def t2I (ta tb : TE) (k : Int → Int → Hp → Prop) : St → Hp → Prop := fun σ H => ta σ H fun x H1 => tb σ H1 fun y H2 => ∃ i j, x = .int i ∧ y = .int j ∧ k i j H2
def tAdd (ta tb : TE) : TE := fun σ H Q => t2I ta tb (fun i j H2 => Q (.int (i + j)) H2) σ H
def tSub (ta tb : TE) : TE := fun σ H Q => t2I ta tb (fun i j H2 => Q (.int (i - j)) H2) σ H
/-- the left factor below 2^64 -/
def tMul (ta tb : TE) : TE := fun σ H Q => t2I ta tb (fun i j H2 => (-(2 ^ 64) < i ∧ i < 2 ^ 64) ∧ Q (.int (i * j)) H2) σ H
variable {a b : Expr} {ta tb : TE} {pos : Pos}
theorem pe_add (ha : PE X a ta) (hb : PE X b tb) : PE X (.BinOp a .Add b pos) (tAdd ta tb) := by
  intro pins s σ H Q I h
  refine wpAny_BinOp (bin ha hb I h fun v u s2 x y H2 I2 rx ry q => ?_)
  obtain ⟨i, j, rfl, rfl, q⟩ := q
  obtain ⟨t, rfl⟩ := rx
  obtain ⟨t', rfl⟩ := ry
  exact add_int ⟨.int _, H2, I2.tok _, ⟨_, rfl⟩, q⟩
theorem pe_sub (ha : PE X a ta) (hb : PE X b tb) : PE X (.BinOp a .Sub b pos) (tSub ta tb) := by
  intro pins s σ H Q I h
  refine wpAny_BinOp (bin ha hb I h fun v u s2 x y H2 I2 rx ry q => ?_)
  obtain ⟨i, j, rfl, rfl, q⟩ := q
  obtain ⟨t, rfl⟩ := rx
  obtain ⟨t', rfl⟩ := ry
  exact sub_int ⟨.int _, H2, I2.tok _, ⟨_, rfl⟩, q⟩
theorem pe_mul (ha : PE X a ta) (hb : PE X b tb) : PE X (.BinOp a .Mult b pos) (tMul ta tb) := by
  intro pins s σ H Q I h
  refine wpAny_BinOp (bin ha hb I h fun v u s2 x y H2 I2 rx ry q => ?_)
  obtain ⟨i, j, rfl, rfl, ⟨q1, q2⟩, q⟩ := q
  obtain ⟨t, rfl⟩ := rx
  obtain ⟨t', rfl⟩ := ry
  exact mul_int ⟨.int _, H2, I2.tok _, ⟨_, rfl⟩, q⟩ (.of_left (intBits_le_64 q1 q2))

/-! ### comparisons -/
def PC (X : Cx) (op : CmpOp) (a b : Expr) (t : TE) : Prop :=
  ∀ (pins : List (Addr × Obj)) (s : Shared) (σ : St) (H : Hp) (Q : VK), Inv X pins σ H s → t σ H Q →
    wpAny (model X.prog X.w) X.A (eval a X.env) (fun v s₁ => wpAny (model X.prog X.w) X.A (eval b X.env) (fun u s₂ => wpAny (model X.prog X.w) X.A (compareOp op v u) (EP X pins σ Q) X.xe s₂) X.xe s₁) X.xe s
theorem nobehind (b : Expr) {op : CmpOp} (h : op ≠ .In) (h2 : op ≠ .NotIn) : behindInMarks op b = false := by
  have e1 : (op == CmpOp.In) = false := by cases op <;> first | rfl | exact absurd rfl h
  have e2 : (op == CmpOp.NotIn) = false := by cases op <;> first | rfl | exact absurd rfl h2
  cases b <;> simp [behindInMarks, e1, e2]
def tCmp (p : Int → Int → Bool) (ta tb : TE) : TE := fun σ H Q => t2I ta tb (fun i j H2 => Q (.bl (p i j)) H2) σ H
abbrev tLt : TE → TE → TE := tCmp fun i j => decide (i < j)
abbrev tLe : TE → TE → TE := tCmp fun i j => decide (i ≤ j)
abbrev tGt : TE → TE → TE := tCmp fun i j => decide (j < i)
abbrev tGe : TE → TE → TE := tCmp fun i j => decide (j ≤ i)
abbrev tEqI : TE → TE → TE := tCmp fun i j => decide (i = j)
abbrev tNeI : TE → TE → TE := tCmp fun i j => !decide (i = j)
/-- a comparison of two ints, by its rule -/
theorem pc_int {op : CmpOp} {p : Int → Int → Bool} (ha : PE X a ta) (hb : PE X b tb)
    (rule : ∀ (i j : Int) (t u : Tok) (Q : Value → Shared → Prop) (s : Shared), Q (.bool (p i j)) s → wpAny (model X.prog X.w) X.A (compareOp op (.int i t) (.int j u)) Q X.xe s) : PC X op a b (tCmp p ta tb) := by
  intro pins s σ H Q I h
  refine bin ha hb I h fun v u s2 x y H2 I2 rx ry q => ?_
  obtain ⟨i, j, rfl, rfl, q⟩ := q
  obtain ⟨t, rfl⟩ := rx
  obtain ⟨t', rfl⟩ := ry
  exact rule i j t t' _ s2 ⟨.bl _, H2, I2, rfl, q⟩
theorem pc_lt (ha : PE X a ta) (hb : PE X b tb) : PC X .Lt a b (tLt ta tb) := pc_int ha hb fun _ _ _ _ _ _ h => lt_int h
theorem pc_le (ha : PE X a ta) (hb : PE X b tb) : PC X .LtE a b (tLe ta tb) := pc_int ha hb fun _ _ _ _ _ _ h => le_int h
theorem pc_gt (ha : PE X a ta) (hb : PE X b tb) : PC X .Gt a b (tGt ta tb) := pc_int ha hb fun _ _ _ _ _ _ h => gt_int h
theorem pc_ge (ha : PE X a ta) (hb : PE X b tb) : PC X .GtE a b (tGe ta tb) := pc_int ha hb fun _ _ _ _ _ _ h => ge_int h
theorem pc_eqI (ha : PE X a ta) (hb : PE X b tb) : PC X .Eq a b (tEqI ta tb) := pc_int ha hb fun _ _ _ _ _ _ h => eq_int (by rw [Bool.beq_eq_decide_eq]; exact h)
theorem pc_neI (ha : PE X a ta) (hb : PE X b tb) : PC X .NotEq a b (tNeI ta tb) := pc_int ha hb fun _ _ _ _ _ _ h => ne_int (by rw [bne, Bool.beq_eq_decide_eq]; exact h)
/-- is None -/
def tIsN (ta : TE) : TE := fun σ H Q => ta σ H fun x H1 => Q (.bl (decide (x = .non))) H1
def tNotN (ta : TE) : TE := fun σ H Q => ta σ H fun x H1 => Q (.bl (!decide (x = .non))) H1
theorem RelV.none_iff {x : V} {v : Value} (r : RelV x v) : (v == Value.none) = decide (x = .non) := by
  cases x with
  | non => cases r; rfl
  | bl _ => cases r; rfl
  | int _ => obtain ⟨t, rfl⟩ := r; rfl
  | str _ => obtain ⟨t, rfl⟩ := r; rfl
  | byt _ => obtain ⟨t, rfl⟩ := r; rfl
  | flt _ => obtain ⟨t, rfl⟩ := r; rfl
  | ref _ => cases r; rfl
  | ty _ => cases r; rfl
theorem pc_isN {j pos'} (ha : PE X a ta) : PC X .Is a (.Constant .none j pos') (tIsN ta) := by
  intro pins s σ H Q I h
  refine thn (ha pins s σ H _ I h) fun v s1 ⟨x, H1, I1, r1, q1⟩ => ?_
  exact Constant_none (is_none_gen ⟨.bl _, H1, I1, by rw [r1.none_iff]; rfl, q1⟩)
theorem pc_notN {j pos'} (ha : PE X a ta) : PC X .IsNot a (.Constant .none j pos') (tNotN ta) := by
  intro pins s σ H Q I h
  refine thn (ha pins s σ H _ I h) fun v s1 ⟨x, H1, I1, r1, q1⟩ => ?_
  exact Constant_none (isnot_none_gen ⟨.bl _, H1, I1, by rw [r1.none_iff]; rfl, q1⟩)
/-- a comparison as a value, as a test -/
def tB (t : TE) : TT := fun σ H Q => t σ H fun x H1 => ∃ c, x = .bl c ∧ Q c H1
theorem pe_cmp {op : CmpOp} {t : TE} (h : PC X op a b t) (h1 : behindInMarks op b = false := by first | exact nobehind _ (by decide) (by decide) | rfl) : PE X (.Compare a [op] [b] pos) t := fun pins s σ H Q I hw => wpAny_Compare1 (h pins s σ H Q I hw) h1
theorem pt_cmp {op : CmpOp} {t : TE} (h : PC X op a b t) (h1 : behindInMarks op b = false := by first | exact nobehind _ (by decide) (by decide) | rfl) : PT X (.Compare a [op] [b] pos) (tB t) := by
  intro pins s σ H Q I hw
  refine wpAny_isTrue_Compare1 (thn (h pins s σ H _ I hw) fun v s1 h1 => thn h1 fun u s2 h2 => thn h2 fun c s3 ⟨x, H1, I1, r1, q1⟩ => ?_) h1
  obtain ⟨d, rfl, q⟩ := q1
  cases r1
  exact wpAny_truthy_bool ⟨H1, I1, q⟩
/-- an expression whose value is a bool, as a test -/
theorem pt_val {e : Expr} {t : TE} (h : PE X e t) (he : ∀ whole, isTrue e X.env whole = (do let v ← whole; standAt e.pos; holding [v] (truthy v)) := by intro _; rfl) : PT X e (tB t) := by
  intro pins s σ H Q I hw
  refine isTrue_plain (thn (h pins s σ H _ I hw) fun v s1 ⟨x, H1, I1, r1, q1⟩ => ?_) (he _)
  obtain ⟨d, rfl, q⟩ := q1
  cases r1
  exact wpAny_truthy_bool ⟨H1, I1, q⟩

/-! ### and, or, not -/
variable {tA tB' : TT} {rest : List Expr}
def tAnd (t u : TT) : TT := fun σ H Q => t σ H fun c H1 => if c = true then u σ H1 Q else Q false H1
def tOr (t u : TT) : TT := fun σ H Q => t σ H fun c H1 => if c = true then Q true H1 else u σ H1 Q
def tNot (t : TT) : TT := fun σ H Q => t σ H fun c H1 => Q (!c) H1
theorem pw_and1 (ha : PT X a tA) : PW X (.BoolOp .And [a] pos) tA := by
  intro wh pins s σ H Q I h
  refine isTrue_and (thn (ha pins s σ H Q I h) fun c s1 e => ?_)
  cases c with
  | true => exact isTrue_and_nil e
  | false => exact e
theorem pw_or1 (ha : PT X a tA) : PW X (.BoolOp .Or [a] pos) tA := by
  intro wh pins s σ H Q I h
  refine isTrue_or (thn (ha pins s σ H Q I h) fun c s1 e => ?_)
  cases c with
  | false => exact isTrue_or_nil e
  | true => exact e
theorem pw_and (ha : PT X a tA) (hb : PW X (.BoolOp .And (b :: rest) pos) tB') : PW X (.BoolOp .And (a :: b :: rest) pos) (tAnd tA tB') := by
  intro wh pins s σ H Q I h
  refine isTrue_and (thn (ha pins s σ H _ I h) fun c s1 ⟨H1, I1, q1⟩ => ?_)
  cases c with
  | true => exact hb wh pins s1 σ H1 Q I1 q1
  | false => exact ⟨H1, I1, q1⟩
theorem pw_or (ha : PT X a tA) (hb : PW X (.BoolOp .Or (b :: rest) pos) tB') : PW X (.BoolOp .Or (a :: b :: rest) pos) (tOr tA tB') := by
  intro wh pins s σ H Q I h
  refine isTrue_or (thn (ha pins s σ H _ I h) fun c s1 ⟨H1, I1, q1⟩ => ?_)
  cases c with
  | true => exact ⟨H1, I1, q1⟩
  | false => exact hb wh pins s1 σ H1 Q I1 q1
theorem pt_not (ha : PT X a tA) : PT X (.UnaryOp .Not a pos) (tNot tA) := by
  intro pins s σ H Q I h
  exact isTrue_not (ha pins s σ H (fun c H1 => Q (!c) H1) I h)
/-- .. as values (bools) -/
def tAndV (ta tb : TE) : TE := fun σ H Q => ta σ H fun x H1 => ∃ c, x = .bl c ∧ if c = true then tb σ H1 Q else Q (.bl false) H1
def tOrV (ta tb : TE) : TE := fun σ H Q => ta σ H fun x H1 => ∃ c, x = .bl c ∧ if c = true then Q (.bl true) H1 else tb σ H1 Q
def tNotV (ta : TE) : TE := fun σ H Q => ta σ H fun x H1 => ∃ c, x = .bl c ∧ Q (.bl (!c)) H1
theorem pe_one {op} {t : TE} (h : PE X a t) : PE X (.BoolOp op [a] pos) t := fun pins s σ H Q I hw => BoolOp_one (h pins s σ H Q I hw)
theorem pe_and (ha : PE X a ta) (hb : PE X (.BoolOp .And (b :: rest) pos) tb) : PE X (.BoolOp .And (a :: b :: rest) pos) (tAndV ta tb) := by
  intro pins s σ H Q I h
  refine BoolOp_and (thn (ha pins s σ H _ I h) fun v s1 ⟨x, H1, I1, r1, q1⟩ => ?_)
  obtain ⟨c, rfl, q1⟩ := q1
  cases r1
  refine wpAny_truthy_bool ?_
  cases c with
  | true => exact hb pins s1 σ H1 Q I1 q1
  | false => exact ⟨.bl false, H1, I1, rfl, q1⟩
theorem pe_or (ha : PE X a ta) (hb : PE X (.BoolOp .Or (b :: rest) pos) tb) : PE X (.BoolOp .Or (a :: b :: rest) pos) (tOrV ta tb) := by
  intro pins s σ H Q I h
  refine BoolOp_or (thn (ha pins s σ H _ I h) fun v s1 ⟨x, H1, I1, r1, q1⟩ => ?_)
  obtain ⟨c, rfl, q1⟩ := q1
  cases r1
  refine wpAny_truthy_bool ?_
  cases c with
  | false => exact hb pins s1 σ H1 Q I1 q1
  | true => exact ⟨.bl true, H1, I1, rfl, q1⟩
theorem pe_not (ha : PE X a ta) : PE X (.UnaryOp .Not a pos) (tNotV ta) := by
  intro pins s σ H Q I h
  refine UnaryOp_ (thn (ha pins s σ H _ I h) fun v s1 ⟨x, H1, I1, r1, q1⟩ => ?_)
  obtain ⟨c, rfl, q1⟩ := q1
  cases r1
  exact not_of (wpAny_truthy_bool ⟨.bl (!c), H1, I1, rfl, q1⟩)
/-- a if t else b -/
def tIf (t : TT) (ta tb : TE) : TE := fun σ H Q => t σ H fun c H1 => if c = true then ta σ H1 Q else tb σ H1 Q
theorem pe_ifExp {c : Expr} (hc : PT X c tA) (ha : PE X a ta) (hb : PE X b tb) : PE X (.IfExp c a b pos) (tIf tA ta tb) := by
  intro pins s σ H Q I h
  refine wpAny_IfExp (thn (hc pins s σ H _ I h) fun d s1 ⟨H1, I1, q1⟩ => ?_)
  cases d with
  | true => exact ha pins s1 σ H1 Q I1 q1
  | false => exact hb pins s1 σ H1 Q I1 q1
end
end L2

namespace L2
open PySem PySem.Spec PyProof.Rows

/-! ### a list, a tuple that is read: tracked, frozen, or an object of the module -/
def SqL (K : PySem.W.Frag) (H : Hp) (a : Addr) (xs : List V) : Prop :=
  Rd H a (.lst xs) ∨
    ∃ (o : Obj) (its : Array Value) (n : Nat), K.lookup a = some o ∧ o.cls = .type "list" ∧ o.dict = none ∧ o.data = .seq its n ∧ its.size ≤ sizeLine ∧ Vals xs its.toList
def SqT (K : PySem.W.Frag) (H : Hp) (a : Addr) (xs : List V) : Prop :=
  Rd H a (.tup xs) ∨
    ∃ (o : Obj) (its : Array Value) (n : Nat), K.lookup a = some o ∧ o.cls = .type "tuple" ∧ o.data = .seq its n ∧ its.size ≤ sizeLine ∧ Vals xs its.toList
def absV : Value → Option V
  | .none => some .non
  | .bool b => some (.bl b)
  | .int i _ => some (.int i)
  | .str x _ => some (.str x)
  | .bytes b _ => some (.byt b)
  | .float b _ => some (.flt b)
  | .ref a => some (.ref a)
  | .type n => some (.ty n)
  | _ => none
theorem RelV.abs {x : V} {u : Value} (r : RelV x u) : absV u = some x := by
  cases x with
  | non => cases r; rfl
  | bl _ => cases r; rfl
  | int _ => obtain ⟨t, rfl⟩ := r; rfl
  | str _ => obtain ⟨t, rfl⟩ := r; rfl
  | byt _ => obtain ⟨t, rfl⟩ := r; rfl
  | flt _ => obtain ⟨t, rfl⟩ := r; rfl
  | ref _ => cases r; rfl
  | ty _ => cases r; rfl
theorem RelV.inj {x y : V} {u : Value} (r : RelV x u) (q : RelV y u) : x = y := Option.some.inj (r.abs.symm.trans q.abs)
theorem Vals.inj : ∀ {xs ys : List V} {us : List Value}, Vals xs us → Vals ys us → xs = ys
  | _, _, _, .nil, .nil => rfl
  | _, _, _, .cons r t, .cons r' t' => by rw [r.inj r', Vals.inj t t']
section
variable {X : Cx} {pins : List (Addr × Obj)} {σ : St} {H : Hp} {s : Shared} {a : Addr} {xs ys : List V}
theorem SqL.of {K : PySem.W.Frag} (h : H a = some (.lst xs)) : SqL K H a xs := .inl (.inl h)
theorem SqT.of {K : PySem.W.Frag} (h : H a = some (.tup xs)) : SqT K H a xs := .inl (.inl h)
theorem Inv.list (I : Inv X pins σ H s) (h : SqL X.K H a xs) : ∃ its : List Value, Vals xs its ∧ PlainL s.heap a its.toArray ∧ xs.length ≤ sizeLine := by
  rcases h with h | ⟨o, its, n, hk, hc, hd, hs, hz, r⟩
  · obtain ⟨z, its, n, r, e⟩ := h.ok I.hok
    exact ⟨its, r, ⟨_, n, e, rfl, rfl, rfl⟩, z⟩
  · refine ⟨its.toList, r, ⟨o, n, I.kIn a o hk, hc, hd, by simpa using hs⟩, ?_⟩
    have e := r.length
    simp only [Array.length_toList] at e
    omega
theorem Inv.tuple (I : Inv X pins σ H s) (h : SqT X.K H a xs) : ∃ its : List Value, Vals xs its ∧ IsTup s.heap a its.toArray ∧ xs.length ≤ sizeLine := by
  rcases h with h | ⟨o, its, n, hk, hc, hs, hz, r⟩
  · obtain ⟨z, its, r, p⟩ := h.ok I.hok
    exact ⟨its, r, p, z⟩
  · refine ⟨its.toList, r, ⟨o, I.kIn a o hk, hc, n, by simpa using hs⟩, ?_⟩
    have e := r.length
    simp only [Array.length_toList] at e
    omega
theorem Inv.list_inj (I : Inv X pins σ H s) (h : SqL X.K H a xs) (h' : SqL X.K H a ys) : xs = ys := by
  obtain ⟨its, r, ⟨o, n, e, _, _, d⟩, _⟩ := I.list h
  obtain ⟨its', r', ⟨o', n', e', _, _, d'⟩, _⟩ := I.list h'
  rw [e] at e'; cases e'
  rw [d] at d'
  injection d' with d1 _
  have : its = its' := by simpa using congrArg Array.toList d1
  subst this
  exact r.inj r'
theorem Inv.tuple_inj (I : Inv X pins σ H s) (h : SqT X.K H a xs) (h' : SqT X.K H a ys) : xs = ys := by
  obtain ⟨its, r, ⟨o, e, _, n, d⟩, _⟩ := I.tuple h
  obtain ⟨its', r', ⟨o', e', _, n', d'⟩, _⟩ := I.tuple h'
  rw [e] at e'; cases e'
  rw [d] at d'
  injection d' with d1 _
  have : its = its' := by simpa using congrArg Array.toList d1
  subst this
  exact r.inj r'
end

/-! ### another wish about exceptions -/
abbrev Cx.wish (X : Cx) (E : Value → Shared → Prop) : Cx := { X with xe := E }
/-- no exception leaves -/
abbrev Cx.nox (X : Cx) : Cx := X.wish fun _ _ => False
theorem Cx.Ok.wish {X : Cx} (ok : X.Ok) (E : Value → Shared → Prop) : (X.wish E).Ok :=
  ⟨ok.mod, ok.kind, ok.glob, ok.blt, ok.above, ok.inj, ok.has, ok.cab, ok.hd, ok.frames, ok.stk, ok.exf, ok.bs, ok.bsz, ok.noex, ok.exfs, ok.funs, ok.frf⟩
theorem Cx.Ok.unwish {X : Cx} {E : Value → Shared → Prop} (ok : (X.wish E).Ok) : X.Ok :=
  ⟨ok.mod, ok.kind, ok.glob, ok.blt, ok.above, ok.inj, ok.has, ok.cab, ok.hd, ok.frames, ok.stk, ok.exf, ok.bs, ok.bsz, ok.noex, ok.exfs, ok.funs, ok.frf⟩
section
variable {X : Cx} {pins : List (Addr × Obj)} {σ : St} {H : Hp} {s : Shared} {E : Value → Shared → Prop}
theorem Inv.wish (I : Inv X pins σ H s) (E : Value → Shared → Prop) : Inv (X.wish E) pins σ H s := ⟨I.ok.wish E, I.os, I.bare, I.base, I.loc, I.cell, I.free, I.freeC, I.pin, I.hok, I.len⟩
theorem Inv.unwish (I : Inv (X.wish E) pins σ H s) : Inv X pins σ H s := ⟨I.ok.unwish, I.os, I.bare, I.base, I.loc, I.cell, I.free, I.freeC, I.pin, I.hok, I.len⟩
theorem SP.unwish {D : Ends} {f : Flow} {s' : Shared} (h : SP (X.wish E) pins D f s') : SP X pins D f s' := by
  cases f with
  | next => obtain ⟨σ', H', I, q⟩ := h; exact ⟨σ', H', I.unwish, q⟩
  | brk => obtain ⟨σ', H', I, q⟩ := h; exact ⟨σ', H', I.unwish, q⟩
  | cont => obtain ⟨σ', H', I, q⟩ := h; exact ⟨σ', H', I.unwish, q⟩
  | ret u => obtain ⟨v, σ', H', I, r, q⟩ := h; exact ⟨v, σ', H', I.unwish, r, q⟩
theorem PE.nox {e : Expr} {t : TE} (h : PE X.nox e t) : PE X e t := fun pins s σ H Q I hw =>
  wpAny_mono (h pins s σ H Q (I.wish _) hw) (fun _ _ ⟨v, H', I', r, q⟩ => ⟨v, H', I'.unwish, r, q⟩) fun _ _ z => False.elim z
theorem PT.nox {e : Expr} {t : TT} (h : PT X.nox e t) : PT X e t := fun pins s σ H Q I hw =>
  wpAny_mono (h pins s σ H Q (I.wish _) hw) (fun _ _ ⟨H', I', q⟩ => ⟨H', I'.unwish, q⟩) fun _ _ z => False.elim z
theorem PSs.nox {st : List Stmt} {t : TS} (h : PSs X.nox st t) : PSs X st t := fun pins s σ H D I hw =>
  wpAny_mono (h pins s σ H D (I.wish _) hw) (fun _ _ q => q.unwish) fun _ _ z => False.elim z
end

/-! ### blocks and small statements -/
section
variable {X : Cx} {st : Stmt} {rest : List Stmt} {t u : TS} {e : Expr} {te : TE} {pos : Pos}
def tNext : TS := fun D σ H => D.nx σ H
def tSeq (t u : TS) : TS := fun D σ H => t { D with nx := u D } σ H
theorem pss_nil : PSs X [] tNext := fun _ _ σ H _ I h => wpAny_execs_nil ⟨σ, H, I, h⟩
theorem pss_cons (h1 : PS X st t) (h2 : PSs X rest u) : PSs X (st :: rest) (tSeq t u) := by
  intro pins s σ H D I h
  refine wpAny_execs_cons (thn (h1 pins s σ H { D with nx := u D } I h) fun f s1 q => ?_)
  cases f with
  | next =>
    obtain ⟨σ', H', I', q⟩ := q
    exact h2 pins s1 σ' H' D I' q
  | ret v => exact q
  | brk => exact q
  | cont => exact q
theorem pss_one (h1 : PS X st t) : PSs X [st] t := by
  intro pins s σ H D I h
  refine wpAny_execs_cons (thn (h1 pins s σ H D I h) fun f s1 q => ?_)
  cases f with
  | next => exact wpAny_execs_nil q
  | ret v => exact q
  | brk => exact q
  | cont => exact q
def tBreak : TS := fun D σ H => D.bk σ H
def tCont : TS := fun D σ H => D.ct σ H
theorem ps_pass : PS X (.Pass pos) tNext := fun _ _ σ H _ I h => wpAny_Pass ⟨σ, H, I, h⟩
theorem ps_break : PS X (.Break pos) tBreak := fun _ _ σ H _ I h => wpAny_Break ⟨σ, H, I, h⟩
theorem ps_continue : PS X (.Continue pos) tCont := fun _ _ σ H _ I h => wpAny_Continue ⟨σ, H, I, h⟩
/-- in a def's body nothing is shown -/
theorem Inv.quiet {pins : List (Addr × Obj)} {σ : St} {H : Hp} {s : Shared} (I : Inv X pins σ H s) : interactive X.env = false := by simp [interactive, I.ok.kind]
/-- a docstring -/
theorem ps_doc {x j pos pos'} : PS X (.Expr (.Constant (.str x) j pos) pos') tNext := fun _ s σ H _ I h => wpAny_Expr (Calls.Constant_str (show SP X _ _ .next { s with toks := s.toks + 1 } from ⟨σ, H, I.tok _, h⟩)) I.quiet
/-- an expression whose value is dropped -/
def tDrop (te : TE) : TS := fun D σ H => te σ H fun _ H1 => D.nx σ H1
theorem ps_expr (he : PE X e te) (hs : swapsWith e none pos.line X.env = pure false := by rfl) : PS X (.Expr e pos) (tDrop te) := by
  intro pins s σ H D I h
  exact wpAny_Expr_any (thn (he pins s σ H _ I h) fun v s1 ⟨x, H1, I1, r1, q1⟩ => ⟨σ, H1, I1, q1⟩) I.quiet hs
def tRet (te : TE) : TS := fun D σ H => te σ H D.rt
theorem ps_ret (he : PE X e te) : PS X (.Return (some e) pos) (tRet te) := by
  intro pins s σ H D I h
  exact wpAny_Return_some (thn (he pins s σ H _ I h) fun v s1 ⟨x, H1, I1, r1, q1⟩ => ⟨x, σ, H1, I1, r1, q1⟩)
def tRetN : TS := fun D _ H => D.rt .non H
theorem ps_retN : PS X (.Return none pos) tRetN := fun _ _ σ H _ I h => wpAny_Return_none ⟨.non, σ, H, I, rfl, h⟩
def tIfS (c : TT) (t u : TS) : TS := fun D σ H => c σ H fun b H1 => if b = true then t D σ H1 else u D σ H1
theorem ps_if {c : Expr} {a b : List Stmt} {tc : TT} (hc : PT X c tc) (ha : PSs X a t) (hb : PSs X b u) : PS X (.If c a b pos) (tIfS tc t u) := by
  intro pins s σ H D I h
  refine wpAny_If (thn (hc pins s σ H _ I h) fun d s1 ⟨H1, I1, q1⟩ => ?_)
  cases d with
  | true => exact ha pins s1 σ H1 D I1 q1
  | false => exact hb pins s1 σ H1 D I1 q1
/-- code that the proof never comes to -/
def tNever : TS := fun _ _ _ => False
theorem ps_never : PS X st tNever := fun _ _ _ _ _ _ h => h.elim
theorem pss_never {sts : List Stmt} : PSs X sts tNever := fun _ _ _ _ _ _ h => h.elim
end

/-! ### targets -/
abbrev TG := V → St → Hp → (St → Hp → Prop) → Prop
abbrev TGs := List V → St → Hp → (St → Hp → Prop) → Prop
def PG (X : Cx) (target : Expr) (t : TG) : Prop :=
  ∀ (pins : List (Addr × Obj)) (s : Shared) (σ : St) (H : Hp) (v : V) (u : Value) (Q : St → Hp → Prop), Inv X pins σ H s → RelV v u → t v σ H Q →
    wpAny (model X.prog X.w) X.A (assign target X.env u) (fun _ s' => ∃ σ' H', Inv X pins σ' H' s' ∧ Q σ' H') X.xe s
/-- several targets, one after another -/
def PGs (X : Cx) (ts : List Expr) (t : TGs) : Prop :=
  ∀ (pins : List (Addr × Obj)) (s : Shared) (σ : St) (H : Hp) (vs : List V) (us : List Value) (Q : St → Hp → Prop), Inv X pins σ H s → Vals vs us → t vs σ H Q →
    wpAny (model X.prog X.w) X.A (assignInOrder ((assignEach ts X.env).map (·.2)) us) (fun _ s' => ∃ σ' H', Inv X pins σ' H' s' ∧ Q σ' H') X.xe s
/-- o[i] = v, by values -/
abbrev TSet := V → V → V → Hp → (Hp → Prop) → Prop
def PSet (X : Cx) (t : TSet) : Prop :=
  ∀ (pins : List (Addr × Obj)) (s : Shared) (σ : St) (H : Hp) (o i v : V) (ov iv u : Value) (Q : Hp → Prop), Inv X pins σ H s → RelV o ov → RelV i iv → RelV v u → t o i v H Q →
    wpAny (model X.prog X.w) X.A (setItem ov iv u) (fun _ s' => ∃ H', Inv X pins σ H' s' ∧ Q H') X.xe s
/-- a op= b, by values -/
abbrev TIp := V → V → Hp → VK → Prop
def PIp (X : Cx) (op : Operator) (t : TIp) : Prop :=
  ∀ (pins : List (Addr × Obj)) (s : Shared) (σ : St) (H : Hp) (x y : V) (v u : Value) (Q : VK), Inv X pins σ H s → RelV x v → RelV y u → t x y H Q →
    wpAny (model X.prog X.w) X.A (inplaceOp op v u) (EP X pins σ Q) X.xe s
section
variable {X : Cx} {pos : Pos}
def gName (i : Nat) : TG := fun v σ H Q => Q (σ.set i (some v)) H
theorem pg_name {i : Nat} {x : Str} (hN : X.N.Nodup) (hi : X.N[i]? = some x) (hx : Loc X.env.scope x) (hf : X.fn x = true ∨ X.env.scope.names.lookup x = some .local := by first | exact .inl rfl | exact .inr rfl | assumption) : PG X (.Name x pos) (gName i) := by
  intro pins s σ H v u Q I r h
  exact wpAny_assign_Name (store_ok I hN hi hx r (fun s' I' => ⟨_, H, I', h⟩) hf)
def gNil : TGs := fun vs σ H Q => vs = [] ∧ Q σ H
def gCons (t : TG) (u : TGs) : TGs := fun vs σ H Q => ∃ v r, vs = v :: r ∧ t v σ H fun σ' H' => u r σ' H' Q
theorem pgs_nil : PGs X [] gNil := by
  intro pins s σ H vs us Q I r h
  obtain ⟨e, h⟩ := h
  subst e
  cases r
  exact assignInOrder_nil ⟨σ, H, I, h⟩
theorem pgs_cons {e : Expr} {es : List Expr} {t : TG} {u : TGs} (h1 : PG X e t) (h2 : PGs X es u)
    (hs : (assignEach (e :: es) X.env).map (·.2) = assign e X.env :: (assignEach es X.env).map (·.2) := by rfl) : PGs X (e :: es) (gCons t u) := by
  intro pins s σ H vs us Q I r h
  obtain ⟨v, vr, e1, h⟩ := h
  subst e1
  cases r with
  | cons r rr =>
    rw [hs]
    refine assignInOrder_cons (thn (h1 pins s σ H _ _ _ I r h) fun _ s1 ⟨σ1, H1, I1, q1⟩ => ?_)
    exact h2 pins s1 σ1 H1 _ _ Q I1 rr q1
/-- (a, b, ..) = a tuple of that length -/
def gTup (K : PySem.W.Frag) (n : Nat) (t : TGs) : TG := fun v σ H Q => ∃ a xs, v = .ref a ∧ SqT K H a xs ∧ xs.length = n ∧ t xs σ H Q
theorem pg_tup {es : List Expr} {k : Nat} {t : TGs} {n : Nat} (hc : X.calm = true) (h : PGs X es t)
    (hn : (assignEach es X.env).length = n := by rfl) (hst : (assignEach es X.env).findIdx? (·.1) = none := by rfl) : PG X (.Tuple es k pos) (gTup X.K n t) := by
  intro pins s σ H v u Q I r hw
  obtain ⟨a, xs, e1, hq, hl, hw⟩ := hw
  subst e1
  cases r
  obtain ⟨its, rv, ht, hz⟩ := I.tuple hq
  refine assign_Tuple_tuple (I.ok.hd hc) ht (by simp [hn, ← hl, rv.length]) hst fun h' hx => ?_
  have I1 : Inv X pins σ H { s with heap := h' } := I.kept (t' := s.toks) fun b o e => hx b o (Nat.ne_of_lt (Heap.lt_size e)) e
  exact h pins _ σ H xs _ Q I1 (by simpa using rv) hw
/-- o[i] = .. -/
def gSub (to ti : TE) (t : TSet) : TG := fun v σ H Q => to σ H fun o H1 => ti σ H1 fun i H2 => t o i v H2 fun H3 => Q σ H3
theorem pg_sub {o i : Expr} {to ti : TE} {t : TSet} (ho : PE X o to) (hi : PE X i ti) (hs : PSet X t)
    (ha : ∀ v, assign (.Subscript o i pos) X.env v = (do
      let ov ← holding [v] (eval o X.env)
      let iv ← holding [v, ov] (eval i X.env)
      standAt pos
      holding [v, ov, iv] (setItem ov iv v)
      release [v, ov, iv] []) := by intro _; rfl) : PG X (.Subscript o i pos) (gSub to ti t) := by
  intro pins s σ H v u Q I r h
  rw [ha]
  refine wpAny_bind (wpAny_holding (thn (ho pins s σ H _ I h) fun ov s1 ⟨x, H1, I1, r1, q1⟩ => ?_))
  refine wpAny_bind (wpAny_holding (thn (hi pins s1 σ H1 _ I1 q1) fun iv s2 ⟨y, H2, I2, r2, q2⟩ => ?_))
  refine wpAny_bind (wpAny_standAt (wpAny_bind (wpAny_holding (thn (hs pins s2 σ H2 x y v ov iv u _ I2 r1 r2 r q2) fun _ s3 ⟨H3, I3, q3⟩ => ?_))))
  exact wpAny_release ⟨σ, H3, I3, q3⟩
/-- target = value -/
def tAsg (te : TE) (g : TG) : TS := fun D σ H => te σ H fun x H1 => g x σ H1 D.nx
theorem ps_asg {tg e : Expr} {te : TE} {g : TG} (he : PE X e te) (hg : PG X tg g) (hs : swapsWithSole [tg] e pos.line X.env = pure false := by rfl) (hw : swappedStores [tg] e X.env = pure none := by rfl)
    (h1 : (assignEach [tg] X.env).map (·.2) = [assign tg X.env] := by rfl) : PS X (.Assign [tg] e pos) (tAsg te g) := by
  intro pins s σ H D I h
  refine wpAny_Assign_stores (thn (he pins s σ H _ I h) fun v s1 ⟨x, H1, I1, r1, q1⟩ => ?_) hs hw
  rw [h1]
  exact thn (hg pins s1 σ H1 x v _ I1 r1 q1) fun _ s2 q => q
/-- name = value -/
theorem ps_set {i : Nat} {x : Str} {e : Expr} {te : TE} {pos' : Pos} (hN : X.N.Nodup) (hi : X.N[i]? = some x) (hx : Loc X.env.scope x) (he : PE X e te) (hs : swapsWith e (some (.Name x pos')) pos.line X.env = pure false := by rfl) (hf : X.fn x = true ∨ X.env.scope.names.lookup x = some .local := by first | exact .inl rfl | exact .inr rfl | assumption) :
    PS X (.Assign [.Name x pos'] e pos) (tAsg te (gName i)) := by
  intro pins s σ H D I h
  refine wpAny_Assign_Name (thn (he pins s σ H _ I h) fun v s1 ⟨y, H1, I1, r1, q1⟩ => ?_) hs
  exact store_ok I1 hN hi hx r1 (fun s2 I2 => ⟨_, H1, I2, q1⟩) hf
/-- a, b = x, y with plain local names: stored from the right; the pair itself is not tracked (the opening rows as in PyProof/Rows/TupAssign.lean:23) -/
def tPar (i j : Nat) (ta : TA) : TS := fun D σ H => ta σ H fun vs H1 => ∃ v w, vs = [v, w] ∧ D.nx ((σ.set i (some v)).set j (some w)) H1
theorem ps_par {i j : Nat} {x y : Str} {a b : Expr} {ta : TA} {px py pt : Pos} {kt k2 pt2} (hc : X.calm = true) (hN : X.N.Nodup) (hi : X.N[i]? = some x) (hj : X.N[j]? = some y) (hij : i ≠ j)
    (hx : X.env.scope.names.lookup x = some .local) (hy : X.env.scope.names.lookup y = some .local) (ha : PA X [a, b] ta)
    (hw : swappedStores [.Tuple [.Name x px, .Name y py] kt pt] (.Tuple [a, b] k2 pt2) X.env = pure (some [x, y]))
    (hs : swapsWithSole [.Tuple [.Name x px, .Name y py] kt pt] (.Tuple [a, b] k2 pt2) pos.line X.env = pure false := by rfl) :
    PS X (.Assign [.Tuple [.Name x px, .Name y py] kt pt] (.Tuple [a, b] k2 pt2) pos) (tPar i j ta) := by
  intro pins s σ H D I h
  rw [exec_Assign_arm]
  refine wpAny_bind (wpAny_standAt ?_)
  rw [hs]
  refine wpAny_bind (wpAny_pure ?_)
  rw [if_neg (by decide)]
  refine wpAny_bind (Tuple_ (thn (ha _ pins s σ H _ I h) fun us s1 ⟨vs, H1, I1, r1, q1⟩ => ?_))
  obtain ⟨v, w, e1, q1⟩ := q1
  subst e1
  obtain ⟨u1, u2, rfl, rv, rw'⟩ : ∃ u1 u2, us = [u1, u2] ∧ RelV v u1 ∧ RelV w u2 := by
    cases r1 with
    | cons p q =>
      cases q with
      | cons p' q' =>
        cases q'
        exact ⟨_, _, rfl, p, p'⟩
  refine wpAny_newObj_type ?_ (by show 2 ≤ sizeLine; decide)
  have I2 : Inv X pins σ H1 { s1 with heap := s1.heap.push { cls := .type "tuple", data := .seq [u1, u2].toArray } } := I1.kept (t' := s1.toks) fun b o e => Heap.get?_push_of_some _ e
  rw [hw]
  refine wpAny_bind (wpAny_pure ?_)
  show wpAny (model X.prog X.w) X.A (do rule "assign.swapped-stores"; let items ← unpackItems (.ref s1.heap.objs.size) 2 none; assignInOrder [fun v => bindName X.env y v, fun v => bindName X.env x v] items.reverse; pure Flow.next) _ _ _
  refine wpAny_bind (wpAny_rule (wpAny_bind (unpackItems_tuple (items := #[u1, u2]) (I.ok.hd hc) (IsTup.new s1.heap _) fun h' hx' => ?_)))
  have I3 := I2.kept (h' := h') (t' := s1.toks) fun b o e => hx' b o (Nat.ne_of_lt (Heap.lt_size e)) e
  show wpAny _ _ (assignInOrder [fun v => bindName X.env y v, fun v => bindName X.env x v] [u2, u1] >>= fun _ => pure Flow.next) _ _ _
  refine wpAny_bind (assignInOrder_cons (wpAny_bindName (store_ok I3 hN hj (.inl hy) rw' (fun s2 I4 => ?_) (.inr hy))))
  refine assignInOrder_cons (wpAny_bindName (store_ok I4 hN hi (.inl hx) rv (fun s3 I5 => assignInOrder_nil (wpAny_pure ?_)) (.inr hx)))
  rw [List.set_comm _ _ (Ne.symm hij)] at I5
  exact ⟨_, H1, I5, q1⟩
/-- name op= e -/
def tAug (i : Nat) (te : TE) (ti : TIp) : TS := fun D σ H => ∃ x, σ[i]? = some (some x) ∧ te σ H fun y H1 => ti x y H1 fun z H2 => D.nx (σ.set i (some z)) H2
theorem ps_aug {i : Nat} {x : Str} {e : Expr} {te : TE} {op : Operator} {ti : TIp} {pos' : Pos} (hN : X.N.Nodup) (hi : X.N[i]? = some x) (hx : Loc X.env.scope x) (he : PE X e te) (ho : PIp X op ti) (hf : X.fn x = true ∨ X.env.scope.names.lookup x = some .local := by first | exact .inl rfl | exact .inr rfl | assumption) :
    PS X (.AugAssign (.Name x pos') op e pos) (tAug i te ti) := by
  intro pins s σ H D I h
  obtain ⟨v, e1, h⟩ := h
  obtain ⟨m, hn, hl⟩ := I.loc
  have vis : Vis X.env.scope x := by rcases hx with k | k; exact .inl k; exact .inr (.inl k)
  obtain ⟨u, r, l⟩ := hl i x v hi e1 vis
  refine wpAny_AugAssign_Name ?_
  have go : wpAny (model X.prog X.w) X.A (eval e X.env) (fun w s₂ => wpAny (model X.prog X.w) X.A (inplaceOp op u w) (fun r s₃ => wpAny (model X.prog X.w) X.A (storeName X.env x r) (fun _ => SP X pins D .next) X.xe s₃) X.xe s₂) X.xe s := by
    refine thn (he pins s σ H _ I h) fun w s1 ⟨y, H1, I1, r1, q1⟩ => ?_
    refine thn (ho pins s1 σ H1 v y u w _ I1 r r1 q1) fun z s2 ⟨zv, H2, I2, r2, q2⟩ => ?_
    exact store_ok I2 hN hi hx r2 (fun s3 I3 => ⟨_, H2, I3, q2⟩) hf
  rcases l with ⟨hk, hm⟩ | ⟨hk, c, hc, hcell⟩
  · exact wpAny_loadName_local I.ok.kind hk hn hm go
  · rcases hk with hk | hk
    · exact wpAny_loadName_cell I.ok.kind hk hc hcell go
    · rcases hx with k | k
      · have : X.env.scope.names.lookup x = some .free := hk
        rw [k] at this; cases this
      · have : X.env.scope.names.lookup x = some .free := hk
        rw [k] at this; cases this
/-- o[i] op= e -/
def tAugS (to ti te : TE) (tget : V → V → Hp → VK → Prop) (tip : TIp) (tset : TSet) : TS := fun D σ H => to σ H fun o H1 => ti σ H1 fun i H2 => tget o i H2 fun x H3 => te σ H3 fun y H4 => tip x y H4 fun z H5 => tset o i z H5 fun H6 => D.nx σ H6
/-- o[i], by values -/
def PGet (X : Cx) (t : V → V → Hp → VK → Prop) : Prop :=
  ∀ (pins : List (Addr × Obj)) (s : Shared) (σ : St) (H : Hp) (o i : V) (ov iv : Value) (Q : VK), Inv X pins σ H s → RelV o ov → RelV i iv → t o i H Q →
    wpAny (model X.prog X.w) X.A (getItem ov iv) (EP X pins σ Q) X.xe s
theorem ps_augS {o i e : Expr} {to ti te : TE} {tget : V → V → Hp → VK → Prop} {tip : TIp} {tset : TSet} {op : Operator} {tpos : Pos} (ho : PE X o to) (hi : PE X i ti) (hg : PGet X tget) (he : PE X e te) (hp : PIp X op tip) (hs : PSet X tset)
    (ha : ∀ ov iv new, augStore i ov iv new = (do holding [new, ov, iv] (setItem ov iv new); release [new, ov, iv] []; pure .next) := by intros; rfl) : PS X (.AugAssign (.Subscript o i tpos) op e pos) (tAugS to ti te tget tip tset) := by
  intro pins s σ H D I h
  refine wpAny_AugAssign_SubscriptAny (thn (ho pins s σ H _ I h) fun ov s1 ⟨x1, H1, I1, r1, q1⟩ => ?_) ha
  refine thn (hi pins s1 σ H1 _ I1 q1) fun iv s2 ⟨x2, H2, I2, r2, q2⟩ => ?_
  refine thn (hg pins s2 σ H2 x1 x2 ov iv _ I2 r1 r2 q2) fun old s3 ⟨x3, H3, I3, r3, q3⟩ => ?_
  refine thn (he pins s3 σ H3 _ I3 q3) fun v s4 ⟨x4, H4, I4, r4, q4⟩ => ?_
  refine thn (hp pins s4 σ H4 x3 x4 old v _ I4 r3 r4 q4) fun new s5 ⟨x5, H5, I5, r5, q5⟩ => ?_
  exact thn (hs pins s5 σ H5 x1 x2 x5 ov iv new _ I5 r1 r2 r5 q5) fun _ s6 ⟨H6, I6, q6⟩ => ⟨σ, H6, I6, q6⟩
/-- ints -/
def ipI (f : Int → Int → Int) : TIp := fun x y H Q => ∃ i j, x = .int i ∧ y = .int j ∧ Q (.int (f i j)) H
theorem ip_add : PIp X .Add (ipI fun i j => i + j) := by
  intro pins s σ H x y v u Q I r1 r2 h
  obtain ⟨i, j, e1, e2, q⟩ := h
  subst e1; subst e2
  obtain ⟨t, rfl⟩ := r1
  obtain ⟨t', rfl⟩ := r2
  exact iadd_int ⟨.int _, H, I.tok _, ⟨_, rfl⟩, q⟩
theorem ip_sub : PIp X .Sub (ipI fun i j => i - j) := by
  intro pins s σ H x y v u Q I r1 r2 h
  obtain ⟨i, j, e1, e2, q⟩ := h
  subst e1; subst e2
  obtain ⟨t, rfl⟩ := r1
  obtain ⟨t', rfl⟩ := r2
  exact isub_int ⟨.int _, H, I.tok _, ⟨_, rfl⟩, q⟩
end

/-! ### while -/
section
variable {X : Cx} {pos : Pos}
/-- the invariant W with its measure -/
def tWhile (c : TT) (tb : TS) : TS := fun D σ H => ∃ W : Nat → St → Hp → Prop, (∃ m, W m σ H) ∧ ∀ m σ H, W m σ H →
  c σ H fun b H1 => if b = true then ∃ N : St → Hp → Prop, (∀ σ' H', N σ' H' → ∃ m', m' < m ∧ W m' σ' H') ∧ tb { D with nx := N, ct := N, bk := D.nx } σ H1 else D.nx σ H1
theorem ps_while {c : Expr} {body : List Stmt} {tc : TT} {tb : TS} (hp : PassesOwn (model X.prog X.w) X.A X.env X.xe) (hc : PT X c tc) (hb : PSs X body tb) : PS X (.While c body [] pos) (tWhile tc tb) := by
  intro pins s σ H D I h
  obtain ⟨W, ⟨m0, w0⟩, turn⟩ := h
  refine wpAny_While (codeAny_whileLoop (fun n s' => ∃ σ' H', Inv X pins σ' H' s' ∧ W n σ' H') ?_ m0 ⟨σ, H, I, w0⟩)
  rintro n s1 ⟨σ1, H1, I1, w1⟩
  refine wpAny_passesOwn hp (thn (hc pins s1 σ1 H1 _ I1 (turn n σ1 H1 w1)) fun b s2 ⟨H2, I2, q2⟩ => ?_)
  cases b with
  | true =>
    obtain ⟨N, hN, q2⟩ := q2
    rw [if_pos rfl]
    refine wpAny_passesOwn hp (thn (hb pins s2 σ1 H2 _ I2 q2) fun f s3 q3 => ?_)
    cases f with
    | next =>
      obtain ⟨σ3, H3, I3, n3⟩ := q3
      obtain ⟨m', hm, w3⟩ := hN σ3 H3 n3
      exact ⟨m', hm, σ3, H3, I3, w3⟩
    | cont =>
      obtain ⟨σ3, H3, I3, n3⟩ := q3
      obtain ⟨m', hm, w3⟩ := hN σ3 H3 n3
      exact ⟨m', hm, σ3, H3, I3, w3⟩
    | brk => exact q3
    | ret v => exact q3
  | false =>
    rw [if_neg Bool.false_ne_true]
    exact wpAny_execs_nil ⟨σ1, H2, I2, q2⟩
end

/-! ### what a loop or a comprehension walks -/
/-- at turn i: it yields x (the heap may grow), or it stops -/
structure It where
  go : Nat → Hp → Prop
  yld : Nat → Hp → V → Hp → Prop
  stop : Nat → Hp → Prop
/-- the iterator's own objects may turn: they are not the frame's, not pinned, younger than the entry (or a comprehension's own) -/
def FpOk (X : Cx) (pins : List (Addr × Obj)) (H : Hp) (b : Addr) : Prop :=
  H b = none ∧ b ≠ X.env.locals ∧ b ∉ X.fs ∧ (b ∈ X.ex ∨ X.s₀.heap.objs.size ≤ b) ∧ (∀ x c, X.env.cells.lookup x = some c → c ≠ b) ∧ ∀ p ∈ X.pn ++ pins, p.1 ≠ b
theorem Inv.fpOk {X : Cx} {pins : List (Addr × Obj)} {σ : St} {H H' : Hp} {s : Shared} {b : Addr} (I : Inv X pins σ H s) (hb : s.heap.objs.size ≤ b) (hn : H' b = none) : FpOk X pins H' b := by
  refine ⟨hn, Nat.ne_of_gt (Nat.lt_of_lt_of_le I.lt hb), I.nofs hb, .inr (Nat.le_trans I.sz hb), fun x c e z => ?_, fun p hp z => ?_⟩
  · obtain ⟨v, q⟩ := I.cell x c e
    exact absurd (Nat.lt_of_lt_of_le q.lt (by rw [z]; exact hb)) (Nat.lt_irrefl _)
  · exact absurd (Nat.lt_of_lt_of_le (Heap.lt_size (I.pin p hp).1) (by rw [z]; exact hb)) (Nat.lt_irrefl _)
structure Turn (P : Program) (w : World) (K : PySem.W.Frag) (tg : Expr) (J : It) (fp : List Addr) (it : Addr) (tn : Nat → Heap → Prop) : Prop where
  mem : it ∈ fp
  obj : ∀ i h, tn i h → ∀ b ∈ fp, ∃ o, h.get? b = some o ∧ ∀ v, o.data ≠ .cell v
  keep : ∀ i h h', tn i h → (∀ b ∈ fp, ∀ o, h.get? b = some o → h'.get? b = some o) → tn i h'
  item : ∀ (X : Cx), X.prog = P → X.w = w → X.K = K → X.calm = true → ∀ (i : Nat) (pins : List (Addr × Obj)) (s : Shared) (σ : St) (H : Hp) (E : Value → Shared → Prop), Inv X pins σ H s → (∀ b ∈ fp, FpOk X pins H b) → tn i s.heap → J.go i H →
    wpAny (model P w) X.A (pyNext (.ref it)) (fun r s1 => ∃ u, r = some u ∧
      wpAny (model P w) X.A (letOwnedTupleGo tg (.ref it) u) (fun _ s2 => ∃ x H', Inv X pins σ H' s2 ∧ RelV x u ∧ J.yld i H x H' ∧ tn (i + 1) s2.heap ∧ ∀ b ∈ fp, H' b = none) E s1) E s
  done : ∀ (X : Cx), X.prog = P → X.w = w → X.K = K → X.calm = true → ∀ (i : Nat) (pins : List (Addr × Obj)) (s : Shared) (σ : St) (H : Hp) (E : Value → Shared → Prop), Inv X pins σ H s → (∀ b ∈ fp, FpOk X pins H b) → tn i s.heap → J.stop i H →
    wpAny (model P w) X.A (pyNext (.ref it)) (fun r s1 => r = none ∧ Inv X pins σ H s1) E s
  self : ∀ (A : Around) (i : Nat) (s : Shared) (Q : Value → Shared → Prop) (E : Value → Shared → Prop), tn i s.heap → Q (.ref it) s → wpAny (model P w) A (pyIter (.ref it)) Q E s
abbrev TI := St → Hp → (It → Hp → Prop) → Prop
/-- an iterator has come -/
def PIE (X : Cx) (pins : List (Addr × Obj)) (σ : St) (tg : Expr) (R : It → Hp → Prop) (itv : Value) (s2 : Shared) : Prop :=
  ∃ (it : Addr) (fp : List Addr) (tn : Nat → Heap → Prop) (J : It) (H' : Hp), itv = .ref it ∧ Inv X pins σ H' s2 ∧ Turn X.prog X.w X.K tg J fp it tn ∧ tn 0 s2.heap ∧ (∀ b ∈ fp, FpOk X pins H' b) ∧ R J H'
def PI (X : Cx) (tg iter : Expr) (wi : TI) : Prop :=
  ∀ (pins : List (Addr × Obj)) (s : Shared) (σ : St) (H : Hp) (R : It → Hp → Prop), Inv X pins σ H s → wi σ H R →
    wpAny (model X.prog X.w) X.A (eval iter X.env) (fun v s1 => wpAny (model X.prog X.w) X.A (pyIter v) (PIE X pins σ tg R) X.xe s1) X.xe s

/-- the step ahead of the store is nothing for an iterator that keeps no tuple -/
theorem go_of {M : Model} {A : Around} {E : Value → Shared → Prop} {s : Shared} {tg : Expr} {it : Addr} {u : Value} {o : Obj} {n : String} {vs : Array Value} {Q : Unit → Shared → Prop} (ho : s.heap.get? it = some o) (hc : o.cls = .type n) (hd : o.data = .fields vs)
    (hn : ["enumerate", "zip", "dict_itemiterator", "dict_reverseitemiterator", "odict_iterator", "itertools.zip_longest", "itertools.pairwise"].contains n = false) (hQ : Q () s) : wpAny M A (letOwnedTupleGo tg (.ref it) u) Q E s := by
  unfold letOwnedTupleGo
  cases tg <;> first
    | exact wpAny_pure hQ
    | (cases u <;> first
        | exact wpAny_pure hQ
        | (refine wpAny_bind (wpAny_load ho ?_)
           rw [hc, hd]
           show wpAny M A (if (["enumerate", "zip", "dict_itemiterator", "dict_reverseitemiterator", "odict_iterator", "itertools.zip_longest", "itertools.pairwise"].contains n && vs[0]? == some (rawInt _)) = true then _ else _) Q E s
           rw [if_neg (by intro h; rw [hn, Bool.false_and] at h; cases h)]
           exact wpAny_pure hQ))

/-- the list at a, as it stands at each turn (a loop may append to it) -/
def Itl (K : PySem.W.Frag) (a : Addr) : It :=
  ⟨fun i H => ∃ xs x, SqL K H a xs ∧ xs[i]? = some x, fun i H x H' => H' = H ∧ ∀ xs, SqL K H a xs → xs[i]? = some x, fun i H => ∃ xs, SqL K H a xs ∧ xs.length ≤ i⟩
def Itt (K : PySem.W.Frag) (a : Addr) : It :=
  ⟨fun i H => ∃ xs x, SqT K H a xs ∧ xs[i]? = some x, fun i H x H' => H' = H ∧ ∀ xs, SqT K H a xs → xs[i]? = some x, fun i H => ∃ xs, SqT K H a xs ∧ xs.length ≤ i⟩
/-- lo, lo + 1, .. (n of them) -/
def Itr (lo : Int) (n : Nat) : It := ⟨fun i _ => i < n, fun i H x H' => H' = H ∧ x = .int (lo + i), fun i _ => n ≤ i⟩
theorem turn_list {P : Program} {w : World} {K : PySem.W.Frag} {tg : Expr} (a it : Addr) : Turn P w K tg (Itl K a) [it] it (fun i h => h.IsListIter it a i) where
  mem := by simp
  obj := fun i h st b hb => by
    have e : b = it := by simpa using hb
    subst e
    obtain ⟨o, e, c, d⟩ := st
    exact ⟨o, e, fun v z => by rw [d] at z; cases z⟩
  keep := fun i h h' st k => st.at fun o e => k it (by simp) o e
  item := by
    intro X hP hw hK hc i pins s σ H E I hf st hg
    subst hP hw hK
    obtain ⟨xs, x, hq, hx⟩ := hg
    obtain ⟨its, rv, p, hz⟩ := I.list hq
    obtain ⟨u, hu, ru⟩ := rv.get hx
    obtain ⟨f0, f1, f2, f3, f4, f5⟩ := hf it (by simp)
    refine wpAny_pyNext_list_item st p.isList (x := u) (by simpa using hu) fun h' st' sb => ?_
    have I1 : Inv X pins σ H { s with heap := h' } := I.turned (t' := s.toks) (fun b o hb e => (sb.2 b hb).trans e) f0 f1 f3 f4 f5
    obtain ⟨o, e, c, d⟩ := id st'
    exact ⟨u, rfl, go_of (s := { s with heap := h' }) e c d (by decide) ⟨x, H, I1, ru, ⟨rfl, fun ys hy => by rw [I.list_inj hy hq]; exact hx⟩, st', fun b hb => (hf b hb).1⟩⟩
  done := by
    intro X hP hw hK hc i pins s σ H E I hf st hg
    subst hP hw hK
    obtain ⟨xs, hq, hx⟩ := hg
    obtain ⟨its, rv, p, hz⟩ := I.list hq
    obtain ⟨f0, f1, f2, f3, f4, f5⟩ := hf it (by simp)
    have hl := rv.length
    exact wpAny_pyNext_list_end (I.ok.hd hc) st p.isList (by simp; omega) fun h' eb => ⟨rfl, I.turned (t' := s.toks) (fun b o hb e => eb b o hb e) f0 f1 f3 f4 f5⟩
  self := fun _ _ _ _ _ st h => wpAny_pyIter_listiter st h
theorem turn_tuple {P : Program} {w : World} {K : PySem.W.Frag} {tg : Expr} (a it : Addr) : Turn P w K tg (Itt K a) [it] it (fun i h => h.IsTupleIter it a i) where
  mem := by simp
  obj := fun i h st b hb => by
    have e : b = it := by simpa using hb
    subst e
    obtain ⟨o, e, c, d⟩ := st
    exact ⟨o, e, fun v z => by rw [d] at z; cases z⟩
  keep := fun i h h' st k => st.at fun o e => k it (by simp) o e
  item := by
    intro X hP hw hK hc i pins s σ H E I hf st hg
    subst hP hw hK
    obtain ⟨xs, x, hq, hx⟩ := hg
    obtain ⟨its, rv, p, hz⟩ := I.tuple hq
    obtain ⟨u, hu, ru⟩ := rv.get hx
    obtain ⟨f0, f1, f2, f3, f4, f5⟩ := hf it (by simp)
    refine wpAny_pyNext_tuple_item st (show s.heap.IsTuple a its.toArray from p) (x := u) (by simpa using hu) fun h' st' sb => ?_
    have I1 : Inv X pins σ H { s with heap := h' } := I.turned (t' := s.toks) (fun b o hb e => (sb.2 b hb).trans e) f0 f1 f3 f4 f5
    obtain ⟨o, e, c, d⟩ := id st'
    exact ⟨u, rfl, go_of (s := { s with heap := h' }) e c d (by decide) ⟨x, H, I1, ru, ⟨rfl, fun ys hy => by rw [I.tuple_inj hy hq]; exact hx⟩, st', fun b hb => (hf b hb).1⟩⟩
  done := by
    intro X hP hw hK hc i pins s σ H E I hf st hg
    subst hP hw hK
    obtain ⟨xs, hq, hx⟩ := hg
    obtain ⟨its, rv, p, hz⟩ := I.tuple hq
    obtain ⟨f0, f1, f2, f3, f4, f5⟩ := hf it (by simp)
    have hl := rv.length
    exact wpAny_pyNext_tuple_end (I.ok.hd hc) st (show s.heap.IsTuple a its.toArray from p) (by simp; omega) fun h' eb => ⟨rfl, I.turned (t' := s.toks) (fun b o hb e => eb b o hb e) f0 f1 f3 f4 f5⟩
  self := fun _ _ _ _ _ st h => wpAny_pyIter_tupleiter st h
theorem turn_range {P : Program} {w : World} {K : PySem.W.Frag} {tg : Expr} (it : Addr) (lo : Int) (n : Nat) : Turn P w K tg (Itr lo n) [it] it (fun i h => IsRangeIter h it (lo + (i : Nat) * 1) ((n : Int) - (i : Nat)) 1) where
  mem := by simp
  obj := fun i h st b hb => by
    have e : b = it := by simpa using hb
    subst e
    exact ⟨_, st, fun v z => by
      have z' : Data.fields _ = Data.cell v := z
      cases z'⟩
  keep := fun i h h' st k => k it (by simp) _ st
  item := by
    intro X hP hw hK hc i pins s σ H E I hf st hg
    subst hP hw hK
    obtain ⟨f0, f1, f2, f3, f4, f5⟩ := hf it (by simp)
    have W := Walks.range (prog := X.prog) (w := X.w) (I.ok.hd hc) it lo 1 n
    refine W.item i s _ _ hg st fun v h' tk hv st' kk => ?_
    obtain ⟨t, rfl⟩ := hv
    have I1 : Inv X pins σ H { s with heap := h', toks := tk } := I.turned (fun b o hb e => kk b o (by simpa using hb) e) f0 f1 f3 f4 f5
    refine ⟨_, rfl, go_of (s := { s with heap := h', toks := tk }) (n := "range_iterator") st' rfl rfl (by decide) ⟨.int (lo + i), H, I1, ⟨t, ?_⟩, ⟨rfl, rfl⟩, st', fun b hb => (hf b hb).1⟩⟩
    rw [Int.mul_one]
  done := by
    intro X hP hw hK hc i pins s σ H E I hf st hg
    subst hP hw hK
    obtain ⟨f0, f1, f2, f3, f4, f5⟩ := hf it (by simp)
    exact wpAny_pyNext_range_end (I.ok.hd hc) st (by have : n ≤ i := hg; omega) fun h' eb => ⟨rfl, I.turned (t' := s.toks) (fun b o hb e => eb b o hb e) f0 f1 f3 f4 f5⟩
  self := fun _ _ _ _ _ st h => wpAny_pyIter_rangeiter st h
end L2

namespace L2
open PySem PySem.Spec PyProof.Rows
section
variable {X : Cx} {tg : Expr}
def iList (K : PySem.W.Frag) (tl : TE) : TI := fun σ H R => tl σ H fun x H1 => ∃ a, x = .ref a ∧ (∃ xs, SqL K H1 a xs) ∧ R (Itl K a) H1
def iTup (K : PySem.W.Frag) (tl : TE) : TI := fun σ H R => tl σ H fun x H1 => ∃ a, x = .ref a ∧ (∃ xs, SqT K H1 a xs) ∧ R (Itt K a) H1
theorem pi_list {l : Expr} {tl : TE} (hl : PE X l tl) : PI X tg l (iList X.K tl) := by
  intro pins s σ H R I h
  refine thn (hl pins s σ H _ I h) fun v s1 ⟨x, H1, I1, r1, q1⟩ => ?_
  obtain ⟨a, e, ⟨xs, hq⟩, q⟩ := q1
  subst e
  cases r1
  obtain ⟨its, rv, p, hz⟩ := I1.list hq
  refine wpAny_pyIter_list p.isList ?_
  refine ⟨s1.heap.objs.size, [s1.heap.objs.size], _, _, H1, rfl, I1.kept (t' := s1.toks) fun b o e => Heap.get?_push_of_some _ e, turn_list a _, ⟨_, Heap.get?_push_size _ rfl, rfl, rfl⟩, fun b hb => ?_, q⟩
  have e : b = s1.heap.objs.size := by simpa using hb
  subst e
  exact I1.fpOk (Nat.le_refl _) (I1.hok.fresh (Nat.le_refl _))
theorem pi_tup {l : Expr} {tl : TE} (hl : PE X l tl) : PI X tg l (iTup X.K tl) := by
  intro pins s σ H R I h
  refine thn (hl pins s σ H _ I h) fun v s1 ⟨x, H1, I1, r1, q1⟩ => ?_
  obtain ⟨a, e, ⟨xs, hq⟩, q⟩ := q1
  subst e
  cases r1
  obtain ⟨its, rv, p, hz⟩ := I1.tuple hq
  refine wpAny_pyIter_tuple (show s1.heap.IsTuple a its.toArray from p) ?_
  refine ⟨s1.heap.objs.size, [s1.heap.objs.size], _, _, H1, rfl, I1.kept (t' := s1.toks) fun b o e => Heap.get?_push_of_some _ e, turn_tuple a _, ⟨_, Heap.get?_push_size _ rfl, rfl, rfl⟩, fun b hb => ?_, q⟩
  have e : b = s1.heap.objs.size := by simpa using hb
  subst e
  exact I1.fpOk (Nat.le_refl _) (I1.hok.fresh (Nat.le_refl _))
/-- a range object just made, walked -/
theorem range_it {pins : List (Addr × Obj)} {σ : St} {H : Hp} {s : Shared} {R : It → Hp → Prop} {E : Value → Shared → Prop} {lo hi : Int} {t u v : Tok} {tk : Nat} (I : Inv X pins σ H s) (h1 : -(2 ^ 62) ≤ lo) (h2 : lo < 2 ^ 62) (h3 : -(2 ^ 62) ≤ hi) (h4 : hi < 2 ^ 62)
    (q : R (Itr lo (hi - lo).toNat) H) : wpAny (model X.prog X.w) X.A (pyIter (.ref s.heap.objs.size)) (PIE X pins σ tg R) E { s with heap := s.heap.push { cls := .type "range", data := .fields #[.int lo t, .int hi u, .int 1 v] }, toks := tk } := by
  refine wpAny_pyIter_range (IsRange.new ..) (small_one h1 h2 h3 h4) ?_
  have I1 : Inv X pins σ H { s with heap := s.heap.push { cls := .type "range", data := .fields #[.int lo t, .int hi u, .int 1 v] }, toks := tk } := I.kept fun b o e => Heap.get?_push_of_some _ e
  refine ⟨(s.heap.push { cls := .type "range", data := .fields #[.int lo t, .int hi u, .int 1 v] }).objs.size, [(s.heap.push { cls := .type "range", data := .fields #[.int lo t, .int hi u, .int 1 v] }).objs.size], _, _, H, rfl,
    I1.kept (t' := tk) fun b o e => Heap.get?_push_of_some _ e, turn_range _ lo (hi - lo).toNat, ?_, fun b hb => ?_, q⟩
  · have e1 : lo + ((0 : Nat) : Int) * 1 = lo := by simp
    have e2 : (((hi - lo).toNat : Nat) : Int) - ((0 : Nat) : Int) = Builtin.Range.rangeSize lo hi 1 := by rw [rangeSize_one]; split <;> omega
    show IsRangeIter _ _ (lo + ((0 : Nat) : Int) * 1) ((((hi - lo).toNat : Nat) : Int) - ((0 : Nat) : Int)) 1
    rw [e1, e2]
    exact Heap.get?_push_size _ rfl
  · have e : b = (s.heap.push { cls := .type "range", data := .fields #[.int lo t, .int hi u, .int 1 v] }).objs.size := by simpa using hb
    subst e
    exact I1.fpOk (Nat.le_refl _) (I1.hok.fresh (Nat.le_refl _))
def iRng1 (ta : TA) : TI := fun σ H R => ta σ H fun vs H1 => ∃ j : Int, vs = [.int j] ∧ -(2 ^ 62) ≤ j ∧ j < 2 ^ 62 ∧ R (Itr 0 j.toNat) H1
def iRng2 (ta : TA) : TI := fun σ H R => ta σ H fun vs H1 => ∃ i j : Int, vs = [.int i, .int j] ∧ (-(2 ^ 62) ≤ i ∧ i < 2 ^ 62 ∧ -(2 ^ 62) ≤ j ∧ j < 2 ^ 62) ∧ R (Itr i (j - i).toNat) H1
theorem pi_range1 {a : Expr} {ta : TA} {p pos : Pos} (hg : Gl X "range") (hm : X.mg "range" = none) (ha : PA X [a] ta) (hs : starEach [a] X.env = [(false, eval a X.env)] := by rfl) : PI X tg (.Call (.Name "range" p) [a] [] pos) (iRng1 ta) := by
  intro pins s σ H R I h
  refine Call_ (ld_blt I hg hm boot_range (PyProof.Rows.callWith_type1 (thn (ha pos pins s σ H _ I h) fun us s1 ⟨vs, H1, I1, r1, q1⟩ => ?_) hs rfl))
  obtain ⟨j, e, q1, q2, q⟩ := q1
  subst e
  cases r1 with
  | cons r rr =>
    cases rr
    obtain ⟨t, rfl⟩ := r
    exact call_range_1 (range_it I1 (by omega) (by omega) q1 q2 (by simpa using q))
theorem pi_range2 {a b : Expr} {ta : TA} {p pos : Pos} (hg : Gl X "range") (hm : X.mg "range" = none) (ha : PA X [a, b] ta) (hs : starEach [a, b] X.env = [(false, eval a X.env), (false, eval b X.env)] := by rfl) (hs2 : starEach [b] X.env = [(false, eval b X.env)] := by rfl) :
    PI X tg (.Call (.Name "range" p) [a, b] [] pos) (iRng2 ta) := by
  intro pins s σ H R I h
  refine Call_ (ld_blt I hg hm boot_range (PyProof.Rows.callWith_type1 (thn (ha pos pins s σ H _ I h) fun us s1 ⟨vs, H1, I1, r1, q1⟩ => ?_) (by rw [hs, hs2]) (by rw [hs2]; rfl)))
  obtain ⟨i, j, e, ⟨q1, q2, q3, q4⟩, q⟩ := q1
  subst e
  cases r1 with
  | cons r rr =>
    cases rr with
    | cons r' rr =>
      cases rr
      obtain ⟨t, rfl⟩ := r
      obtain ⟨t', rfl⟩ := r'
      exact call_range_2 (range_it I1 q1 q2 q3 q4 q)

/-! ### for -/
/-- W: the invariant by the turn and a measure; N: what the body is to reach -/
def tFor (wi : TI) (g : TG) (tb : TS) : TS := fun D σ H => wi σ H fun J H1 => ∃ W : Nat → Nat → St → Hp → Prop, (∃ m, W 0 m σ H1) ∧ ∀ i m σ H, W i m σ H →
  (J.stop i H ∧ D.nx σ H) ∨ (J.go i H ∧ ∃ N : St → Hp → Prop, (∀ σ' H', N σ' H' → ∃ m', m' < m ∧ W (i + 1) m' σ' H') ∧ ∀ x H', J.yld i H x H' → g x σ H' fun σ2 H2 => tb { D with nx := N, ct := N, bk := D.nx } σ2 H2)
/-- the records at fp as they stand -/
def pinsAt (fp : List Addr) (h : Heap) : List (Addr × Obj) := fp.filterMap fun b => (h.get? b).map fun o => (b, o)
theorem mem_pinsAt {fp : List Addr} {h : Heap} {b : Addr} {o : Obj} (hb : b ∈ fp) (e : h.get? b = some o) : (b, o) ∈ pinsAt fp h := List.mem_filterMap.mpr ⟨b, hb, by rw [e]; rfl⟩
theorem of_pinsAt {fp : List Addr} {h : Heap} {p : Addr × Obj} (hp : p ∈ pinsAt fp h) : p.1 ∈ fp ∧ h.get? p.1 = some p.2 := by
  obtain ⟨b, hb, e⟩ := List.mem_filterMap.mp hp
  cases q : h.get? b with
  | none => rw [q] at e; cases e
  | some o =>
    rw [q] at e
    have e' : (b, o) = p := Option.some.inj e
    subst e'
    exact ⟨hb, q⟩
theorem Inv.pinned {pins : List (Addr × Obj)} {σ : St} {H : Hp} {s : Shared} {fp : List Addr} (I : Inv X pins σ H s) (hf : ∀ b ∈ fp, FpOk X pins H b) (ho : ∀ b ∈ fp, ∃ o, s.heap.get? b = some o ∧ ∀ v, o.data ≠ .cell v) : Inv X (pins ++ pinsAt fp s.heap) σ H s :=
  I.pins_of fun p hp => (List.mem_append.mp hp).elim (fun z => I.pin p (List.mem_append_right _ z)) fun z => by
    obtain ⟨hb, e⟩ := of_pinsAt z
    obtain ⟨f0, f1, f2, _⟩ := hf p.1 hb
    obtain ⟨o, e', d⟩ := ho p.1 hb
    rw [e] at e'; cases e'
    exact ⟨e, f0, f1, f2, d⟩
theorem Inv.unpinned {pins pl : List (Addr × Obj)} {σ : St} {H : Hp} {s : Shared} (I : Inv X (pins ++ pl) σ H s) : Inv X pins σ H s := I.pins_of fun p hp => I.pin p (List.mem_append_right _ (List.mem_append_left _ hp))
theorem ps_for {iter : Expr} {body : List Stmt} {wi : TI} {g : TG} {tb : TS} {pos : Pos} (hp : PassesOwn (model X.prog X.w) X.A X.env X.xe) (hc : X.calm = true) (hi : PI X tg iter wi) (hg : PG X tg g) (hb : PSs X body tb)
    (hs : ∀ x, foldedSetIterable iter X.env x = pure x := by intro _; rfl) : PS X (.For tg iter body [] pos) (tFor wi g tb) := by
  intro pins s σ H D I h
  refine wpAny_For (thn (hi pins s σ H _ I h) fun v s1 h1 => thn h1 fun itv s2 h2 => ?_) hs
  obtain ⟨it, fp, tn, J, H2, e, I2, T, st2, f2, W, ⟨m0, w0⟩, turn⟩ := h2
  subst e
  -- what stays true of the iterator's objects through the loop
  have stat : ∀ {H' : Hp}, (∀ b ∈ fp, H' b = none) → ∀ b ∈ fp, FpOk X pins H' b := fun hn b hb => ⟨hn b hb, (f2 b hb).2⟩
  refine codeAny_forLoop_any (fun n s' => ∃ i σ' H', Inv X pins σ' H' s' ∧ tn i s'.heap ∧ (∀ b ∈ fp, H' b = none) ∧ W i n σ' H') ?_ m0 ⟨0, σ, H2, I2, st2, fun b hb => (f2 b hb).1, w0⟩
  rintro n s3 ⟨i, σ3, H3, I3, st3, fr3, w3⟩
  rcases turn i n σ3 H3 w3 with ⟨stop, qn⟩ | ⟨go, N, hN, step⟩
  · refine wpAny_passesOwn hp (thn (T.done X rfl rfl rfl hc i pins s3 σ3 H3 X.xe I3 (stat fr3) st3 stop) fun r s4 ⟨hr, I4⟩ => ?_)
    subst hr
    exact wpAny_execs_nil ⟨σ3, H3, I4, qn⟩
  · refine wpAny_passesOwn hp (thn (T.item X rfl rfl rfl hc i pins s3 σ3 H3 X.xe I3 (stat fr3) st3 go) fun r s4 ⟨u, hr, h4⟩ => ?_)
    subst hr
    refine wpAny_passesOwn hp (thn h4 fun _ s5 ⟨x, H5, I5, r5, y5, st5, fr5⟩ => ?_)
    have I5' := I5.pinned (stat fr5) (T.obj _ _ st5)
    refine wpAny_passesOwn hp (thn (hg _ s5 σ3 H5 x u _ I5' r5 (step x H5 y5)) fun _ s6 ⟨σ6, H6, I6, q6⟩ => ?_)
    refine wpAny_passesOwn hp (thn (hb _ s6 σ6 H6 _ I6 q6) fun f s7 q7 => ?_)
    have again : ∀ {σ7 : St} {H7 : Hp}, Inv X (pins ++ pinsAt fp s5.heap) σ7 H7 s7 → N σ7 H7 → ∃ m, m < n ∧ ∃ i σ' H', Inv X pins σ' H' s7 ∧ tn i s7.heap ∧ (∀ b ∈ fp, H' b = none) ∧ W i m σ' H' := fun {σ7 H7} I7 n7 => by
      obtain ⟨m', hm, w7⟩ := hN σ7 H7 n7
      refine ⟨m', hm, i + 1, σ7, H7, I7.unpinned, T.keep _ _ _ st5 fun b hb o e => (I7.pin (b, o) (List.mem_append_right _ (List.mem_append_right _ (mem_pinsAt hb e)))).1, fun b hb => ?_, w7⟩
      obtain ⟨o, e, d⟩ := T.obj _ _ st5 b hb
      exact (I7.pin (b, o) (List.mem_append_right _ (List.mem_append_right _ (mem_pinsAt hb e)))).2.1
    cases f with
    | next => obtain ⟨σ7, H7, I7, n7⟩ := q7; exact again I7 n7
    | cont => obtain ⟨σ7, H7, I7, n7⟩ := q7; exact again I7 n7
    | brk => obtain ⟨σ7, H7, I7, q7⟩ := q7; exact ⟨σ7, H7, I7.unpinned, q7⟩
    | ret v => obtain ⟨x7, σ7, H7, I7, r7, q7⟩ := q7; exact ⟨x7, σ7, H7, I7.unpinned, r7, q7⟩
end

/-! ### the forms one uses -/
/-- over a list that the body leaves as it is -/
theorem for_list {K : PySem.W.Frag} {a : Addr} {xs : List V} {g : TG} {tb : TS} {D : Ends} {σ : St} {H : Hp} (Pv : Nat → St → Hp → Prop) (h0 : Pv 0 σ H) (hl : ∀ i σ H, i ≤ xs.length → Pv i σ H → SqL K H a xs)
    (hs : ∀ i x σ H, xs[i]? = some x → Pv i σ H → g x σ H fun σ2 H2 => tb { D with nx := Pv (i + 1), ct := Pv (i + 1), bk := D.nx } σ2 H2) (hd : ∀ σ H, Pv xs.length σ H → D.nx σ H) :
    ∃ W : Nat → Nat → St → Hp → Prop, (∃ m, W 0 m σ H) ∧ ∀ i m σ H, W i m σ H →
      ((Itl K a).stop i H ∧ D.nx σ H) ∨ ((Itl K a).go i H ∧ ∃ N : St → Hp → Prop, (∀ σ' H', N σ' H' → ∃ m', m' < m ∧ W (i + 1) m' σ' H') ∧ ∀ x H', (Itl K a).yld i H x H' → g x σ H' fun σ2 H2 => tb { D with nx := N, ct := N, bk := D.nx } σ2 H2) := by
  refine ⟨fun i m σ H => m = xs.length - i ∧ i ≤ xs.length ∧ Pv i σ H, ⟨xs.length, by simp, Nat.zero_le _, h0⟩, ?_⟩
  rintro i m σ H ⟨rfl, hi, p⟩
  have q := hl i σ H hi p
  by_cases hlt : i < xs.length
  · refine .inr ⟨⟨xs, xs[i], q, by simp [hlt]⟩, Pv (i + 1), fun σ' H' p' => ⟨xs.length - (i + 1), by omega, rfl, hlt, p'⟩, fun x H' y => ?_⟩
    obtain ⟨e, y⟩ := y
    subst e
    exact hs i x σ _ (y xs q) p
  · have e : i = xs.length := by omega
    subst e
    exact .inl ⟨⟨xs, q, Nat.le_refl _⟩, hd σ H p⟩
theorem for_tup {K : PySem.W.Frag} {a : Addr} {xs : List V} {g : TG} {tb : TS} {D : Ends} {σ : St} {H : Hp} (Pv : Nat → St → Hp → Prop) (h0 : Pv 0 σ H) (hl : ∀ i σ H, i ≤ xs.length → Pv i σ H → SqT K H a xs)
    (hs : ∀ i x σ H, xs[i]? = some x → Pv i σ H → g x σ H fun σ2 H2 => tb { D with nx := Pv (i + 1), ct := Pv (i + 1), bk := D.nx } σ2 H2) (hd : ∀ σ H, Pv xs.length σ H → D.nx σ H) :
    ∃ W : Nat → Nat → St → Hp → Prop, (∃ m, W 0 m σ H) ∧ ∀ i m σ H, W i m σ H →
      ((Itt K a).stop i H ∧ D.nx σ H) ∨ ((Itt K a).go i H ∧ ∃ N : St → Hp → Prop, (∀ σ' H', N σ' H' → ∃ m', m' < m ∧ W (i + 1) m' σ' H') ∧ ∀ x H', (Itt K a).yld i H x H' → g x σ H' fun σ2 H2 => tb { D with nx := N, ct := N, bk := D.nx } σ2 H2) := by
  refine ⟨fun i m σ H => m = xs.length - i ∧ i ≤ xs.length ∧ Pv i σ H, ⟨xs.length, by simp, Nat.zero_le _, h0⟩, ?_⟩
  rintro i m σ H ⟨rfl, hi, p⟩
  have q := hl i σ H hi p
  by_cases hlt : i < xs.length
  · refine .inr ⟨⟨xs, xs[i], q, by simp [hlt]⟩, Pv (i + 1), fun σ' H' p' => ⟨xs.length - (i + 1), by omega, rfl, hlt, p'⟩, fun x H' y => ?_⟩
    obtain ⟨e, y⟩ := y
    subst e
    exact hs i x σ _ (y xs q) p
  · have e : i = xs.length := by omega
    subst e
    exact .inl ⟨⟨xs, q, Nat.le_refl _⟩, hd σ H p⟩
theorem for_range {lo : Int} {n : Nat} {g : TG} {tb : TS} {D : Ends} {σ : St} {H : Hp} (Pv : Nat → St → Hp → Prop) (h0 : Pv 0 σ H)
    (hs : ∀ i σ H, i < n → Pv i σ H → g (.int (lo + i)) σ H fun σ2 H2 => tb { D with nx := Pv (i + 1), ct := Pv (i + 1), bk := D.nx } σ2 H2) (hd : ∀ σ H, Pv n σ H → D.nx σ H) :
    ∃ W : Nat → Nat → St → Hp → Prop, (∃ m, W 0 m σ H) ∧ ∀ i m σ H, W i m σ H →
      ((Itr lo n).stop i H ∧ D.nx σ H) ∨ ((Itr lo n).go i H ∧ ∃ N : St → Hp → Prop, (∀ σ' H', N σ' H' → ∃ m', m' < m ∧ W (i + 1) m' σ' H') ∧ ∀ x H', (Itr lo n).yld i H x H' → g x σ H' fun σ2 H2 => tb { D with nx := N, ct := N, bk := D.nx } σ2 H2) := by
  refine ⟨fun i m σ H => m = n - i ∧ i ≤ n ∧ Pv i σ H, ⟨n, by simp, Nat.zero_le _, h0⟩, ?_⟩
  rintro i m σ H ⟨rfl, hi, p⟩
  by_cases hlt : i < n
  · refine .inr ⟨hlt, Pv (i + 1), fun σ' H' p' => ⟨n - (i + 1), by omega, rfl, hlt, p'⟩, fun x H' y => ?_⟩
    obtain ⟨e, y⟩ := y
    subst e y
    exact hs i σ _ hlt p
  · have e : i = n := by omega
    subst e
    exact .inl ⟨Nat.le_refl _, hd σ H p⟩
/-- while, by a word and a measure of the state -/
theorem while_by {c : TT} {tb : TS} {D : Ends} {σ : St} {H : Hp} (Pv : St → Hp → Prop) (μ : St → Hp → Nat) (h0 : Pv σ H)
    (hs : ∀ σ H, Pv σ H → c σ H fun b H1 => if b = true then tb { D with nx := fun σ' H' => Pv σ' H' ∧ μ σ' H' < μ σ H, ct := fun σ' H' => Pv σ' H' ∧ μ σ' H' < μ σ H, bk := D.nx } σ H1 else D.nx σ H1)
    (mono : ∀ σ H Q Q', (∀ b H1, Q b H1 → Q' b H1) → c σ H Q → c σ H Q') : tWhile c tb D σ H := by
  refine ⟨fun m σ H => m = μ σ H ∧ Pv σ H, ⟨_, rfl, h0⟩, ?_⟩
  rintro m σ H ⟨rfl, p⟩
  refine mono σ H _ _ (fun b H1 q => ?_) (hs σ H p)
  cases b with
  | true => exact ⟨_, fun σ' H' ⟨p', l⟩ => ⟨_, l, rfl, p'⟩, q⟩
  | false => exact q
end L2

namespace L2
open PySem PySem.Spec PyProof.Rows

abbrev R2 := V → V → Hp → VK → Prop
/-- a two-place operation on values: f is binaryOp op, inplaceOp op or compareOp op -/
def OpR (X : Cx) (f : Value → Value → Sem Value) (r : R2) : Prop :=
  ∀ (pins : List (Addr × Obj)) (s : Shared) (σ : St) (H : Hp) (x y : V) (v u : Value) (Q : VK), Inv X pins σ H s → RelV x v → RelV y u → r x y H Q →
    wpAny (model X.prog X.w) X.A (f v u) (EP X pins σ Q) X.xe s
/-- a one-place operation -/
def UnR (X : Cx) (f : Value → Sem Value) (r : V → Hp → VK → Prop) : Prop :=
  ∀ (pins : List (Addr × Obj)) (s : Shared) (σ : St) (H : Hp) (x : V) (v : Value) (Q : VK), Inv X pins σ H s → RelV x v → r x H Q →
    wpAny (model X.prog X.w) X.A (f v) (EP X pins σ Q) X.xe s
/-- a call of a value that is known (a builtin, a type) with values -/
def CallR (X : Cx) (f : Value) (r : List V → Hp → VK → Prop) : Prop :=
  ∀ (pins : List (Addr × Obj)) (s : Shared) (σ : St) (H : Hp) (xs : List V) (us : List Value) (Q : VK), Inv X pins σ H s → Vals xs us → r xs H Q →
    wpAny (model X.prog X.w) X.A (call f us) (EP X pins σ Q) X.xe s
/-- a value's truth -/
def TruR (X : Cx) (r : V → Hp → (Bool → Hp → Prop) → Prop) : Prop :=
  ∀ (pins : List (Addr × Obj)) (s : Shared) (σ : St) (H : Hp) (x : V) (v : Value) (Q : Bool → Hp → Prop), Inv X pins σ H s → RelV x v → r x H Q →
    wpAny (model X.prog X.w) X.A (truthy v) (TP X pins σ Q) X.xe s

def tOp (r : R2) (ta tb : TE) : TE := fun σ H Q => ta σ H fun x H1 => tb σ H1 fun y H2 => r x y H2 Q
def tUn (r : V → Hp → VK → Prop) (ta : TE) : TE := fun σ H Q => ta σ H fun x H1 => r x H1 Q
/-- ints in, under C, and a value out -/
def rI (C : Int → Int → Prop) (g : Int → Int → V) : R2 := fun x y H Q => ∃ i j, x = .int i ∧ y = .int j ∧ C i j ∧ Q (g i j) H
def rI0 (g : Int → Int → V) : R2 := fun x y H Q => ∃ i j, x = .int i ∧ y = .int j ∧ Q (g i j) H
def rU (g : Int → V) : V → Hp → VK → Prop := fun x H Q => ∃ i, x = .int i ∧ Q (g i) H

section
variable {X : Cx} {a b c : Expr} {ta tb tc : TE} {pos : Pos}

theorem binT (ha : PE X a ta) (hb : PE X b tb) {pins : List (Addr × Obj)} {s : Shared} {σ : St} {H : Hp} {R : V → V → Hp → Prop} (I : Inv X pins σ H s)
    (h : ta σ H fun x H1 => tb σ H1 fun y H2 => R x y H2) {Q : Value → Shared → Prop} {f : Value → Value → Sem Value}
    (hf : ∀ v u s2 x y H2, Inv X pins σ H2 s2 → RelV x v → RelV y u → R x y H2 → wpAny (model X.prog X.w) X.A (f v u) Q X.xe s2) :
    wpAny (model X.prog X.w) X.A (eval a X.env) (fun v s₁ => wpAny (model X.prog X.w) X.A (eval b X.env) (fun u s₂ => wpAny (model X.prog X.w) X.A (f v u) Q X.xe s₂) X.xe s₁) X.xe s := by
  refine thn (ha pins s σ H _ I h) fun v s1 ⟨x, H1, I1, r1, q1⟩ => ?_
  refine thn (hb pins s1 σ H1 _ I1 q1) fun u s2 ⟨y, H2, I2, r2, q2⟩ => ?_
  exact hf v u s2 x y H2 I2 r1 r2 q2

theorem pe_op {op : Operator} {r : R2} (ho : OpR X (binaryOp op) r) (ha : PE X a ta) (hb : PE X b tb) : PE X (.BinOp a op b pos) (tOp r ta tb) := by
  intro pins s σ H Q I h
  exact wpAny_BinOp (binT ha hb I h fun v u s2 x y H2 I2 rx ry q => ho pins s2 σ H2 x y v u Q I2 rx ry q)
theorem pe_un {op : UnaryOp} {r : V → Hp → VK → Prop} (ho : UnR X (unaryOp op) r) (ha : PE X a ta) : PE X (.UnaryOp op a pos) (tUn r ta) := by
  intro pins s σ H Q I h
  exact UnaryOp_ (thn (ha pins s σ H _ I h) fun v s1 ⟨x, H1, I1, r1, q1⟩ => ho pins s1 σ H1 x v Q I1 r1 q1)
/-- a op= e at a name: the name's slot i -/
theorem augR {op : Operator} {r : R2} (ho : OpR X (inplaceOp op) r) {pins : List (Addr × Obj)} {s : Shared} {σ : St} {H : Hp} {x y : V} {v u : Value} {Q : VK} (I : Inv X pins σ H s)
    (rx : RelV x v) (ry : RelV y u) (q : r x y H Q) : wpAny (model X.prog X.w) X.A (inplaceOp op v u) (EP X pins σ Q) X.xe s := ho pins s σ H x y v u Q I rx ry q

/-! ### ints -/
theorem opI {f : Value → Value → Sem Value} {C : Int → Int → Prop} {g : Int → Int → Int}
    (rule : ∀ (i j : Int) (t u : Tok) (s : Shared) (Q : Value → Shared → Prop) (E : Value → Shared → Prop), C i j → Q (.int (g i j) s.toks) { s with toks := s.toks + 1 } → wpAny (model X.prog X.w) X.A (f (.int i t) (.int j u)) Q E s) :
    OpR X f (rI C fun i j => .int (g i j)) := by
  intro pins s σ H x y v u Q I rx ry h
  obtain ⟨i, j, rfl, rfl, hc, q⟩ := h
  obtain ⟨t, rfl⟩ := rx
  obtain ⟨t', rfl⟩ := ry
  exact rule i j t t' s _ _ hc ⟨.int (g i j), H, I.tok _, ⟨_, rfl⟩, q⟩
theorem opI0 {f : Value → Value → Sem Value} {g : Int → Int → Int}
    (rule : ∀ (i j : Int) (t u : Tok) (s : Shared) (Q : Value → Shared → Prop) (E : Value → Shared → Prop), Q (.int (g i j) s.toks) { s with toks := s.toks + 1 } → wpAny (model X.prog X.w) X.A (f (.int i t) (.int j u)) Q E s) :
    OpR X f (rI0 fun i j => .int (g i j)) := by
  intro pins s σ H x y v u Q I rx ry h
  obtain ⟨i, j, rfl, rfl, q⟩ := h
  obtain ⟨t, rfl⟩ := rx
  obtain ⟨t', rfl⟩ := ry
  exact rule i j t t' s _ _ ⟨.int (g i j), H, I.tok _, ⟨_, rfl⟩, q⟩
theorem opB0 {f : Value → Value → Sem Value} {g : Int → Int → Bool}
    (rule : ∀ (i j : Int) (t u : Tok) (s : Shared) (Q : Value → Shared → Prop) (E : Value → Shared → Prop), Q (.bool (g i j)) s → wpAny (model X.prog X.w) X.A (f (.int i t) (.int j u)) Q E s) :
    OpR X f (rI0 fun i j => .bl (g i j)) := by
  intro pins s σ H x y v u Q I rx ry h
  obtain ⟨i, j, rfl, rfl, q⟩ := h
  obtain ⟨t, rfl⟩ := rx
  obtain ⟨t', rfl⟩ := ry
  exact rule i j t t' s _ _ ⟨.bl (g i j), H, I, rfl, q⟩

def CDiv (i j : Int) : Prop := 0 < j ∧ j < 1073741824
def CDivN (i j : Int) : Prop := j ≠ 0 ∧ j.natAbs < 1073741824
def CPow (i j : Int) : Prop := 0 ≤ j ∧ j ≤ 1000000 ∧ i.natAbs < 2 ^ 64
def CMul (i j : Int) : Prop := (-(2 ^ 64) < i ∧ i < 2 ^ 64) ∨ (-(2 ^ 64) < j ∧ j < 2 ^ 64)
theorem CMul.ok {i j : Int} (h : CMul i j) : IntMulOk i j := by
  rcases h with ⟨h1, h2⟩ | ⟨h1, h2⟩
  · exact .of_left (intBits_le_64 h1 h2)
  · exact .of_right (intBits_le_64 h1 h2)
theorem two_pow_nn (k : Nat) : (0 : Int) ≤ 2 ^ k := by
  rw [two_pow_cast]
  exact Int.natCast_nonneg _

theorem op_add : OpR X (binaryOp .Add) (rI0 fun i j => .int (i + j)) := opI0 fun _ _ _ _ _ _ _ q => add_int q
theorem op_sub : OpR X (binaryOp .Sub) (rI0 fun i j => .int (i - j)) := opI0 fun _ _ _ _ _ _ _ q => sub_int q
theorem op_mul : OpR X (binaryOp .Mult) (rI CMul fun i j => .int (i * j)) := opI fun _ _ _ _ _ _ _ hc q => mul_int q hc.ok
/-- // by a positive divisor -/
theorem op_fdiv : OpR X (binaryOp .FloorDiv) (rI CDiv fun i j => .int (i / j)) := opI fun i j _ _ _ _ _ hc q => by
  have h1 : (0 : Int) < j := hc.1
  have h2 : j < 1073741824 := hc.2
  exact floordiv_int (by omega) (by rw [Int.fdiv_eq_ediv_of_nonneg i (by omega)]; exact q) (.inl (PyProof.noPylong_small (by omega)))
theorem op_fdivN : OpR X (binaryOp .FloorDiv) (rI CDivN fun i j => .int (i.fdiv j)) := opI fun _ _ _ _ _ _ _ hc q => floordiv_int hc.1 q (.inl (PyProof.noPylong_small hc.2))
/-- % by a positive divisor of any size -/
theorem op_mod : OpR X (binaryOp .Mod) (rI (fun _ j => 0 < j) fun i j => .int (i % j)) := opI fun i j _ _ _ _ _ hc q => by
  have h1 : (0 : Int) < j := hc
  exact mod_int' (by omega) (by rw [Int.fmod_eq_emod_of_nonneg i (by omega)]; exact q)
theorem op_modN : OpR X (binaryOp .Mod) (rI (fun _ j => j ≠ 0) fun i j => .int (i.fmod j)) := opI fun _ _ _ _ _ _ _ hc q => mod_int' hc q
theorem op_pow : OpR X (binaryOp .Pow) (rI CPow fun i j => .int (i ^ j.toNat)) := opI fun _ _ _ _ _ _ _ hc q => pow_int_small hc.1 hc.2.1 hc.2.2 q
theorem op_shl : OpR X (binaryOp .LShift) (rI CPow fun i j => .int (i * 2 ^ j.toNat)) := opI fun _ _ _ _ _ _ _ hc q => lshift_int_small hc.1 hc.2.1 hc.2.2 q
theorem op_shr : OpR X (binaryOp .RShift) (rI (fun _ j => 0 ≤ j) fun i j => .int (i / 2 ^ j.toNat)) := opI fun i j _ _ _ _ _ hc q =>
  rshift_int hc (by rw [Int.fdiv_eq_ediv_of_nonneg i (two_pow_nn _)]; exact q)
theorem op_and : OpR X (binaryOp .BitAnd) (rI0 fun i j => .int (Builtin.bitAnd i j)) := opI0 fun _ _ _ _ _ _ _ q => and_int q
theorem op_or : OpR X (binaryOp .BitOr) (rI0 fun i j => .int (Builtin.bitOr i j)) := opI0 fun _ _ _ _ _ _ _ q => or_int q
theorem op_xor : OpR X (binaryOp .BitXor) (rI0 fun i j => .int (Builtin.bitXor i j)) := opI0 fun _ _ _ _ _ _ _ q => xor_int q

theorem iop_add : OpR X (inplaceOp .Add) (rI0 fun i j => .int (i + j)) := opI0 fun _ _ _ _ _ _ _ q => iadd_int q
theorem iop_sub : OpR X (inplaceOp .Sub) (rI0 fun i j => .int (i - j)) := opI0 fun _ _ _ _ _ _ _ q => isub_int q
theorem iop_mul : OpR X (inplaceOp .Mult) (rI CMul fun i j => .int (i * j)) := opI fun _ _ _ _ _ _ _ hc q => imul_int q hc.ok
theorem iop_fdiv : OpR X (inplaceOp .FloorDiv) (rI CDiv fun i j => .int (i / j)) := opI fun i j _ _ _ _ _ hc q => by
  have h1 : (0 : Int) < j := hc.1
  have h2 : j < 1073741824 := hc.2
  exact ifloordiv_int (by omega) (by rw [Int.fdiv_eq_ediv_of_nonneg i (by omega)]; exact q) (.inl (PyProof.noPylong_small (by omega)))
theorem iop_mod : OpR X (inplaceOp .Mod) (rI (fun _ j => 0 < j) fun i j => .int (i % j)) := opI fun i j _ _ _ _ _ hc q => by
  have h1 : (0 : Int) < j := hc
  exact imod_int (by omega) (by rw [Int.fmod_eq_emod_of_nonneg i (by omega)]; exact q)
theorem iop_shl : OpR X (inplaceOp .LShift) (rI CPow fun i j => .int (i * 2 ^ j.toNat)) := opI fun _ _ _ _ _ _ _ hc q => ilshift_int_small hc.1 hc.2.1 hc.2.2 q
theorem iop_shr : OpR X (inplaceOp .RShift) (rI (fun _ j => 0 ≤ j) fun i j => .int (i / 2 ^ j.toNat)) := opI fun i j _ _ _ _ _ hc q =>
  irshift_int hc (by rw [Int.fdiv_eq_ediv_of_nonneg i (two_pow_nn _)]; exact q)
theorem iop_and : OpR X (inplaceOp .BitAnd) (rI0 fun i j => .int (Builtin.bitAnd i j)) := opI0 fun _ _ _ _ _ _ _ q => iand_int q
theorem iop_or : OpR X (inplaceOp .BitOr) (rI0 fun i j => .int (Builtin.bitOr i j)) := opI0 fun _ _ _ _ _ _ _ q => ior_int q
theorem iop_xor : OpR X (inplaceOp .BitXor) (rI0 fun i j => .int (Builtin.bitXor i j)) := opI0 fun _ _ _ _ _ _ _ q => ixor_int q

theorem unI {f : Value → Sem Value} {g : Int → Int}
    (rule : ∀ (i : Int) (t : Tok) (s : Shared) (Q : Value → Shared → Prop) (E : Value → Shared → Prop), Q (.int (g i) s.toks) { s with toks := s.toks + 1 } → wpAny (model X.prog X.w) X.A (f (.int i t)) Q E s) :
    UnR X f (rU fun i => .int (g i)) := by
  intro pins s σ H x v Q I rx h
  obtain ⟨i, rfl, q⟩ := h
  obtain ⟨t, rfl⟩ := rx
  exact rule i t s _ _ ⟨.int (g i), H, I.tok _, ⟨_, rfl⟩, q⟩
theorem un_neg : UnR X (unaryOp .USub) (rU fun i => .int (-i)) := unI fun _ _ _ _ _ q => neg_int q
theorem un_inv : UnR X (unaryOp .Invert) (rU fun i => .int (Builtin.bitNot i)) := unI fun _ _ _ _ _ q => invert_int q

/-! ### bools among ints: n += (a < b) -/
theorem op_add_ib : OpR X (binaryOp .Add) (fun x y H Q => ∃ i k, x = .int i ∧ y = .bl k ∧ Q (.int (i + b2i k)) H) := by
  intro pins s σ H x y v u Q I rx ry h
  obtain ⟨i, k, rfl, rfl, q⟩ := h
  obtain ⟨t, rfl⟩ := rx
  cases ry
  exact add_int_bool ⟨.int (i + b2i k), H, I.tok _, ⟨_, rfl⟩, q⟩
end

/-! ### comparisons -/
/-- the scalars that == tells apart as data does -/
def scal : V → V → Bool
  | .non, .non => true | .non, .int _ => true | .int _, .non => true | .non, .bl _ => true | .bl _, .non => true | .non, .str _ => true | .str _, .non => true
  | .int _, .int _ => true | .bl _, .bl _ => true | .str _, .str _ => true | .byt _, .byt _ => true
  | .int _, .str _ => true | .str _, .int _ => true | .bl _, .str _ => true | .str _, .bl _ => true
  | _, _ => false
def rEq : R2 := fun x y H Q => scal x y = true ∧ Q (.bl (decide (x = y))) H
def rNe : R2 := fun x y H Q => scal x y = true ∧ Q (.bl (!decide (x = y))) H

theorem dec_int {i j : Int} : decide (V.int i = V.int j) = (i == j) := by
  rw [Bool.eq_iff_iff]
  simp
theorem dec_bl {i j : Bool} : decide (V.bl i = V.bl j) = (i == j) := by
  rw [Bool.eq_iff_iff]
  simp
theorem dec_str {i j : Str} : decide (V.str i = V.str j) = (i == j) := by
  rw [Bool.eq_iff_iff]
  simp
theorem dec_byt {i j : Array UInt8} : decide (V.byt i = V.byt j) = (i.toList == j.toList) := by
  rw [Bool.eq_iff_iff]
  cases i
  cases j
  simp

section
variable {X : Cx} {a b c : Expr} {ta tb tc : TE} {pos : Pos}
theorem fin_bl {pins : List (Addr × Obj)} {σ : St} {H : Hp} {s : Shared} {Q : VK} {k k' : Bool} (I : Inv X pins σ H s) (q : Q (.bl k) H) (e : k = k') : EP X pins σ Q (.bool k') s := by
  subst e
  exact ⟨.bl k, H, I, rfl, q⟩
theorem op_eq : OpR X (compareOp .Eq) rEq := by
  intro pins s σ H x y v u Q I rx ry h
  obtain ⟨hs, q⟩ := h
  cases x with
  | non =>
    cases rx
    cases y with
    | non => cases ry; exact PySem.EqNone.eq_none_none (fin_bl I q (by simp))
    | bl j => cases ry; exact PySem.EqNone.eq_none_bool (fin_bl I q (by simp))
    | int j => obtain ⟨t', rfl⟩ := ry; exact PySem.EqNone.eq_none_int (fin_bl I q (by simp))
    | str j => obtain ⟨t', rfl⟩ := ry; exact PySem.EqNone.eq_none_str (fin_bl I q (by simp))
    | _ => exact absurd (show false = true from hs) Bool.false_ne_true
  | bl i =>
    cases rx
    cases y with
    | non => cases ry; exact PySem.EqNone.eq_bool_none (fin_bl I q (by simp))
    | bl j => cases ry; exact eq_bool (fin_bl I q dec_bl)
    | str j => obtain ⟨t', rfl⟩ := ry; exact PySem.EqMixed.eq_bool_str (fin_bl I q (by simp))
    | _ => exact absurd (show false = true from hs) Bool.false_ne_true
  | int i =>
    obtain ⟨t, rfl⟩ := rx
    cases y with
    | non => cases ry; exact PySem.EqNone.eq_int_none (fin_bl I q (by simp))
    | int j => obtain ⟨t', rfl⟩ := ry; exact eq_int (fin_bl I q dec_int)
    | str j => obtain ⟨t', rfl⟩ := ry; exact PySem.EqMixed.eq_int_str (fin_bl I q (by simp))
    | _ => exact absurd (show false = true from hs) Bool.false_ne_true
  | str i =>
    obtain ⟨t, rfl⟩ := rx
    cases y with
    | non => cases ry; exact PySem.EqNone.eq_str_none (fin_bl I q (by simp))
    | bl j => cases ry; exact PySem.EqMixed.eq_str_bool (fin_bl I q (by simp))
    | int j => obtain ⟨t', rfl⟩ := ry; exact PySem.EqMixed.eq_str_int (fin_bl I q (by simp))
    | str j => obtain ⟨t', rfl⟩ := ry; exact eq_str (fin_bl I q dec_str)
    | _ => exact absurd (show false = true from hs) Bool.false_ne_true
  | byt i =>
    obtain ⟨t, rfl⟩ := rx
    cases y with
    | byt j => obtain ⟨t', rfl⟩ := ry; exact PySem.W.eq_bytes (fin_bl I q dec_byt)
    | _ => exact absurd (show false = true from hs) Bool.false_ne_true
  | _ => cases y <;> exact absurd (show false = true from hs) Bool.false_ne_true
theorem op_ne : OpR X (compareOp .NotEq) rNe := by
  intro pins s σ H x y v u Q I rx ry h
  obtain ⟨hs, q⟩ := h
  cases x with
  | non =>
    cases rx
    cases y with
    | non => cases ry; exact PySem.EqNone.ne_none_none (fin_bl I q (by simp))
    | bl j => cases ry; exact PySem.EqNone.ne_none_bool (fin_bl I q (by simp))
    | int j => obtain ⟨t', rfl⟩ := ry; exact PySem.EqNone.ne_none_int (fin_bl I q (by simp))
    | str j => obtain ⟨t', rfl⟩ := ry; exact PySem.EqNone.ne_none_str (fin_bl I q (by simp))
    | _ => exact absurd (show false = true from hs) Bool.false_ne_true
  | bl i =>
    cases rx
    cases y with
    | non => cases ry; exact PySem.EqNone.ne_bool_none (fin_bl I q (by simp))
    | bl j => cases ry; exact ne_bool (fin_bl I q (congrArg not dec_bl))
    | str j => obtain ⟨t', rfl⟩ := ry; exact PySem.EqMixed.ne_bool_str (fin_bl I q (by simp))
    | _ => exact absurd (show false = true from hs) Bool.false_ne_true
  | int i =>
    obtain ⟨t, rfl⟩ := rx
    cases y with
    | non => cases ry; exact PySem.EqNone.ne_int_none (fin_bl I q (by simp))
    | int j => obtain ⟨t', rfl⟩ := ry; exact ne_int (fin_bl I q (congrArg not dec_int))
    | str j => obtain ⟨t', rfl⟩ := ry; exact PySem.EqMixed.ne_int_str (fin_bl I q (by simp))
    | _ => exact absurd (show false = true from hs) Bool.false_ne_true
  | str i =>
    obtain ⟨t, rfl⟩ := rx
    cases y with
    | non => cases ry; exact PySem.EqNone.ne_str_none (fin_bl I q (by simp))
    | bl j => cases ry; exact PySem.EqMixed.ne_str_bool (fin_bl I q (by simp))
    | int j => obtain ⟨t', rfl⟩ := ry; exact PySem.EqMixed.ne_str_int (fin_bl I q (by simp))
    | str j => obtain ⟨t', rfl⟩ := ry; exact ne_str (fin_bl I q (congrArg not dec_str))
    | _ => exact absurd (show false = true from hs) Bool.false_ne_true
  | byt i =>
    obtain ⟨t, rfl⟩ := rx
    cases y with
    | byt j => obtain ⟨t', rfl⟩ := ry; exact PySem.W.ne_bytes (fin_bl I q (congrArg not dec_byt))
    | _ => exact absurd (show false = true from hs) Bool.false_ne_true
  | _ => cases y <;> exact absurd (show false = true from hs) Bool.false_ne_true

theorem op_lt : OpR X (compareOp .Lt) (rI0 fun i j => .bl (decide (i < j))) := opB0 fun _ _ _ _ _ _ _ q => lt_int q
theorem op_le : OpR X (compareOp .LtE) (rI0 fun i j => .bl (decide (i ≤ j))) := opB0 fun _ _ _ _ _ _ _ q => le_int q
theorem op_gt : OpR X (compareOp .Gt) (rI0 fun i j => .bl (decide (j < i))) := opB0 fun _ _ _ _ _ _ _ q => gt_int q
theorem op_ge : OpR X (compareOp .GtE) (rI0 fun i j => .bl (decide (j ≤ i))) := opB0 fun _ _ _ _ _ _ _ q => ge_int q
theorem op_lt_str : OpR X (compareOp .Lt) (fun x y H Q => ∃ i j, x = .str i ∧ y = .str j ∧ Q (.bl (decide (i.cps.toList < j.cps.toList))) H) := by
  intro pins s σ H x y v u Q I rx ry h
  obtain ⟨i, j, rfl, rfl, q⟩ := h
  obtain ⟨t, rfl⟩ := rx
  obtain ⟨t', rfl⟩ := ry
  exact lt_str (fin_bl I q rfl)
/-- the one string within the other -/
theorem op_in_str : OpR X (compareOp .In) (fun x y H Q => ∃ i j, x = .str i ∧ y = .str j ∧ Q (.bl (!(Builtin.Str.occurrences j i 0 j.length 1).isEmpty)) H) := by
  intro pins s σ H x y v u Q I rx ry h
  obtain ⟨i, j, rfl, rfl, q⟩ := h
  obtain ⟨t, rfl⟩ := rx
  obtain ⟨t', rfl⟩ := ry
  exact in_str (fin_bl I q rfl)

/-- is None, is not None: the right side a value none -/
theorem op_isN : OpR X (compareOp .Is) (fun x y H Q => y = .non ∧ Q (.bl (decide (x = .non))) H) := by
  intro pins s σ H x y v u Q I rx ry h
  obtain ⟨rfl, q⟩ := h
  cases ry
  refine is_none_gen (fin_bl I q ?_)
  cases x <;> first
    | (cases rx; rfl)
    | (obtain ⟨t, rfl⟩ := rx; rfl)
theorem op_notN : OpR X (compareOp .IsNot) (fun x y H Q => y = .non ∧ Q (.bl (!decide (x = .non))) H) := by
  intro pins s σ H x y v u Q I rx ry h
  obtain ⟨rfl, q⟩ := h
  cases ry
  refine isnot_none_gen (fin_bl I q ?_)
  cases x <;> first
    | (cases rx; rfl)
    | (obtain ⟨t, rfl⟩ := rx; rfl)

theorem op_notin_str : OpR X (compareOp .NotIn) (fun x y H Q => ∃ i j, x = .str i ∧ y = .str j ∧ Q (.bl (!(!(Builtin.Str.occurrences j i 0 j.length 1).isEmpty))) H) := by
  intro pins s σ H x y v u Q I rx ry h
  obtain ⟨i, j, rfl, rfl, q⟩ := h
  obtain ⟨t, rfl⟩ := rx
  obtain ⟨t', rfl⟩ := ry
  exact notIn_str (fin_bl I q rfl)
/-- is, is not of two objects that are tracked lists or instances -/
def isObj : HO → Bool
  | .lst _ => true
  | .ins _ _ _ => true
  | _ => false
theorem obj_there {pins : List (Addr × Obj)} {s : Shared} {σ : St} {H : Hp} {a : Addr} {o : HO} (I : Inv X pins σ H s) (h : H a = some o) (p : isObj o = true) : ∃ ob, s.heap.get? a = some ob ∧ ob.cls ≠ .type "tuple" := by
  cases o with
  | lst xs =>
    obtain ⟨_, its, n, _, e⟩ : xs.length ≤ sizeLine ∧ ∃ (its : List Value) (n : Nat), Vals xs its ∧ s.heap.get? a = some { cls := .type "list", data := .seq its.toArray n } := I.hok a _ h
    exact ⟨_, e, (by show Value.type "list" ≠ .type "tuple"; decide +kernel)⟩
  | ins C dx fs =>
    have x := I.hok a _ h
    obtain ⟨_, _, _, e, _⟩ := x
    exact ⟨_, e, (by show Value.ref C ≠ .type "tuple"; exact fun z => by cases z)⟩
  | _ => exact absurd (show false = true from p) Bool.false_ne_true
theorem op_is_ref : OpR X (compareOp .Is) (fun x y H Q => ∃ a b oa ob, x = .ref a ∧ y = .ref b ∧ H a = some oa ∧ isObj oa = true ∧ H b = some ob ∧ isObj ob = true ∧ Q (.bl (decide (a = b))) H) := by
  intro pins s σ H x y v u Q I rx ry h
  obtain ⟨a, b, oa, ob, rfl, rfl, ha, pa, hb, pb, q⟩ := h
  cases rx
  cases ry
  obtain ⟨o1, e1, n1⟩ := obj_there I ha pa
  obtain ⟨o2, e2, _⟩ := obj_there I hb pb
  by_cases z : a = b
  · subst z
    exact wpAny_is_ref_self (fin_bl I q (by simp))
  · exact wpAny_is_ref_other z e1 e2 n1 (fin_bl I q (by simp [z]))
theorem op_isnot_ref : OpR X (compareOp .IsNot) (fun x y H Q => ∃ a b oa ob, x = .ref a ∧ y = .ref b ∧ H a = some oa ∧ isObj oa = true ∧ H b = some ob ∧ isObj ob = true ∧ Q (.bl (!decide (a = b))) H) := by
  intro pins s σ H x y v u Q I rx ry h
  obtain ⟨a, b, oa, ob, rfl, rfl, ha, pa, hb, pb, q⟩ := h
  cases rx
  cases ry
  obtain ⟨o1, e1, n1⟩ := obj_there I ha pa
  obtain ⟨o2, e2, _⟩ := obj_there I hb pb
  by_cases z : a = b
  · subst z
    exact wpAny_isNot_ref_self (fin_bl I q (by simp))
  · exact wpAny_isNot_ref_other z e1 e2 n1 (fin_bl I q (by simp [z]))

/-- two rules for one operation: by cases -/
theorem OpR.or {f : Value → Value → Sem Value} {r r' : R2} (h : OpR X f r) (h' : OpR X f r') : OpR X f (fun x y H Q => r x y H Q ∨ r' x y H Q) := by
  intro pins s σ H x y v u Q I rx ry q
  rcases q with q | q
  · exact h pins s σ H x y v u Q I rx ry q
  · exact h' pins s σ H x y v u Q I rx ry q

theorem nomark (b : Expr) {op : CmpOp} (h : op ≠ .In := by decide) (h2 : op ≠ .NotIn := by decide) : behindInMarks op b = false := by
  have e1 : (op == CmpOp.In) = false := by cases op <;> first | rfl | exact absurd rfl h
  have e2 : (op == CmpOp.NotIn) = false := by cases op <;> first | rfl | exact absurd rfl h2
  cases b <;> simp [behindInMarks, e1, e2]
/-- a comparison as a value; hm: nomark b, or (for in, not in) by with_unfolding_all rfl -/
theorem pe_cmpR {op : CmpOp} {r : R2} (ho : OpR X (compareOp op) r) (ha : PE X a ta) (hb : PE X b tb) (hm : behindInMarks op b = false) : PE X (.Compare a [op] [b] pos) (tOp r ta tb) := by
  intro pins s σ H Q I h
  exact wpAny_Compare1 (binT ha hb I h fun v u s2 x y H2 I2 rx ry q => ho pins s2 σ H2 x y v u Q I2 rx ry q) hm
/-- a reading of a value as a test -/
def tTest (t : TE) : TT := fun σ H Q => t σ H fun x H' => ∃ k, x = .bl k ∧ Q k H'
theorem pt_cmpR {op : CmpOp} {r : R2} (ho : OpR X (compareOp op) r) (ha : PE X a ta) (hb : PE X b tb) (hm : behindInMarks op b = false) : PT X (.Compare a [op] [b] pos) (tTest (tOp r ta tb)) := by
  intro pins s σ H Q I h
  refine wpAny_isTrue_Compare1 (thn (ha pins s σ H _ I h) fun v s1 ⟨x, H1, I1, r1, q1⟩ => thn (hb pins s1 σ H1 _ I1 q1) fun u s2 ⟨y, H2, I2, r2, q2⟩ =>
    thn (ho pins s2 σ H2 x y v u _ I2 r1 r2 q2) fun c s3 ⟨z, H3, I3, r3, k, e, q3⟩ => ?_) hm
  subst e
  cases r3
  exact wpAny_truthy_bool ⟨H3, I3, q3⟩
/-- a op1 b op2 c -/
def tChain (r r' : R2) (ta tb tc : TE) : TE := fun σ H Q => ta σ H fun x H1 => tb σ H1 fun y H2 => r x y H2 fun z H3 => ∃ k, z = .bl k ∧
  (if k = true then tc σ H3 fun w' H4 => r' y w' H4 Q else Q (.bl false) H3)
theorem pe_chain {op op' : CmpOp} {r r' : R2} (ho : OpR X (compareOp op) r) (ho' : OpR X (compareOp op') r') (ha : PE X a ta) (hb : PE X b tb) (hc : PE X c tc)
    (hm : lastMarks [op, op'] [b, c] = false := by with_unfolding_all rfl) : PE X (.Compare a [op, op'] [b, c] pos) (tChain r r' ta tb tc) := by
  intro pins s σ H Q I h
  refine Compare_chain (thn (ha pins s σ H _ I h) fun v s1 ⟨x, H1, I1, r1, q1⟩ => chain_link (thn (hb pins s1 σ H1 _ I1 q1) fun u s2 ⟨y, H2, I2, r2, q2⟩ =>
    thn (ho pins s2 σ H2 x y v u _ I2 r1 r2 q2) fun d s3 ⟨z, H3, I3, r3, k, e, q3⟩ => ?_)) hm
  subst e
  cases r3
  refine wpAny_truthy_bool ?_
  cases k with
  | false => exact ite_ff ⟨.bl false, H3, I3, rfl, q3⟩
  | true => exact ite_tt (chain_last (thn (hc pins s3 σ H3 _ I3 q3) fun w' s4 ⟨z', H4, I4, r4, q4⟩ => ho' pins s4 σ H4 y z' u w' Q I4 r2 r4 q4))
theorem pt_chain {op op' : CmpOp} {r r' : R2} (ho : OpR X (compareOp op) r) (ho' : OpR X (compareOp op') r') (ha : PE X a ta) (hb : PE X b tb) (hc : PE X c tc)
    (hm : lastMarks [op, op'] [b, c] = false := by with_unfolding_all rfl) : PT X (.Compare a [op, op'] [b, c] pos) (tTest (tChain r r' ta tb tc)) := by
  intro pins s σ H Q I h
  refine isTrue_chain (thn (ha pins s σ H _ I h) fun v s1 ⟨x, H1, I1, r1, q1⟩ => test_link (thn (hb pins s1 σ H1 _ I1 q1) fun u s2 ⟨y, H2, I2, r2, q2⟩ =>
    thn (ho pins s2 σ H2 x y v u _ I2 r1 r2 q2) fun d s3 ⟨z, H3, I3, r3, k, e, q3⟩ => ?_)) hm
  subst e
  cases r3
  refine wpAny_truthy_bool ?_
  cases k with
  | false =>
    obtain ⟨k', e', q'⟩ := q3
    cases e'
    exact ite_ff ⟨H3, I3, q'⟩
  | true =>
    refine ite_tt (test_last (thn (hc pins s3 σ H3 _ I3 q3) fun w' s4 ⟨z', H4, I4, r4, q4⟩ => thn (ho' pins s4 σ H4 y z' u w' _ I4 r2 r4 q4) fun d' s5 ⟨z2, H5, I5, r5, k2, e2, q5⟩ => ?_))
    subst e2
    cases r5
    exact wpAny_truthy_bool ⟨H5, I5, q5⟩

/-! ### truth -/
/-- a value's truth by the abstract heap -/
def TruV (K : PySem.W.Frag) (x : V) (H : Hp) (k : Bool) : Prop :=
  match x with
  | .non => k = false
  | .bl b => k = b
  | .int i => k = (i != 0)
  | .str y => y.length ≤ sizeLine ∧ k = ((y.length : Int) != 0)
  | .byt y => y.size ≤ sizeLine ∧ k = ((y.size : Int) != 0)
  | .ref p => (∃ xs, SqL K H p xs ∧ k = !xs.isEmpty) ∨ (∃ xs, SqT K H p xs ∧ k = !xs.isEmpty) ∨ ∃ kvs, H p = some (.dK kvs) ∧ k = !kvs.isEmpty
  | _ => False
theorem isEmpty_kv {κ : Type} {kvs : List (κ × V)} {vs : List (κ × Value)} (r : KV kvs vs) : (!vs.isEmpty) = !kvs.isEmpty := by
  cases r <;> rfl
theorem isEmpty_of {xs : List V} {its : List Value} (r : Vals xs its) : (!its.toArray.isEmpty) = !xs.isEmpty := by
  cases r <;> simp
theorem line63 : (sizeLine : Nat) < 2 ^ 63 := by rw [sizeLine_eq]; decide
theorem tru_ok : TruR X (fun x H Q => ∃ k, TruV X.K x H k ∧ Q k H) := by
  intro pins s σ H x v Q I rx h
  obtain ⟨k, e, q⟩ := h
  have hl := line63
  have hs : sizeLine = 16777216 := sizeLine_eq
  cases x with
  | non =>
    cases rx
    have e' : k = false := e
    subst e'
    exact truthy_none ⟨H, I, q⟩
  | bl b =>
    cases rx
    have e' : k = b := e
    subst e'
    exact wpAny_truthy_bool ⟨H, I, q⟩
  | int i =>
    obtain ⟨t, rfl⟩ := rx
    have e' : k = (i != 0) := e
    subst e'
    exact PySem.P.truthy_int ⟨H, I, q⟩
  | str y =>
    obtain ⟨t, rfl⟩ := rx
    obtain ⟨hy, e'⟩ : y.length ≤ sizeLine ∧ k = ((y.length : Int) != 0) := e
    subst e'
    exact PySem.P.truthy_str (by omega) ⟨H, I.tok _, q⟩
  | byt y =>
    obtain ⟨t, rfl⟩ := rx
    obtain ⟨hy, e'⟩ : y.size ≤ sizeLine ∧ k = ((y.size : Int) != 0) := e
    subst e'
    exact PySem.W.truthy_bytes (by omega) ⟨H, I.tok _, q⟩
  | ref p =>
    cases rx
    have e' : (∃ xs, SqL X.K H p xs ∧ k = !xs.isEmpty) ∨ (∃ xs, SqT X.K H p xs ∧ k = !xs.isEmpty) ∨ ∃ kvs, H p = some (.dK kvs) ∧ k = !kvs.isEmpty := e
    rcases e' with ⟨xs, hx, e'⟩ | ⟨xs, hx, e'⟩ | ⟨kvs, hx, e'⟩
    · subst e'
      obtain ⟨its, r, pl, hz⟩ := I.list hx
      have hlen := r.length
      exact wpAny_truthy_list pl.isList (by simp only [List.size_toArray]; omega) ⟨H, I.tok _, by rw [isEmpty_of r]; exact q⟩
    · subst e'
      obtain ⟨its, r, pl, hz⟩ := I.tuple hx
      have hlen := r.length
      exact truthy_tuple pl (by simp only [List.size_toArray]; omega) ⟨H, I.tok _, by rw [isEmpty_of r]; exact q⟩
    · subst e'
      obtain ⟨hz, hS, vs, r, m⟩ : kvs.length ≤ sizeLine ∧ (p == sysModules) = false ∧ ∃ vs, KV kvs vs ∧ s.heap.DictOf (mixKind X.prog X.w) p vs := I.hok p _ hx
      have hlen : kvs.length = vs.length := Paired.length r
      exact wpAny_truthy_dict hS m (by omega) ⟨H, I.tok _, by rw [isEmpty_kv r]; exact q⟩
  | _ => exact (show False from e).elim
/-- any expression whose test is its value's truth (a name, a call, a subscript, a field ..: he by fun _ => rfl) -/
theorem pt_truth (ha : PE X a ta) (he : ∀ whole, isTrue a X.env whole = (do let v ← whole; standAt a.pos; holding [v] (truthy v))) :
    PT X a (fun σ H Q => ta σ H fun x H' => ∃ k, TruV X.K x H' k ∧ Q k H') := by
  intro pins s σ H Q I h
  exact isTrue_plain (thn (ha pins s σ H _ I h) fun v s1 ⟨x, H1, I1, r1, q1⟩ => tru_ok pins s1 σ H1 x v Q I1 r1 q1) (he _)

/-! ### strs and bytes -/
theorem pe_byt {x : List UInt8} {k : Nat} : PE X (.Constant (.bytes x) k pos) (fun _ H Q => Q (.byt x.toArray) H) := fun _ _ _ H _ I h => PySem.W.Constant_bytes ⟨.byt x.toArray, H, I.tok _, ⟨_, rfl⟩, h⟩
theorem op_add_str : OpR X (binaryOp .Add) (fun x y H Q => ∃ i j, x = .str i ∧ y = .str j ∧ i.length + j.length ≤ sizeLine ∧ Q (.str (i ++ j)) H) := by
  intro pins s σ H x y v u Q I rx ry h
  obtain ⟨i, j, rfl, rfl, hz, q⟩ := h
  obtain ⟨t, rfl⟩ := rx
  obtain ⟨t', rfl⟩ := ry
  exact add_str (fun t' tk => ⟨.str (i ++ j), H, I.tok _, ⟨_, rfl⟩, q⟩) hz
theorem iop_add_str : OpR X (inplaceOp .Add) (fun x y H Q => ∃ i j, x = .str i ∧ y = .str j ∧ i.length + j.length ≤ sizeLine ∧ Q (.str (i ++ j)) H) := by
  intro pins s σ H x y v u Q I rx ry h
  obtain ⟨i, j, rfl, rfl, hz, q⟩ := h
  obtain ⟨t, rfl⟩ := rx
  obtain ⟨t', rfl⟩ := ry
  exact iadd_str (fun t' tk => ⟨.str (i ++ j), H, I.tok _, ⟨_, rfl⟩, q⟩) hz
theorem op_add_byt : OpR X (binaryOp .Add) (fun x y H Q => ∃ i j, x = .byt i ∧ y = .byt j ∧ i.size + j.size ≤ 16777216 ∧ Q (.byt (i ++ j)) H) := by
  intro pins s σ H x y v u Q I rx ry h
  obtain ⟨i, j, rfl, rfl, hz, q⟩ := h
  obtain ⟨t, rfl⟩ := rx
  obtain ⟨t', rfl⟩ := ry
  exact PySem.W.KBy.add_bytes hz (fun t' tk => ⟨.byt (i ++ j), H, I.tok _, ⟨_, rfl⟩, q⟩)

def PlainIxT (b : Expr) : Prop := ∀ o i, subscripted b false o i = operate [o, i] (getItem o i)
/-- s[i], 0 ≤ i < len -/
theorem pe_item_str (ha : PE X a ta) (hb : PE X b tb) (hs : PlainIxT b) :
    PE X (.Subscript a b pos) (tOp (fun x y H Q => ∃ z i c, x = .str z ∧ y = .int i ∧ 0 ≤ i ∧ i < 2 ^ 63 ∧ i < z.length ∧ z.cps[i.toNat]? = some c ∧ Q (.str ⟨#[c]⟩) H) ta tb) := by
  intro pins s σ H Q I h
  refine Subscript_ (binT ha hb I h fun v u s2 x y H2 I2 rx ry q => ?_)
  obtain ⟨z, i, c, rfl, rfl, h0, h63, h1, hc, q⟩ := q
  obtain ⟨t, rfl⟩ := rx
  obtain ⟨t', rfl⟩ := ry
  have e : seqIndex? i z.length = some i.toNat := PySem.StrLaws.seqIndex_nonneg h0 h1
  exact tail_any (typeIs_str s2 z t) slot_str_getitem.lookup (getItem_str (c := c) (by
    have e1 : decide (i < -(2 ^ 63 : Int)) = false := decide_eq_false (by omega)
    have e2 : decide (i ≥ 2 ^ 63) = false := decide_eq_false (by omega)
    rw [e1, e2] <;> rfl) (by rw [e]; exact hc) ⟨.str ⟨#[c]⟩, H2, I2.tok _, ⟨_, rfl⟩, q⟩) (hs _ _)
/-- b[i], 0 ≤ i < len -/
theorem pe_item_byt (ha : PE X a ta) (hb : PE X b tb) (hs : PlainIxT b) :
    PE X (.Subscript a b pos) (tOp (fun x y H Q => ∃ (z : List UInt8) (i : Int), x = .byt z.toArray ∧ y = .int i ∧ z.length ≤ sizeLine ∧ 0 ≤ i ∧ i < z.length ∧ Q (.int ((z.getD i.toNat 0).toNat : Nat)) H) ta tb) := by
  intro pins s σ H Q I h
  refine Subscript_ (binT ha hb I h fun v u s2 x y H2 I2 rx ry q => ?_)
  obtain ⟨z, i, rfl, rfl, hz, h0, h1, q⟩ := q
  obtain ⟨t, rfl⟩ := rx
  obtain ⟨t', rfl⟩ := ry
  have hl : sizeLine = 16777216 := sizeLine_eq
  exact tail_any (PySem.W.typeIs_bytes s2 z.toArray t) PySem.W.FB.slot_bytes_getitem.lookup (PySem.W.getItem_bytes (by omega) h0 h1 ⟨.int ((z.getD i.toNat 0).toNat : Nat), H2, I2.tok _, ⟨_, rfl⟩, q⟩) (hs _ _)

/-! ### scalar builtins, by CallR -/
theorem vals1 {x : V} {us : List Value} (r : Vals [x] us) : ∃ u, us = [u] ∧ RelV x u := by
  cases r with
  | cons r1 r2 => cases r2; exact ⟨_, rfl, r1⟩
theorem vals2 {x y : V} {us : List Value} (r : Vals [x, y] us) : ∃ u w', us = [u, w'] ∧ RelV x u ∧ RelV y w' := by
  cases r with
  | cons r1 r2 =>
    cases r2 with
    | cons r3 r4 => cases r4; exact ⟨_, _, rfl, r1, r3⟩
theorem call_abs : CallR X (.builtin "abs") (fun xs H Q => ∃ i, xs = [.int i] ∧ Q (.int (if i < 0 then -i else i)) H) := by
  intro pins s σ H xs us Q I r h
  obtain ⟨i, rfl, q⟩ := h
  obtain ⟨u, rfl, t, rfl⟩ := vals1 r
  exact call_abs_int fun u tk => ⟨.int (if i < 0 then -i else i), H, I.tok _, ⟨_, rfl⟩, q⟩
theorem call_max2 (hc : X.calm = true) : CallR X (.builtin "max") (fun xs H Q => ∃ i j, xs = [.int i, .int j] ∧ Q (.int (if j > i then j else i)) H) := by
  intro pins s σ H xs us Q I r h
  obtain ⟨i, j, rfl, q⟩ := h
  obtain ⟨u, w', rfl, ⟨t, rfl⟩, ⟨t', rfl⟩⟩ := vals2 r
  refine max_two_ints (I.ok.hd hc) fun h' tk k => ⟨_, H, I.kept k, ?_, q⟩
  by_cases hj : j > i
  · rw [if_pos hj, if_pos hj]; exact ⟨_, rfl⟩
  · rw [if_neg hj, if_neg hj]; exact ⟨_, rfl⟩
theorem call_min2 (hc : X.calm = true) : CallR X (.builtin "min") (fun xs H Q => ∃ i j, xs = [.int i, .int j] ∧ Q (.int (if j < i then j else i)) H) := by
  intro pins s σ H xs us Q I r h
  obtain ⟨i, j, rfl, q⟩ := h
  obtain ⟨u, w', rfl, ⟨t, rfl⟩, ⟨t', rfl⟩⟩ := vals2 r
  refine min_two_ints (I.ok.hd hc) fun h' tk k => ⟨_, H, I.kept k, ?_, q⟩
  by_cases hj : j < i
  · rw [if_pos hj, if_pos hj]; exact ⟨_, rfl⟩
  · rw [if_neg hj, if_neg hj]; exact ⟨_, rfl⟩
theorem call_int1 : CallR X (.type "int") (fun xs H Q => (∃ i, xs = [.int i] ∧ Q (.int i) H) ∨ ∃ k, xs = [.bl k] ∧ Q (.int (if k then 1 else 0)) H) := by
  intro pins s σ H xs us Q I r h
  rcases h with ⟨i, rfl, q⟩ | ⟨k, rfl, q⟩
  · obtain ⟨u, rfl, t, rfl⟩ := vals1 r
    exact call_int_int ⟨.int i, H, I, ⟨_, rfl⟩, q⟩
  · obtain ⟨u, rfl, r1⟩ := vals1 r
    cases r1
    exact call_int_bool ⟨.int (if k then 1 else 0), H, I.tok _, ⟨_, rfl⟩, q⟩
theorem call_bool1 : CallR X (.type "bool") (fun xs H Q => (∃ i, xs = [.int i] ∧ Q (.bl (i != 0)) H) ∨ ∃ k, xs = [.bl k] ∧ Q (.bl k) H) := by
  intro pins s σ H xs us Q I r h
  rcases h with ⟨i, rfl, q⟩ | ⟨k, rfl, q⟩
  · obtain ⟨u, rfl, t, rfl⟩ := vals1 r
    exact call_bool_int ⟨.bl (i != 0), H, I, rfl, q⟩
  · obtain ⟨u, rfl, r1⟩ := vals1 r
    cases r1
    exact call_bool_bool ⟨.bl k, H, I, rfl, q⟩
theorem call_str_int : CallR X (.type "str") (fun xs H Q => ∃ i, xs = [.int i] ∧ i.natAbs.log2 < 1920 ∧ Q (.str (toString i)) H) := by
  intro pins s σ H xs us Q I r h
  obtain ⟨i, rfl, hz, q⟩ := h
  obtain ⟨u, rfl, t, rfl⟩ := vals1 r
  exact PySem.P.str_of_int hz ⟨.str _, H, I.tok _, ⟨_, rfl⟩, q⟩
theorem call_ord : CallR X (.builtin "ord") (fun xs H Q => ∃ x, xs = [.str x] ∧ x.length = 1 ∧ Q (.int (x.cps.getD 0 0 : Nat)) H) := by
  intro pins s σ H xs us Q I r h
  obtain ⟨x, rfl, hz, q⟩ := h
  obtain ⟨u, rfl, t, rfl⟩ := vals1 r
  exact ord_of_one hz ⟨.int _, H, I.tok _, ⟨_, rfl⟩, q⟩
theorem call_chr : CallR X (.builtin "chr") (fun xs H Q => ∃ i, xs = [.int i] ∧ 0 ≤ i ∧ i ≤ 1114111 ∧ Q (.str ⟨#[i.toNat]⟩) H) := by
  intro pins s σ H xs us Q I r h
  obtain ⟨i, rfl, h0, h1, q⟩ := h
  obtain ⟨u, rfl, t, rfl⟩ := vals1 r
  exact chr_of_range h0 h1 ⟨.str _, H, I.tok _, ⟨_, rfl⟩, q⟩
/-- len of a str, a bytes, a list, a tuple -/
def LenV (K : PySem.W.Frag) (x : V) (H : Hp) (n : Nat) : Prop :=
  match x with
  | .str y => y.length ≤ sizeLine ∧ n = y.length
  | .byt y => y.size ≤ sizeLine ∧ n = y.size
  | .ref p => (∃ xs, SqL K H p xs ∧ n = xs.length) ∨ ∃ xs, SqT K H p xs ∧ n = xs.length
  | _ => False
theorem call_len : CallR X (.builtin "len") (fun xs H Q => ∃ x n, xs = [x] ∧ LenV X.K x H n ∧ Q (.int n) H) := by
  intro pins s σ H xs us Q I r h
  obtain ⟨x, n, rfl, e, q⟩ := h
  obtain ⟨u, rfl, rx⟩ := vals1 r
  have hl := line63
  have hs : sizeLine = 16777216 := sizeLine_eq
  cases x with
  | str y =>
    obtain ⟨t, rfl⟩ := rx
    obtain ⟨hy, e'⟩ : y.length ≤ sizeLine ∧ n = y.length := e
    subst e'
    exact len_str (by omega) ⟨.int _, H, I.tok _, ⟨_, rfl⟩, q⟩
  | byt y =>
    obtain ⟨t, rfl⟩ := rx
    obtain ⟨hy, e'⟩ : y.size ≤ sizeLine ∧ n = y.size := e
    subst e'
    exact PySem.W.len_bytes (by omega) ⟨.int _, H, I.tok _, ⟨_, rfl⟩, q⟩
  | ref p =>
    cases rx
    have e' : (∃ xs, SqL X.K H p xs ∧ n = xs.length) ∨ ∃ xs, SqT X.K H p xs ∧ n = xs.length := e
    rcases e' with ⟨xs, hx, e'⟩ | ⟨xs, hx, e'⟩
    · subst e'
      obtain ⟨its, r', pl, hz⟩ := I.list hx
      have hlen := r'.length
      exact Calls.call_len_list pl.isList (by simp only [List.size_toArray]; omega) ⟨.int xs.length, H, I.tok _, ⟨_, by simp only [List.size_toArray]; rw [hlen]⟩, q⟩
    · subst e'
      obtain ⟨its, r', pl, hz⟩ := I.tuple hx
      have hlen := r'.length
      exact len_tuple pl (by simp only [List.size_toArray]; omega) ⟨.int xs.length, H, I.tok _, ⟨_, by simp only [List.size_toArray]; rw [hlen]⟩, q⟩
  | _ => exact (show False from e).elim
/-- divmod: a new tuple -/
theorem call_divmod : CallR X (.builtin "divmod") (fun xs H Q => ∃ i j, xs = [.int i, .int j] ∧ CDiv i j ∧ ∀ p, H p = none → Q (.ref p) (upd H p (.tup [.int (i / j), .int (i % j)]))) := by
  intro pins s σ H xs us Q I r h
  obtain ⟨i, j, rfl, ⟨h1, h2⟩, q⟩ := h
  obtain ⟨u, w', rfl, ⟨t, rfl⟩, ⟨t', rfl⟩⟩ := vals2 r
  refine divmod_int (by omega) ?_ (.inl (PyProof.noPylong_small (by omega)))
  rw [Int.fdiv_eq_ediv_of_nonneg i (by omega), Int.fmod_eq_emod_of_nonneg i (by omega)]
  have hn : H s.heap.objs.size = none := I.hok.fresh (Nat.le_refl _)
  refine ⟨.ref s.heap.objs.size, _, ?_, rfl, q _ hn⟩
  refine I.laid (fun b o e => Heap.get?_push_of_some _ e) (Nat.le_refl _) ⟨by simp only [List.length_cons, List.length_nil]; rw [sizeLine_eq]; decide, [.int (i / j) s.toks, .int (i % j) (s.toks + 1)], .cons ⟨_, rfl⟩ (.cons ⟨_, rfl⟩ .nil), ?_⟩
  exact ⟨_, Heap.get?_push_size s.heap rfl, rfl, 0, rfl⟩
end
end L2

namespace L2
open PySem PySem.Spec PyProof.Rows

/-! ### an instance, its attributes a map -/
structure ObjM (h : Heap) (x dx C : Addr) (mA : Str → Option Value) : Prop where
  obj : h.get? x = some (PySem.W.instObj C dx)
  ns : h.Ns1 dx mA
  ne : dx ≠ x

theorem lookIn_ns {h : Heap} {dx : Addr} {mA : Str → Option Value} (n : h.Ns1 dx mA) : ∃ od, h.get? dx = some od ∧ ∀ name, PySem.W.lookIn name od = some (mA name) := by
  obtain ⟨o, es, ep, ho, hd, hk, _, hm⟩ := n
  refine ⟨o, ho, fun name => ?_⟩
  have e := hm name
  unfold nsFind findBy at e
  rw [← Array.find?_toList] at e
  unfold PySem.W.lookIn
  rw [hd]
  dsimp only
  split
  · rename_i y q
    rw [q] at e
    exact congrArg some e
  · rename_i q
    rw [q] at e
    have a : es.toList.any (·.refKey) = false := by
      rw [List.any_eq_false]
      intro y hy
      obtain ⟨z, t, hkey⟩ := hk y (Array.mem_toList_iff.mp hy)
      simp [DictEntry.refKey, hkey]
    have a' : ¬ es.toList.any (·.refKey) = true := by rw [a]; exact Bool.false_ne_true
    rw [if_neg a']
    exact congrArg some e

theorem ObjM.look {h : Heap} {x dx C : Addr} {mA : Str → Option Value} (I : ObjM h x dx C mA) : ∃ od, PySem.W.InstAt h x (PySem.W.instObj C dx) C (some od) ∧ ∀ name, PySem.W.lookIn name od = some (mA name) :=
  let ⟨od, ho, hl⟩ := lookIn_ns I.ns
  ⟨od, ⟨I.obj, rfl, rfl, ho⟩, hl⟩

section
variable {prog : Program} {w : World} {A : Around} {E : Value → Shared → Prop} {s : Shared} {K : PySem.W.Frag} {x dx C f : Addr} {mA : Str → Option Value} {name : Str} {v : Value}

theorem get_map {expr : Bool} {Q : Value → Shared → Prop} (X : K.In s.heap) (I : ObjM s.heap x dx C mA) (hg : PySem.W.plainGet K C name = true) (hh : PySem.W.hasDictIn K C = true)
    (ha : PySem.W.findIn K (.ref C) name = some none) (hv : mA name = some v) (hv' : PySem.W.handedIn v = true) (h : Q v { s with toks := s.toks + 1 }) :
    wpAny (model prog w) A (getAttr (.ref x) name expr) Q E s := by
  obtain ⟨od, J, hl⟩ := I.look
  exact PySem.W.get_value X J (PySem.W.plainGet_of hg).1 (PySem.W.findObj_own hh ha rfl (by rw [hl, hv])) hv' h

theorem get_const {expr : Bool} {a : Value} {Q : Value → Shared → Prop} (X : K.In s.heap) (I : ObjM s.heap x dx C mA) (hg : PySem.W.plainGet K C name = true) (hh : PySem.W.hasDictIn K C = true)
    (ha : PySem.W.findIn K (.ref C) name = some (some a)) (hn : PySem.W.specialIn K a "__get__" = some none) (hc : PySem.W.copiedNames.contains name = false) (hv : mA name = none) (hv' : PySem.W.handedIn a = true)
    (h : Q a { s with toks := s.toks + 1 }) : wpAny (model prog w) A (getAttr (.ref x) name expr) Q E s := by
  obtain ⟨od, J, hl⟩ := I.look
  exact PySem.W.get_value X J (PySem.W.plainGet_of hg).1 (PySem.W.findObj_cls hh ha hn hv' hc (by rw [hl, hv])) hv' h

theorem get_meth {pl : Sem Bool} {Q : Value × List Value → Shared → Prop} (X : K.In s.heap) (I : ObjM s.heap x dx C mA) (hg : PySem.W.plainGet K C name = true)
    (hf : PySem.W.findIn K (.ref C) name = some (some (.ref f))) (ht : PySem.W.isFn K (.ref f) = true) (hv : mA name = none) (h : Q (.ref f, [.ref x]) s) :
    wpAny (model prog w) A (getMethod (.ref x) name pl) Q E s := by
  obtain ⟨od, J, hl⟩ := I.look
  exact PySem.W.method_fn X J (PySem.W.plainGet_of hg).1 (PySem.W.plainGet_of hg).2 hf (beq_iff_eq.mp ht) (by show (PySem.W.lookIn name od).map (·.isSome) = some false; rw [hl, hv]; rfl) h

theorem set_map {ns : List Str} {Q : Unit → Shared → Prop} (X : K.In s.heap) (I : ObjM s.heap x dx C mA)
    (hs : PySem.W.findIn K (.ref C) "__setattr__" = some (some (.builtin "object.__setattr__"))) (hp : PySem.W.plainOver K C = true) (ht : PySem.W.takerIn K C name = some none) (hh : PySem.W.hasDictIn K C = true)
    (hw : PySem.Within mA ns) (hsz : ns.length ≤ sizeLine)
    (h : ∀ h', ObjM h' x dx C (fun y => if y = name then some v else mA y) → Heap.SameBut dx s.heap h' → Q () { s with heap := h', toks := s.toks + 2 }) :
    wpAny (model prog w) A (setAttr (.ref x) name v) Q E s := by
  obtain ⟨od, J, hl⟩ := I.look
  refine PySem.W.set_plain X J hs (PySem.W.osa_open (s := { s with toks := s.toks + 1 }) (r := none) X J hp ht fun b => ?_)
  obtain ⟨cd, hc, hd'⟩ := PySem.W.any_some hh
  have hx : s.heap.get? x = some ⟨.ref C, some dx, .plain, #[]⟩ := I.obj
  refine wpAny_bind (wpAny_pure (wpAny_bind (wpAny_bind (wpAny_loadPart hx (wpAny_bind (PySem.W.Looks.here (s := { s with toks := s.toks + 1 }) (PySem.W.looks_clsIn X hc) ?_))))))
  rw [hd']
  refine wpAny_pure (a := some dx) (wpAny_bind (wpAny_pure (wpAny_bind ?_)))
  refine wpAny_nsSet1 (s := { s with toks := s.toks + 1 }) I.ns fun h' hn2 hs2 => ?_
  obtain ⟨oD, esD, epD, hoD, hdD, hcD⟩ := hn2.count (PySem.Within.cons name v hw)
  refine wpAny_bind (wpAny_lookBehind hoD (by rw [hdD]; exact pastItsLine_dict (Nat.le_trans hcD (by rw [List.length_cons]; omega))) ?_)
  exact wpAny_pure (h _ ⟨(hs2.2 _ (Ne.symm I.ne)).trans I.obj, hn2, I.ne⟩ hs2)

/-- C(..): the dict at the heap's end, the instance behind it; then its __init__ -/
theorem make_map {R : Result → Shared → Prop} {vs : List Value} {kw : List (Str × Value)} (X : K.In s.heap) (hm : PySem.W.makesIn K C = true)
    (hi : PySem.W.findIn K (.ref C) "__init__" = some (some (.ref f))) (hf : PySem.W.typeIn K (.ref f) = some (.type "function"))
    (h : codeAny (model prog w) (A.under (.builtin "type.__call__" ⟨.ref C :: vs, kw⟩)) (.call (.ref f) ⟨.ref (s.heap.objs.size + 1) :: vs, kw⟩) (PySem.W.InitBack (s.heap.objs.size + 1) R)
      { s with heap := (s.heap.push PySem.W.emptyDict).push (PySem.W.instObj C s.heap.objs.size) }) :
    codeAny (model prog w) A (.call (.ref C) ⟨vs, kw⟩) R s := by
  obtain ⟨hh, g, d, t, os⟩ := s
  exact PySem.W.make_core (PySem.W.makes_of X hm) (PySem.W.looks_findIn X hi) (fun self => PySem.W.bind_fn X self hf) (.inl rfl) h
/-- C() where there is no __init__ but object's -/
theorem make_map0 {R : Result → Shared → Prop} (X : K.In s.heap) (hm : PySem.W.makesIn K C = true)
    (hi : PySem.W.findIn K (.ref C) "__init__" = some (some (.builtin "object.__init__")))
    (hb : ∀ self, PySem.W.Looks (model prog w) s.heap (bindSpecial (.builtin "object.__init__") self) (.builtin "object.__init__", [self]))
    (h : codeAny (model prog w) (A.under (.builtin "type.__call__" ⟨[.ref C], []⟩)) (.call (.builtin "object.__init__") ⟨[.ref (s.heap.objs.size + 1)], []⟩) (PySem.W.InitBack (s.heap.objs.size + 1) R)
      { s with heap := (s.heap.push PySem.W.emptyDict).push (PySem.W.instObj C s.heap.objs.size) }) :
    codeAny (model prog w) A (.call (.ref C) ⟨[], []⟩) R s := by
  obtain ⟨hh, g, d, t, os⟩ := s
  exact PySem.W.make_core (PySem.W.makes_of X hm) (PySem.W.looks_findIn X hi) hb (.inr ⟨rfl, rfl⟩) h
end

/-! ### the attributes as a list of pairs -/
def putF (f : Str) (v : V) : List (Str × V) → List (Str × V)
  | [] => [(f, v)]
  | (g, x) :: r => if g = f then (g, v) :: r else (g, x) :: putF f v r
theorem lookup_putF (f g : Str) (v : V) : ∀ fs : List (Str × V), (putF f v fs).lookup g = if g = f then some v else fs.lookup g
  | [] => by
    show List.lookup g [(f, v)] = _
    by_cases h : g = f
    · have hb : (g == f) = true := beq_iff_eq.mpr h
      simp only [List.lookup, hb, if_pos h]
    · have hb : (g == f) = false := beq_eq_false_iff_ne.mpr h
      simp only [List.lookup, hb, if_neg h]
  | (k, x) :: r => by
    have ih := lookup_putF f g v r
    rw [show putF f v ((k, x) :: r) = (if k = f then (k, v) :: r else (k, x) :: putF f v r) from rfl]
    by_cases hk : k = f
    · rw [if_pos hk]
      by_cases h : g = k
      · have hb : (g == k) = true := beq_iff_eq.mpr h
        simp only [List.lookup, hb, if_pos (h.trans hk)]
      · have hb : (g == k) = false := beq_eq_false_iff_ne.mpr h
        simp only [List.lookup, hb, if_neg (fun e : g = f => h (e.trans hk.symm))]
    · rw [if_neg hk]
      by_cases h : g = k
      · have hb : (g == k) = true := beq_iff_eq.mpr h
        simp only [List.lookup, hb, if_neg (fun e : g = f => hk (h.symm.trans e))]
      · have hb : (g == k) = false := beq_eq_false_iff_ne.mpr h
        simp only [List.lookup, hb]
        exact ih
theorem keys_putF (f : Str) (v : V) : ∀ fs : List (Str × V), f ∈ (putF f v fs).map (·.1) ∧ ∀ g, g ∈ fs.map (·.1) → g ∈ (putF f v fs).map (·.1)
  | [] => ⟨by simp [putF], fun g h => by simp at h⟩
  | (k, x) :: r => by
    obtain ⟨i1, i2⟩ := keys_putF f v r
    rw [show putF f v ((k, x) :: r) = (if k = f then (k, v) :: r else (k, x) :: putF f v r) from rfl]
    by_cases hk : k = f
    · rw [if_pos hk]
      subst hk
      exact ⟨by simp, fun g h => by simpa using h⟩
    · rw [if_neg hk]
      refine ⟨?_, fun g h => ?_⟩
      · rw [List.map_cons]
        exact List.mem_cons_of_mem _ i1
      · rw [List.map_cons] at h ⊢
        rcases List.mem_cons.mp h with e | e
        · exact List.mem_cons.mpr (.inl e)
        · exact List.mem_cons_of_mem _ (i2 g e)
theorem length_putF (f : Str) (v : V) : ∀ fs : List (Str × V), (putF f v fs).length ≤ fs.length + 1
  | [] => by simp [putF]
  | (k, x) :: r => by
    have ih := length_putF f v r
    rw [show putF f v ((k, x) :: r) = (if k = f then (k, v) :: r else (k, x) :: putF f v r) from rfl]
    by_cases hk : k = f
    · rw [if_pos hk, List.length_cons, List.length_cons]; omega
    · rw [if_neg hk, List.length_cons, List.length_cons]; omega

theorem RelO.some_of {v : V} {o : Option Value} (r : RelO (some v) o) : ∃ u, o = some u ∧ RelV v u := by
  cases o with
  | none => exact (show False from r).elim
  | some u => exact ⟨u, rfl, r⟩
theorem RelO.none_of {o : Option Value} (r : RelO none o) : o = none := by
  cases o with
  | none => rfl
  | some u => exact (show False from r).elim
theorem handed_of {v : V} {u : Value} (r : RelV v u) : PySem.W.handedIn u = true := by
  cases v with
  | non => cases (show u = Value.none from r); rfl
  | bl b => cases (show u = Value.bool b from r); rfl
  | int i => obtain ⟨t, e⟩ := (show ∃ t, u = Value.int i t from r); cases e; rfl
  | str x => obtain ⟨t, e⟩ := (show ∃ t, u = Value.str x t from r); cases e; rfl
  | byt b => obtain ⟨t, e⟩ := (show ∃ t, u = Value.bytes b t from r); cases e; rfl
  | flt b => obtain ⟨t, e⟩ := (show ∃ t, u = Value.float b t from r); cases e; rfl
  | ref a => cases (show u = Value.ref a from r); rfl
  | ty n => cases (show u = Value.type n from r); rfl

section
variable {P : Program} {w : World} {H H' : Hp} {h h' : Heap} {a C dx : Addr} {fs fs' : List (Str × V)}
theorem ins_get (hok : HOk P w H h) (e : H a = some (.ins C dx fs)) : ∃ mA, ObjM h a dx C mA ∧ (∀ f, RelO (fs.lookup f) (mA f)) ∧ PySem.Within mA (fs.map (·.1)) ∧ fs.length ≤ 1000 ∧ H dx = some (.own a) := by
  obtain ⟨d, z, ne, ob, mA, n, r, q⟩ := (show ObjOk P w H h a (.ins C dx fs) from hok a _ e)
  exact ⟨mA, ⟨ob, n, ne⟩, r, q, z, d⟩
end

/-! ### what of the text a class must have -/
structure Cls (K : PySem.W.Frag) (C : Addr) : Prop where
  pg : PySem.W.plainGet K C Str.empty = true
  hd : PySem.W.hasDictIn K C = true
  po : PySem.W.plainOver K C = true
  sa : PySem.W.findIn K (.ref C) "__setattr__" = some (some (.builtin "object.__setattr__"))
theorem Cls.get {K : PySem.W.Frag} {C : Addr} (c : Cls K C) (f : Str) : PySem.W.plainGet K C f = true := c.pg
/-- no class of it has the name -/
def NoAttr (K : PySem.W.Frag) (C : Addr) (f : Str) : Prop := PySem.W.findIn K (.ref C) f = some none
theorem NoAttr.taker {K : PySem.W.Frag} {C : Addr} {f : Str} (n : NoAttr K C f) : PySem.W.takerIn K C f = some none := by
  unfold PySem.W.takerIn
  rw [show PySem.W.findIn K (.ref C) f = some none from n]
  rfl
/-- a constant of the class -/
structure Con (K : PySem.W.Frag) (C : Addr) (f : Str) (v : V) (u : Value) : Prop where
  at_ : PySem.W.findIn K (.ref C) f = some (some u)
  rel : RelV v u
  get : PySem.W.specialIn K u "__get__" = some none
  cp : PySem.W.copiedNames.contains f = false
/-- a method: a plain def of the class or of one above it -/
structure Meth (K : PySem.W.Frag) (C : Addr) (m : Str) (f : Addr) : Prop where
  at_ : PySem.W.findIn K (.ref C) m = some (some (.ref f))
  fn : PySem.W.isFn K (.ref f) = true
  kp : PySem.W.keepIn K (.ref f) = true

section
variable {X : Cx} {pins : List (Addr × Obj)} {σ : St} {H : Hp} {s : Shared} {a C dx : Addr} {fs : List (Str × V)} {f : Str} {v : V} {A : Around} {E : Value → Shared → Prop}

theorem getattr_ok {b : Bool} {Q : Value → Shared → Prop} (I : Inv X pins σ H s) (e : H a = some (.ins C dx fs)) (c : Cls X.K C) (n : NoAttr X.K C f) (l : fs.lookup f = some v)
    (h : ∀ u s', Inv X pins σ H s' → RelV v u → Q u s') : wpAny (model X.prog X.w) A (getAttr (.ref a) f b) Q E s := by
  obtain ⟨mA, O, r, _, _, _⟩ := ins_get I.hok e
  obtain ⟨u, hu, ru⟩ := RelO.some_of (v := v) (o := mA f) (by rw [← l]; exact r f)
  exact get_map I.kIn O (c.get f) c.hd n hu (handed_of ru) (h u _ (I.tok _) ru)

theorem getcon_ok {b : Bool} {u : Value} {Q : Value → Shared → Prop} (I : Inv X pins σ H s) (e : H a = some (.ins C dx fs)) (c : Cls X.K C) (k : Con X.K C f v u) (l : fs.lookup f = none)
    (h : ∀ s', Inv X pins σ H s' → Q u s') : wpAny (model X.prog X.w) A (getAttr (.ref a) f b) Q E s := by
  obtain ⟨mA, O, r, _, _, _⟩ := ins_get I.hok e
  have hn : mA f = none := RelO.none_of (by rw [← l]; exact r f)
  exact get_const I.kIn O (c.get f) c.hd k.at_ k.get k.cp hn (handed_of k.rel) (h _ (I.tok _))

theorem getmeth_ok {m : Str} {g : Addr} {pl : Sem Bool} {Q : Value × List Value → Shared → Prop} (I : Inv X pins σ H s) (e : H a = some (.ins C dx fs)) (c : Cls X.K C) (k : Meth X.K C m g) (l : fs.lookup m = none)
    (h : Q (.ref g, [.ref a]) s) : wpAny (model X.prog X.w) A (getMethod (.ref a) m pl) Q E s := by
  obtain ⟨mA, O, r, _, _, _⟩ := ins_get I.hok e
  have hn : mA m = none := RelO.none_of (by rw [← l]; exact r m)
  exact get_meth I.kIn O (c.get m) k.at_ k.fn hn h

theorem setattr_ok {y : V} {u : Value} {Q : Unit → Shared → Prop} (I : Inv X pins σ H s) (e : H a = some (.ins C dx fs)) (c : Cls X.K C) (n : NoAttr X.K C f) (hl : fs.length < 1000) (ry : RelV y u)
    (h : ∀ s', Inv X pins σ (upd H a (.ins C dx (putF f y fs))) s' → Q () s') : wpAny (model X.prog X.w) A (setAttr (.ref a) f u) Q E s := by
  obtain ⟨mA, O, r, wi, _, ho⟩ := ins_get I.hok e
  have hz : (fs.map (·.1)).length ≤ sizeLine := by rw [List.length_map, sizeLine_eq]; omega
  refine set_map I.kIn O c.sa c.po n.taker c.hd wi hz fun h' O' sb => h _ ?_
  have hd : ∃ o, h'.get? dx = some o := let ⟨o, _, _, e', _⟩ := O'.ns; ⟨o, e'⟩
  refine I.write (x := a) (e := dx) (by rw [e]; exact True.intro) (.inr ho) (fun b q hb z => (sb.2 b hb).trans z) hd ?_
  refine ⟨by rw [upd_ne O.ne]; exact ho, ?_, O.ne, O'.obj, _, O'.ns, fun g => ?_, fun g hg => ?_⟩
  · have := length_putF f y fs; omega
  · show RelO ((putF f y fs).lookup g) (if g = f then some u else mA g)
    rw [lookup_putF]
    by_cases q : g = f
    · rw [if_pos q, if_pos q]; exact ry
    · rw [if_neg q, if_neg q]; exact r g
  · by_cases q : g = f
    · rw [q]; exact (keys_putF f y fs).1
    · refine (keys_putF f y fs).2 g (wi g fun z => hg ?_)
      show (if g = f then some u else mA g) = none
      rw [if_neg q]; exact z

/-- a new instance, tracked, without attributes -/
theorem Inv.made (I : Inv X pins σ H s) : Inv X pins σ (upd (upd H s.heap.objs.size (.own (s.heap.objs.size + 1))) (s.heap.objs.size + 1) (.ins C s.heap.objs.size []))
    { s with heap := (s.heap.push PySem.W.emptyDict).push (PySem.W.instObj C s.heap.objs.size) } := by
  have e1 : (s.heap.push PySem.W.emptyDict).get? s.heap.objs.size = some PySem.W.emptyDict := Heap.get?_push_size s.heap rfl
  have e2 : ((s.heap.push PySem.W.emptyDict).push (PySem.W.instObj C s.heap.objs.size)).get? (s.heap.objs.size + 1) = some (PySem.W.instObj C s.heap.objs.size) := by
    have := Heap.get?_push_size (s.heap.push PySem.W.emptyDict) (o := PySem.W.instObj C s.heap.objs.size) rfl
    rwa [Heap.size_push] at this
  have e3 : (s.heap.push PySem.W.emptyDict).Ns s.heap.objs.size (fun _ => none) := ⟨PySem.W.emptyDict, #[], _, e1, rfl, (fun e he => absurd he (by simp)), fun _ => rfl⟩
  have I1 := I.laid (a := s.heap.objs.size) (o := .own (s.heap.objs.size + 1)) (h' := s.heap.push PySem.W.emptyDict) (t' := s.toks) (fun b u q => Heap.get?_push_of_some _ q) (Nat.le_refl _) ⟨_, e1⟩
  refine I1.laid (a := s.heap.objs.size + 1) (o := .ins C s.heap.objs.size []) (t' := s.toks) (fun b u q => Heap.get?_push_of_some _ q) (Nat.le_of_eq (Heap.size_push _ _)) ?_
  have ne : s.heap.objs.size ≠ s.heap.objs.size + 1 := Nat.ne_of_lt (Nat.lt_succ_self _)
  refine ⟨by rw [upd_ne ne, upd_same], Nat.zero_le _, ne, e2, fun _ => none, (Heap.Ns1.of_empty e3).at fun o q => Heap.get?_push_of_some _ q, fun _ => True.intro, fun y hy => absurd rfl hy⟩

/-- e.f where nothing but the object is asked: through attributeBase (super) and the last hold -/
theorem attr_of {prog : Program} {w : World} {env : Env} {e : Expr} {f : Str} {pos : Pos} {s : Shared} {Q : Value → Shared → Prop} (hb : attributeBase e f env (eval e env) = eval e env)
    (h : wpAny (model prog w) A (eval e env) (fun o s₁ => wpAny (model prog w) A (getAttr o f true) Q E s₁) E s) : wpAny (model prog w) A (eval (.Attribute e f pos) env) Q E s :=
  Attribute_any_ h (by rw [arm_eval_Attribute, hb])
end

/-! ### readings and rules -/
/-- e.f, an attribute of the instance -/
def tFld (K : PySem.W.Frag) (ta : TE) (f : Str) : TE := fun σ H Q => ta σ H fun x H1 => ∃ a C dx fs v, x = .ref a ∧ H1 a = some (.ins C dx fs) ∧ Cls K C ∧ NoAttr K C f ∧ fs.lookup f = some v ∧ Q v H1
/-- e.f, a constant of the class -/
def tCon (K : PySem.W.Frag) (ta : TE) (f : Str) : TE := fun σ H Q => ta σ H fun x H1 => ∃ a C dx fs v u, x = .ref a ∧ H1 a = some (.ins C dx fs) ∧ Cls K C ∧ Con K C f v u ∧ fs.lookup f = none ∧ Q v H1
/-- e.f = value -/
def sFld (K : PySem.W.Frag) (ta tv : TE) (f : Str) : TS := fun D σ H => tv σ H fun y H1 => ta σ H1 fun x H2 => ∃ a C dx fs, x = .ref a ∧ H2 a = some (.ins C dx fs) ∧ Cls K C ∧ NoAttr K C f ∧ fs.length < 1000 ∧
  D.nx σ (upd H2 a (.ins C dx (putF f y fs)))
/-- an augmented operator on two values -/
def InOp (X : Cx) (op : Operator) (rd : V → V → Hp → VK → Prop) : Prop :=
  ∀ (pins : List (Addr × Obj)) (s : Shared) (σ : St) (H : Hp) (x y : V) (u v : Value) (Q : VK), Inv X pins σ H s → RelV x u → RelV y v → rd x y H Q → wpAny (model X.prog X.w) X.A (inplaceOp op u v) (EP X pins σ Q) X.xe s
/-- e.f op= value -/
def sFldAug (K : PySem.W.Frag) (ta tv : TE) (rd : V → V → Hp → VK → Prop) (f : Str) : TS := fun D σ H => ta σ H fun x H1 => ∃ a C dx fs v, x = .ref a ∧ H1 a = some (.ins C dx fs) ∧ Cls K C ∧ NoAttr K C f ∧ fs.lookup f = some v ∧
  tv σ H1 fun y H2 => rd v y H2 fun z H3 => ∃ dx' fs', H3 a = some (.ins C dx' fs') ∧ fs'.length < 1000 ∧ D.nx σ (upd H3 a (.ins C dx' (putF f z fs')))

section
variable {X : Cx} {o e value : Expr} {f : Str} {pos pos' tpos : Pos} {ta tv : TE}
theorem pe_fld (he : PE X e ta) (hb : attributeBase e f X.env (eval e X.env) = eval e X.env) : PE X (.Attribute e f pos) (tFld X.K ta f) := by
  intro pins s σ H Q I h
  refine attr_of hb (thn (he pins s σ H _ I h) fun u s1 ⟨x, H1, I1, rx, a, C, dx, fs, v, ex, ea, c, n, l, q⟩ => ?_)
  subst ex
  obtain rfl : u = Value.ref a := rx
  exact getattr_ok I1 ea c n l fun u' s2 I2 ru => ⟨v, H1, I2, ru, q⟩
theorem pe_con (he : PE X e ta) (hb : attributeBase e f X.env (eval e X.env) = eval e X.env) : PE X (.Attribute e f pos) (tCon X.K ta f) := by
  intro pins s σ H Q I h
  refine attr_of hb (thn (he pins s σ H _ I h) fun u s1 ⟨x, H1, I1, rx, a, C, dx, fs, v, u0, ex, ea, c, k, l, q⟩ => ?_)
  subst ex
  obtain rfl : u = Value.ref a := rx
  exact getcon_ok I1 ea c k l fun s2 I2 => ⟨v, H1, I2, k.rel, q⟩
theorem ps_fld (ha : PE X o ta) (hv : PE X value tv) (hs : swapsWith value (some (.Attribute o f pos')) pos.line X.env = pure false) : PS X (.Assign [.Attribute o f pos'] value pos) (sFld X.K ta tv f) := by
  intro pins s σ H D I h
  refine plainObj_wpAny_Assign_Attribute (thn (hv pins s σ H _ I h) fun u s1 ⟨y, H1, I1, ry, q⟩ => thn (ha pins s1 σ H1 _ I1 q) fun ov s2 ⟨x, H2, I2, rx, a, C, dx, fs, ex, ea, c, n, l, q2⟩ => ?_) hs
  subst ex
  obtain rfl : ov = Value.ref a := rx
  exact setattr_ok I2 ea c n l ry fun s3 I3 => ⟨σ, _, I3, q2⟩
theorem ps_fldaug {op : Operator} {rd : V → V → Hp → VK → Prop} (ha : PE X o ta) (hv : PE X value tv) (hop : InOp X op rd) : PS X (.AugAssign (.Attribute o f tpos) op value pos) (sFldAug X.K ta tv rd f) := by
  intro pins s σ H D I h
  refine wpAny_AugAssign_AttributeAny (thn (ha pins s σ H _ I h) fun ov s1 ⟨x, H1, I1, rx, a, C, dx, fs, v, ex, ea, c, n, l, q⟩ => ?_)
  subst ex
  obtain rfl : ov = Value.ref a := rx
  refine getattr_ok I1 ea c n l fun u s2 I2 ru => thn (hv pins s2 σ H1 _ I2 q) fun w3 s3 ⟨y, H2, I3, ry, q3⟩ => thn (hop pins s3 σ H2 v y u w3 _ I3 ru ry q3) fun w4 s4 ⟨z, H3, I4, rz, dx', fs', ea', l', q4⟩ => ?_
  exact setattr_ok I4 ea' c n l' rz fun s5 I5 => ⟨σ, _, I5, q4⟩
def rAdd : V → V → Hp → VK → Prop := fun x y H Q => ∃ i j, x = .int i ∧ y = .int j ∧ Q (.int (i + j)) H
def rSub : V → V → Hp → VK → Prop := fun x y H Q => ∃ i j, x = .int i ∧ y = .int j ∧ Q (.int (i - j)) H
theorem in_add : InOp X .Add rAdd := by
  rintro pins s σ H x y u v Q I rx ry ⟨i, j, rfl, rfl, q⟩
  obtain ⟨t, rfl⟩ := (show ∃ t, u = Value.int i t from rx)
  obtain ⟨t', rfl⟩ := (show ∃ t', v = Value.int j t' from ry)
  exact PyProof.Rows.iadd_int ⟨.int (i + j), H, I.tok _, ⟨_, rfl⟩, q⟩
theorem in_sub : InOp X .Sub rSub := by
  rintro pins s σ H x y u v Q I rx ry ⟨i, j, rfl, rfl, q⟩
  obtain ⟨t, rfl⟩ := (show ∃ t, u = Value.int i t from rx)
  obtain ⟨t', rfl⟩ := (show ∃ t', v = Value.int j t' from ry)
  exact PyProof.Rows.isub_int ⟨.int (i - j), H, I.tok _, ⟨_, rfl⟩, q⟩

/-- what is between an instance and its method: the tree of a method call -/
theorem methcall_of {pl : Sem Bool} {m : Str} {apos : Pos} {args : List Expr} {pins : List (Addr × Obj)} {s : Shared} {σ : St} {H : Hp} {Q : Value → Shared → Prop} {te : TE} (he : PE X e te) (I : Inv X pins σ H s)
    (h : te σ H fun x H1 => ∃ a C dx fs g, x = .ref a ∧ H1 a = some (.ins C dx fs) ∧ Cls X.K C ∧ Meth X.K C m g ∧ fs.lookup m = none ∧
      ∀ s1, Inv X pins σ H1 s1 → wpAny (model X.prog X.w) X.A (callWith pos (.ref g) [.ref a] (backTo pos (starEach args X.env)) (backToKw pos (keywordEach [] X.env))) Q X.xe s1)
    (ht : eval (.Call (.Attribute e m apos) args [] pos) X.env = (do
      let ov ← eval e X.env
      standAt apos.atName
      let (f, first) ← holding [ov] (getMethod ov m pl)
      callWith pos f first (backTo pos (starEach args X.env)) (backToKw pos (keywordEach [] X.env)))) :
    wpAny (model X.prog X.w) X.A (eval (.Call (.Attribute e m apos) args [] pos) X.env) Q X.xe s := by
  refine PySem.W.methodCall_KW (pl := pl) (thn (he pins s σ H _ I h) fun u s1 ⟨x, H1, I1, rx, a, C, dx, fs, g, ex, ea, c, k, l, q⟩ => ?_) ht
  subst ex
  obtain rfl : u = Value.ref a := rx
  exact getmeth_ok I1 ea c k l (q s1 I1)
end

/-! ### isinstance -/
section
variable {X : Cx} {pins : List (Addr × Obj)} {σ : St} {H : Hp} {s : Shared} {A : Around} {E : Value → Shared → Prop} {Q : Value → Shared → Prop} {c : Value} {b : Bool}
/-- the type of a value, as the fragment's deciders take it; for an instance its class -/
inductive TyOf (K : PySem.W.Frag) (H : Hp) : V → Value → Prop where
  | non : TyOf K H .non (.type "NoneType")
  | bl (x : Bool) : TyOf K H (.bl x) (.type "bool")
  | int (i : Int) : TyOf K H (.int i) (.type "int")
  | str (x : Str) : TyOf K H (.str x) (.type "str")
  | flt (x : UInt64) : TyOf K H (.flt x) (.type "float")
  | lst {a : Addr} {xs : List V} (e : H a = some (.lst xs)) : TyOf K H (.ref a) (.type "list")
  | frz {a : Addr} {o : Obj} {xs : List V} (e : H a = some (.frz o (.lst xs))) : TyOf K H (.ref a) (.type "list")
  | tup {a : Addr} {xs : List V} (e : H a = some (.tup xs)) : TyOf K H (.ref a) (.type "tuple")
  | dK {a : Addr} {kvs : List (Key × V)} (e : H a = some (.dK kvs)) : TyOf K H (.ref a) (.type "dict")
  | dT {a : Addr} {kvs : List (List Key × V)} (e : H a = some (.dT kvs)) : TyOf K H (.ref a) (.type "dict")
  | ins {a C dx : Addr} {fs : List (Str × V)} (e : H a = some (.ins C dx fs)) (cl : Cls K C) (ha : PySem.W.findIn K (.ref C) "__class__" = some (some (.builtin "object.__class__")))
      (hn : PySem.W.specialIn K (.builtin "object.__class__") "__get__" = some (some (.builtin "getset_descriptor.__get__"))) (htk : PySem.W.takesIn K (.builtin "object.__class__") = some true)
      (hm : PySem.W.mroIn K C (.type "object") = some true) : TyOf K H (.ref a) (.ref C)
/-- isinstance(x, c) for one class c, a built-in or an own one: kitOne's answer -/
theorem isinst_ok {x : V} {u t : Value} (I : Inv X pins σ H s) (rx : RelV x u) (ty : TyOf X.K H x t) (e : PySem.W.kitOne X.K t c = some b) (h : ∀ tk, Q (.bool b) { s with toks := tk }) :
    wpAny (model X.prog X.w) A (call (.builtin "isinstance") [u, c]) Q E s := by
  cases ty with
  | non => cases (show u = Value.none from rx); exact PySem.W.kia_one PySem.W.kitx_none I.kIn True.intro e (fun z => nomatch z) h
  | bl y => cases (show u = Value.bool y from rx); exact PySem.W.kia_one PySem.W.kitx_bool I.kIn True.intro e (fun z => nomatch z) h
  | int i => obtain ⟨t, q⟩ := (show ∃ t, u = Value.int i t from rx); cases q; exact PySem.W.kia_one PySem.W.kitx_int I.kIn True.intro e (fun z => nomatch z) h
  | str y => obtain ⟨t, q⟩ := (show ∃ t, u = Value.str y t from rx); cases q; exact PySem.W.kia_one PySem.W.kitx_str I.kIn True.intro e (fun z => nomatch z) h
  | flt y => obtain ⟨t, q⟩ := (show ∃ t, u = Value.float y t from rx); cases q; exact PySem.W.kia_one PySem.W.kitx_float I.kIn True.intro e (fun z => nomatch z) h
  | @lst a xs ea =>
    cases (show u = Value.ref a from rx)
    obtain ⟨_, _, n, _, h1⟩ := (show ObjOk X.prog X.w H s.heap a (.lst xs) from I.hok a _ ea)
    exact PySem.W.kia_one PySem.W.kitx_list I.kIn ⟨_, h1, rfl⟩ e (fun z => nomatch z) h
  | @frz a ob xs ea =>
    cases (show u = Value.ref a from rx)
    obtain ⟨_, _, _, n, _, h1⟩ := (show ObjOk X.prog X.w H s.heap a (.frz ob (.lst xs)) from I.hok a _ ea)
    exact PySem.W.kia_one PySem.W.kitx_list I.kIn ⟨_, h1, rfl⟩ e (fun z => nomatch z) h
  | @tup a xs ea =>
    cases (show u = Value.ref a from rx)
    obtain ⟨_, _, _, p⟩ := (show ObjOk X.prog X.w H s.heap a (.tup xs) from I.hok a _ ea)
    obtain ⟨o, h1, h2, _⟩ := p
    exact PySem.W.kia_one PySem.W.kitx_tuple I.kIn ⟨o, h1, h2⟩ e (fun z => nomatch z) h
  | @dK a kvs ea =>
    cases (show u = Value.ref a from rx)
    obtain ⟨_, _, vs, _, p⟩ := (show ObjOk X.prog X.w H s.heap a (.dK kvs) from I.hok a _ ea)
    obtain ⟨o, es, ep, h1, h2, _⟩ := p
    exact PySem.W.kia_one PySem.W.kitx_dict I.kIn ⟨o, h1, h2.1⟩ e (fun z => nomatch z) h
  | @dT a kvs ea =>
    cases (show u = Value.ref a from rx)
    obtain ⟨_, _, xs, _, o, es, ep, h1, h2, _⟩ := (show ObjOk X.prog X.w H s.heap a (.dT kvs) from I.hok a _ ea)
    exact PySem.W.kia_one PySem.W.kitx_dict I.kIn ⟨o, h1, h2.1⟩ e (fun z => nomatch z) h
  | @ins a C dx fs ea cl ha hn htk hm =>
    cases (show u = Value.ref a from rx)
    obtain ⟨mA, O, _⟩ := ins_get I.hok ea
    obtain ⟨od, J, _⟩ := O.look
    exact PySem.W.kia_one (PySem.W.kitx_own (cl.get _) cl.hd ha hn htk hm) I.kIn J e (fun z => nomatch z) h
end
end L2

namespace L2
open PySem PySem.Spec PyProof.Rows

/-! ### room -/
structure Room (k : Nat) (A : Around) : Prop where
  hd : A.handled = none
  dp : A.depth + 3 * k + 5 < recursionLimit
  un : A.units + 16 * k + 200 < cLine
theorem Room.mono {j k : Nat} {A : Around} (r : Room k A) (h : j ≤ k) : Room j A := ⟨r.hd, by have := r.dp; omega, by have := r.un; omega⟩
theorem Room.deeper {k : Nat} {A : Around} (r : Room (k + 1) A) (env : Env) : Room k (A.deeper env) :=
  ⟨r.hd, by have := r.dp; show A.depth + 1 + 3 * k + 5 < _; omega, by have := r.un; show A.units + 3 + 16 * k + 200 < _; omega⟩
theorem Room.in1 {k : Nat} {A : Around} (r : Room (k + 1) A) : Room k A.in1 :=
  ⟨r.hd, by have := r.dp; show A.depth + 3 * k + 5 < _; omega, by have := r.un; show A.units + 1 + 16 * k + 200 < _; omega⟩
theorem make_depth {A : Around} {C : Addr} {us : List Value} {kw : List (Str × Value)} : (A.under (.builtin "type.__call__" ⟨.ref C :: us, kw⟩)).depth = A.depth + 1 := by
  first | rfl | simp [Around.under, Code.weight, Code.isCreation, Code.isGuard, Code.isCaller, Code.frames, Code.isFrame, guardIds]
theorem make_units {A : Around} {C : Addr} {us : List Value} {kw : List (Str × Value)} : (A.under (.builtin "type.__call__" ⟨.ref C :: us, kw⟩)).units = A.units + 1 := by
  first | rfl | simp [Around.under, Code.cUnits, Code.frames, Code.isFrame]
theorem Room.make {k : Nat} {A : Around} (r : Room (k + 1) A) (C : Addr) (us : List Value) (kw : List (Str × Value)) : Room k (A.under (.builtin "type.__call__" ⟨.ref C :: us, kw⟩)) :=
  ⟨r.hd, by have := r.dp; rw [make_depth]; omega, by have := r.un; rw [make_units]; omega⟩
theorem Room.depth {k : Nat} {A : Around} (r : Room k A) : A.depth < recursionLimit := by have := r.dp; omega
theorem Room.units {k : Nat} {A : Around} (r : Room k A) : A.units + 64 < cLine := by have := r.un; omega
theorem Room.units0 {k : Nat} {A : Around} (r : Room k A) : A.units < cLine := by have := r.un; omega

/-! ### argument lists and displays -/
def tNil : TA := fun _ H Q => Q [] H
def tCons (ta : TE) (tr : TA) : TA := fun σ H Q => ta σ H fun x H1 => tr σ H1 fun xs H2 => Q (x :: xs) H2
section
variable {X : Cx} {e : Expr} {es : List Expr} {te : TE} {t : TA} {pos : Pos}
theorem pa_nil : PA X [] tNil := fun _ _ _ _ H Q I h => Calls.spliced_nil ⟨[], H, I, .nil, h⟩
theorem pa_cons (ha : PE X e te) (hr : PA X es t) (hs : starEach (e :: es) X.env = (false, eval e X.env) :: starEach es X.env := by rfl) : PA X (e :: es) (tCons te t) := by
  intro pos pins s σ H Q I h
  rw [hs]
  show wpAny _ _ (spliced ((false, eval e X.env) :: backTo pos (starEach es X.env))) _ _ s
  refine Calls.spliced_cons (thn (ha pins s σ H _ I h) fun u s1 ⟨x, H1, I1, r1, q1⟩ => ?_)
  exact thn (hr pos pins s1 σ H1 _ I1 q1) fun us s2 ⟨xs, H2, I2, r2, q2⟩ => ⟨x :: xs, H2, I2, .cons r1 r2, q2⟩

/-- a tuple, a list of written items -/
def tTup (t : TA) : TE := fun σ H Q => t σ H fun xs H1 => xs.length ≤ sizeLine ∧ ∀ p, H1 p = none → Q (.ref p) (upd H1 p (.tup xs))
def tLst (t : TA) : TE := fun σ H Q => t σ H fun xs H1 => xs.length ≤ sizeLine ∧ ∀ p, H1 p = none → Q (.ref p) (upd H1 p (.lst xs))
theorem pe_tup {x1} (h : PA X es t) : PE X (.Tuple es x1 pos) (tTup t) := by
  intro pins s σ H Q I hq
  refine wpAny_Tuple_spliced (thn (h pos pins s σ H _ I hq) fun us s1 ⟨xs, H1, I1, r, z, q⟩ => ⟨by rw [← r.length]; exact z, ?_⟩)
  have hf : H1 s1.heap.objs.size = none := I1.hok.fresh (Nat.le_refl _)
  refine ⟨.ref s1.heap.objs.size, upd H1 s1.heap.objs.size (.tup xs), I1.laid (t' := s1.toks) (fun b u e => Heap.get?_push_of_some _ e) (Nat.le_refl _) ?_, rfl, q _ hf⟩
  exact ⟨z, us, r, ⟨_, Heap.get?_push_size _ rfl, rfl, _, rfl⟩⟩
theorem pe_lst (h : PA X es t) : PE X (.List es pos) (tLst t) := by
  intro pins s σ H Q I hq
  refine wpAny_List_spliced (thn (h pos pins s σ H _ I hq) fun us s1 ⟨xs, H1, I1, r, z, q⟩ => ⟨by rw [← r.length]; exact z, ?_⟩)
  have hf : H1 s1.heap.objs.size = none := I1.hok.fresh (Nat.le_refl _)
  refine ⟨.ref s1.heap.objs.size, upd H1 s1.heap.objs.size (.lst xs), I1.laid (t' := s1.toks) (fun b u e => Heap.get?_push_of_some _ e) (Nat.le_refl _) ?_, rfl, q _ hf⟩
  exact ⟨z, us, 0, r, Heap.get?_push_size _ rfl⟩
end

/-! ### what a def promises -/
/-- a def's promise: the bound arguments in the parameters' order, the heap, the wanted end, the wanted exception -/
abbrev Sp := List V → Hp → VK → XK → Prop
/-- how an exception lies behind a call (file 08 gives it): the callers' frames, abstract heap and state ahead of the call, the wish, the exception, the state -/
abbrev CXT := List Env → Hp → Shared → XK → Value → Shared → Prop

/-- the state at a call -/
structure Env0 (P : Program) (w : World) (K : PySem.W.Frag) (mg : Str → Option Value) (base : Heap) (A : Around) (outer : List Env) (s : Shared) (H : Hp) : Prop where
  frames : A.frames = some outer
  mod : Mod K mg base
  bs : ∀ b o, base.get? b = some o → s.heap.get? b = some o ∧ H b = none
  bsz : base.objs.size ≤ s.heap.objs.size
  funs : s.heap.FunFrames base outer
  frf : ∀ b ∈ frs outer, H b = none
  hok : HOk P w H s.heap
  bare : AllBare s.gens
/-- a call's end -/
def CE (outer : List Env) (P : Program) (w : World) (H : Hp) (s : Shared) (Q : VK) (u : Value) (s' : Shared) : Prop :=
  ∃ v H', s'.os = s.os ∧ AllBare s'.gens ∧ Un (frs outer) [] H H' s.heap s'.heap ∧ HOk P w H' s'.heap ∧ RelV v u ∧ Q v H'
def CR (CX : CXT) (outer : List Env) (P : Program) (w : World) (H : Hp) (s : Shared) (Q : VK) (E : XK) (r : Result) (s' : Shared) : Prop :=
  match r with
  | .ok (.ret u) => CE outer P w H s Q u s'
  | .ok _ => False
  | .error e => CX outer H s E e s'
structure FnOk (P : Program) (w : World) (K : PySem.W.Frag) (mg : Str → Option Value) (base : Heap) (CX : CXT) (k : Nat) (f : Addr) (fd : FuncData) (ps : List Str) (sp : Sp) : Prop where
  len : ∀ vs H Q E, sp vs H Q E → vs.length = ps.length
  run : ∀ (A : Around) (outer : List Env) (s : Shared) (H : Hp) (args : Args) (us : List Value) (vs : List V) (Q : VK) (E : XK), Room k A → Env0 P w K mg base A outer s H → BindsTo s fd args (ps.zip us) → Vals vs us → sp vs H Q E →
    codeAny (model P w) A (.call (.ref f) args) (CR CX outer P w H s Q E) s
theorem FnOk.mono {P : Program} {w : World} {K : PySem.W.Frag} {mg : Str → Option Value} {base : Heap} {CX : CXT} {j k : Nat} {f : Addr} {fd : FuncData} {ps : List Str} {sp : Sp} (F : FnOk P w K mg base CX j f fd ps sp) (h : j ≤ k) :
    FnOk P w K mg base CX k f fd ps sp := ⟨F.len, fun A outer s H args us vs Q E hr => F.run A outer s H args us vs Q E (hr.mono h)⟩
/-- a weaker promise -/
theorem FnOk.imp {P : Program} {w : World} {K : PySem.W.Frag} {mg : Str → Option Value} {base : Heap} {CX : CXT} {k : Nat} {f : Addr} {fd : FuncData} {ps : List Str} {sp sp' : Sp} (F : FnOk P w K mg base CX k f fd ps sp)
    (h : ∀ vs H Q E, sp' vs H Q E → sp vs H Q E) : FnOk P w K mg base CX k f fd ps sp' :=
  ⟨fun vs H Q E q => F.len vs H Q E (h _ _ _ _ q), fun A outer s H args us vs Q E hr he hb hv hs => F.run A outer s H args us vs Q E hr he hb hv (h _ _ _ _ hs)⟩

theorem Env0.make {P : Program} {w : World} {K : PySem.W.Frag} {mg : Str → Option Value} {base : Heap} {A : Around} {outer : List Env} {s : Shared} {H : Hp} (e : Env0 P w K mg base A outer s H) (C : Addr) (us : List Value) (kw : List (Str × Value)) :
    Env0 P w K mg base (A.under (.builtin "type.__call__" ⟨.ref C :: us, kw⟩)) outer s H := ⟨by first | exact e.frames | (simpa [Around.under, Code.envs, Code.isFrame, pushEnvs] using e.frames), e.mod, e.bs, e.bsz, e.funs, e.frf, e.hok, e.bare⟩
theorem Env0.in1 {P : Program} {w : World} {K : PySem.W.Frag} {mg : Str → Option Value} {base : Heap} {A : Around} {outer : List Env} {s : Shared} {H : Hp} (e : Env0 P w K mg base A outer s H) :
    Env0 P w K mg base A.in1 outer s H := ⟨e.frames, e.mod, e.bs, e.bsz, e.funs, e.frf, e.hok, e.bare⟩

section
variable {X : Cx} {pins : List (Addr × Obj)} {σ : St} {H : Hp} {s s' : Shared}
/-- from a body: what a callee wants -/
theorem Inv.env0 (I : Inv X pins σ H s) : Env0 X.prog X.w X.K X.mg X.base X.A X.stack s H :=
  ⟨I.ok.frames, I.ok.mod, I.bs, Nat.le_trans I.ok.bsz I.sz, I.stack, I.stkFree, I.hok, I.bare⟩
/-- behind a call -/
theorem Inv.after {Q : VK} {u : Value} (I : Inv X pins σ H s) (h : CE X.stack X.prog X.w H s Q u s') : EP X pins σ Q u s' := by
  obtain ⟨v, H', os, bare, un, hok, r, q⟩ := h
  obtain ⟨hh, g, d, t, os'⟩ := s'
  obtain rfl : os' = s.os := os
  exact ⟨v, H', I.call (h' := hh) (g' := g) (d' := d) (t' := t) (ch := []) un hok bare (fun b z => absurd z (by simp)), r, q⟩
end

/-! ### calls -/
/-- f(..): the written arguments, then the defaults dvs; E: what is wanted of an exception -/
def tCall (sp : Sp) (dvs : List V) (E : XK) (t : TA) : TE := fun σ H Q => t σ H fun vs H1 => sp (vs ++ dvs) H1 Q E
/-- o.m(..) of an instance of the class at C -/
def tMeth (C : Addr) (m : Str) (sp : Sp) (dvs : List V) (E : XK) (ta : TE) (t : TA) : TE := fun σ H Q => ta σ H fun x H1 => ∃ a dx fs, x = .ref a ∧ H1 a = some (.ins C dx fs) ∧ fs.lookup m = none ∧
  t σ H1 fun vs H2 => sp (x :: (vs ++ dvs)) H2 Q E
/-- C(..): a new instance and its dict, then __init__ -/
def tMake (C : Addr) (sp : Sp) (dvs : List V) (E : XK) (t : TA) : TE := fun σ H Q => t σ H fun vs H1 => ∀ x dx, H1 x = none → H1 dx = none → dx ≠ x →
  sp (.ref x :: (vs ++ dvs)) (upd (upd H1 dx (.own x)) x (.ins C dx [])) (fun v H2 => v = .non ∧ Q (.ref x) H2) E

/-- how the parameters are bound: us the positional arguments, kw the keywords' values by name, ds the defaults that fill up -/
def Binds (K : PySem.W.Frag) (fd : FuncData) (ps : List Str) (ds : List Value) : Prop :=
  ∀ (s : Shared) (us : List Value), K.In s.heap → (us ++ ds).length = ps.length → BindsTo s fd ⟨us, []⟩ (ps.zip (us ++ ds))
/-- every parameter is given -/
theorem Binds.all {K : PySem.W.Frag} {fd : FuncData} {ps : List Str} (h : ∀ us : List Value, us.length = ps.length → bindArgs fd ⟨us, []⟩ = pure (ps.zip us)) : Binds K fd ps [] := fun s us _ hl => by
  rw [List.append_nil] at hl ⊢
  exact .of_eq (h us hl)

/-- an exception of a callee reaches what this body wants of exceptions -/
def Passes (CX : CXT) (X : Cx) (E : XK) : Prop := ∀ (pins : List (Addr × Obj)) (σ : St) (H : Hp) (s : Shared) (e : Value) (s' : Shared), Inv X pins σ H s → CX X.stack H s E e s' → X.xe e s'

section
variable {X : Cx} {CX : CXT} {k : Nat} {f C : Addr} {fd : FuncData} {ps : List Str} {sp : Sp} {dvs : List V} {ds : List Value} {E : XK} {x m : Str} {p pos apos : Pos} {e o : Expr} {es : List Expr} {ta : TE} {t : TA}

/-- the callee runs -/
theorem run_fn {pins : List (Addr × Obj)} {σ : St} {H : Hp} {s : Shared} {Q : VK} {us : List Value} {vs : List V} (F : FnOk X.prog X.w X.K X.mg X.base CX k f fd ps sp) (hr : Room k X.A) (hb : Binds X.K fd ps ds) (hd : Vals dvs ds) (hx : Passes CX X E)
    (I : Inv X pins σ H s) (r : Vals vs us) (h : sp (vs ++ dvs) H Q E) : wpAny (model X.prog X.w) X.A (call (.ref f) us) (EP X pins σ Q) X.xe s := by
  have r2 : Vals (vs ++ dvs) (us ++ ds) := r.append hd
  have hl : (us ++ ds).length = ps.length := by rw [← r2.length]; exact F.len _ _ _ _ h
  refine wpAny_call (codeAny_mono (F.run X.A X.stack s H ⟨us, []⟩ (us ++ ds) (vs ++ dvs) Q E hr I.env0 (hb s us I.kIn hl) r2 h) fun r s' hq => ?_)
  cases r with
  | error e => exact hx pins σ H s e s' I hq
  | ok fl =>
    cases fl with
    | ret u => exact I.after hq
    | next => exact False.elim hq
    | brk => exact False.elim hq
    | cont => exact False.elim hq

theorem pe_call (F : FnOk X.prog X.w X.K X.mg X.base CX k f fd ps sp) (hr : Room k X.A) (hg : Gl X x) (hm : X.mg x = some (.ref f)) (hk : PySem.W.keepIn X.K (.ref f) = true) (hb : Binds X.K fd ps ds) (hd : Vals dvs ds) (hx : Passes CX X E)
    (ha : PA X (e :: es) t) (hdb : (x == ("__debug__" : Str)) = false := by decide) (he : starEach (e :: es) X.env = (false, eval e X.env) :: starEach es X.env := by rfl) (hpl : (backTo pos (starEach es X.env)).any (·.1) = false := by rfl) :
    PE X (.Call (.Name x p) (e :: es) [] pos) (tCall sp dvs E t) := by
  intro pins s σ H Q I h
  refine wpAny_Call_Name_kw (ld_glob I hg hm ?_ hdb)
  refine PySem.W.callWith_K (h₀ := X.base) I.ok.mod.kin hk (thn (ha pos pins s σ H _ I h) fun us s1 ⟨vs, H1, I1, r, q⟩ => ⟨I1.kIn, ?_⟩) he hpl
  exact run_fn F hr hb hd hx I1 r q
theorem pe_call0 (F : FnOk X.prog X.w X.K X.mg X.base CX k f fd ps sp) (hr : Room k X.A) (hg : Gl X x) (hm : X.mg x = some (.ref f)) (hk : PySem.W.keepIn X.K (.ref f) = true) (hb : Binds X.K fd ps ds) (hd : Vals dvs ds) (hx : Passes CX X E)
    (hdb : (x == ("__debug__" : Str)) = false := by decide) : PE X (.Call (.Name x p) [] [] pos) (tCall sp dvs E tNil) := by
  intro pins s σ H Q I h
  refine wpAny_Call_Name_kw (ld_glob I hg hm ?_ hdb)
  exact PySem.W.callWith_K0 I.kIn hk (run_fn (us := []) F hr hb hd hx I .nil h)

/-- o.m(e, ..) -/
theorem pe_meth {pl : Sem Bool} (he : PE X o ta) (c : Cls X.K C) (hm : Meth X.K C m f) (F : FnOk X.prog X.w X.K X.mg X.base CX k f fd ps sp) (hr : Room k X.A) (hb : Binds X.K fd ps ds) (hd : Vals dvs ds) (hx : Passes CX X E) (ha : PA X (e :: es) t)
    (hst : starEach (e :: es) X.env = (false, eval e X.env) :: starEach es X.env := by rfl) (hpl : (backTo pos (starEach es X.env)).any (·.1) = false := by rfl)
    (ht : eval (.Call (.Attribute o m apos) (e :: es) [] pos) X.env = (do
      let ov ← eval o X.env
      standAt apos.atName
      let (f, first) ← holding [ov] (getMethod ov m pl)
      callWith pos f first (backTo pos (starEach (e :: es) X.env)) (backToKw pos (keywordEach [] X.env))) := by rfl) :
    PE X (.Call (.Attribute o m apos) (e :: es) [] pos) (tMeth C m sp dvs E ta t) := by
  intro pins s σ H Q I h
  refine PySem.W.methodCall_KW (pl := pl) (thn (he pins s σ H _ I h) fun u s1 ⟨x, H1, I1, rx, a, dx, fs, ex, ea, l, q⟩ => ?_) ht
  subst ex
  obtain rfl : u = Value.ref a := rx
  refine getmeth_ok I1 ea c hm l ?_
  refine PySem.W.callWith_K (first := [.ref a]) (h₀ := X.base) I.ok.mod.kin hm.kp (thn (ha pos pins s1 σ H1 _ I1 q) fun us s2 ⟨vs, H2, I2, r, q2⟩ => ⟨I2.kIn, ?_⟩) hst hpl
  exact run_fn (us := .ref a :: us) (vs := .ref a :: vs) F hr hb hd hx I2 (.cons rfl r) q2
/-- o.m() -/
theorem pe_meth0 {pl : Sem Bool} (he : PE X o ta) (c : Cls X.K C) (hm : Meth X.K C m f) (F : FnOk X.prog X.w X.K X.mg X.base CX k f fd ps sp) (hr : Room k X.A) (hb : Binds X.K fd ps ds) (hd : Vals dvs ds) (hx : Passes CX X E)
    (ht : eval (.Call (.Attribute o m apos) [] [] pos) X.env = (do
      let ov ← eval o X.env
      standAt apos.atName
      let (f, first) ← holding [ov] (getMethod ov m pl)
      callWith pos f first (backTo pos (starEach [] X.env)) (backToKw pos (keywordEach [] X.env))) := by rfl) :
    PE X (.Call (.Attribute o m apos) [] [] pos) (tMeth C m sp dvs E ta tNil) := by
  intro pins s σ H Q I h
  refine PySem.W.methodCall_KW (pl := pl) (thn (he pins s σ H _ I h) fun u s1 ⟨x, H1, I1, rx, a, dx, fs, ex, ea, l, q⟩ => ?_) ht
  subst ex
  obtain rfl : u = Value.ref a := rx
  refine getmeth_ok I1 ea c hm l ?_
  exact PySem.W.callWith_K0 (first := [.ref a]) I1.kIn hm.kp (run_fn (us := [.ref a]) (vs := [.ref a]) F hr hb hd hx I1 (.cons rfl .nil) q)

/-- what a class must have to be made -/
structure Mk (K : PySem.W.Frag) (C f : Addr) : Prop where
  makes : PySem.W.makesIn K C = true
  init : PySem.W.findIn K (.ref C) "__init__" = some (some (.ref f))
  fn : PySem.W.isFn K (.ref f) = true
  kp : PySem.W.keepIn K (.ref C) = true

theorem run_make {pins : List (Addr × Obj)} {σ : St} {H : Hp} {s : Shared} {Q : VK} {us : List Value} {vs : List V} (M : Mk X.K C f) (F : FnOk X.prog X.w X.K X.mg X.base CX k f fd ps sp) (hr : Room (k + 1) X.A) (hb : Binds X.K fd ps ds) (hd : Vals dvs ds)
    (hx : Passes CX X E) (I : Inv X pins σ H s) (r : Vals vs us)
    (h : ∀ x dx, H x = none → H dx = none → dx ≠ x → sp (.ref x :: (vs ++ dvs)) (upd (upd H dx (.own x)) x (.ins C dx [])) (fun v H2 => v = .non ∧ Q (.ref x) H2) E) :
    wpAny (model X.prog X.w) X.A (call (.ref C) us) (EP X pins σ Q) X.xe s := by
  have hq := h (s.heap.objs.size + 1) s.heap.objs.size (I.hok.fresh (Nat.le_succ _)) (I.hok.fresh (Nat.le_refl _)) (Nat.ne_of_lt (Nat.lt_succ_self _))
  have I2 := Inv.made (C := C) I
  have r2 : Vals (V.ref (s.heap.objs.size + 1) :: (vs ++ dvs)) (Value.ref (s.heap.objs.size + 1) :: (us ++ ds)) := .cons rfl (r.append hd)
  have hl : (Value.ref (s.heap.objs.size + 1) :: us ++ ds).length = ps.length := by
    have e := r2.length
    rw [F.len _ _ _ _ hq] at e
    exact e.symm
  refine wpAny_call (make_map (f := f) I.kIn M.makes M.init (beq_iff_eq.mp M.fn) (codeAny_mono (F.run _ X.stack _ _ ⟨Value.ref (s.heap.objs.size + 1) :: us, []⟩ (Value.ref (s.heap.objs.size + 1) :: (us ++ ds)) _ _ E (hr.make C us [])
    (I2.env0.make C us []) (hb _ (Value.ref (s.heap.objs.size + 1) :: us) I2.kIn hl) r2 hq) fun r s' hq' => ?_))
  cases r with
  | error e => exact hx pins σ _ _ e s' I2 hq'
  | ok fl =>
    cases fl with
    | ret u =>
      obtain ⟨v, H', I3, rv, ev, q3⟩ := I2.after hq'
      subst ev
      exact ⟨rv, ⟨V.ref (s.heap.objs.size + 1), H', I3, rfl, q3⟩⟩
    | next => exact False.elim hq'
    | brk => exact False.elim hq'
    | cont => exact False.elim hq'
theorem pe_make (M : Mk X.K C f) (F : FnOk X.prog X.w X.K X.mg X.base CX k f fd ps sp) (hr : Room (k + 1) X.A) (hg : Gl X x) (hm : X.mg x = some (.ref C)) (hb : Binds X.K fd ps ds) (hd : Vals dvs ds) (hx : Passes CX X E)
    (ha : PA X (e :: es) t) (hdb : (x == ("__debug__" : Str)) = false := by decide) (he : starEach (e :: es) X.env = (false, eval e X.env) :: starEach es X.env := by rfl) (hpl : (backTo pos (starEach es X.env)).any (·.1) = false := by rfl) :
    PE X (.Call (.Name x p) (e :: es) [] pos) (tMake C sp dvs E t) := by
  intro pins s σ H Q I h
  refine wpAny_Call_Name_kw (ld_glob I hg hm ?_ hdb)
  refine PySem.W.callWith_K (h₀ := X.base) I.ok.mod.kin M.kp (thn (ha pos pins s σ H _ I h) fun us s1 ⟨vs, H1, I1, r, q⟩ => ⟨I1.kIn, ?_⟩) he hpl
  exact run_make M F hr hb hd hx I1 r q
theorem pe_make0 (M : Mk X.K C f) (F : FnOk X.prog X.w X.K X.mg X.base CX k f fd ps sp) (hr : Room (k + 1) X.A) (hg : Gl X x) (hm : X.mg x = some (.ref C)) (hb : Binds X.K fd ps ds) (hd : Vals dvs ds) (hx : Passes CX X E)
    (hdb : (x == ("__debug__" : Str)) = false := by decide) : PE X (.Call (.Name x p) [] [] pos) (tMake C sp dvs E tNil) := by
  intro pins s σ H Q I h
  refine wpAny_Call_Name_kw (ld_glob I hg hm ?_ hdb)
  exact PySem.W.callWith_K0 I.kIn M.kp (run_make (us := []) M F hr hb hd hx I .nil h)
end

/-! ### keywords -/
/-- the values of the keywords, from the left -/
def PK (X : Cx) (kws : List Keyword) (t : TA) : Prop :=
  ∀ (pos : Pos) (pins : List (Addr × Obj)) (s : Shared) (σ : St) (H : Hp) (Q : List V → Hp → Prop), Inv X pins σ H s → t σ H Q → wpAny (model X.prog X.w) X.A (evalAll ((backToKw pos (keywordEach kws X.env)).map (·.2))) (AP X pins σ Q) X.xe s
section
variable {X : Cx} {CX : CXT} {k : Nat} {f C : Addr} {fd : FuncData} {ps ks : List Str} {sp : Sp} {E : XK} {x m : Str} {p pos apos kpos : Pos} {e o : Expr} {es : List Expr} {kws : List Keyword} {te ta : TE} {t tk : TA} {nm : Option Str}
theorem pk_nil : PK X [] tNil := fun _ _ _ _ H Q I h => wpAny_evalAll_nil ⟨[], H, I, .nil, h⟩
theorem pk_cons (ha : PE X e te) (hr : PK X kws t) : PK X (⟨nm, e, kpos⟩ :: kws) (tCons te t) := by
  intro pos pins s σ H Q I h
  show wpAny _ _ (evalAll ((do let v ← eval e X.env; standAt pos; pure v) :: (backToKw pos (keywordEach kws X.env)).map (·.2))) _ _ s
  refine wpAny_evalAll_cons (wpAny_bind (thn (ha pins s σ H _ I h) fun u s1 ⟨x, H1, I1, r1, q1⟩ => wpAny_bind (wpAny_standAt (wpAny_pure ?_))))
  exact thn (hr pos pins s1 σ H1 _ I1 q1) fun us s2 ⟨xs, H2, I2, r2, q2⟩ => ⟨x :: xs, H2, I2, .cons r1 r2, q2⟩

/-- how a call with keywords binds: g puts the positional values us and the keywords' values ws (names ks) in the parameters' order, defaults among them -/
structure KBinds (K : PySem.W.Frag) (fd : FuncData) (ps ks : List Str) (g : List Value → List Value → List Value) (gV : List V → List V → List V) : Prop where
  to : ∀ (s : Shared) (us ws : List Value), K.In s.heap → (g us ws).length = ps.length → BindsTo s fd ⟨us, ks.zip ws⟩ (ps.zip (g us ws))
  rel : ∀ {vs : List V} {us : List Value} {zs : List V} {ws : List Value}, Vals vs us → Vals zs ws → Vals (gV vs zs) (g us ws)
def tCallK (sp : Sp) (gV : List V → List V → List V) (E : XK) (t tk : TA) : TE := fun σ H Q => t σ H fun vs H1 => tk σ H1 fun zs H2 => sp (gV vs zs) H2 Q E
variable {g : List Value → List Value → List Value} {gV : List V → List V → List V}
theorem run_fnk {pins : List (Addr × Obj)} {σ : St} {H : Hp} {s : Shared} {Q : VK} {us ws : List Value} {vs zs : List V} (F : FnOk X.prog X.w X.K X.mg X.base CX k f fd ps sp) (hr : Room k X.A) (hb : KBinds X.K fd ps ks g gV) (hx : Passes CX X E)
    (I : Inv X pins σ H s) (r : Vals vs us) (rz : Vals zs ws) (h : sp (gV vs zs) H Q E) : wpAny (model X.prog X.w) X.A (call (.ref f) us (ks.zip ws)) (EP X pins σ Q) X.xe s := by
  have r2 := hb.rel r rz
  have hl : (g us ws).length = ps.length := by rw [← r2.length]; exact F.len _ _ _ _ h
  refine wpAny_call (codeAny_mono (F.run X.A X.stack s H ⟨us, ks.zip ws⟩ (g us ws) (gV vs zs) Q E hr I.env0 (hb.to s us ws I.kIn hl) r2 h) fun r s' hq => ?_)
  cases r with
  | error e => exact hx pins σ H s e s' I hq
  | ok fl =>
    cases fl with
    | ret u => exact I.after hq
    | next => exact False.elim hq
    | brk => exact False.elim hq
    | cont => exact False.elim hq
/-- f(e, .., k = v, ..) -/
theorem pe_callK (F : FnOk X.prog X.w X.K X.mg X.base CX k f fd ps sp) (hr : Room k X.A) (hg : Gl X x) (hm : X.mg x = some (.ref f)) (hk : PySem.W.keepIn X.K (.ref f) = true) (hb : KBinds X.K fd ps ks g gV) (hx : Passes CX X E)
    (ha : PA X (e :: es) t) (hkw : PK X kws tk) (hall : (backToKw pos (keywordEach kws X.env)).all (·.1.isSome) = true := by rfl) (hks : (backToKw pos (keywordEach kws X.env)).filterMap (·.1) = ks := by rfl)
    (hdb : (x == ("__debug__" : Str)) = false := by decide) (he : starEach (e :: es) X.env = (false, eval e X.env) :: starEach es X.env := by rfl)
    (hpl : ((backTo pos (starEach (e :: es) X.env)).any (·.1) || (backToKw pos (keywordEach kws X.env)).any (·.1.isNone)) = false := by rfl) :
    PE X (.Call (.Name x p) (e :: es) kws pos) (tCallK sp gV E t tk) := by
  intro pins s σ H Q I h
  refine wpAny_Call_Name_kw (ld_glob I hg hm ?_ hdb)
  refine PySem.W.callWith_KW (h₀ := X.base) I.ok.mod.kin hk hall (thn (ha pos pins s σ H _ I h) fun us s1 ⟨vs, H1, I1, r, q⟩ => ?_) hpl he
  refine thn (hkw pos pins s1 σ H1 _ I1 q) fun ws s2 ⟨zs, H2, I2, rz, q2⟩ => ⟨I2.kIn, ?_⟩
  rw [hks]
  exact run_fnk F hr hb hx I2 r rz q2
end

/-! ### a def's body keeps its promise -/
/-- names: the parameters first -/
structure FnScope (N P : List Str) (sc : Scope) : Prop where
  kind : sc.kind = .function
  co : sc.isCoroutine = false
  gen : sc.isGenerator = false
  nd : N.Nodup
  pre : N.take P.length = P
  par : ∀ x ∈ P, sc.names.lookup x = some .local ∨ sc.names.lookup x = some .cell
  nofree : ∀ y ∈ sc.names, y.2 ≠ .free

theorem bindL_out {kindOf : Str → Option NameKind} {x : Str} : ∀ {binds : List (Str × Value)} {m : Str → Option Value}, (∀ v, (x, v) ∉ binds) → bindL kindOf binds m x = m x
  | [], _, _ => rfl
  | (n, v) :: r, m, h => by
    unfold bindL
    rw [bindL_out fun w hw => h w (List.mem_cons_of_mem _ hw)]
    split
    · have : x ≠ n := by rintro rfl; exact h v List.mem_cons_self
      simp [this]
    · rfl
theorem bindC_out {kindOf : Str → Option NameKind} {x : Str} : ∀ {binds : List (Str × Value)} {m : Str → Option Value}, (∀ v, (x, v) ∉ binds) → bindC kindOf binds m x = m x
  | [], _, _ => rfl
  | (n, v) :: r, m, h => by
    unfold bindC
    rw [bindC_out fun w hw => h w (List.mem_cons_of_mem _ hw)]
    split
    · rfl
    · have : x ≠ n := by rintro rfl; exact h v List.mem_cons_self
      simp [this]
theorem bindL_get {kindOf : Str → Option NameKind} {x : Str} {v : Value} : ∀ {P : List Str} {vs : List Value} {i : Nat} {m : Str → Option Value}, P.Nodup → P[i]? = some x → vs[i]? = some v → kindOf x = some .local →
    bindL kindOf (P.zip vs) m x = some v
  | [], _, _, _, _, h, _, _ => by simp at h
  | _ :: _, [], _, _, _, _, h, _ => by simp at h
  | p :: P, w :: vs, 0, m, nd, h1, h2, hk => by
    simp at h1 h2; subst h1; subst h2
    show bindL kindOf ((p, w) :: P.zip vs) m p = _
    unfold bindL
    rw [bindL_out fun v hv => (List.nodup_cons.mp nd).1 (List.of_mem_zip hv).1, if_pos hk]
    simp
  | p :: P, w :: vs, i + 1, m, nd, h1, h2, hk => by
    show bindL kindOf ((p, w) :: P.zip vs) m x = _
    unfold bindL
    exact bindL_get (i := i) (List.nodup_cons.mp nd).2 (by simpa using h1) (by simpa using h2) hk
theorem bindC_get {kindOf : Str → Option NameKind} {x : Str} {v : Value} : ∀ {P : List Str} {vs : List Value} {i : Nat} {m : Str → Option Value}, P.Nodup → P[i]? = some x → vs[i]? = some v → kindOf x ≠ some .local →
    bindC kindOf (P.zip vs) m x = some v
  | [], _, _, _, _, h, _, _ => by simp at h
  | _ :: _, [], _, _, _, _, h, _ => by simp at h
  | p :: P, w :: vs, 0, m, nd, h1, h2, hk => by
    simp at h1 h2; subst h1; subst h2
    show bindC kindOf ((p, w) :: P.zip vs) m p = _
    unfold bindC
    rw [bindC_out fun v hv => (List.nodup_cons.mp nd).1 (List.of_mem_zip hv).1, if_neg hk]
    simp
  | p :: P, w :: vs, i + 1, m, nd, h1, h2, hk => by
    show bindC kindOf ((p, w) :: P.zip vs) m x = _
    unfold bindC
    exact bindC_get (i := i) (List.nodup_cons.mp nd).2 (by simpa using h1) (by simpa using h2) hk

/-- the names' values at the entry -/
def start (N : List Str) (vs : List V) : St := vs.map some ++ List.replicate (N.length - vs.length) none

/-- the context of a def's body, at its entry; an exception leaves the frame, then lies as CX says -/
def cxOf (CX : CXT) (P : Program) (w : World) (K : PySem.W.Frag) (mg : Str → Option Value) (base : Heap) (N : List Str) (qual : Str) (scope : Scope) (f : Addr) (cd : Value) (A : Around) (outer : List Env) (s : Shared) (H : Hp) (E : XK) : Cx where
  prog := P
  w := w
  K := K
  mg := mg
  base := base
  A := A.deeper (envOfC qual scope s.heap.objs.size f cd)
  N := N
  s₀ := s
  H₀ := H
  env := envOfC qual scope s.heap.objs.size f cd
  outer := outer
  stack := envOfC qual scope s.heap.objs.size f cd :: outer
  ex := []
  calm := true
  fn := fun _ => true
  pn := []
  xe := fun e s' => wpAny (model P w) (A.deeper (envOfC qual scope s.heap.objs.size f cd)) (leaving (envOfC qual scope s.heap.objs.size f cd) e) (fun _ s'' => CX outer H s E e s'') (fun e' s'' => CX outer H s E e' s'') s'

theorem cell_has {sc : Scope} {n : Nat} {x : Str} (h : sc.names.lookup x = some .cell) : ∃ c, (cellsFrom n sc.names []).lookup x = some c := by
  have q := PySem.W.cellsFrom_some sc.names n [] (.inl h)
  exact Option.isSome_iff_exists.mp q

theorem inv_start {CX : CXT} {P : Program} {w : World} {K : PySem.W.Frag} {mg : Str → Option Value} {base : Heap} {N ps : List Str} {qual : Str} {scope : Scope} {f : Addr} {cd : Value} {A : Around} {outer : List Env} {s s1 : Shared} {H : Hp} {E : XK} {us : List Value} {vs : List V}
    (S : FnScope N ps scope) (hd : A.handled = none) (e0 : Env0 P w K mg base A outer s H) (hl : vs.length = ps.length) (r : Vals vs us)
    (x : InCallC s s.heap.objs.size (bindL (envOfC qual scope s.heap.objs.size f cd).kindOf (ps.zip us) fun _ => none) (cellsFrom (s.heap.objs.size + 1) scope.names []) (bindC (envOfC qual scope s.heap.objs.size f cd).kindOf (ps.zip us) fun _ => none) s1) :
    Inv (cxOf CX P w K mg base N qual scope f cd A outer s H E) [] (start N vs) H s1 := by
  have hpl : ps.length ≤ N.length := by have := congrArg List.length S.pre; rw [List.length_take] at this; omega
  obtain ⟨h1, tk, rfl, hk⟩ := x.done
  have noA : ∀ b : Addr, b ∉ (cxOf CX P w K mg base N qual scope f cd A outer s H E).ex := fun b z => absurd (show b ∈ ([] : List Addr) from z) (by simp)
  refine ⟨⟨e0.mod, S.kind, rfl, rfl, Nat.le_refl _, fun y z c h1 h2 => ?_, fun y hy => ?_, fun y c _ h => ?_, fun _ => hd, Around.frames_deeper e0.frames, .inr ⟨rfl, rfl⟩, fun b z => absurd z (noA b), e0.bs, e0.bsz, fun b _ _ => noA b, fun b z => absurd z (noA b), e0.funs, e0.frf⟩,
    rfl, e0.bare, Un.kept hk, ⟨_, x.toInCall.ns, fun i y v h1 h2 h3 => ?_⟩, fun y c h => ⟨_, x.cell y c h⟩, e0.hok.fresh (Nat.le_refl _), fun y c h => ?_, fun p hp => absurd (show p ∈ ([] : List (Addr × Obj)) from hp) (by simp), e0.hok.kept hk, ?_⟩
  · exact name_of_addr x.apart (PySem.mem_of_lookup h1) (PySem.mem_of_lookup h2)
  · have hy : scope.names.lookup y = some .cell ∨ scope.names.lookup y = some .free := hy
    rcases hy with hy | hy
    · exact cell_has hy
    · exact absurd rfl (S.nofree _ (PySem.mem_of_lookup hy))
  · exact Nat.le_of_lt (x.above y c (PySem.mem_of_lookup h))
  · have hi : i < vs.length := by
      unfold start at h2
      by_cases hi : i < vs.length
      · exact hi
      · rw [List.getElem?_append_right (by simpa using hi)] at h2
        rw [List.getElem?_replicate] at h2
        split at h2 <;> cases h2
    have ha : vs[i]? = some v := by
      unfold start at h2
      rw [List.getElem?_append_left (by simpa using hi), List.getElem?_map] at h2
      cases e : vs[i]? with
      | none => rw [e] at h2; cases h2
      | some a => rw [e] at h2; cases h2; rfl
    obtain ⟨u, hu, rv⟩ := r.get ha
    have hp : ps[i]? = some y := by
      rw [← S.pre, List.getElem?_take_of_lt (by omega)]; exact h1
    have ndP : ps.Nodup := by rw [← S.pre]; exact S.nd.sublist (List.take_sublist _ _)
    refine ⟨u, rv, ?_⟩
    rcases S.par y (List.mem_of_getElem? hp) with k | k
    · exact .inl ⟨k, bindL_get ndP hp hu k⟩
    · obtain ⟨c, e⟩ := cell_has (n := s.heap.objs.size + 1) k
      refine .inr ⟨.inl k, c, e, ?_⟩
      have q := x.cell y c e
      rw [bindC_get ndP hp hu (by show scope.names.lookup y ≠ _; rw [k]; decide)] at q
      exact q
  · exact e0.hok.fresh (Nat.le_of_lt (x.above y c (PySem.mem_of_lookup h)))
  · unfold start
    show _ = N.length
    rw [List.length_append, List.length_map, List.length_replicate]
    omega

/-- THE RULE: a def (or a method) of the text, by its body. The body's reading t is chosen for each entry; it is run at the parameters' values -/
theorem fn_of {CX : CXT} {P : Program} {w : World} {K : PySem.W.Frag} {mg : Str → Option Value} {base : Heap} {k : Nat} {f : Addr} {name qual : Str} {params : Arguments} {body : List Stmt} {scope : Scope} {dV kV doc pm cdv ct oc : Value} {an od : Option Addr}
    {osl : Array (Option Value)} {N ps : List Str} {sp : Sp} (lk : K.lookup f = some ⟨oc, od, .func (PySem.W.fnOf name qual params body scope dV kV doc pm an cdv ct), osl⟩) (hcd : PySem.W.codeIn K cdv qual = true) (S : FnScope N ps scope)
    (len : ∀ vs H Q E, sp vs H Q E → vs.length = ps.length)
    (hbody : ∀ (A : Around) (outer : List Env) (s : Shared) (H : Hp) (vs : List V) (Q : VK) (E : XK), Room k (A.deeper (envOfC qual scope s.heap.objs.size f cdv)) → sp vs H Q E →
      ∃ t, PSs (cxOf CX P w K mg base N qual scope f cdv A outer s H E) body t ∧ t { nx := fun _ H' => Q .non H', rt := Q } (start N vs) H) :
    FnOk P w K mg base CX (k + 1) f (PySem.W.fnOf name qual params body scope dV kV doc pm an cdv ct) ps sp := by
  refine ⟨len, fun A outer s H args us vs Q E hr e0 hb r hsp => ?_⟩
  have hl := len _ _ _ _ hsp
  have KX : K.In s.heap := e0.mod.kin.keeps fun b o e => (e0.bs b o e).1
  have lim : s.heap.NoLimit := e0.mod.nolimit.keeps fun b o e => (e0.bs b o e).1
  have hkind : ∀ y ∈ ps.zip us, scope.names.lookup y.1 = some .local ∨ (scope.names.lookup y.1 = some .cell ∧ ((cellsFrom (s.heap.objs.size + 1) scope.names []).lookup y.1).isSome = true) := fun ⟨n, v⟩ hy => by
    rcases S.par n (List.of_mem_zip hy).1 with q | q
    · exact .inl q
    · exact .inr ⟨q, PySem.W.cellsFrom_some _ _ _ (.inl q)⟩
  refine codeAny_call_function hr.depth (KX _ _ lk) rfl S.co S.gen rfl (PySem.W.codeRec_of KX hcd) (hb _ _ _ _ ?_)
  refine wpAny_newFunctionEnv_cells S.kind hkind fun env he s1 x => ?_
  subst he
  refine ⟨lim.keeps x.toInCall.keep, codeAny_func ?_⟩
  obtain ⟨t, ht, hq⟩ := hbody A outer s H vs Q E (hr.deeper _) hsp
  have I : Inv (cxOf CX P w K mg base N qual scope f cdv A outer s H E) [] (start N vs) H s1 := inv_start S hr.hd e0 hl r x
  refine wpAny_mono (ht [] s1 (start N vs) H _ I hq) (fun fl s' hs => ?_) fun e s' hs => hs
  have fin : ∀ {σ' : St} {H' : Hp} {v : V} {u : Value}, Inv (cxOf CX P w K mg base N qual scope f cdv A outer s H E) [] σ' H' s' → RelV v u → Q v H' → CE outer P w H s Q u s' :=
    fun {σ' H' v u} J rv q => ⟨v, H', J.os, J.bare, J.base, J.hok, rv, q⟩
  cases fl with
  | ret u =>
    obtain ⟨v, σ', H', J, rv, q⟩ := hs
    exact fin J rv q
  | next =>
    obtain ⟨σ', H', J, q⟩ := hs
    exact fin (v := V.non) (u := Value.none) J rfl q
  | brk =>
    obtain ⟨_, _, _, q⟩ := hs
    exact False.elim q
  | cont =>
    obtain ⟨_, _, _, q⟩ := hs
    exact False.elim q
end L2

namespace L2
open PySem PySem.Spec PyProof.Rows
section
variable {X : Cx} {x : Str} {p pos : Pos} {e : Expr} {es : List Expr} {t : TA} {id T : String} {r : List V → Hp → VK → Prop}

def tCB (r : List V → Hp → VK → Prop) (t : TA) : TE := fun σ H Q => t σ H fun vs H1 => r vs H1 Q
/-- f(e, ..), f a built-in function -/
theorem pe_callB (hc : CallR X (.builtin id) r) (hg : Gl X x) (hm : X.mg x = none) (hv : bootBuiltins x = some (.builtin id)) (ha : PA X (e :: es) t) (hn : x ≠ "__name__" := by decide) (hdb : (x == ("__debug__" : Str)) = false := by decide)
    (he : starEach (e :: es) X.env = (false, eval e X.env) :: starEach es X.env := by rfl) (hpl : (backTo pos (starEach es X.env)).any (·.1) = false := by rfl) : PE X (.Call (.Name x p) (e :: es) [] pos) (tCB r t) := by
  intro pins s σ H Q I h
  refine wpAny_Call_Name_kw (ld_blt I hg hm hv ?_ hn hdb)
  exact PyProof.Rows.callWith_builtin1 (thn (ha pos pins s σ H _ I h) fun us s1 ⟨vs, H1, I1, r1, q1⟩ => hc pins s1 σ H1 vs us Q I1 r1 q1) he hpl
/-- T(e, ..), T a built-in type -/
theorem pe_callTy (hc : CallR X (.type T) r) (hg : Gl X x) (hm : X.mg x = none) (hv : bootBuiltins x = some (.type T)) (ha : PA X (e :: es) t) (hn : x ≠ "__name__" := by decide) (hdb : (x == ("__debug__" : Str)) = false := by decide)
    (he : starEach (e :: es) X.env = (false, eval e X.env) :: starEach es X.env := by rfl) (hpl : (backTo pos (starEach es X.env)).any (·.1) = false := by rfl) : PE X (.Call (.Name x p) (e :: es) [] pos) (tCB r t) := by
  intro pins s σ H Q I h
  refine wpAny_Call_Name_kw (ld_blt I hg hm hv ?_ hn hdb)
  exact PyProof.Rows.callWith_type1 (thn (ha pos pins s σ H _ I h) fun us s1 ⟨vs, H1, I1, r1, q1⟩ => hc pins s1 σ H1 vs us Q I1 r1 q1) he hpl
/-- T() -/
theorem pe_callTy0 (hc : CallR X (.type T) r) (hg : Gl X x) (hm : X.mg x = none) (hv : bootBuiltins x = some (.type T)) (hn : x ≠ "__name__" := by decide) (hdb : (x == ("__debug__" : Str)) = false := by decide) :
    PE X (.Call (.Name x p) [] [] pos) (tCB r tNil) := by
  intro pins s σ H Q I h
  refine wpAny_Call_Name_kw (ld_blt I hg hm hv ?_ hn hdb)
  exact PyProof.Rows.callWith_type0 (hc pins s σ H [] [] Q I .nil h)
end
end L2

namespace HT
open PySem PyProof.Rows

/-- t < u of tuples of ints -/
def lexLt : List Int → List Int → Bool
  | [], [] => false
  | [], _ :: _ => true
  | _ :: _, [] => false
  | x :: xs, y :: ys => if x = y then lexLt xs ys else decide (x < y)
theorem lexLt_cons (x y : Int) (xs ys : List Int) : lexLt (x :: xs) (y :: ys) = if x = y then lexLt xs ys else decide (x < y) := rfl
theorem lexLt_nil_nil : lexLt [] [] = false := rfl
theorem lexLt_nil_cons (y : Int) (ys : List Int) : lexLt [] (y :: ys) = true := rfl
theorem lexLt_cons_nil (x : Int) (xs : List Int) : lexLt (x :: xs) [] = false := rfl

theorem eqAt_int (A : Around) (s : Shared) (a : Int) (t : Tok) (c : Int) (u : Tok) : ∃ e, SeqAt.EqAt A s (.int a t) (.int c u) e ∧ (e = true ↔ a = c) :=
  ⟨(a == c), SeqAt.EqAt.int_int a t c u, by simp⟩
theorem rcLt_int (A : Around) (s : Shared) (a : Int) (t : Tok) (c : Int) (u : Tok) (prog : Program) (w : World) (E : Value → Shared → Prop) (Q : Value → Shared → Prop) (h : Q (.bool (decide (a < c))) s) :
    wpAny (model prog w) A (richCompare .Lt (.int a t) (.int c u)) Q E s :=
  (PyProof.Rows.lt_int h : wpAny (model prog w) A (compareOp .Lt (.int a t) (.int c u)) Q E s)

section
open PySem.SeqAt
open PySem.AutoSeq1 (wpAny_loadPart')
open PySem.MeetsSeq PySem.MeetsSeq2 PySem.MeetsSeq3

theorem tuple_lt_ints (l b : Addr) (items items2 : Array Value) (n n2 : Nat) (dd dd2 : Option Addr) (sl sl2 : Array (Option Value)) (ns ms : List Int) (hi : IntsAre items.toList ns) (hj : IntsAre items2.toList ms) :
    Meets (Builtin.«tuple.__lt__» ⟨[.ref l, .ref b], []⟩)
      (fun _ R s => s.heap.get? l = some { cls := .type "tuple", dict := dd, data := .seq items n, slots := sl } ∧ s.heap.get? b = some { cls := .type "tuple", dict := dd2, data := .seq items2 n2, slots := sl2 } ∧
        R (.ok (.ret (.bool (lexLt ns ms)))) s) :=
  .of_wp fun prog w A R s h => by
    obtain ⟨hp, g, d, tk, os⟩ := s; obtain ⟨hl, hb, h⟩ := h
    have f2 := AutoSeq1.sub_tuple_tuple
    have z1 : items.size = ns.length := by rw [← hi.length]; simp
    have z2 : items2.size = ms.length := by rw [← hj.length]; simp
    wp_walk using wpAny_loadPart' hl, wpAny_loadPart' hb, wpAny_forIn_list _ (fun rest b s' => b.1 = none ∧ s' = ⟨hp, g, d, tk, os⟩ ∧ ∃ (vs ws : List Value) (ns' ms' : List Int), rest = vs.zip ws ∧
      IntsAre vs ns' ∧ IntsAre ws ms' ∧ ns'.length + items2.size = ms'.length + items.size ∧ R (.ok (.ret (.bool (lexLt ns' ms')))) ⟨hp, g, d, tk, os⟩) _
    case turn =>
      rintro ⟨y, x⟩ rest b s' ⟨hb', rfl, vs, ws, ns', ms', hz, hvi, hwi, hlen, hR⟩
      cases hvi with
      | nil => rw [List.zip_nil_left] at hz; cases hz
      | cons a t hvi' =>
        cases hwi with
        | nil => rw [List.zip_nil_right] at hz; cases hz
        | cons c u hwi' =>
          rw [List.zip_cons_cons] at hz
          injection hz with hyx hrest
          injection hyx with hy hx
          subst hy hx
          rw [lexLt_cons] at hR
          simp only [List.length_cons] at hlen
          obtain ⟨e, he, hiff⟩ := eqAt_int A.in1 ⟨hp, g, d, tk, os⟩ a t c u
          refine wpAny_bind (he prog w _ _ ?_)
          cases e with
          | true =>
            rw [if_pos (hiff.mp rfl)] at hR
            wp_walk
            exact ⟨rfl, rfl, _, _, _, _, hrest, hvi', hwi', by omega, hR⟩
          | false =>
            rw [if_neg (fun q => absurd (hiff.mpr q) Bool.false_ne_true)] at hR
            have hri := rcLt_int A.in1 ⟨hp, g, d, tk, os⟩ a t c u prog w
            wp_walk using hri
            exact ⟨_, rfl, by simpa using hR⟩
    case fin =>
      rintro ⟨b1, b2⟩ s' ⟨hb', rfl, vs, ws, ns', ms', hz, hvi, hwi, hlen, hR⟩
      simp only at hb'
      subst hb'
      have hv : lexLt ns' ms' = decide (items.size < items2.size) := by
        cases hvi with
        | nil =>
          cases hwi with
          | nil =>
            simp only [List.length_nil] at hlen
            rw [lexLt_nil_nil]
            exact (decide_eq_false (by omega)).symm
          | cons c u hw =>
            simp only [List.length_nil, List.length_cons] at hlen
            rw [lexLt_nil_cons]
            exact (decide_eq_true (by omega)).symm
        | cons a t hv =>
          cases hwi with
          | nil =>
            simp only [List.length_nil, List.length_cons] at hlen
            rw [lexLt_cons_nil]
            exact (decide_eq_false (by omega)).symm
          | cons c u hw =>
            rw [List.zip_cons_cons] at hz
            cases hz
      rw [hv] at hR
      wp_walk
      exact ⟨_, rfl, by simpa [Builtin.Tuple.tupleCompareSizes] using hR⟩
    case h =>
      exact ⟨rfl, rfl, items.toList, items2.toList, ns, ms, rfl, hi, hj, by omega, h⟩
end

section
variable {prog : Program} {w : World} {A : Around} {E : Value → Shared → Prop} {s : Shared}

theorem lt_tupInts {l b : Addr} {items items2 : Array Value} {ns ms : List Int} {Q : Value → Shared → Prop} (hl : IsTup s.heap l items) (hb : IsTup s.heap b items2) (hi : IntsAre items.toList ns) (hj : IntsAre items2.toList ms)
    (hu : A.units < cLine) (h : Q (.bool (lexLt ns ms)) s) : wpAny (model prog w) A (compareOp .Lt (.ref l) (.ref b)) Q E s := by
  obtain ⟨⟨cls, dd, data, sl⟩, ho, hc, n, hd⟩ := id hl
  obtain ⟨⟨cls2, dd2, data2, sl2⟩, ho2, hc2, n2, hd2⟩ := id hb
  simp only at hc hd hc2 hd2
  subst hc hd hc2 hd2
  exact richCompare_meets_room (op := .Lt) ⟨_, ho, rfl⟩ ⟨_, ho2, rfl⟩ PySem.F.slot_tuple_lt PySem.F.entry_tuple_lt (PySem.F.args_tuple_lt_2 _ _) (tuple_lt_ints l b items items2 n n2 dd dd2 sl sl2 ns ms hi hj)
    ⟨ho, ho2, show Value.bool (lexLt ns ms) ≠ Value.notImplemented ∧ Q (.bool (lexLt ns ms)) s from ⟨(fun x => nomatch x), h⟩⟩ hu

/-- t + u, t not empty -/
theorem cat_tup {t b : Addr} {vs ws : List Value} {Q : Value → Shared → Prop} (ht : IsTup s.heap t vs.toArray) (hb : IsTup s.heap b ws.toArray) (hv : vs ≠ [])
    (h1 : ws = [] → Q (.ref t) s) (h2 : ws ≠ [] → Q (.ref s.heap.objs.size) { s with heap := s.heap.push { cls := .type "tuple", data := .seq (vs ++ ws).toArray } })
    (hsz : vs.length + ws.length ≤ sizeLine) : wpAny (model prog w) A (binaryOp .Add (.ref t) (.ref b)) Q E s := by
  obtain ⟨⟨cls, dd, data, sl⟩, ho, hc, n, hd⟩ := id ht
  obtain ⟨⟨cls2, dd2, data2, sl2⟩, ho2, hc2, n2, hd2⟩ := id hb
  simp only at hc hd hc2 hd2
  subst hc hd hc2 hd2
  have e : vs.toArray ++ ws.toArray = (vs ++ ws).toArray := by simp
  by_cases hw : ws = []
  · exact concat_meets ⟨_, ho, rfl⟩ ⟨_, ho2, rfl⟩ noFill_tuple_add seq_tuple_add PySem.F.slot_tuple_add PySem.F.entry_tuple_add (PySem.F.args_tuple_add_2 _ _)
      (tuple_addW1 t b vs.toArray ws.toArray n n2 dd dd2 sl sl2 (by simpa using hv) (by simp [hw])) ⟨ho, ho2, h1 hw⟩
  · refine concat_meets ⟨_, ho, rfl⟩ ⟨_, ho2, rfl⟩ noFill_tuple_add seq_tuple_add PySem.F.slot_tuple_add PySem.F.entry_tuple_add (PySem.F.args_tuple_add_2 _ _)
      (tuple_addW2 t b vs.toArray ws.toArray n n2 dd dd2 sl sl2 (by simpa using hv) (by simpa using hw) (by rw [List.size_toArray, List.size_toArray]; exact hsz)) ⟨ho, ho2, ?_⟩
    rw [e]
    exact h2 hw

/-! ### t[a:b], not the whole -/
/-- a slice's bound as a place among n (d where it is left out) -/
def sIx (n d : Nat) : Option Int → Nat
  | none => d
  | some v => if v < 0 then (v + (n : Int)).toNat else min v.toNat n
theorem sIx_none (n d : Nat) : sIx n d none = d := rfl
theorem sIx_nat (n d k : Nat) : sIx n d (some (k : Int)) = min k n := by
  show (if (k : Int) < 0 then ((k : Int) + (n : Int)).toNat else min (k : Int).toNat n) = min k n
  rw [if_neg (by omega), Int.toNat_natCast]
theorem sIx_le (n d : Nat) (hd : d ≤ n) (o : Option Int) : sIx n d o ≤ n := by
  cases o with
  | none => exact hd
  | some v =>
    show (if v < 0 then (v + (n : Int)).toNat else min v.toNat n) ≤ n
    by_cases hv : v < 0
    · rw [if_pos hv]; omega
    · rw [if_neg hv]; exact Nat.min_le_right _ _
theorem clip_eq (v : Int) (n d : Nat) : (if v < 0 then max (v + (n : Int)) 0 else min v (n : Int)) = ((sIx n d (some v) : Nat) : Int) := by
  show (if v < 0 then max (v + (n : Int)) 0 else min v (n : Int)) = (((if v < 0 then (v + (n : Int)).toNat else min v.toNat n) : Nat) : Int)
  by_cases hv : v < 0
  · simp only [if_pos hv]; omega
  · simp only [if_neg hv]; omega
theorem adjust_gen (lo hi : Option Int) (n : Nat) : Builtin.Slice.sliceAdjust lo hi 1 (n : Int) = (((sIx n 0 lo : Nat) : Int), ((sIx n n hi : Nat) : Int)) := by
  have h1 : ¬ ((1 : Int) < 0) := by omega
  unfold Builtin.Slice.sliceAdjust
  simp only [h1, if_false]
  refine Prod.ext ?_ ?_
  · cases lo with
    | none => rfl
    | some v => exact clip_eq v n 0
  · cases hi with
    | none => rfl
    | some v => exact clip_eq v n n
theorem places_gen (i j : Nat) : Builtin.Slice.slicePlaces (i : Int) (j : Int) 1 = j - i := by
  unfold Builtin.Slice.slicePlaces
  have h1 : (1 : Int) > 0 := by omega
  simp only [h1, if_true, Int.ediv_one]
  split <;> omega
theorem slicePart_ {v : Value} {o : Option Int} {Q : Option Int → Shared → Prop} (p : IsPart v o) (h : Q o s) : wpAny (model prog w) A (Builtin.Slice.slicePartIndex v) Q E s := by
  cases p with
  | none => exact slicePart_none h
  | int i t => exact slicePart_int h
theorem sliceApplied_gen {sl : Addr} {vl vu : Value} {lo hi : Option Int} {n : Nat} {Q : Int × Int × Nat → Shared → Prop} (hs : s.heap.IsSliceOf sl vl vu .none) (pl : IsPart vl lo) (pu : IsPart vu hi)
    (h : Q (((sIx n 0 lo : Nat) : Int), 1, sIx n n hi - sIx n 0 lo) s) : wpAny (model prog w) A (Builtin.Slice.sliceApplied (.ref sl) (pure (n : Int))) Q E s := by
  obtain ⟨os, hos, hcs, hds⟩ := id hs
  unfold Builtin.Slice.sliceApplied Builtin.Slice.sliceFields
  refine wpAny_bind (wpAny_bind (wpAny_field hos hds (x := vl) rfl (wpAny_bind (wpAny_field hos hds (x := vu) rfl (wpAny_bind (wpAny_field hos hds (x := .none) rfl (wpAny_pure ?_)))))))
  refine wpAny_bind (slicePart_none ?_)
  show wpAny _ _ (if ((1 : Int) == 0) = true then _ else _) _ _ s
  rw [if_neg (by decide)]
  refine wpAny_bind (slicePart_ pl (wpAny_bind (slicePart_ pu (wpAny_bind (wpAny_pure ?_)))))
  show wpAny _ _ (match Builtin.Slice.sliceAdjust lo hi 1 (n : Int) with | (lo, hi) => pure (lo, (1 : Int), Builtin.Slice.slicePlaces lo hi 1)) _ _ s
  rw [adjust_gen lo hi n]
  show wpAny _ _ (pure (((sIx n 0 lo : Nat) : Int), (1 : Int), Builtin.Slice.slicePlaces ((sIx n 0 lo : Nat) : Int) ((sIx n n hi : Nat) : Int) 1)) _ _ s
  rw [places_gen]
  exact wpAny_pure h
theorem pick_gen (xs : Array Value) (i k : Nat) : ((List.range k).filterMap fun (m : Nat) => xs[((i : Int) + (m : Int) * 1).toNat]?).toArray = ((xs.toList.drop i).take k).toArray := by
  have e : (fun (m : Nat) => xs[((i : Int) + (m : Int) * 1).toNat]?) = fun m => xs[i + m]? := by
    funext m
    have : ((i : Int) + (m : Int) * 1).toNat = i + m := by omega
    rw [this]
  rw [e]
  have := pick_run xs i k
  rw [List.filterMap_map] at this
  have e2 : ((fun x => xs[x]?) ∘ fun x => i + x) = fun m => xs[i + m]? := rfl
  rw [e2] at this
  rw [this]

theorem getItem_tuple_cut {t sl : Addr} {items : Array Value} {vl vu : Value} {lo hi : Option Int} {Q : Value → Shared → Prop} (ht : IsTup s.heap t items) (hs : s.heap.IsSliceOf sl vl vu .none) (pl : IsPart vl lo) (pu : IsPart vu hi)
    (hw : ¬ (sIx items.size 0 lo = 0 ∧ sIx items.size items.size hi = items.size))
    (h : Q (.ref s.heap.objs.size) { s with heap := s.heap.push { cls := .type "tuple", data := .seq ((items.toList.drop (sIx items.size 0 lo)).take (sIx items.size items.size hi - sIx items.size 0 lo)).toArray } })
    (hsz : items.size ≤ sizeLine) : wpAny (model prog w) A (getItem (.ref t) (.ref sl)) Q E s := by
  have htake : sizeOk (.seq ((items.toList.drop (sIx items.size 0 lo)).take (sIx items.size items.size hi - sIx items.size 0 lo)).toArray) := by
    show ((items.toList.drop (sIx items.size 0 lo)).take (sIx items.size items.size hi - sIx items.size 0 lo)).toArray.size ≤ sizeLine
    rw [List.size_toArray, List.length_take, List.length_drop, Array.length_toList]
    omega
  have hj : sIx items.size items.size hi ≤ items.size := sIx_le _ _ (Nat.le_refl _) hi
  obtain ⟨os, hos, hcs, hds⟩ := id hs
  have hTs : s.TypeIs (.ref sl) "slice" := ⟨os, hos, hcs⟩
  unfold getItem
  try with_reducible refine wpAny_holding ?_
  first | refine wpAny_bind (wpAny_pure ?_) | skip
  refine wpAny_bind (wpAny_sequenceKey ht.typeIs (by decide) ?_)
  refine wpAny_bind (wpAny_callSpecial?_slot (name := Str.ofString "__getitem__") ht.typeIs PyProof.Rows.slot_tuple_getitem
    (wpAny_call_entry PyProof.Rows.slot_tuple_getitem ht.typeIs entry_tuple_getitem ?_ (args_tuple_getitem _ _)))
  show wpAny _ _ (Builtin.Tuple.tupleItemsOf (.ref t) >>= _) _ _ s
  refine wpAny_bind (tupleItemsOf_ ht ?_)
  refine wpAny_bind (wpAny_typeOf hTs ?_)
  rw [if_pos (by decide)]
  refine wpAny_bind (sliceApplied_gen hs pl pu ?_)
  have hno : ¬ ((((sIx items.size 0 lo : Nat) : Int) == 0 && (1 : Int) == 1 && (sIx items.size items.size hi - sIx items.size 0 lo) == items.size) = true) := by
    intro q
    rw [Bool.and_eq_true, Bool.and_eq_true] at q
    have q1 : ((sIx items.size 0 lo : Nat) : Int) = 0 := eq_of_beq q.1.1
    have q2 : sIx items.size items.size hi - sIx items.size 0 lo = items.size := eq_of_beq q.2
    exact hw ⟨by omega, by omega⟩
  show wpAny _ _ (if (((sIx items.size 0 lo : Nat) : Int) == 0 && (1 : Int) == 1 && (sIx items.size items.size hi - sIx items.size 0 lo) == items.size) = true then _ else _) _ _ s
  rw [if_neg hno, pick_gen]
  first
    | exact wpAny_bind (m := Builtin.Tuple.tupleExact _) (wpAny_newObj_type (wpAny_pure ⟨_, rfl, wpAny_pure h⟩) htake)
    | exact wpAny_bind (m := Builtin.Tuple.tupleExact _) (wpAny_newObj_type (wpAny_bind (wpAny_pure (wpAny_pure ⟨_, rfl, wpAny_pure h⟩))) htake)
    | exact wpAny_bind (wpAny_bind (m := Builtin.Tuple.tupleExact _) (wpAny_newObj_type (wpAny_pure (wpAny_pure ⟨_, rfl, wpAny_pure h⟩)) htake))
    | exact wpAny_bind (wpAny_bind (m := Builtin.Tuple.tupleExact _) (wpAny_newObj_type (wpAny_pure ⟨_, rfl, wpAny_pure h⟩) htake))
end
end HT

namespace L2
open PySem PySem.Spec PyProof.Rows

/-! ### the parts of a slice -/
abbrev TO := St → Hp → (Option Int → Hp → Prop) → Prop
/-- a slice's part (left out, or an int) -/
def PO (X : Cx) (e : Option Expr) (t : TO) : Prop :=
  ∀ (pins : List (Addr × Obj)) (s : Shared) (σ : St) (H : Hp) (Q : Option Int → Hp → Prop), Inv X pins σ H s → t σ H Q →
    wpAny (model X.prog X.w) X.A (evalPart e X.env) (fun u s' => ∃ o H', Inv X pins σ H' s' ∧ IsPart u o ∧ Q o H') X.xe s
def tNoPart : TO := fun _ H Q => Q none H
def tPart (t : TE) : TO := fun σ H Q => t σ H fun x H1 => ∃ i, x = .int i ∧ Q (some i) H1

theorem intsAre_of {ns : List Int} : ∀ {us : List Value}, Vals (ns.map V.int) us → IntsAre us ns := by
  induction ns with
  | nil => intro us r; rw [List.map_nil] at r; cases r; exact .nil
  | cons n ns ih =>
    intro us r
    rw [List.map_cons] at r
    cases r with
    | cons r1 r2 =>
      obtain ⟨t, e⟩ := r1
      subst e
      exact .cons n t (ih r2)

section
variable {X : Cx} {e : Expr} {te : TE} {lo hi : Option Expr} {tl th : TO} {pos p2 : Pos}

theorem po_none : PO X none tNoPart := by
  intro pins s σ H Q I h
  rw [evalPart_none]
  exact wpAny_pure ⟨none, H, I, .none, h⟩
theorem po_some (h : PE X e te) : PO X (some e) (tPart te) := by
  intro pins s σ H Q I hw
  rw [evalPart_some]
  refine thn (h pins s σ H _ I hw) fun u s1 ⟨x, H1, I1, r1, q1⟩ => ?_
  obtain ⟨i, rfl, q⟩ := q1
  obtain ⟨t, rfl⟩ := r1
  exact ⟨some i, H1, I1, .int i t, q⟩

/-- what a slice of a value is, by values: the slice object stands at sl -/
def SlR (X : Cx) (r : V → Option Int → Option Int → Hp → VK → Prop) : Prop :=
  ∀ (pins : List (Addr × Obj)) (s : Shared) (σ : St) (H : Hp) (x : V) (v vl vu : Value) (lo hi : Option Int) (sl : Addr) (Q : VK), Inv X pins σ H s → RelV x v → s.heap.IsSliceOf sl vl vu .none → IsPart vl lo → IsPart vu hi → r x lo hi H Q →
    ∃ T id, typeLookup (.type T) "__getitem__" = pure (some (.builtin id)) ∧ s.TypeIs v T ∧ wpAny (model X.prog X.w) X.A (getItem v (.ref sl)) (EP X pins σ Q) X.xe s
theorem SlR.or {r r' : V → Option Int → Option Int → Hp → VK → Prop} (h : SlR X r) (h' : SlR X r') : SlR X (fun x lo hi H Q => r x lo hi H Q ∨ r' x lo hi H Q) := by
  intro pins s σ H x v vl vu lo hi sl Q I rx hs pl pu q
  rcases q with q | q
  · exact h pins s σ H x v vl vu lo hi sl Q I rx hs pl pu q
  · exact h' pins s σ H x v vl vu lo hi sl Q I rx hs pl pu q
def tSl (r : V → Option Int → Option Int → Hp → VK → Prop) (te : TE) (tl th : TO) : TE := fun σ H Q => te σ H fun x H1 => tl σ H1 fun l H2 => th σ H2 fun u H3 => r x l u H3 Q
/-- a[lo:hi], any a -/
theorem pe_slice {r : V → Option Int → Option Int → Hp → VK → Prop} (hr : SlR X r) (he : PE X e te) (hl : PO X lo tl) (hu : PO X hi th) : PE X (.Subscript e (.Slice lo hi none p2) pos) (tSl r te tl th) := by
  intro pins s σ H Q I h
  refine Subscript_ (thn (he pins s σ H _ I h) fun v s1 ⟨x, H1, I1, r1, q1⟩ => ?_)
  refine wpAny_Slice (thn (hl pins s1 σ H1 _ I1 q1) fun vl s2 ⟨l, H2, I2, pl, q2⟩ => thn (hu pins s2 σ H2 _ I2 q2) fun vu s3 ⟨u, H3, I3, pu, q3⟩ => ?_)
  rw [evalPart_none]
  refine wpAny_pure ?_
  have I4 : Inv X pins σ H3 { s3 with heap := s3.heap.push { cls := .type "slice", data := .fields #[vl, vu, .none] } } := I3.kept (t' := s3.toks) fun b ob q => Heap.get?_push_of_some _ q
  obtain ⟨T, id, hT, ht, hg⟩ := hr pins { s3 with heap := s3.heap.push { cls := .type "slice", data := .fields #[vl, vu, .none] } } σ H3 x v vl vu l u s3.heap.objs.size Q I4 r1 (Heap.IsSliceOf.new ..) pl pu q3
  show wpAny (model X.prog X.w) X.A (subscriptTail e (.Slice lo hi none p2) v (.ref s3.heap.objs.size)) (EP X pins σ Q) X.xe { s3 with heap := s3.heap.push { cls := .type "slice", data := .fields #[vl, vu, .none] } }
  exact tail_any (ops := [.ref s3.heap.objs.size, v]) ht hT hg (by with_unfolding_all rfl)

/-- the items of xs[lo:hi] -/
def cutV (xs : List V) (lo hi : Option Int) : List V := (xs.drop (HT.sIx xs.length 0 lo)).take (HT.sIx xs.length xs.length hi - HT.sIx xs.length 0 lo)
theorem cutV_length (xs : List V) (lo hi : Option Int) : (cutV xs lo hi).length ≤ xs.length := by
  unfold cutV
  rw [List.length_take, List.length_drop]
  omega
/-- t[lo:hi], not the whole of it (the whole would be t itself) -/
def rSlT (K : PySem.W.Frag) : V → Option Int → Option Int → Hp → VK → Prop := fun x lo hi H Q => ∃ a xs, x = .ref a ∧ SqT K H a xs ∧
  ¬ (HT.sIx xs.length 0 lo = 0 ∧ HT.sIx xs.length xs.length hi = xs.length) ∧ ∀ p, H p = none → Q (.ref p) (upd H p (.tup (cutV xs lo hi)))
theorem sl_tup : SlR X (rSlT X.K) := by
  intro pins s σ H x v vl vu lo hi sl Q I rx hs pl pu h
  obtain ⟨a, xs, rfl, hx, hw, q⟩ := h
  cases rx
  obtain ⟨its, r, ht, hz⟩ := I.tuple hx
  have hlen : its.toArray.size = xs.length := by rw [List.size_toArray]; exact r.length.symm
  refine ⟨"tuple", _, PyProof.Rows.slot_tuple_getitem.lookup, ht.typeIs, ?_⟩
  refine HT.getItem_tuple_cut ht hs pl pu (by rw [hlen]; exact hw) ?_ (by rw [hlen]; exact hz)
  rw [hlen]
  refine ⟨.ref s.heap.objs.size, _, I.laid (t' := s.toks) (o := .tup (cutV xs lo hi)) (fun b ob q => Heap.get?_push_of_some _ q) (Nat.le_refl _) ?_, rfl, q _ (I.hok.fresh (Nat.le_refl _))⟩
  exact ⟨Nat.le_trans (cutV_length xs lo hi) hz, _, (r.drop (HT.sIx xs.length 0 lo)).take (HT.sIx xs.length xs.length hi - HT.sIx xs.length 0 lo), IsTup.new _ _⟩

/-! ### t < u, t + u -/
def rLtT (K : PySem.W.Frag) : R2 := fun x y H Q => ∃ a b ns ms, x = .ref a ∧ y = .ref b ∧ SqT K H a (ns.map V.int) ∧ SqT K H b (ms.map V.int) ∧ Q (.bl (HT.lexLt ns ms)) H
theorem op_ltT (hu : X.A.units < cLine) : OpR X (compareOp .Lt) (rLtT X.K) := by
  intro pins s σ H x y v u Q I rx ry h
  obtain ⟨a, b, ns, ms, rfl, rfl, ha, hb, q⟩ := h
  cases rx
  cases ry
  obtain ⟨its, r1, p1, _⟩ := I.tuple ha
  obtain ⟨its2, r2, p2, _⟩ := I.tuple hb
  have i1 : IntsAre its.toArray.toList ns := intsAre_of r1
  have i2 : IntsAre its2.toArray.toList ms := intsAre_of r2
  exact HT.lt_tupInts p1 p2 i1 i2 hu ⟨.bl (HT.lexLt ns ms), H, I, rfl, q⟩
/-- t + u, t not empty: u empty gives t itself -/
def rCatT (K : PySem.W.Frag) : R2 := fun x y H Q => ∃ a b xs ys, x = .ref a ∧ y = .ref b ∧ SqT K H a xs ∧ SqT K H b ys ∧ xs ≠ [] ∧ xs.length + ys.length ≤ sizeLine ∧
  (ys = [] → Q (.ref a) H) ∧ (ys ≠ [] → ∀ p, H p = none → Q (.ref p) (upd H p (.tup (xs ++ ys))))
theorem Vals.nil_iff {xs : List V} {us : List Value} (r : Vals xs us) : us = [] ↔ xs = [] := by
  cases r with
  | nil => simp
  | cons _ _ => simp
theorem op_catT : OpR X (binaryOp .Add) (rCatT X.K) := by
  intro pins s σ H x y v u Q I rx ry h
  obtain ⟨a, b, xs, ys, rfl, rfl, ha, hb, hx, hz, q1, q2⟩ := h
  cases rx
  cases ry
  obtain ⟨its, r1, p1, _⟩ := I.tuple ha
  obtain ⟨its2, r2, p2, _⟩ := I.tuple hb
  refine HT.cat_tup p1 p2 (fun z => hx (r1.nil_iff.mp z)) (fun z => ⟨.ref a, H, I, rfl, q1 (r2.nil_iff.mp z)⟩) (fun z => ?_) (by rw [← r1.length, ← r2.length]; exact hz)
  refine ⟨.ref s.heap.objs.size, _, I.laid (t' := s.toks) (o := .tup (xs ++ ys)) (fun b ob q => Heap.get?_push_of_some _ q) (Nat.le_refl _) ?_, rfl, q2 (fun w => z (r2.nil_iff.mpr w)) _ (I.hok.fresh (Nat.le_refl _))⟩
  exact ⟨by rw [List.length_append]; exact hz, _, r1.append r2, IsTup.new _ _⟩
/-- tuple(t) -/
theorem call_tupleT : CallR X (.type "tuple") (fun xs H Q => ∃ a ys, xs = [.ref a] ∧ SqT X.K H a ys ∧ Q (.ref a) H) := by
  intro pins s σ H xs us Q I r h
  obtain ⟨a, ys, rfl, ha, q⟩ := h
  obtain ⟨u, rfl, ru⟩ := vals1 r
  cases ru
  obtain ⟨its, _, p1, _⟩ := I.tuple ha
  exact call_tuple_same (items := its.toArray) p1 ⟨.ref a, H, I, rfl, q⟩
end
end L2

namespace L2
open PySem PySem.Spec PyProof.Rows

/-! ### places -/
/-- the place that an index of any sign means -/
def ixN (n : Nat) (i : Int) : Option Nat := if 0 ≤ i then (if i < n then some i.toNat else none) else if -(n : Int) ≤ i then some (i + n).toNat else none
def atI {α : Type} (xs : List α) (i : Int) : Option α := (ixN xs.length i).bind fun j => xs[j]?
theorem ixN_seq {n : Nat} {i : Int} {j : Nat} (h : ixN n i = some j) : seqIndex? i n = some j ∧ j < n ∧ -(n : Int) ≤ i ∧ i < n := by
  unfold ixN at h
  by_cases h0 : 0 ≤ i
  · rw [if_pos h0] at h
    by_cases h1 : i < n
    · rw [if_pos h1] at h
      have e : i.toNat = j := Option.some.inj h
      exact ⟨by rw [seqIndex_of h0 h1, e], by omega, by omega, h1⟩
    · rw [if_neg h1] at h; cases h
  · rw [if_neg h0] at h
    by_cases h1 : -(n : Int) ≤ i
    · rw [if_pos h1] at h
      have e : (i + n).toNat = j := Option.some.inj h
      exact ⟨by rw [seqIndex_neg (by omega) h1, e], by omega, h1, by omega⟩
    · rw [if_neg h1] at h; cases h
theorem atI_get {α : Type} {xs : List α} {i : Int} {v : α} (h : atI xs i = some v) : ∃ j, seqIndex? i xs.length = some j ∧ xs[j]? = some v ∧ j < xs.length ∧ -(xs.length : Int) ≤ i ∧ i < xs.length := by
  unfold atI at h
  cases e : ixN xs.length i with
  | none => rw [e] at h; cases h
  | some j =>
    rw [e] at h
    obtain ⟨h1, h2, h3, h4⟩ := ixN_seq e
    exact ⟨j, h1, h, h2, h3, h4⟩
theorem atI_nat {α : Type} {xs : List α} {j : Nat} {v : α} (h : xs[j]? = some v) : atI xs (j : Int) = some v := by
  have hj : j < xs.length := (List.getElem?_eq_some_iff.mp h).1
  have e : ixN xs.length (j : Int) = some j := by
    unfold ixN
    rw [if_pos (by omega), if_pos (by omega)]; simp
  unfold atI; rw [e]; exact h
theorem atI_last {α : Type} (xs : List α) (v : α) : atI (xs ++ [v]) (-1) = some v := by
  have hl : (xs ++ [v]).length = xs.length + 1 := by simp
  have e : ixN (xs ++ [v]).length (-1) = some xs.length := by
    unfold ixN
    rw [hl, if_neg (by decide), if_pos (by omega)]
    congr 1
    omega
  unfold atI
  rw [e]
  show (xs ++ [v])[xs.length]? = some v
  simp

/-! ### what may be subscripted -/
/-- what stands as an index of a plain subscript -/
def PlainIx (b : Expr) : Prop := ∀ o i, subscripted b false o i = operate [o, i] (getItem o i)
/-- a subscript by values -/
def IxR (X : Cx) (r : R2) : Prop :=
  ∀ (value slice : Expr) (pins : List (Addr × Obj)) (s : Shared) (σ : St) (H : Hp) (x y : V) (v u : Value) (Q : VK), Inv X pins σ H s → RelV x v → RelV y u → r x y H Q →
    subscripted slice false v u = operate [v, u] (getItem v u) → wpAny (model X.prog X.w) X.A (subscriptTail value slice v u) (EP X pins σ Q) X.xe s
/-- a call of a builtin's method by values: the receiver, the arguments -/
def MtR (X : Cx) (id : String) (r : V → List V → Hp → VK → Prop) : Prop :=
  ∀ (pins : List (Addr × Obj)) (s : Shared) (σ : St) (H : Hp) (x : V) (xs : List V) (v : Value) (us : List Value) (Q : VK), Inv X pins σ H s → RelV x v → Vals xs us → r x xs H Q →
    wpAny (model X.prog X.w) X.A (call (.builtin id) (v :: us)) (EP X pins σ Q) X.xe s
section
variable {X : Cx} {a b : Expr} {ta tb : TE} {pos : Pos}
theorem IxR.or {r r' : R2} (h : IxR X r) (h' : IxR X r') : IxR X (fun x y H Q => r x y H Q ∨ r' x y H Q) := by
  intro value slice pins s σ H x y v u Q I rx ry q hs
  rcases q with q | q
  · exact h value slice pins s σ H x y v u Q I rx ry q hs
  · exact h' value slice pins s σ H x y v u Q I rx ry q hs
theorem MtR.or {id : String} {r r' : V → List V → Hp → VK → Prop} (h : MtR X id r) (h' : MtR X id r') : MtR X id (fun x xs H Q => r x xs H Q ∨ r' x xs H Q) := by
  intro pins s σ H x xs v us Q I rx rs q
  rcases q with q | q
  · exact h pins s σ H x xs v us Q I rx rs q
  · exact h' pins s σ H x xs v us Q I rx rs q
/-- a[b] -/
theorem pe_ix {r : R2} (hr : IxR X r) (ha : PE X a ta) (hb : PE X b tb) (hs : PlainIx b) : PE X (.Subscript a b pos) (tOp r ta tb) := by
  intro pins s σ H Q I h
  exact Subscript_ (binT ha hb I h fun v u s2 x y H2 I2 rx ry q => hr a b pins s2 σ H2 x y v u Q I2 rx ry q (hs _ _))

def rIxL (K : PySem.W.Frag) : R2 := fun x y H Q => ∃ p xs i v, x = .ref p ∧ y = .int i ∧ SqL K H p xs ∧ atI xs i = some v ∧ Q v H
def rIxT (K : PySem.W.Frag) : R2 := fun x y H Q => ∃ p xs i v, x = .ref p ∧ y = .int i ∧ SqT K H p xs ∧ atI xs i = some v ∧ Q v H
def rIxS : R2 := fun x y H Q => ∃ z i c, x = .str z ∧ y = .int i ∧ z.length ≤ sizeLine ∧ atI z.cps.toList i = some c ∧ Q (.str ⟨#[c]⟩) H
theorem ix_list : IxR X (rIxL X.K) := by
  intro value slice pins s σ H x y v u Q I rx ry h hs
  obtain ⟨p, xs, i, z, rfl, rfl, hq, he, q⟩ := h
  cases rx
  obtain ⟨t, rfl⟩ := ry
  obtain ⟨its, r, pl, hz⟩ := I.list hq
  obtain ⟨j, h1, h2, h3, h4, h5⟩ := atI_get he
  obtain ⟨w, ew, rw'⟩ := r.get h2
  have hl := r.length
  have hn := line63
  have fin : EP X pins σ Q w s := ⟨z, H, I, rw', q⟩
  by_cases h0 : 0 ≤ i
  · have hj : i.toNat = j := by
      rw [seqIndex_of h0 h5] at h1
      exact Option.some.inj h1
    exact item_listR pl.isList h0 (by omega) (by rw [hj]; simpa using ew) fin hs
  · have hj : (i + (its.toArray.size : Int)).toNat = j := by
      rw [seqIndex_neg (by omega) h4] at h1
      rw [List.size_toArray, ← hl]
      exact Option.some.inj h1
    exact subscriptTail_builtinR (x := w) pl.isList.typeIs slot_list_getitem.lookup
      (wpAny_getItem_list_neg (Q := fun r s' => r = w ∧ EP X pins σ Q r s') pl.isList (by omega) (by rw [List.size_toArray] <;> omega) (by omega) (by rw [hj]; simpa using ew) ⟨rfl, fin⟩) hs
theorem ix_tup : IxR X (rIxT X.K) := by
  intro value slice pins s σ H x y v u Q I rx ry h hs
  obtain ⟨p, xs, i, z, rfl, rfl, hq, he, q⟩ := h
  cases rx
  obtain ⟨t, rfl⟩ := ry
  obtain ⟨its, r, pl, hz⟩ := I.tuple hq
  obtain ⟨j, h1, h2, h3, h4, h5⟩ := atI_get he
  obtain ⟨w, ew, rw'⟩ := r.get h2
  have hl := r.length
  have hn := line63
  have fin : EP X pins σ Q w s := ⟨z, H, I, rw', q⟩
  exact subscriptTail_builtinR (x := w) pl.typeIs slot_tuple_getitem.lookup
    (getItem_tuple (j := j) (Q := fun r s' => r = w ∧ EP X pins σ Q r s') pl (by omega) (by omega) (by rw [List.size_toArray, ← hl]; exact h1) (by simpa using ew) ⟨rfl, fin⟩) hs
theorem ix_str : IxR X rIxS := by
  intro value slice pins s σ H x y v u Q I rx ry h hs
  obtain ⟨z, i, c, rfl, rfl, hz, he, q⟩ := h
  obtain ⟨t, rfl⟩ := rx
  obtain ⟨t', rfl⟩ := ry
  obtain ⟨j, h1, h2, h3, h4, h5⟩ := atI_get he
  have hl : z.cps.toList.length = z.length := by simp [Str.length]
  rw [hl] at h1 h4 h5
  have hn := line63
  exact tail_any (typeIs_str s z t) slot_str_getitem.lookup (getItem_str (c := c) (by
    have e1 : decide (i < -(2 ^ 63 : Int)) = false := decide_eq_false (by omega)
    have e2 : decide (i ≥ 2 ^ 63) = false := decide_eq_false (by omega)
    rw [e1, e2, Bool.or_false]) (by rw [h1]; simpa using h2) ⟨.str ⟨#[c]⟩, H, I.tok _, ⟨_, rfl⟩, q⟩) hs
/-- list, tuple or str -/
def rIx (K : PySem.W.Frag) : R2 := fun x y H Q => rIxL K x y H Q ∨ rIxT K x y H Q ∨ rIxS x y H Q
theorem ix_seq : IxR X (rIx X.K) := ix_list.or (ix_tup.or ix_str)

/-! ### xs[i] = v, any sign -/
/-- the list's object behind a store -/
theorem mapSeq_set (its : List Value) (n j : Nat) (u : Value) : Obj.mapSeq (·.setIfInBounds j u) { cls := .type "list", data := .seq its.toArray n } = { cls := .type "list", data := .seq (its.set j u).toArray n } := by
  simp [Obj.mapSeq]
theorem Inv.lst {pins : List (Addr × Obj)} {σ : St} {H : Hp} {s : Shared} {p : Addr} {xs : List V} (I : Inv X pins σ H s) (h : H p = some (.lst xs)) :
    ∃ (its : List Value) (n : Nat), Vals xs its ∧ s.heap.get? p = some { cls := .type "list", data := .seq its.toArray n } ∧ xs.length ≤ sizeLine := by
  obtain ⟨z, its, n, r, e⟩ := I.hok p _ h
  exact ⟨its, n, r, e, z⟩
/-- the list at p is written by an update of its object -/
theorem Inv.lstUpd {pins : List (Addr × Obj)} {σ : St} {H : Hp} {s : Shared} {p : Addr} {xs ys : List V} {its its' : List Value} {n n' : Nat} {f : Obj → Obj} (I : Inv X pins σ H s) (h : H p = some (.lst xs))
    (ho : s.heap.get? p = some { cls := .type "list", data := .seq its.toArray n }) (hf : f { cls := .type "list", data := .seq its.toArray n } = { cls := .type "list", data := .seq its'.toArray n' }) (r : Vals ys its') (hz : ys.length ≤ sizeLine) (t : Nat) :
    Inv X pins σ (upd H p (.lst ys)) { s with heap := s.heap.update p f, toks := t } := by
  have e : (s.heap.update p f).get? p = some { cls := .type "list", data := .seq its'.toArray n' } := by
    rw [Heap.get?_update_self f ho (by rw [hf] <;> rfl), hf]
  refine I.write (x := p) (e := p) (by rw [h]; trivial) (.inl rfl) (fun b u hb q => (Heap.get?_update_other _ _ (Ne.symm hb)).trans q) ⟨_, e⟩ ?_
  exact ⟨hz, its', n', r, e⟩
def rSetL : V → V → V → Hp → (Hp → Prop) → Prop := fun o i v H Q => ∃ p xs k j, o = .ref p ∧ i = .int k ∧ H p = some (.lst xs) ∧ ixN xs.length k = some j ∧ Q (upd H p (.lst (xs.set j v)))
theorem set_list : PSet X rSetL := by
  intro pins s σ H o i v ov iv u Q I ro ri rv h
  obtain ⟨p, xs, k, j, rfl, rfl, hp, hj, q⟩ := h
  cases ro
  obtain ⟨t, rfl⟩ := ri
  obtain ⟨its, n, r, ho, hz⟩ := I.lst hp
  obtain ⟨h1, h2, h3, h4⟩ := ixN_seq hj
  have hl := r.length
  have hn := line63
  have I' : Inv X pins σ (upd H p (.lst (xs.set j v))) { s with heap := s.heap.update p (Obj.mapSeq (·.setIfInBounds j u)) } :=
    I.lstUpd hp ho (mapSeq_set its n j u) (r.set rv j) (by rw [List.length_set]; exact hz) s.toks
  by_cases h0 : 0 ≤ k
  · have hk : k.toNat = j := by
      rw [seqIndex_of h0 h4] at h1
      exact Option.some.inj h1
    exact PySem.W.ki_setAt ho h0 (by omega) (by rw [List.size_toArray, ← hl]; exact h4) (by rw [hk]; exact ⟨_, I', q⟩)
  · have hk : (k + (its.toArray.size : Int)).toNat = j := by
      rw [seqIndex_neg (by omega) h3] at h1
      rw [List.size_toArray, ← hl]
      exact Option.some.inj h1
    exact PySem.W.ki_setBack ho (by omega) (by rw [List.size_toArray, ← hl]; exact h3) (by omega) (by rw [hk]; exact ⟨_, I', q⟩)

/-! ### slices -/
theorem slice_bounds (lo hi : Option Int) (n : Nat) : (sliceBounds lo hi none n).1 = ((HT.sIx n 0 lo : Nat) : Int) ∧ (sliceBounds lo hi none n).2.1 = ((HT.sIx n n hi : Nat) : Int) ∧ (sliceBounds lo hi none n).2.2 = 1 := by
  refine ⟨?_, ?_, rfl⟩
  · cases lo with
    | none => simp [sliceBounds, HT.sIx]
    | some i =>
      simp only [sliceBounds, HT.sIx, Option.getD_none, show (1 : Int) > 0 by decide, if_true]
      by_cases h : i < 0
      · simp only [h, if_true] <;> omega
      · simp only [h, if_false] <;> omega
  · cases hi with
    | none => simp [sliceBounds, HT.sIx]
    | some i =>
      simp only [sliceBounds, HT.sIx, Option.getD_none, show (1 : Int) > 0 by decide, if_true]
      by_cases h : i < 0
      · simp only [h, if_true] <;> omega
      · simp only [h, if_false] <;> omega
theorem slicePick_cut (its : List Value) (lo hi : Option Int) : slicePick its.toArray lo hi none = ((its.drop (HT.sIx its.length 0 lo)).take (HT.sIx its.length its.length hi - HT.sIx its.length 0 lo)).toArray := by
  obtain ⟨h1, h2, h3⟩ := slice_bounds lo hi its.toArray.size
  unfold slicePick
  rw [h1, h2, h3]
  simp only [sliceRange_one, pick_run, List.size_toArray] <;> rfl
/-- xs[lo:hi] of a list: a new list -/
def rSlL (K : PySem.W.Frag) : V → Option Int → Option Int → Hp → VK → Prop := fun x lo hi H Q => ∃ a xs, x = .ref a ∧ SqL K H a xs ∧ ∀ p, H p = none → Q (.ref p) (upd H p (.lst (cutV xs lo hi)))
theorem sl_list : SlR X (rSlL X.K) := by
  intro pins s σ H x v vl vu lo hi sl Q I rx hs pl pu h
  obtain ⟨a, xs, rfl, hx, q⟩ := h
  cases rx
  obtain ⟨its, r, ht, hz⟩ := I.list hx
  have hlen := r.length
  refine ⟨"list", _, slot_list_getitem.lookup, ht.isList.typeIs, ?_⟩
  refine wpAny_getItem_list_slice ht.isList hs pl pu .none (by simp) ?_ (by rw [List.size_toArray] <;> omega)
  rw [slicePick_cut, ← hlen]
  refine ⟨.ref s.heap.objs.size, _, I.laid (t' := s.toks) (o := .lst (cutV xs lo hi)) (fun b ob q => Heap.get?_push_of_some _ q) (Nat.le_refl _) ?_, rfl, q _ (I.hok.fresh (Nat.le_refl _))⟩
  exact ⟨Nat.le_trans (cutV_length xs lo hi) hz, _, 0, (r.drop (HT.sIx xs.length 0 lo)).take (HT.sIx xs.length xs.length hi - HT.sIx xs.length 0 lo), Heap.get?_push_size _ rfl⟩

/-! ### in, not in: flat items -/
def flatV : V → Bool
  | .non => true
  | .bl _ => true
  | .int _ => true
  | .str _ => true
  | _ => false
/-- == of flat values -/
def eqV : V → V → Bool
  | .non, .non => true
  | .bl a, .bl b => a == b
  | .bl a, .int b => (if a then 1 else 0) == b
  | .int a, .bl b => a == (if b then 1 else 0)
  | .int a, .int b => a == b
  | .str a, .str b => a == b
  | _, _ => false
theorem eqAt_V {A : Around} {s : Shared} {y x : V} {u v : Value} (ry : RelV y u) (rx : RelV x v) (fy : flatV y = true) (fx : flatV x = true) : SeqAt.EqAt A s u v (eqV y x) := by
  cases y with
  | non =>
    cases ry
    cases x with
    | non => cases rx; exact SeqAt.EqAt.same _
    | bl b => cases rx; exact SeqAt.EqAt.none_bool b
    | int b => obtain ⟨t, rfl⟩ := rx; exact SeqAt.EqAt.none_int b t
    | str b => obtain ⟨t, rfl⟩ := rx; exact SeqAt.EqAt.none_str b t
    | _ => exact absurd (show false = true from fx) Bool.false_ne_true
  | bl a =>
    cases ry
    cases x with
    | non => cases rx; exact SeqAt.EqAt.bool_none a
    | bl b => cases rx; exact SeqAt.EqAt.bool_bool a b
    | int b => obtain ⟨t, rfl⟩ := rx; exact SeqAt.EqAt.bool_int a b t
    | str b => obtain ⟨t, rfl⟩ := rx; exact SeqAt.EqAt.bool_str a b t
    | _ => exact absurd (show false = true from fx) Bool.false_ne_true
  | int a =>
    obtain ⟨t', rfl⟩ := ry
    cases x with
    | non => cases rx; exact SeqAt.EqAt.int_none a t'
    | bl b => cases rx; exact SeqAt.EqAt.int_bool a t' b
    | int b => obtain ⟨t, rfl⟩ := rx; exact SeqAt.EqAt.int_int a t' b t
    | str b => obtain ⟨t, rfl⟩ := rx; exact SeqAt.EqAt.int_str a t' b t
    | _ => exact absurd (show false = true from fx) Bool.false_ne_true
  | str a =>
    obtain ⟨t', rfl⟩ := ry
    cases x with
    | non => cases rx; exact SeqAt.EqAt.str_none a t'
    | bl b => cases rx; exact SeqAt.EqAt.str_bool a t' b
    | int b => obtain ⟨t, rfl⟩ := rx; exact SeqAt.EqAt.str_int a t' b t
    | str b => obtain ⟨t, rfl⟩ := rx; exact SeqAt.EqAt.str_str a t' b t
    | _ => exact absurd (show false = true from fx) Bool.false_ne_true
  | _ => exact absurd (show false = true from fy) Bool.false_ne_true
/-- the items' answers, read off the values (a value's own answer does not lean on its token) -/
def eqU (x : V) (u : Value) : Bool := match u with
  | .none => eqV .non x
  | .bool b => eqV (.bl b) x
  | .int i _ => eqV (.int i) x
  | .str z _ => eqV (.str z) x
  | _ => false
theorem eqU_of {x y : V} {u : Value} (r : RelV y u) (f : flatV y = true) : eqU x u = eqV y x := by
  cases y with
  | non => cases r; rfl
  | bl b => cases r; rfl
  | int i => obtain ⟨t, rfl⟩ := r; rfl
  | str z => obtain ⟨t, rfl⟩ := r; rfl
  | _ => exact absurd (show false = true from f) Bool.false_ne_true
theorem any_eqU {x : V} : ∀ {xs : List V} {us : List Value}, Vals xs us → xs.all flatV = true → us.any (eqU x) = xs.any fun y => eqV y x
  | _, _, .nil, _ => rfl
  | y :: xs, u :: us, .cons r t, f => by
    rw [List.all_cons, Bool.and_eq_true] at f
    rw [List.any_cons, List.any_cons, eqU_of r f.1, any_eqU t f.2]
theorem mem_eqAt {A : Around} {s : Shared} {x : V} {v : Value} (rx : RelV x v) (fx : flatV x = true) : ∀ {xs : List V} {us : List Value}, Vals xs us → xs.all flatV = true → ∀ u ∈ us, SeqAt.EqAt A s u v (eqU x u)
  | _, _, .nil, _ => fun u hu => by cases hu
  | y :: xs, u :: us, .cons r t, f => fun u' hu => by
    rw [List.all_cons, Bool.and_eq_true] at f
    rcases List.mem_cons.mp hu with rfl | hu
    · rw [eqU_of r f.1]; exact eqAt_V r rx f.1 fx
    · exact mem_eqAt rx fx t f.2 u' hu
def inV (x : V) (xs : List V) : Bool := xs.any fun y => eqV y x
/-- x in a list or tuple of flat items -/
def rIn (K : PySem.W.Frag) (neg : Bool) : R2 := fun x y H Q => ∃ p xs, y = .ref p ∧ (SqL K H p xs ∨ SqT K H p xs) ∧ flatV x = true ∧ xs.all flatV = true ∧ Q (.bl (if neg then !inV x xs else inV x xs)) H
theorem op_in_seq : OpR X (compareOp .In) (rIn X.K false) := by
  intro pins s σ H x y v u Q I rx ry h
  obtain ⟨p, xs, rfl, hq, fx, fs, q⟩ := h
  cases ry
  rcases hq with hq | hq
  · obtain ⟨its, r, pl, hz⟩ := I.list hq
    refine SeqAt.in_listAt (eqU x) pl.isList (fun w hw => mem_eqAt rx fx r fs w (by simpa using hw)) ⟨.bl _, H, I, rfl, ?_⟩
    rw [show its.toArray.any (eqU x) = its.any (eqU x) by simp, any_eqU r fs]
    exact q
  · obtain ⟨its, r, pl, hz⟩ := I.tuple hq
    refine SeqAt.in_tupleAt (eqU x) pl (fun w hw => mem_eqAt rx fx r fs w (by simpa using hw)) ⟨.bl _, H, I, rfl, ?_⟩
    rw [show its.toArray.any (eqU x) = its.any (eqU x) by simp, any_eqU r fs]
    exact q
theorem op_notIn_seq : OpR X (compareOp .NotIn) (rIn X.K true) := by
  intro pins s σ H x y v u Q I rx ry h
  obtain ⟨p, xs, rfl, hq, fx, fs, q⟩ := h
  cases ry
  rcases hq with hq | hq
  · obtain ⟨its, r, pl, hz⟩ := I.list hq
    refine SeqAt.notIn_listAt (eqU x) pl.isList (fun w hw => mem_eqAt rx fx r fs w (by simpa using hw)) ⟨.bl _, H, I, rfl, ?_⟩
    rw [show its.toArray.any (eqU x) = its.any (eqU x) by simp, any_eqU r fs]
    exact q
  · obtain ⟨its, r, pl, hz⟩ := I.tuple hq
    refine SeqAt.notIn_tupleAt (eqU x) pl (fun w hw => mem_eqAt rx fx r fs w (by simpa using hw)) ⟨.bl _, H, I, rfl, ?_⟩
    rw [show its.toArray.any (eqU x) = its.any (eqU x) by simp, any_eqU r fs]
    exact q
theorem op_notIn_str : OpR X (compareOp .NotIn) (fun x y H Q => ∃ i j, x = .str i ∧ y = .str j ∧ Q (.bl (!(!(Builtin.Str.occurrences j i 0 j.length 1).isEmpty))) H) := by
  intro pins s σ H x y v u Q I rx ry h
  obtain ⟨i, j, rfl, rfl, q⟩ := h
  obtain ⟨t, rfl⟩ := rx
  obtain ⟨t', rfl⟩ := ry
  exact notIn_str ⟨.bl _, H, I, rfl, q⟩

/-! ### len, list(x), tuple(x) of any list or tuple that is read -/
theorem call_len_seq : CallR X (.builtin "len") (fun xs H Q => ∃ p ys, xs = [.ref p] ∧ (SqL X.K H p ys ∨ SqT X.K H p ys) ∧ Q (.int ys.length) H) := by
  intro pins s σ H xs us Q I r h
  obtain ⟨p, ys, rfl, hq, q⟩ := h
  obtain ⟨u, rfl, rx⟩ := vals1 r
  cases rx
  have hn := line63
  rcases hq with hq | hq
  · obtain ⟨its, r', pl, hz⟩ := I.list hq
    have hlen := r'.length
    exact Calls.call_len_list pl.isList (by simp only [List.size_toArray] <;> omega) ⟨.int ys.length, H, I.tok _, ⟨s.toks + 1, by rw [List.size_toArray, hlen]⟩, q⟩
  · obtain ⟨its, r', pl, hz⟩ := I.tuple hq
    have hlen := r'.length
    exact len_tuple pl (by simp only [List.size_toArray] <;> omega) ⟨.int ys.length, H, I.tok _, ⟨s.toks + 1, by rw [List.size_toArray, hlen]⟩, q⟩
theorem call_len_str : CallR X (.builtin "len") (fun xs H Q => ∃ z, xs = [.str z] ∧ z.length ≤ sizeLine ∧ Q (.int z.length) H) := by
  intro pins s σ H xs us Q I r h
  obtain ⟨z, rfl, hz, q⟩ := h
  obtain ⟨u, rfl, t, rfl⟩ := vals1 r
  have hn := line63
  exact len_str (by omega) ⟨.int z.length, H, I.tok _, ⟨_, rfl⟩, q⟩
theorem CallR.or {f : Value} {r r' : List V → Hp → VK → Prop} (h : CallR X f r) (h' : CallR X f r') : CallR X f (fun xs H Q => r xs H Q ∨ r' xs H Q) := by
  intro pins s σ H xs us Q I rs q
  rcases q with q | q
  · exact h pins s σ H xs us Q I rs q
  · exact h' pins s σ H xs us Q I rs q
theorem call_list_of : CallR X (.type "list") (fun xs H Q => ∃ p ys, xs = [.ref p] ∧ (SqL X.K H p ys ∨ SqT X.K H p ys) ∧ ∀ l, H l = none → Q (.ref l) (upd H l (.lst ys))) := by
  intro pins s σ H xs us Q I r h
  obtain ⟨p, ys, rfl, hq, q⟩ := h
  obtain ⟨u, rfl, rx⟩ := vals1 r
  cases rx
  have fin : ∀ (its : List Value), Vals ys its → ys.length ≤ sizeLine → ∀ (h' : Heap) (c' : Nat), (∀ b o', s.heap.get? b = some o' → h'.get? b = some o') →
      h'.get? s.heap.objs.size = some { cls := .type "list", dict := none, data := .seq its.toArray c', slots := #[] } → EP X pins σ Q (.ref s.heap.objs.size) { s with heap := h' } := fun its r' hz h' c' kp e =>
    ⟨.ref s.heap.objs.size, _, I.laid (t' := s.toks) kp (Nat.le_refl _) (show ObjOk X.prog X.w _ h' _ (.lst ys) from ⟨hz, its, c', r', e⟩), rfl, q _ (I.hok.fresh (Nat.le_refl _))⟩
  rcases hq with hq | hq
  · obtain ⟨its, r', pl, hz⟩ := I.list hq
    have hlen := r'.length
    obtain ⟨o, ho, hc, n, hd⟩ := pl.isList
    exact call_list_seq p (.inl rfl) ho hc hd (fun h' c' kp e => fin its r' hz h' c' kp e) (by simp only [List.size_toArray] <;> omega)
  · obtain ⟨its, r', pl, hz⟩ := I.tuple hq
    have hlen := r'.length
    obtain ⟨o, ho, hc, n, hd⟩ := pl
    exact call_list_seq p (.inr rfl) ho hc hd (fun h' c' kp e => fin its r' hz h' c' kp e) (by simp only [List.size_toArray] <;> omega)
theorem call_tuple_of : CallR X (.type "tuple") (fun xs H Q => ∃ p ys, xs = [.ref p] ∧ ((SqL X.K H p ys ∧ ∀ l, H l = none → Q (.ref l) (upd H l (.tup ys))) ∨ (SqT X.K H p ys ∧ Q (.ref p) H))) := by
  intro pins s σ H xs us Q I r h
  obtain ⟨p, ys, rfl, h⟩ := h
  obtain ⟨u, rfl, rx⟩ := vals1 r
  cases rx
  rcases h with ⟨hq, q⟩ | ⟨hq, q⟩
  · obtain ⟨its, r', pl, hz⟩ := I.list hq
    have hlen := r'.length
    refine call_tuple_list pl.isList (fun h' kp => ?_) (by simp only [List.size_toArray] <;> omega)
    have I1 : Inv X pins σ H { s with heap := h' } := I.kept (t' := s.toks) kp
    have I2 : Inv X pins σ (upd H h'.objs.size (.tup ys)) { s with heap := h'.push { cls := .type "tuple", data := .seq its.toArray } } :=
      I1.laid (t' := s.toks) (fun b o e => Heap.get?_push_of_some _ e) (Nat.le_refl _) (show ObjOk X.prog X.w _ _ _ (.tup ys) from ⟨hz, its, r', IsTup.new _ _⟩)
    exact ⟨.ref h'.objs.size, _, I2, rfl, q _ (I1.hok.fresh (Nat.le_refl _))⟩
  · obtain ⟨its, r', pl, hz⟩ := I.tuple hq
    exact call_tuple_same pl ⟨.ref p, H, I, rfl, q⟩

/-! ### the call of a builtin's method: o.m(..) -/
/-- the value is of that builtin type -/
def tyV (K : PySem.W.Frag) (T : String) (x : V) (H : Hp) : Prop := match x with
  | .str _ => T = "str"
  | .int _ => T = "int"
  | .ref p => (T = "list" ∧ ∃ xs, SqL K H p xs) ∨ (T = "tuple" ∧ ∃ o, K.lookup p = some o ∧ o.cls = .type "tuple" ∧ o.dict = none) ∨
      (T = "dict" ∧ ((∃ kvs, H p = some (.dK kvs)) ∨ ∃ kvs, H p = some (.dT kvs))) ∨ (T = "set" ∧ ∃ S n, H p = some (.set S n))
  | _ => False
theorem tyV_is {pins : List (Addr × Obj)} {σ : St} {H : Hp} {s : Shared} {T : String} {x : V} {v : Value} (I : Inv X pins σ H s) (r : RelV x v) (ty : tyV X.K T x H) :
    s.TypeIs v T ∧ ∀ a, v = .ref a → ∃ ob, s.heap.get? a = some ob ∧ ob.dict = none := by
  cases x with
  | str z =>
    obtain ⟨t, rfl⟩ := r
    cases (show T = "str" from ty)
    exact ⟨typeIs_str s z t, fun _ e => nomatch e⟩
  | int i =>
    obtain ⟨t, rfl⟩ := r
    cases (show T = "int" from ty)
    exact ⟨typeIs_int s i t, fun _ e => nomatch e⟩
  | ref p =>
    cases r
    rcases ty with ⟨rfl, xs, hq⟩ | ⟨rfl, o, hk, hc, hd⟩ | ⟨rfl, hk⟩ | ⟨rfl, S, n, hk⟩
    · obtain ⟨its, _, pl, _⟩ := I.list hq
      refine ⟨pl.isList.typeIs, fun a e => ?_⟩
      cases e
      obtain ⟨o, n, e, c, hd, _⟩ := pl
      exact ⟨o, e, hd⟩
    · refine ⟨⟨o, I.kIn p o hk, hc⟩, fun a e => ?_⟩
      cases e
      exact ⟨o, I.kIn _ o hk, hd⟩
    · have z : ∃ o, s.heap.get? p = some o ∧ o.ExactDict := by
        rcases hk with ⟨kvs, hk⟩ | ⟨kvs, hk⟩
        · obtain ⟨_, _, _, _, o, _, _, e, ex, _⟩ := I.hok p _ hk
          exact ⟨o, e, ex⟩
        · obtain ⟨_, _, _, _, o, _, _, e, ex, _⟩ := I.hok p _ hk
          exact ⟨o, e, ex⟩
      obtain ⟨o, e, ex⟩ := z
      refine ⟨⟨o, e, ex.1⟩, fun a e2 => ?_⟩
      cases e2
      exact ⟨o, e, ex.2.1⟩
    · obtain ⟨o, _, _, _, e, ex, _⟩ := I.hok p _ hk
      refine ⟨⟨o, e, ex.1⟩, fun a e2 => ?_⟩
      cases e2
      exact ⟨o, e, ex.2.1⟩
  | _ => exact False.elim ty
def tBM0 (K : PySem.W.Frag) (T : String) (r : V → List V → Hp → VK → Prop) (to : TE) : TE := fun σ H Q => to σ H fun x H1 => tyV K T x H1 ∧ r x [] H1 Q
def tBM (K : PySem.W.Frag) (T : String) (r : V → List V → Hp → VK → Prop) (to : TE) (t : TA) : TE := fun σ H Q => to σ H fun x H1 => tyV K T x H1 ∧ t σ H1 fun xs H2 => r x xs H2 Q
variable {o e : Expr} {es : List Expr} {to : TE} {t : TA} {name : Str} {apos cpos : Pos} {T id : String} {r : V → List V → Hp → VK → Prop}
theorem pe_bm0 (pa : PlainAttrs T) (slot : Slot T name id) (hty : typeOf (.builtin id) = pure (.type "method_descriptor")) (hm : MtR X id r) (ho : PE X o to)
    (hbase : attributeBase o name X.env (eval o X.env) = eval o X.env := by rfl) (hline : (apos.endLine == cpos.line) = true := by rfl) : PE X (.Call (.Attribute o name apos) [] [] cpos) (tBM0 X.K T r to) := by
  intro pins s σ H Q I h
  refine wpAny_Call_method0_late hbase hline (thn (ho pins s σ H _ I h) fun v s1 ⟨x, H1, I1, r1, ty, q1⟩ => ?_)
  obtain ⟨h1, h2⟩ := tyV_is I1 r1 ty
  exact ⟨T, id, pa, slot, hty, h1, h2, Calls.callWith_builtin rfl (PySem.evalArgs_none (hm pins s1 σ H1 x [] v [] Q I1 r1 .nil q1))⟩
theorem pe_bm (pa : PlainAttrs T) (slot : Slot T name id) (hty : typeOf (.builtin id) = pure (.type "method_descriptor")) (hm : MtR X id r) (ho : PE X o to) (ha : PA X (e :: es) t)
    (hbase : attributeBase o name X.env (eval o X.env) = eval o X.env := by rfl)
    (hfew : ((backTo cpos (starEach (e :: es) X.env)).all (fun x => !x.1) && (backToKw cpos (keywordEach [] X.env)).all (fun x => x.1.isSome)
      && decide ((e :: es).length + ([] : List Keyword).length + (if ([] : List Keyword).isEmpty then 0 else 1) < 30)) = true := by rfl)
    (hline : (apos.endLine == cpos.line) = true := by rfl) (hs : starEach (e :: es) X.env = (false, eval e X.env) :: starEach es X.env := by rfl) (hplain : (backTo cpos (starEach es X.env)).any (·.1) = false := by rfl) :
    PE X (.Call (.Attribute o name apos) (e :: es) [] cpos) (tBM X.K T r to t) := by
  intro pins s σ H Q I h
  refine wpAny_Call_method_late hbase hfew hline rfl (thn (ho pins s σ H _ I h) fun v s1 ⟨x, H1, I1, r1, ty, q1⟩ => ?_)
  obtain ⟨h1, h2⟩ := tyV_is I1 r1 ty
  refine ⟨T, id, pa, slot, hty, h1, h2, ?_⟩
  have hA := ha cpos pins s1 σ H1 _ I1 q1
  rw [hs] at hA ⊢
  refine Calls.callWith_builtin (by show (false || (backTo cpos (starEach es X.env)).any (·.1)) = false; rw [hplain] <;> rfl) (Calls.evalArgs_plain ?_)
  exact thn hA fun us s2 ⟨vs, H2, I2, r2, q2⟩ => hm pins s2 σ H2 x vs v us Q I2 r1 r2 q2
/- xs.append(e), list.index on a module's tuple .. are MtR facts of 06m -/
end
end L2

namespace L2
open PySem PySem.Spec PyProof.Rows

def MtM (X : Cx) (id : String) (r : V → List V → Hp → VK → Prop) : Prop :=
  ∀ (pins : List (Addr × Obj)) (s : Shared) (σ : St) (H : Hp) (x : V) (xs : List V) (v : Value) (us : List Value) (Q : VK), Inv X pins σ H s → RelV x v → Vals xs us → r x xs H Q →
    wpAny (model X.prog X.w) X.A (call (.builtin id) (v :: us)) (EP X pins σ Q) X.xe s

/-! ### lists of values -/
theorem Vals.one : ∀ {x : V} {us : List Value}, Vals [x] us → ∃ u, us = [u] ∧ RelV x u
  | _, _, .cons r .nil => ⟨_, rfl, r⟩
theorem Vals.two : ∀ {x y : V} {us : List Value}, Vals [x, y] us → ∃ u v, us = [u, v] ∧ RelV x u ∧ RelV y v
  | _, _, _, .cons r (.cons q .nil) => ⟨_, _, rfl, r, q⟩
theorem Vals.zero : ∀ {us : List Value}, Vals [] us → us = []
  | _, .nil => rfl
theorem Vals.dropLast {xs : List V} {us : List Value} (h : Vals xs us) : Vals xs.dropLast us.dropLast := by
  induction h with
  | nil => exact .nil
  | cons r t ih =>
    cases t with
    | nil => exact .nil
    | cons q t' => exact .cons r ih
theorem Vals.eraseIdx : ∀ {xs : List V} {us : List Value} (i : Nat), Vals xs us → Vals (xs.eraseIdx i) (us.eraseIdx i)
  | _, _, _, .nil => .nil
  | _, _, 0, .cons _ t => t
  | _, _, i + 1, .cons r t => .cons r (Vals.eraseIdx i t)
theorem Vals.reverse {xs : List V} {us : List Value} (h : Vals xs us) : Vals xs.reverse us.reverse := by
  induction h with
  | nil => exact .nil
  | cons r t ih => rw [List.reverse_cons, List.reverse_cons]; exact Vals.append ih (.cons r .nil)
theorem Vals.rep {xs : List V} {us : List Value} (h : Vals xs us) : ∀ k : Nat, Vals (List.replicate k xs).flatten (List.replicate k us).flatten
  | 0 => .nil
  | k + 1 => by
    rw [List.replicate_succ, List.replicate_succ, List.flatten_cons, List.flatten_cons]
    exact Vals.append h (Vals.rep h k)
theorem erase_last {α : Type} (l : List α) : l.eraseIdx (l.length - 1) = l.dropLast := by
  induction l with
  | nil => rfl
  | cons a r ih =>
    cases r with
    | nil => rfl
    | cons b r =>
      have e : (a :: b :: r).length - 1 = ((b :: r).length - 1) + 1 := by
        have h1 : (a :: b :: r).length = r.length + 2 := rfl
        have h2 : (b :: r).length = r.length + 1 := rfl
        omega
      rw [e, List.eraseIdx_cons_succ, ih]
      all_goals rfl
theorem len_erase {α : Type} : ∀ (l : List α) (i : Nat), (l.eraseIdx i).length ≤ l.length
  | [], _ => Nat.le_refl _
  | _ :: _, 0 => Nat.le_succ _
  | _ :: r, i + 1 => Nat.succ_le_succ (len_erase r i)
theorem foldl_rep (its : List Value) : ∀ (k : Nat) (acc : List Value),
    List.foldl (fun x1 x2 => x1 ++ x2) acc.toArray (List.replicate k its.toArray) = (acc ++ (List.replicate k its).flatten).toArray
  | 0, acc => by simp
  | k + 1, acc => by
    have e : acc.toArray ++ its.toArray = (acc ++ its).toArray := by simp
    have e2 : (acc ++ its) ++ (List.replicate k its).flatten = acc ++ (List.replicate (k + 1) its).flatten := by
      rw [List.replicate_succ, List.flatten_cons, List.append_assoc]
    rw [← e2, ← foldl_rep its k (acc ++ its), ← e, List.replicate_succ, List.foldl_cons]

section
variable {X : Cx} {pins : List (Addr × Obj)} {σ : St} {H : Hp} {s : Shared} {l b : Addr} {xs ys zs : List V}

/-! ### the two steps: a tracked list is rewritten, a new list is laid -/
theorem Inv.lset {its its' : List Value} {n : Nat} {f : Array Value → Array Value} {t' : Nat} (I : Inv X pins σ H s) (hH : H l = some (.lst xs))
    (e : s.heap.get? l = some { cls := .type "list", data := .seq its.toArray n }) (hf : f its.toArray = its'.toArray) (hv : Vals ys its') (hz : ys.length ≤ sizeLine) :
    Inv X pins σ (upd H l (.lst ys)) { s with heap := s.heap.update l (Obj.mapSeq f), toks := t' } := by
  have q := PySem.IsL.update e f
  rw [hf] at q
  refine I.write (x := l) (e := l) (by rw [hH]; exact trivial) (.inl rfl) (fun b' u hb hu => (Heap.get?_update_other s.heap (Obj.mapSeq f) (Ne.symm hb)).trans hu) ⟨_, q⟩ ?_
  exact ⟨hz, its', _, hv, q⟩
theorem Inv.lnew {its : List Value} {t' : Nat} (I : Inv X pins σ H s) (hv : Vals ys its) (hz : ys.length ≤ sizeLine) :
    Inv X pins σ (upd H s.heap.objs.size (.lst ys)) { s with heap := s.heap.push { cls := .type "list", data := .seq its.toArray }, toks := t' } :=
  I.laid (fun _ _ q => Heap.get?_push_of_some _ q) (Nat.le_refl _) ⟨hz, its, 0, hv, Heap.get?_push_size _ rfl⟩
theorem Inv.fresh (I : Inv X pins σ H s) : H s.heap.objs.size = none := I.hok.fresh (Nat.le_refl _)
theorem Inv.lstM (I : Inv X pins σ H s) (hH : H l = some (.lst xs)) : xs.length ≤ sizeLine ∧ ∃ (its : List Value) (n : Nat), Vals xs its ∧ xs.length = its.length ∧ s.heap.get? l = some { cls := .type "list", data := .seq its.toArray n } := by
  obtain ⟨z, its, n, r, e⟩ := I.hok l _ hH
  exact ⟨z, its, n, r, r.length, e⟩

theorem notLongL {n : Nat} (h : n ≤ sizeLine) : Builtin.List.listTooLong n = false := by
  unfold Builtin.List.listTooLong
  exact decide_eq_false (by omega)
end

section
variable {X : Cx}

/-! ### methods -/
def rAppend : V → List V → Hp → VK → Prop := fun x vs H Q => ∃ l xs y, x = .ref l ∧ vs = [y] ∧ H l = some (.lst xs) ∧ xs.length < sizeLine ∧ Q .non (upd H l (.lst (xs ++ [y])))
theorem mt_append : MtM X "list.append" rAppend := by
  intro pins s σ H x vs v us Q I rx rv h
  obtain ⟨l, xs, y, rfl, rfl, hH, hz, q⟩ := h
  cases rx
  obtain ⟨u, rfl, ru⟩ := rv.one
  obtain ⟨z, its, n, r, hl, e⟩ := I.lstM hH
  refine call_meets F.slot_list_append ⟨_, e, rfl⟩ F.entry_list_append (F.args_list_append_2 _ _) (PySem.list_append l its.toArray n u (by rw [List.size_toArray]; omega)) ⟨e, ?_⟩
  refine ⟨.non, _, I.lset (its' := its ++ [u]) hH e (by simp) (r.append (.cons ru .nil)) ?_, rfl, q⟩
  rw [List.length_append, List.length_singleton]
  omega

def rExtend : V → List V → Hp → VK → Prop := fun x vs H Q => ∃ l b xs zs, x = .ref l ∧ vs = [.ref b] ∧ H l = some (.lst xs) ∧ H b = some (.lst zs) ∧ xs.length + zs.length ≤ sizeLine ∧ Q .non (upd H l (.lst (xs ++ zs)))
theorem mt_extend : MtM X "list.extend" rExtend := by
  intro pins s σ H x vs v us Q I rx rv h
  obtain ⟨l, b, xs, zs, rfl, rfl, hH, hB, hz, q⟩ := h
  cases rx
  obtain ⟨u, rfl, ru⟩ := rv.one
  cases ru
  obtain ⟨z, its, n, r, hl, e⟩ := I.lstM hH
  obtain ⟨z2, its2, n2, r2, hl2, e2⟩ := I.lstM hB
  have hsz : its.toArray.size + its2.toArray.size ≤ sizeLine := by rw [List.size_toArray, List.size_toArray]; omega
  have hlong : ¬ (!its.toArray.isEmpty && Builtin.List.listTooLong (its.toArray.size + its2.toArray.size)) = true := by
    rw [notLongL hsz, Bool.and_false]
    exact Bool.false_ne_true
  refine call_meets F.slot_list_extend ⟨_, e, rfl⟩ F.entry_list_extend (F.args_list_extend_2 _ _)
    (AutoSeq1.list_extend_list_list_0 l its.toArray n b its2.toArray n2 hlong (by rw [List.size_toArray]; omega) (by omega)) ⟨e, e2, ?_⟩
  refine ⟨.non, _, I.lset (its' := its ++ its2) hH e (by simp) (r.append r2) ?_, rfl, q⟩
  rw [List.length_append]
  omega

def rPop : V → List V → Hp → VK → Prop := fun x vs H Q => ∃ l xs y, x = .ref l ∧ vs = [] ∧ H l = some (.lst xs) ∧ xs[xs.length - 1]? = some y ∧ Q y (upd H l (.lst xs.dropLast))
theorem mt_pop : MtM X "list.pop" rPop := by
  intro pins s σ H x vs v us Q I rx rv h
  obtain ⟨l, xs, y, rfl, rfl, hH, hy, q⟩ := h
  cases rx
  have hus := rv.zero
  subst hus
  obtain ⟨z, its, n, r, hl, e⟩ := I.lstM hH
  obtain ⟨u, hu, ru⟩ := r.get hy
  have hy' : its.toArray[its.toArray.size - 1]? = some u := by
    show its.toArray[its.length - 1]? = some u
    rw [← Array.getElem?_toList, ← hl]
    exact hu
  refine call_meets F.slot_list_pop ⟨_, e, rfl⟩ F.entry_list_pop (F.args_list_pop_1 _) (MeetsSeq.list_pop_last l its.toArray n u hy' (by rw [List.size_toArray]; omega)) ⟨e, ?_⟩
  refine ⟨y, _, I.lset (its' := its.dropLast) hH e ?_ r.dropLast ?_, ru, q⟩
  · show its.toArray.eraseIdxIfInBounds (its.toArray.size - 1) = its.dropLast.toArray
    rw [List.size_toArray, List.eraseIdxIfInBounds_toArray, erase_last]
  · rw [List.length_dropLast]
    omega

def rPopAt : V → List V → Hp → VK → Prop := fun x vs H Q => ∃ l xs i k y, x = .ref l ∧ vs = [.int i] ∧ H l = some (.lst xs) ∧ -(2 ^ 63) ≤ i ∧ i < 2 ^ 63 ∧ seqIndex? i xs.length = some k ∧ xs[k]? = some y ∧ Q y (upd H l (.lst (xs.eraseIdx k)))
theorem mt_popAt : MtM X "list.pop" rPopAt := by
  intro pins s σ H x vs v us Q I rx rv h
  obtain ⟨l, xs, i, k, y, rfl, rfl, hH, h1, h2, hk, hy, q⟩ := h
  cases rx
  obtain ⟨u, rfl, ru⟩ := rv.one
  obtain ⟨t, rfl⟩ := ru
  obtain ⟨z, its, n, r, hl, e⟩ := I.lstM hH
  obtain ⟨w, hw, rw'⟩ := r.get hy
  refine call_meets F.slot_list_pop ⟨_, e, rfl⟩ F.entry_list_pop (F.args_list_pop_2 _ _)
    (MeetsSeq.list_pop_at l its.toArray n i t k w (fitsIndex_both h1 h2) (by rw [List.size_toArray, ← hl]; exact hk) (by rw [← Array.getElem?_toList]; exact hw) (by rw [List.size_toArray]; omega)) ⟨e, ?_⟩
  refine ⟨y, _, I.lset (its' := its.eraseIdx k) hH e ?_ (r.eraseIdx k) ?_, rw', q⟩
  · show its.toArray.eraseIdxIfInBounds k = (its.eraseIdx k).toArray
    rw [List.eraseIdxIfInBounds_toArray]
  · have := len_erase xs k
    omega

def rReverse : V → List V → Hp → VK → Prop := fun x vs H Q => ∃ l xs, x = .ref l ∧ vs = [] ∧ H l = some (.lst xs) ∧ Q .non (upd H l (.lst xs.reverse))
theorem mt_reverse : MtM X "list.reverse" rReverse := by
  intro pins s σ H x vs v us Q I rx rv h
  obtain ⟨l, xs, rfl, rfl, hH, q⟩ := h
  cases rx
  have hus := rv.zero
  subst hus
  obtain ⟨z, its, n, r, hl, e⟩ := I.lstM hH
  refine call_meets F.slot_list_reverse ⟨_, e, rfl⟩ F.entry_list_reverse (F.args_list_reverse_1 _) (AutoSeq1.list_reverse_list_0 l its.toArray n (by rw [List.size_toArray]; omega)) ⟨e, ?_⟩
  refine ⟨.non, _, I.lset (its' := its.reverse) hH e (by simp) r.reverse ?_, rfl, q⟩
  rw [List.length_reverse]
  omega

def rClear : V → List V → Hp → VK → Prop := fun x vs H Q => ∃ l xs, x = .ref l ∧ vs = [] ∧ H l = some (.lst xs) ∧ Q .non (upd H l (.lst []))
theorem mt_clear : MtM X "list.clear" rClear := by
  intro pins s σ H x vs v us Q I rx rv h
  obtain ⟨l, xs, rfl, rfl, hH, q⟩ := h
  cases rx
  have hus := rv.zero
  subst hus
  obtain ⟨z, its, n, r, hl, e⟩ := I.lstM hH
  refine call_meets F.slot_list_clear ⟨_, e, rfl⟩ F.entry_list_clear (F.args_list_clear_1 _) (AutoSeq1.list_clear_list_0 l its.toArray n (by rw [List.size_toArray]; omega)) ⟨e, ?_⟩
  exact ⟨.non, _, I.lset (its' := []) (ys := []) hH e rfl .nil (Nat.zero_le _), rfl, q⟩

/-! ### list + list, list += list, list * int -/
def rCat : R2 := fun x y H Q => ∃ l b xs zs, x = .ref l ∧ y = .ref b ∧ H l = some (.lst xs) ∧ H b = some (.lst zs) ∧ xs.length + zs.length ≤ sizeLine ∧ ∀ p, H p = none → Q (.ref p) (upd H p (.lst (xs ++ zs)))
theorem op_cat : OpR X (binaryOp .Add) rCat := by
  intro pins s σ H x y v u Q I rx ry h
  obtain ⟨l, b, xs, zs, rfl, rfl, hH, hB, hz, q⟩ := h
  cases rx
  cases ry
  obtain ⟨z, its, n, r, hl, e⟩ := I.lstM hH
  obtain ⟨z2, its2, n2, r2, hl2, e2⟩ := I.lstM hB
  refine PySem.P.add_list e e2 ?_ (by rw [List.size_toArray, List.size_toArray]; omega)
  have ea : its.toArray ++ its2.toArray = (its ++ its2).toArray := by simp
  rw [ea]
  exact ⟨.ref _, _, I.lnew (t' := s.toks) (r.append r2) (by rw [List.length_append]; omega), rfl, q _ I.fresh⟩
/-- a list times an int (a negative one is nothing) -/
def rRep : R2 := fun x y H Q => ∃ l k xs, x = .ref l ∧ y = .int k ∧ H l = some (.lst xs) ∧ -(2 ^ 63) ≤ k ∧ k < 2 ^ 63 ∧ xs.length * k.toNat ≤ sizeLine ∧
  ∀ p, H p = none → Q (.ref p) (upd H p (.lst (List.replicate k.toNat xs).flatten))
theorem len_rep {α : Type} (xs : List α) (k : Nat) : (List.replicate k xs).flatten.length = k * xs.length := by
  induction k with
  | zero => simp
  | succ k ih => rw [List.replicate_succ, List.flatten_cons, List.length_append, ih, Nat.succ_mul, Nat.add_comm]
theorem op_rep : OpR X (binaryOp .Mult) rRep := by
  intro pins s σ H x y v u Q I rx ry h
  obtain ⟨l, k, xs, rfl, rfl, hH, h1, h2, hz, q⟩ := h
  cases rx
  obtain ⟨t, rfl⟩ := ry
  obtain ⟨z, its, n, r, hl, e⟩ := I.lstM hH
  have hlen : its.toArray.size * k.toNat ≤ sizeLine := by rw [List.size_toArray, ← hl]; exact hz
  have hcap : ¬ its.toArray.size * k.toNat > (2 ^ 63 - 1) / 8 := by
    have : (sizeLine : Nat) ≤ (2 ^ 63 - 1) / 8 := by decide
    omega
  have hfit : ¬ (!Builtin.List.listFitsIndex k) = true := by
    rw [fitsIndex_both h1 h2]
    exact Bool.false_ne_true
  have hlong : ¬ Builtin.List.listTooLong (its.toArray.size * k.toNat) = true := by
    rw [notLongL hlen]
    exact Bool.false_ne_true
  have hnew : List.foldl (fun x1 x2 => x1 ++ x2) #[] (List.replicate (if its.toArray.isEmpty = true then 0 else k.toNat) its.toArray) = (List.replicate k.toNat its).flatten.toArray := by
    have f0 : ∀ m : Nat, List.foldl (fun x1 x2 => x1 ++ x2) #[] (List.replicate m its.toArray) = (List.replicate m its).flatten.toArray := fun m => by
      have := foldl_rep its m []
      rw [List.nil_append] at this
      exact this
    rw [f0]
    cases its with
    | nil => simp
    | cons a r' => rw [if_neg (by simp)]
  refine wpAny_binaryOp_repeat_ref (T := "list") (U := "int") (by decide) ⟨_, e, rfl⟩ (fun s' => typeIs_int s' k t) noFill_list_mul F.fills_int_mul F.slot_int_rmul repeat_list F.slot_int_index.lookup
    (call_meets F.slot_int_rmul (typeIs_int s k t) F.entry_int_rmul (F.args_int_rmul_2 _ _) (int___rmul___int_list k t l its.toArray n)
      ⟨e, rfl, ⟨_, e, rfl⟩, call_meets F.slot_list_mul ⟨_, e, rfl⟩ F.entry_list_mul (F.args_list_mul_2 _ _) (AutoListH.list___mul___list_int_3 l its.toArray n k t hfit hcap hlong) ⟨e, ?_⟩⟩)
  rw [hnew]
  exact ⟨.ref _, _, I.lnew (t' := s.toks) (r.rep k.toNat) (by rw [len_rep, Nat.mul_comm]; exact hz), rfl, q _ I.fresh⟩

/-! ### del xs[i] -/
theorem del_list {pins : List (Addr × Obj)} {s : Shared} {σ : St} {H : Hp} {l : Addr} {xs : List V} {i : Int} {t : Tok} {k : Nat} {Q : Unit → Shared → Prop} (I : Inv X pins σ H s) (hH : H l = some (.lst xs))
    (h1 : -(2 ^ 63) ≤ i) (h2 : i < 2 ^ 63) (hk : seqIndex? i xs.length = some k) (h : ∀ s', Inv X pins σ (upd H l (.lst (xs.eraseIdx k))) s' → Q () s') :
    wpAny (model X.prog X.w) X.A (delItem (.ref l) (.int i t)) Q X.xe s := by
  obtain ⟨z, its, n, r, hl, e⟩ := I.lstM hH
  refine PySem.P.delItem_list (k := k) e (fitsIndex_both h1 h2) (by rw [List.size_toArray, ← hl]; exact hk) (h _ ?_) (by rw [List.size_toArray]; omega)
  refine I.lset (its' := its.eraseIdx k) (t' := s.toks) hH e ?_ (r.eraseIdx k) ?_
  · show its.toArray.eraseIdxIfInBounds k = (its.eraseIdx k).toArray
    rw [List.eraseIdxIfInBounds_toArray]
  · have := len_erase xs k
    omega
end

/-! ### xs[a:b] = ys -/
section
variable {prog : Program} {w : World} {A : Around} {E : Value → Shared → Prop} {s : Shared}
theorem splice_eq (its its2 : List Value) (a c : Nat) : its.toArray.extract 0 a ++ its2.toArray ++ its.toArray.extract c its.toArray.size = (its.take a ++ its2 ++ its.drop c).toArray := by
  apply Array.toList_inj.mp
  first
    | (simp
       exact List.take_of_length_le (by simp))
    | simp [List.take_of_length_le]
    | simp
theorem bounds_run {a c n : Nat} (hac : a ≤ c) (hc : c ≤ n) : sliceBounds (some (a : Int)) (some (c : Int)) none n = ((a : Int), (c : Int), 1) := by
  simp only [sliceBounds, Option.getD_none]
  have h1 : ¬ ((a : Int) < 0) := by omega
  have h2 : ¬ ((c : Int) < 0) := by omega
  simp only [h1, h2, if_false, show (1 : Int) > 0 by decide, if_true]
  congr 1
  · omega
  · congr 1; omega
set_option maxRecDepth 100000 in
/-- list.__setitem__ with a slice of step one and another list -/
theorem setItem_slice {l b sl : Addr} {items new : Array Value} {n n2 : Nat} {vl vu : Value} {a c : Nat} {Q : Unit → Shared → Prop}
    (e : s.heap.get? l = some { cls := .type "list", data := .seq items n }) (e2 : s.heap.get? b = some { cls := .type "list", data := .seq new n2 }) (hne : l ≠ b)
    (hs : s.heap.IsSliceOf sl vl vu .none) (pl : IsPart vl (some (a : Int))) (pu : IsPart vu (some (c : Int))) (hac : a ≤ c) (hc : c ≤ items.size)
    (hsz : items.size + new.size ≤ sizeLine) (h : Q () { s with heap := s.heap.update l (Obj.mapSeq fun xs => xs.extract 0 a ++ new ++ xs.extract c xs.size) }) :
    wpAny (model prog w) A (setItem (.ref l) (.ref sl) (.ref b)) Q E s := by
  have hl : s.heap.IsList l items := PySem.IsL.isList e
  have hb : s.heap.IsList b new := PySem.IsL.isList e2
  obtain ⟨os, hos, hcs, hds⟩ := id hs
  have hTs : s.TypeIs (.ref sl) "slice" := ⟨os, hos, hcs⟩
  have hstep : ¬ ((rawPart none == rawInt 0) = true) := Bool.false_ne_true
  have hsame : Builtin.List.listSameRef (.ref l) (.ref b) = false := by
    unfold Builtin.List.listSameRef
    exact beq_eq_false_iff_ne.mpr hne
  have hmax : (max (a : Int) (c : Int)).toNat = c := by omega
  have hz' : ((fun xs : Array Value => xs.extract 0 a ++ new ++ xs.extract c xs.size) items).size ≤ sizeLine + 1 := by
    simp only [Array.size_append, Array.size_extract]
    omega
  unfold setItem
  try with_reducible refine wpAny_holding ?_
  first | refine wpAny_bind (wpAny_pure ?_) | skip
  refine wpAny_bind (wpAny_sequenceKey hl.typeIs (by decide) ?_)
  refine wpAny_bind (wpAny_callSpecial?_slot (name := Str.ofString "__setitem__") hl.typeIs slot_list_setitem
    (wpAny_call_entry slot_list_setitem hl.typeIs entry_list_setitem ?_ (args_list_setitem _ _ _)))
  show wpAny _ _ (Builtin.List.listSubscript? (.ref sl) >>= _) _ _ s
  refine wpAny_bind ?_
  unfold Builtin.List.listSubscript?
  refine wpAny_bind (wpAny_specialOf hTs slice_no_index ?_)
  simp only [Option.isNone_none, if_true]
  refine wpAny_pure ?_
  show wpAny _ _ (typeOf (.ref sl) >>= _) _ _ s
  refine wpAny_bind (wpAny_typeOf hTs ?_)
  first
    | rw [if_neg (by decide)]
    | refine PySem.W.KFB.if_not (by decide) ?_
  rw [listSliceParts_eq]
  refine wpAny_bind (wpAny_bind (wpAny_field hos hds (x := .none) rfl (wpAny_bind (wpAny_listPart .none ?_))))
  rw [if_neg hstep]
  refine wpAny_bind (wpAny_field hos hds (x := vl) rfl (wpAny_bind (wpAny_listPart pl ?_)))
  refine wpAny_bind (wpAny_field hos hds (x := vu) rfl (wpAny_bind (wpAny_listPart pu (wpAny_pure ?_))))
  first
    | simp only [hsame, Bool.false_eq_true, if_false]
    | refine PySem.W.KFB.if_not hsame ?_
    | (dsimp only
       rw [if_neg (by rw [hsame]; exact Bool.false_ne_true)])
  refine wpAny_bind (m := Builtin.List.listAllItems (.ref b) "must assign iterable to extended slice") ?_
  unfold Builtin.List.listAllItems
  refine wpAny_bind (wpAny_typeOf hb.typeIs ?_)
  first
    | refine PySem.W.KFB.if_so (by decide) ?_
    | rw [if_pos (by decide)]
    | simp only [beq_self_eq_true, Bool.true_or, if_true]
  unfold Builtin.List.listItems
  refine wpAny_bind (wpAny_seqItems e2 rfl (wpAny_pure ?_))
  refine wpAny_bind (wpAny_bind (wpAny_seqItems e rfl (wpAny_pure ?_)))
  refine wpAny_bind (wpAny_of_eq ((sliceIndices_raw (some (a : Int)) (some (c : Int)) none items.size (by simp)).trans (congrArg (pure : Int × Int × Int → Sem (Int × Int × Int)) (bounds_run hac hc))) ?_)
  show wpAny _ _ (if ((1 : Int) == 1) = true then _ else _) _ _ s
  rw [if_pos (by decide)]
  refine wpAny_bind (wpAny_rule ?_)
  first
    | simp only [notLongL hsz, Bool.false_eq_true, if_false]
    | refine PySem.W.KFB.if_not (notLongL hsz) ?_
  first | refine wpAny_bind (wpAny_pure ?_) | skip
  show wpAny _ _ (updateSeq l (fun xs => xs.extract 0 ((a : Int)).toNat ++ new ++ xs.extract (max (a : Int) (c : Int)).toNat xs.size) >>= _) _ _ s
  rw [hmax, Int.toNat_natCast]
  refine wpAny_bind (wpAny_updateSeq (hz := Nat.le_trans (Nat.le_add_right _ _) hsz) (_hz' := hz') e rfl ?_)
  refine wpAny_bind (wpAny_letGo ?_)
  first
    | exact wpAny_bind (wpAny_pure (wpAny_pure ⟨.none, rfl, wpAny_pure h⟩))
    | exact wpAny_pure ⟨.none, rfl, wpAny_pure h⟩
end

section
variable {X : Cx}
/-- xs[a:c] = ys of another list, at the value level: sl is the slice object that was just made -/
theorem set_slice {pins : List (Addr × Obj)} {s : Shared} {σ : St} {H : Hp} {l b sl : Addr} {xs ys : List V} {a c : Int} {vl vu : Value} {Q : Unit → Shared → Prop} (I : Inv X pins σ H s)
    (hH : H l = some (.lst xs)) (hB : H b = some (.lst ys)) (hne : l ≠ b) (hs : s.heap.IsSliceOf sl vl vu .none) (ra : RelV (.int a) vl) (rc : RelV (.int c) vu) (h0 : 0 ≤ a) (hac : a ≤ c) (hc : c ≤ xs.length)
    (hz : xs.length + ys.length ≤ sizeLine) (h : ∀ s', Inv X pins σ (upd H l (.lst (xs.take a.toNat ++ ys ++ xs.drop c.toNat))) s' → Q () s') :
    wpAny (model X.prog X.w) X.A (setItem (.ref l) (.ref sl) (.ref b)) Q X.xe s := by
  obtain ⟨ta, rfl⟩ := ra
  obtain ⟨tc, rfl⟩ := rc
  obtain ⟨z, its, n, r, hl, e⟩ := I.lstM hH
  obtain ⟨z2, its2, n2, r2, hl2, e2⟩ := I.lstM hB
  obtain ⟨a', rfl⟩ := Int.eq_ofNat_of_zero_le h0
  obtain ⟨c', rfl⟩ := Int.eq_ofNat_of_zero_le (Int.le_trans h0 hac)
  simp only [Int.toNat_natCast] at h
  refine setItem_slice (a := a') (c := c') e e2 hne hs (.int _ _) (.int _ _) (by omega) (by rw [List.size_toArray]; omega) (by rw [List.size_toArray, List.size_toArray]; omega) (h _ ?_)
  refine I.lset (its' := its.take a' ++ its2 ++ its.drop c') (t' := s.toks) hH e ?_ (Vals.append (Vals.append (r.take _) r2) (r.drop _)) ?_
  · exact splice_eq its its2 a' c'
  · rw [List.length_append, List.length_append, List.length_take, List.length_drop]
    omega
end
end L2


namespace L2
open PySem PySem.Spec PyProof.Rows

/-! ### lists of pairs as tables -/
section
variable {κ : Type} [DecidableEq κ]
def valV (kvs : List (κ × V)) (k : κ) : Option V := (kvs.find? fun kv => decide (kv.1 = k)).map (·.2)
/-- in its place, or at the end -/
def putK (kvs : List (κ × V)) (k : κ) (v : V) : List (κ × V) :=
  if (kvs.any fun kv => decide (kv.1 = k)) = true then kvs.map (fun kv => if kv.1 = k then (kv.1, v) else kv) else kvs ++ [(k, v)]
def dropK (kvs : List (κ × V)) (k : κ) : List (κ × V) := kvs.filter fun kv => decide (kv.1 ≠ k)

theorem valV_nil {k : κ} : valV ([] : List (κ × V)) k = none := rfl
theorem valV_pos {p : κ × V} {r : List (κ × V)} {k : κ} (e : p.1 = k) : valV (p :: r) k = some p.2 := by simp [valV, List.find?_cons, e]
theorem valV_neg {p : κ × V} {r : List (κ × V)} {k : κ} (e : ¬ p.1 = k) : valV (p :: r) k = valV r k := by simp [valV, List.find?_cons, e]
theorem valV_any (k : κ) : ∀ kvs : List (κ × V), (kvs.any fun kv => decide (kv.1 = k)) = (valV kvs k).isSome
  | [] => rfl
  | p :: r => by
    rw [List.any_cons]
    by_cases e : p.1 = k
    · simp only [valV_pos e, decide_eq_true e, Bool.true_or, Option.isSome_some]
    · rw [valV_neg e, decide_eq_false e, Bool.false_or]; exact valV_any k r
theorem valV_map (k j : κ) (y : V) : ∀ kvs : List (κ × V), valV (kvs.map fun kv => if kv.1 = k then (kv.1, y) else kv) j = (valV kvs j).map fun x => if j = k then y else x
  | [] => rfl
  | p :: r => by
    have ih := valV_map k j y r
    rw [List.map_cons]
    by_cases h : p.1 = k
    · rw [if_pos h]
      by_cases e : p.1 = j
      · rw [valV_pos (p := (p.1, y)) e, valV_pos e, Option.map_some, if_pos (e.symm.trans h)]
      · rw [valV_neg (p := (p.1, y)) e, valV_neg e, ih]
    · rw [if_neg h]
      by_cases e : p.1 = j
      · rw [valV_pos (p := p) e, valV_pos e, Option.map_some, if_neg (fun z => h (e.trans z))]
      · rw [valV_neg (p := p) e, valV_neg e, ih]
theorem valV_snoc (k j : κ) (y : V) : ∀ kvs : List (κ × V), valV kvs k = none → valV (kvs ++ [(k, y)]) j = if j = k then some y else valV kvs j
  | [], _ => by
    by_cases e : k = j
    · rw [if_pos e.symm]; exact valV_pos (p := (k, y)) e
    · rw [if_neg (fun z => e z.symm)]; exact valV_neg (p := (k, y)) e
  | p :: r, hn => by
    rw [List.cons_append]
    have hk : ¬ p.1 = k := fun z => by rw [valV_pos z] at hn; cases hn
    rw [valV_neg hk] at hn
    have ih := valV_snoc k j y r hn
    by_cases e : p.1 = j
    · rw [valV_pos e, valV_pos e, if_neg (fun z => hk (e.trans z))]
    · rw [valV_neg e, valV_neg e, ih]
theorem valV_put (kvs : List (κ × V)) (k j : κ) (y : V) : valV (putK kvs k y) j = if j = k then some y else valV kvs j := by
  unfold putK
  by_cases a : (kvs.any fun kv => decide (kv.1 = k)) = true
  · rw [if_pos a, valV_map]
    rw [valV_any] at a
    by_cases e : j = k
    · obtain ⟨x, hx⟩ := Option.isSome_iff_exists.mp a
      rw [if_pos e, e, hx, Option.map_some, if_pos rfl]
    · rw [if_neg e]
      cases valV kvs j with
      | none => rfl
      | some x => rw [Option.map_some, if_neg e]
  · rw [if_neg a]
    refine valV_snoc k j y kvs ?_
    rw [valV_any] at a
    cases q : valV kvs k with
    | none => rfl
    | some x => rw [q] at a; exact (a rfl).elim
theorem length_putK (kvs : List (κ × V)) (k : κ) (v : V) : (putK kvs k v).length ≤ kvs.length + 1 := by
  unfold putK
  split
  · rw [List.length_map]; omega
  · rw [List.length_append, List.length_cons, List.length_nil]; omega
theorem putK_new {kvs : List (κ × V)} {k : κ} (v : V) (h : valV kvs k = none) : putK kvs k v = kvs ++ [(k, v)] := by
  unfold putK
  rw [valV_any, h]
  exact if_neg (by decide)

theorem RelO.isSome_eq {o : Option V} {u : Option Value} (r : RelO o u) : o.isSome = u.isSome := by
  cases o with
  | none => cases u with
    | none => rfl
    | some _ => exact (show False from r).elim
  | some _ => cases u with
    | none => exact (show False from r).elim
    | some _ => rfl
theorem RelO.getD {o : Option V} {u : Option Value} {d : V} {d' : Value} (r : RelO o u) (rd : RelV d d') : RelV (o.getD d) (u.getD d') := by
  cases o with
  | none => cases u with
    | none => exact rd
    | some _ => exact (show False from r).elim
  | some _ => cases u with
    | none => exact (show False from r).elim
    | some _ => exact r

/-- raw tables of the same keys -/
theorem KV.val {kvs : List (κ × V)} {vs : List (κ × Value)} (r : KV kvs vs) (k : κ) : RelO (valV kvs k) (valueAt vs k) := by
  unfold KV at r
  induction r with
  | nil => exact True.intro
  | @cons p q ps qs h t ih =>
    obtain ⟨h1, h2⟩ := h
    by_cases e : p.1 = k
    · have e' : q.1 = k := h1.symm.trans e
      have b : valueAt (q :: qs) k = some q.2 := by simp [valueAt, List.find?_cons, e']
      rw [valV_pos e, b]; exact h2
    · have e' : ¬ q.1 = k := fun z => e (h1.trans z)
      have b : valueAt (q :: qs) k = valueAt qs k := by simp [valueAt, List.find?_cons, e']
      rw [valV_neg e, b]; exact ih
theorem KV.any {kvs : List (κ × V)} {vs : List (κ × Value)} (r : KV kvs vs) (k : κ) : (kvs.any fun kv => decide (kv.1 = k)) = vs.any fun kv => decide (kv.1 = k) := by
  unfold KV at r
  induction r with
  | nil => rfl
  | cons h t ih => rw [List.any_cons, List.any_cons, ih, h.1]
theorem KV.repl {kvs : List (κ × V)} {vs : List (κ × Value)} (r : KV kvs vs) (k : κ) {y : V} {u : Value} (ry : RelV y u) :
    KV (kvs.map fun kv => if kv.1 = k then (kv.1, y) else kv) (vs.map fun kv => if kv.1 = k then (kv.1, u) else kv) := by
  unfold KV at r ⊢
  induction r with
  | nil => exact .nil
  | @cons p q ps qs h t ih =>
    rw [List.map_cons, List.map_cons]
    refine .cons ?_ ih
    obtain ⟨h1, h2⟩ := h
    by_cases e : p.1 = k
    · rw [if_pos e, if_pos (h1.symm.trans e)]; exact ⟨h1, ry⟩
    · rw [if_neg e, if_neg (fun z => e (h1.trans z))]; exact ⟨h1, h2⟩
theorem KV.put {kvs : List (κ × V)} {vs : List (κ × Value)} (r : KV kvs vs) (k : κ) {y : V} {u : Value} (ry : RelV y u) : KV (putK kvs k y) (stored vs k u) := by
  unfold putK stored
  rw [r.any k]
  by_cases e : (vs.any fun kv => decide (kv.1 = k)) = true
  · rw [if_pos e, if_pos e]; exact r.repl k ry
  · rw [if_neg e, if_neg e]; exact Paired.snoc r ⟨rfl, ry⟩
theorem KV.drop {kvs : List (κ × V)} {vs : List (κ × Value)} (r : KV kvs vs) (k : κ) : KV (dropK kvs k) (without vs k) := by
  unfold KV at r ⊢
  unfold dropK without
  induction r with
  | nil => exact .nil
  | @cons p q ps qs h t ih =>
    obtain ⟨h1, h2⟩ := h
    rw [List.filter_cons, List.filter_cons]
    by_cases e : p.1 = k
    · have a : ¬ decide (p.1 ≠ k) = true := by simp [e]
      have b : ¬ decide (q.1 ≠ k) = true := by simp [h1.symm.trans e]
      rw [if_neg a, if_neg b]; exact ih
    · have e' : ¬ q.1 = k := fun z => e (h1.trans z)
      have a : decide (p.1 ≠ k) = true := by simp [e]
      have b : decide (q.1 ≠ k) = true := by simp [e']
      rw [if_pos a, if_pos b]; exact .cons ⟨h1, h2⟩ ih
theorem KV.keys {kvs : List (κ × V)} {vs : List (κ × Value)} (r : KV kvs vs) : kvs.map (·.1) = vs.map (·.1) := by
  unfold KV at r
  induction r with
  | nil => rfl
  | cons h t ih => rw [List.map_cons, List.map_cons, ih, h.1]
theorem KV.length {kvs : List (κ × V)} {vs : List (κ × Value)} (r : KV kvs vs) : kvs.length = vs.length := Paired.length r
theorem dropK_le (kvs : List (κ × V)) (k : κ) : (dropK kvs k).length ≤ kvs.length := List.length_filter_le _ _
end


/-! ### a tracked dict, its keys ints and texts or tuples of these -/
theorem kV_is {P : Program} {w : World} {k : Key} {u : Value} (r : RelV (kV k) u) : (mixKind P w).is k u = true := by
  cases k with
  | inl i => obtain ⟨t, e⟩ := (show ∃ t, u = Value.int i t from r); subst e; exact mixKind_int P w i t
  | inr x => obtain ⟨t, e⟩ := (show ∃ t, u = Value.str x t from r); subst e; exact mixKind_str P w x t
theorem kV_inj {a b : Key} (e : kV a = kV b) : a = b := by
  cases a with
  | inl i => cases b with
    | inl j => have e' : V.int i = V.int j := e; injection e' with e'; rw [e']
    | inr y => exact nomatch (show V.int i = V.str y from e)
  | inr x => cases b with
    | inl j => exact nomatch (show V.str x = V.int j from e)
    | inr y => have e' : V.str x = V.str y := e; injection e' with e'; rw [e']
theorem kVs_inj : ∀ {a b : List Key}, a.map kV = b.map kV → a = b
  | [], [], _ => rfl
  | [], _ :: _, e => by simp at e
  | _ :: _, [], e => by simp at e
  | x :: xs, y :: ys, e => by
    rw [List.map_cons, List.map_cons] at e
    injection e with e1 e2
    rw [kV_inj e1, kVs_inj e2]
theorem items_are {P : Program} {w : World} : ∀ {ks : List Key} {us : List Value}, Vals (ks.map kV) us → ItemsAre (mixKind P w) ks us
  | [], _, r => by rw [List.map_nil] at r; cases r; exact .nil
  | k :: ks, _, r => by
    rw [List.map_cons] at r
    cases r with
    | cons h t => exact .cons (kV_is h) (items_are t)

/-- raw entries of a dict with tuple keys -/
abbrev KT (H : Hp) : List (List Key × V) → List (List Key × Addr × Value) → Prop := Paired fun p q => p.1 = q.1 ∧ H q.2.1 = some (.tup (p.1.map kV)) ∧ RelV p.2 q.2.2
theorem KT.val {H : Hp} {kvs : List (List Key × V)} {xs : List (List Key × Addr × Value)} (r : KT H kvs xs) (k : List Key) : RelO (valV kvs k) ((atKey xs k).map (·.2)) := by
  induction r with
  | nil => exact True.intro
  | @cons p q ps qs h t ih =>
    obtain ⟨h1, _, h2⟩ := h
    by_cases e : p.1 = k
    · have e' : q.1 = k := h1.symm.trans e
      have b : atKey (q :: qs) k = some q.2 := by simp [atKey, List.find?_cons, e']
      rw [valV_pos e, b]; exact h2
    · have e' : ¬ q.1 = k := fun z => e (h1.trans z)
      have b : atKey (q :: qs) k = atKey qs k := by simp [atKey, List.find?_cons, e']
      rw [valV_neg e, b]; exact ih
theorem KT.repl {H : Hp} {kvs : List (List Key × V)} {xs : List (List Key × Addr × Value)} (r : KT H kvs xs) (k : List Key) {y : V} {u : Value} (ry : RelV y u) :
    KT H (kvs.map fun kv => if kv.1 = k then (kv.1, y) else kv) (xs.map (putAt k u)) := by
  induction r with
  | nil => exact .nil
  | @cons p q ps qs h t ih =>
    rw [List.map_cons, List.map_cons]
    refine .cons ?_ ih
    obtain ⟨h1, h2, h3⟩ := h
    unfold putAt
    by_cases e : p.1 = k
    · rw [if_pos e, if_pos (h1.symm.trans e)]; exact ⟨h1, h2, ry⟩
    · rw [if_neg e, if_neg (fun z => e (h1.trans z))]; exact ⟨h1, h2, h3⟩
theorem KT.put {H : Hp} {kvs : List (List Key × V)} {xs : List (List Key × Addr × Value)} (r : KT H kvs xs) (k : List Key) {b : Addr} {y : V} {u : Value} (hb : H b = some (.tup (k.map kV))) (ry : RelV y u) :
    KT H (putK kvs k y) (storedH xs k b u) := by
  have e : (kvs.any fun kv => decide (kv.1 = k)) = (atKey xs k).isSome := by
    rw [valV_any, (r.val k).isSome_eq, Option.isSome_map]
  unfold putK storedH
  rw [e]
  by_cases q : (atKey xs k).isSome = true
  · rw [if_pos q, if_pos q]; exact r.repl k ry
  · rw [if_neg q, if_neg q]; exact Paired.snoc r ⟨rfl, hb, ry⟩
theorem KT.keeps {H H' : Hp} {kvs : List (List Key × V)} {xs : List (List Key × Addr × Value)} (r : KT H kvs xs) (ht : ∀ b ys, H b = some (.tup ys) → H' b = some (.tup ys)) : KT H' kvs xs :=
  Paired.mapP r fun _ _ z => ⟨z.1, ht _ _ z.2.1, z.2.2⟩

section
variable {P : Program} {w : World} {H : Hp} {h : Heap} {a : Addr}
theorem rd_of {u : HO} (ok : HOk P w H h) (e : Rd H a u) : ObjOk P w H h a u := e.ok ok
theorem dk_rd {kvs : List (Key × V)} (ok : HOk P w H h) (e : Rd H a (.dK kvs)) : kvs.length ≤ sizeLine ∧ (a == sysModules) = false ∧ ∃ vs, KV kvs vs ∧ h.DictOf (mixKind P w) a vs :=
  show ObjOk P w H h a (.dK kvs) from rd_of ok e
theorem dk_of {kvs : List (Key × V)} (ok : HOk P w H h) (e : H a = some (.dK kvs)) : kvs.length ≤ sizeLine ∧ (a == sysModules) = false ∧ ∃ vs, KV kvs vs ∧ h.DictOf (mixKind P w) a vs := dk_rd ok (.inl e)
/-- a tracked tuple of ints and texts is a key -/
theorem key_of {ks : List Key} (ok : HOk P w H h) (e : H a = some (.tup (ks.map kV))) : (tupleKind (mixKind P w)).is h ks a := by
  obtain ⟨_, its, r, o, h1, h2, n, h3⟩ := (show ObjOk P w H h a (.tup (ks.map kV)) from ok a _ e)
  exact ⟨o, its.toArray, n, h1, h2, h3, by simpa using items_are r⟩
theorem dt_rd {kvs : List (List Key × V)} (ok : HOk P w H h) (e : Rd H a (.dT kvs)) : kvs.length ≤ sizeLine ∧ (a == sysModules) = false ∧
    ∃ xs, KT H kvs xs ∧ h.DictOfH (tupleKind (mixKind P w)) a xs := by
  obtain ⟨z, y, xs, r, o, es, ep, h1, h2, h3, h4, h5⟩ := (show ObjOk P w H h a (.dT kvs) from rd_of ok e)
  refine ⟨z, y, xs, r, o, es, ep, h1, h2, h3, h4, fun x hx => ?_, h5⟩
  have all : ∀ {l : List (List Key × V)} {m : List (List Key × Addr × Value)}, KT H l m → ∀ x ∈ m, (tupleKind (mixKind P w)).is h x.1 x.2.1 := by
    intro l m q
    induction q with
    | nil => intro x hx; exact nomatch hx
    | @cons p q ps qs hq t ih =>
      intro x hx
      rcases List.mem_cons.mp hx with e | hx
      · subst e
        exact key_of ok (by rw [← hq.1]; exact hq.2.1)
      · exact ih x hx
  exact all r x hx
theorem dt_of {kvs : List (List Key × V)} (ok : HOk P w H h) (e : H a = some (.dT kvs)) : kvs.length ≤ sizeLine ∧ (a == sysModules) = false ∧
    ∃ xs, KT H kvs xs ∧ h.DictOfH (tupleKind (mixKind P w)) a xs := dt_rd ok (.inl e)
end

/-- what the dict at a holds at the key y -/
def DGet (H : Hp) (a : Addr) (y : V) (r : Option V) : Prop :=
  (∃ kvs k, Rd H a (.dK kvs) ∧ y = kV k ∧ r = valV kvs k) ∨ ∃ kvs k b, Rd H a (.dT kvs) ∧ y = .ref b ∧ H b = some (.tup (k.map kV)) ∧ r = valV kvs k
/-- the heap behind a[y] = v -/
def DPut (H : Hp) (a : Addr) (y v : V) (H' : Hp) : Prop :=
  (∃ kvs k, H a = some (.dK kvs) ∧ y = kV k ∧ kvs.length < sizeLine ∧ H' = upd H a (.dK (putK kvs k v))) ∨
  ∃ kvs k b, H a = some (.dT kvs) ∧ y = .ref b ∧ H b = some (.tup (k.map kV)) ∧ kvs.length < sizeLine ∧ H' = upd H a (.dT (putK kvs k v))
theorem DGet.k {H : Hp} {a : Addr} {kvs : List (Key × V)} {k : Key} (e : H a = some (.dK kvs)) : DGet H a (kV k) (valV kvs k) := .inl ⟨kvs, k, .inl e, rfl, rfl⟩
theorem DGet.t {H : Hp} {a b : Addr} {kvs : List (List Key × V)} {k : List Key} (e : H a = some (.dT kvs)) (eb : H b = some (.tup (k.map kV))) : DGet H a (.ref b) (valV kvs k) := .inr ⟨kvs, k, b, .inl e, rfl, eb, rfl⟩
theorem DPut.k {H : Hp} {a : Addr} {kvs : List (Key × V)} {k : Key} {v : V} (e : H a = some (.dK kvs)) (hl : kvs.length < sizeLine) : DPut H a (kV k) v (upd H a (.dK (putK kvs k v))) := .inl ⟨kvs, k, e, rfl, hl, rfl⟩
theorem DPut.t {H : Hp} {a b : Addr} {kvs : List (List Key × V)} {k : List Key} {v : V} (e : H a = some (.dT kvs)) (eb : H b = some (.tup (k.map kV))) (hl : kvs.length < sizeLine) :
    DPut H a (.ref b) v (upd H a (.dT (putK kvs k v))) := .inr ⟨kvs, k, b, e, rfl, eb, hl, rfl⟩


section
variable {X : Cx} {pins : List (Addr × Obj)} {σ : St} {H : Hp} {s : Shared} {a : Addr} {y v : V} {u r : Value} {o : Option V} {A : Around} {E : Value → Shared → Prop}

theorem Inv.big (I : Inv X pins σ H s) : sysModules < s.heap.objs.size := by
  have h : mainGlobals < s.heap.objs.size := (I.mod.glob.keeps I.bk).lt
  exact Nat.lt_trans (by decide) h

/-- d[y], there -/
theorem d_getItem {Q : Value → Shared → Prop} (hu : A.units + 1 < cLine) (I : Inv X pins σ H s) (g : DGet H a y (some v)) (ry : RelV y u) (h : ∀ w' s', Inv X pins σ H s' → RelV v w' → Q w' s') :
    wpAny (model X.prog X.w) A (getItem (.ref a) u) Q E s := by
  rcases g with ⟨kvs, k, e, ey, l⟩ | ⟨kvs, k, b, e, ey, eb, l⟩
  · subst ey
    obtain ⟨z, hd, vs, rel, dd⟩ := dk_rd I.hok e
    obtain ⟨w', hw, rw'⟩ := RelO.some_of (v := v) (o := valueAt vs k) (by rw [l]; exact rel.val k)
    exact wpAny_getItem_of (kV_is ry) dd.mapOf hw (h w' _ (I.tok _) rw')
  · subst ey
    cases (show u = Value.ref b from ry)
    obtain ⟨z, hd, xs, rel, dd⟩ := dt_rd I.hok e
    obtain ⟨w', hw, rw'⟩ := RelO.some_of (v := v) (o := (atKey xs k).map (·.2)) (by rw [l]; exact rel.val k)
    obtain ⟨p, hp, hp2⟩ := Option.map_eq_some_iff.mp hw
    refine wpAny_getItem_heap (tupleKind_room_in1 hu) (key_of I.hok eb) dd hp ?_
    rw [hp2]
    exact h w' _ (I.tok _) rw'
/-- y in d -/
theorem d_in {Q : Value → Shared → Prop} (hu : A.units + 1 < cLine) (I : Inv X pins σ H s) (g : DGet H a y o) (ry : RelV y u) (h : ∀ s', Inv X pins σ H s' → Q (.bool o.isSome) s') :
    wpAny (model X.prog X.w) A (compareOp .In u (.ref a)) Q E s := by
  rcases g with ⟨kvs, k, e, ey, l⟩ | ⟨kvs, k, b, e, ey, eb, l⟩
  · subst ey
    obtain ⟨z, hd, vs, rel, dd⟩ := dk_rd I.hok e
    refine wpAny_in_of (kV_is ry) hd dd.mapOf ?_
    rw [← (rel.val k).isSome_eq, ← l]
    exact h _ (I.tok _)
  · subst ey
    cases (show u = Value.ref b from ry)
    obtain ⟨z, hd, xs, rel, dd⟩ := dt_rd I.hok e
    refine wpAny_in_heap (tupleKind_room_in1 hu) (key_of I.hok eb) hd dd ?_
    have q := (rel.val k).isSome_eq
    rw [Option.isSome_map] at q
    rw [← q, ← l]
    exact h _ (I.tok _)
theorem d_notIn {Q : Value → Shared → Prop} (hu : A.units + 1 < cLine) (I : Inv X pins σ H s) (g : DGet H a y o) (ry : RelV y u) (h : ∀ s', Inv X pins σ H s' → Q (.bool (!o.isSome)) s') :
    wpAny (model X.prog X.w) A (compareOp .NotIn u (.ref a)) Q E s := by
  rcases g with ⟨kvs, k, e, ey, l⟩ | ⟨kvs, k, b, e, ey, eb, l⟩
  · subst ey
    obtain ⟨z, hd, vs, rel, dd⟩ := dk_rd I.hok e
    refine wpAny_notIn_of (kV_is ry) hd dd.mapOf ?_
    rw [← (rel.val k).isSome_eq, ← l]
    exact h _ (I.tok _)
  · subst ey
    cases (show u = Value.ref b from ry)
    obtain ⟨z, hd, xs, rel, dd⟩ := dt_rd I.hok e
    refine wpAny_notIn_heap (tupleKind_room_in1 hu) (key_of I.hok eb) hd dd ?_
    have q := (rel.val k).isSome_eq
    rw [Option.isSome_map] at q
    rw [← q, ← l]
    exact h _ (I.tok _)
/-- a dict's object is replaced -/
theorem d_write {h' : Heap} {t' : Nat} {ob : HO} (I : Inv X pins σ H s) (mu : Mut (H a)) (hs : Heap.SameBut a s.heap h') (he : ∃ q, h'.get? a = some q) (new : ObjOk X.prog X.w (upd H a ob) h' a ob) :
    Inv X pins σ (upd H a ob) { s with heap := h', toks := t' } :=
  I.write (x := a) (e := a) mu (.inl rfl) (fun b q hb z => (hs.2 b hb).trans z) he new
theorem dk_new {P : Program} {w : World} {H' : Hp} {h' : Heap} {kvs : List (Key × V)} {vs : List (Key × Value)} (z : kvs.length ≤ sizeLine) (hd : (a == sysModules) = false) (rel : KV kvs vs) (dd : h'.DictOf (mixKind P w) a vs) :
    ObjOk P w H' h' a (.dK kvs) := ⟨z, hd, vs, rel, dd⟩
/-- d[y] = v -/
theorem d_setItem {H' : Hp} {Q : Unit → Shared → Prop} (hu : A.units + 1 < cLine) (I : Inv X pins σ H s) (g : DPut H a y v H') (ry : RelV y u) (rv : RelV v r) (h : ∀ s', Inv X pins σ H' s' → Q () s') :
    wpAny (model X.prog X.w) A (setItem (.ref a) u r) Q E s := by
  rcases g with ⟨kvs, k, e, ey, l, eH⟩ | ⟨kvs, k, b, e, ey, eb, l, eH⟩
  · subst ey eH
    obtain ⟨z, hd, vs, rel, dd⟩ := dk_of I.hok e
    have hz : vs.length ≤ sizeLine := by rw [← rel.length]; exact z
    have hl : (putK kvs k v).length ≤ sizeLine := by have := length_putK kvs k v; omega
    refine wpAny_setItem_pairs (hsz := hz) (kV_is ry) dd fun h' dd' hs => h _ ?_
    have he : ∃ q, h'.get? a = some q := let ⟨q, _, _, hq, _⟩ := dd'; ⟨q, hq⟩
    exact d_write I (by rw [e]; exact True.intro) hs he (dk_new hl hd (rel.put k rv) dd')
  · subst ey eH
    cases (show u = Value.ref b from ry)
    obtain ⟨z, hd, xs, rel, dd⟩ := dt_of I.hok e
    have hz : xs.length ≤ sizeLine := by rw [← Paired.length rel]; exact z
    have hl : (putK kvs k v).length ≤ sizeLine := by have := length_putK kvs k v; omega
    refine wpAny_setItem_heap (hsz := hz) (tupleKind_room_in1 hu) (key_of I.hok eb) dd fun h' dd' hs => h _ ?_
    obtain ⟨q, es, ep, hq, h2, h3, h4, _, h5⟩ := dd'
    refine d_write I (by rw [e]; exact True.intro) hs ⟨q, hq⟩ ⟨hl, hd, _, (rel.put k eb rv).keeps fun c ys ec => ?_, q, es, ep, hq, h2, h3, h4, h5⟩
    rw [upd_ne (ne_of ec e (fun z => nomatch z))]
    exact ec
end

section
variable {X : Cx} {pins : List (Addr × Obj)} {σ : St} {H : Hp} {s : Shared} {a : Addr} {kvs : List (Key × V)} {k : Key} {u : Value} {A : Around} {E : Value → Shared → Prop}
/-- del d[k] -/
theorem d_delItem {Q : Unit → Shared → Prop} (I : Inv X pins σ H s) (e : H a = some (.dK kvs)) (ry : RelV (kV k) u) (l : (valV kvs k).isSome = true) (h : ∀ s', Inv X pins σ (upd H a (.dK (dropK kvs k))) s' → Q () s') :
    wpAny (model X.prog X.w) A (delItem (.ref a) u) Q E s := by
  obtain ⟨z, hd, vs, rel, dd⟩ := dk_of I.hok e
  refine wpAny_delItem_slot dd.typeIs (by decide) PySem.F.slot_dict_delitem
    (call_meetsIn PySem.F.slot_dict_delitem dd.typeIs PySem.F.entry_dict_delitem (PySem.F.args_dict_delitem_2 _ _) (meets_dict_delitem_pairs (mixKind X.prog X.w) a (kV_is ry)) ⟨vs, dd, by rw [← rel.length]; exact z, by rw [← (rel.val k).isSome_eq]; exact l, fun h' dd' hs => h _ ?_⟩)
  have he : ∃ q, h'.get? a = some q := let ⟨q, _, _, hq, _⟩ := dd'; ⟨q, hq⟩
  exact d_write I (by rw [e]; exact True.intro) hs he (dk_new (Nat.le_trans (dropK_le kvs k) z) hd (rel.drop k) dd')
/-- d.pop(k[, x]), there -/
theorem d_pop {v : V} {more : List Value} {Q : Value → Shared → Prop} (I : Inv X pins σ H s) (e : H a = some (.dK kvs)) (ry : RelV (kV k) u) (l : valV kvs k = some v) (hm : more = [] ∨ ∃ x, more = [x])
    (h : ∀ w' s', Inv X pins σ (upd H a (.dK (dropK kvs k))) s' → RelV v w' → Q w' s') : wpAny (model X.prog X.w) A (call (.builtin "dict.pop") (.ref a :: u :: more)) Q E s := by
  obtain ⟨z, hd, vs, rel, dd⟩ := dk_of I.hok e
  obtain ⟨w', hw, rw'⟩ := RelO.some_of (v := v) (o := valueAt vs k) (by rw [← l]; exact rel.val k)
  have hp : (keyPart u).isSome = true := by
    cases k with
    | inl i => obtain ⟨t, q⟩ := (show ∃ t, u = Value.int i t from ry); subst q; rfl
    | inr x => obtain ⟨t, q⟩ := (show ∃ t, u = Value.str x t from ry); subst q; rfl
  have ha : argsOk "dict.pop" ⟨.ref a :: u :: more, []⟩ := by
    rcases hm with q | ⟨x, q⟩
    · subst q; exact PySem.F.args_dict_pop_2 _ _
    · subst q; exact PySem.F.args_dict_pop_3 _ _ _
  refine call_meetsIn PySem.F.slot_dict_pop dd.typeIs PySem.F.entry_dict_pop ha (meets_dict_pop_there (mixKind X.prog X.w) a (kV_is ry) more hm hp)
    ⟨vs, w', dd, by rw [← rel.length]; exact z, hw, fun h' dd' hs => h w' _ ?_ rw'⟩
  have he : ∃ q, h'.get? a = some q := let ⟨q, _, _, hq, _⟩ := dd'; ⟨q, hq⟩
  exact d_write I (by rw [e]; exact True.intro) hs he (dk_new (Nat.le_trans (dropK_le kvs k) z) hd (rel.drop k) dd')
/-- d.pop(k, x), not there -/
theorem d_popD {r : Value} {Q : Value → Shared → Prop} (I : Inv X pins σ H s) (e : H a = some (.dK kvs)) (ry : RelV (kV k) u) (l : valV kvs k = none) (h : ∀ s', Inv X pins σ H s' → Q r s') :
    wpAny (model X.prog X.w) A (call (.builtin "dict.pop") [.ref a, u, r]) Q E s := by
  obtain ⟨z, hd, vs, rel, dd⟩ := dk_of I.hok e
  have hn : valueAt vs k = none := RelO.none_of (by rw [← l]; exact rel.val k)
  have hp : (keyPart u).isSome = true := by
    cases k with
    | inl i => obtain ⟨t, q⟩ := (show ∃ t, u = Value.int i t from ry); subst q; rfl
    | inr x => obtain ⟨t, q⟩ := (show ∃ t, u = Value.str x t from ry); subst q; rfl
  exact call_meetsIn PySem.F.slot_dict_pop dd.typeIs PySem.F.entry_dict_pop (PySem.F.args_dict_pop_3 _ _ _) (meets_dict_pop_default (mixKind X.prog X.w) a (kV_is ry) hd hp r) ⟨vs, dd, hn, h _ (I.tok _)⟩
/-- d.clear() -/
theorem d_clear {Q : Value → Shared → Prop} (I : Inv X pins σ H s) (e : H a = some (.dK kvs)) (h : ∀ s', Inv X pins σ (upd H a (.dK [])) s' → Q .none s') : wpAny (model X.prog X.w) A (call (.builtin "dict.clear") [.ref a]) Q E s := by
  obtain ⟨z, hd, vs, rel, dd⟩ := dk_of I.hok e
  refine call_meetsIn PySem.F.slot_dict_clear dd.typeIs PySem.F.entry_dict_clear (PySem.F.args_dict_clear_1 _) (meets_dict_clear (mixKind X.prog X.w) a) ⟨vs, dd, by rw [← rel.length]; exact z, fun h' dd' hs => h _ ?_⟩
  have he : ∃ q, h'.get? a = some q := let ⟨q, _, _, hq, _⟩ := dd'; ⟨q, hq⟩
  exact d_write (t' := s.toks) I (by rw [e]; exact True.intro) hs he (dk_new (Nat.zero_le _) hd .nil dd')
/-- len(d) -/
theorem d_len {Q : Value → Shared → Prop} (I : Inv X pins σ H s) (e : Rd H a (.dK kvs)) (h : ∀ t s', Inv X pins σ H s' → Q (.int kvs.length t) s') : wpAny (model X.prog X.w) A (call (.builtin "len") [.ref a]) Q E s := by
  obtain ⟨z, hd, vs, rel, dd⟩ := dk_rd I.hok e
  refine call_len_dict hd dd (by rw [← rel.length]; rw [sizeLine_eq] at z; omega) ?_
  rw [← rel.length]
  exact h _ _ (I.tok _)
/-- if d -/
theorem d_truth {Q : Bool → Shared → Prop} (I : Inv X pins σ H s) (e : Rd H a (.dK kvs)) (h : ∀ s', Inv X pins σ H s' → Q (!kvs.isEmpty) s') : wpAny (model X.prog X.w) A (truthy (.ref a)) Q E s := by
  obtain ⟨z, hd, vs, rel, dd⟩ := dk_rd I.hok e
  refine wpAny_truthy_dict hd dd (by rw [← rel.length]; rw [sizeLine_eq] at z; omega) ?_
  have q : kvs.isEmpty = vs.isEmpty := by cases rel <;> rfl
  rw [← q]
  exact h _ (I.tok _)
end


/-! ### readings and rules -/
/-- the element of a subscription, not a slice -/
def NoSl (i : Expr) : Prop := ∀ ov iv, subscripted i false ov iv = operate [ov, iv] (getItem ov iv)
theorem subD_of {prog : Program} {w : World} {A : Around} {E : Value → Shared → Prop} {s : Shared} {env : Env} {value slice : Expr} {pos : Pos} {T id : String} {Q : Value → Shared → Prop}
    (hl : typeLookup (.type T) "__getitem__" = pure (some (.builtin id))) (hs : NoSl slice)
    (h : wpAny (model prog w) A (eval value env) (fun o s₁ => wpAny (model prog w) A (eval slice env) (fun i s₂ => s₂.TypeIs o T ∧ wpAny (model prog w) A (getItem o i) Q E s₂) E s₁) E s) :
    wpAny (model prog w) A (eval (.Subscript value slice pos) env) Q E s := by
  refine Subscript_ (wpAny_mono h (fun o s₁ h₁ => wpAny_mono h₁ (fun i s₂ h₂ => ?_) fun _ _ x => x) fun _ _ x => x)
  obtain ⟨hT, h₂⟩ := h₂
  unfold subscriptTail
  refine wpAny_bind ?_
  rw [getitemInPython_of_ne hT.not_modules]
  refine wpAny_bind (wpAny_specialOf hT hl ?_)
  have fin : wpAny (model prog w) A (subscripted slice false o i) (fun r s₃ => wpAny (model prog w) A (letTemporaryGo value o r >>= fun _ => pure r) Q E s₃) E s₂ := by
    rw [hs o i]
    exact wpAny_operating (wpAny_mono h₂ (fun r s₃ h₃ => wpAny_bind (wpAny_letTemporaryGo (wpAny_pure h₃))) fun _ _ x => x)
  first
    | exact wpAny_pure (wpAny_bind fin)
    | exact wpAny_bind (wpAny_pure (wpAny_bind fin))
    | exact wpAny_bind fin

theorem dict_typeIs {X : Cx} {pins : List (Addr × Obj)} {σ : St} {H : Hp} {s : Shared} {a : Addr} {y : V} {o : Option V} (I : Inv X pins σ H s) (g : DGet H a y o) : s.TypeIs (.ref a) "dict" := by
  rcases g with ⟨kvs, k, e, _, _⟩ | ⟨kvs, k, b, e, _, _, _⟩
  · obtain ⟨_, _, vs, _, dd⟩ := dk_rd I.hok e
    exact dd.typeIs
  · obtain ⟨_, _, xs, _, dd⟩ := dt_rd I.hok e
    exact dd.typeIs
theorem dict_noDict {X : Cx} {pins : List (Addr × Obj)} {σ : St} {H : Hp} {s : Shared} {a : Addr} {y : V} {o : Option V} (I : Inv X pins σ H s) (g : DGet H a y o) :
    ∀ b, Value.ref a = .ref b → ∃ ob, s.heap.get? b = some ob ∧ ob.dict = none := fun b q => by
  cases q
  rcases g with ⟨kvs, k, e, _, _⟩ | ⟨kvs, k, b, e, _, _, _⟩
  · obtain ⟨_, _, vs, _, ob, _, _, h1, h2, _⟩ := dk_rd I.hok e
    exact ⟨ob, h1, h2.2.1⟩
  · obtain ⟨_, _, xs, _, ob, _, _, h1, h2, _⟩ := dt_rd I.hok e
    exact ⟨ob, h1, h2.2.1⟩

/-- d[y] -/
def tDGet (td ty : TE) : TE := fun σ H Q => td σ H fun x H1 => ty σ H1 fun y H2 => ∃ a v, x = .ref a ∧ DGet H2 a y (some v) ∧ Q v H2
/-- y in d, y not in d -/
def tDIn (ty td : TE) : TE := fun σ H Q => ty σ H fun y H1 => td σ H1 fun x H2 => ∃ a o, x = .ref a ∧ DGet H2 a y o ∧ Q (.bl o.isSome) H2
def tDNotIn (ty td : TE) : TE := fun σ H Q => ty σ H fun y H1 => td σ H1 fun x H2 => ∃ a o, x = .ref a ∧ DGet H2 a y o ∧ Q (.bl (!o.isSome)) H2
/-- d[y] = v -/
def sDPut (td ty tv : TE) : TS := fun D σ H => tv σ H fun v H1 => td σ H1 fun x H2 => ty σ H2 fun y H3 => ∃ a H4, x = .ref a ∧ DPut H3 a y v H4 ∧ D.nx σ H4
/-- d[y] op= v -/
def sDAug (td ty tv : TE) (rd : V → V → Hp → VK → Prop) : TS := fun D σ H => td σ H fun x H1 => ty σ H1 fun y H2 => ∃ a v, x = .ref a ∧ DGet H2 a y (some v) ∧
  tv σ H2 fun y2 H3 => rd v y2 H3 fun z H4 => ∃ H5, DPut H4 a y z H5 ∧ D.nx σ H5
/-- del d[y] -/
def sDDel (td ty : TE) : TS := fun D σ H => td σ H fun x H1 => ty σ H1 fun y H2 => ∃ a kvs k, x = .ref a ∧ H2 a = some (.dK kvs) ∧ y = kV k ∧ (valV kvs k).isSome = true ∧ D.nx σ (upd H2 a (.dK (dropK kvs k)))

section
variable {X : Cx} {o i e value : Expr} {pos pos' tpos : Pos} {td ty tv : TE}
theorem pe_dget (hu : X.A.units + 1 < cLine) (ho : PE X o td) (hi : PE X i ty) (hs : NoSl i) : PE X (.Subscript o i pos) (tDGet td ty) := by
  intro pins s σ H Q I h
  refine subD_of PySem.F.slot_dict_getitem.lookup hs (thn (ho pins s σ H _ I h) fun u s1 ⟨x, H1, I1, rx, q1⟩ => thn (hi pins s1 σ H1 _ I1 q1) fun iv s2 ⟨y, H2, I2, ry, a, v, ex, g, q2⟩ => ?_)
  subst ex
  obtain rfl : u = Value.ref a := rx
  exact ⟨dict_typeIs I2 g, d_getItem hu I2 g ry fun w' s3 I3 rw' => ⟨v, H2, I3, rw', q2⟩⟩
theorem pc_din (hu : X.A.units + 1 < cLine) (hi : PE X i ty) (ho : PE X o td) : PC X .In i o (tDIn ty td) := by
  intro pins s σ H Q I h
  refine thn (hi pins s σ H _ I h) fun iv s1 ⟨y, H1, I1, ry, q1⟩ => thn (ho pins s1 σ H1 _ I1 q1) fun u s2 ⟨x, H2, I2, rx, a, ov, ex, g, q2⟩ => ?_
  subst ex
  obtain rfl : u = Value.ref a := rx
  exact d_in hu I2 g ry fun s3 I3 => ⟨.bl ov.isSome, H2, I3, rfl, q2⟩
theorem pc_dnotin (hu : X.A.units + 1 < cLine) (hi : PE X i ty) (ho : PE X o td) : PC X .NotIn i o (tDNotIn ty td) := by
  intro pins s σ H Q I h
  refine thn (hi pins s σ H _ I h) fun iv s1 ⟨y, H1, I1, ry, q1⟩ => thn (ho pins s1 σ H1 _ I1 q1) fun u s2 ⟨x, H2, I2, rx, a, ov, ex, g, q2⟩ => ?_
  subst ex
  obtain rfl : u = Value.ref a := rx
  exact d_notIn hu I2 g ry fun s3 I3 => ⟨.bl (!ov.isSome), H2, I3, rfl, q2⟩
theorem ps_dput (hu : X.A.units + 1 < cLine) (ho : PE X o td) (hi : PE X i ty) (hv : PE X value tv) (hs : swapsWith value (some (.Subscript o i pos')) pos.line X.env = pure false) :
    PS X (.Assign [.Subscript o i pos'] value pos) (sDPut td ty tv) := by
  intro pins s σ H D I h
  refine wpAny_Assign_Subscript (thn (hv pins s σ H _ I h) fun r s1 ⟨v, H1, I1, rv, q1⟩ => thn (ho pins s1 σ H1 _ I1 q1) fun u s2 ⟨x, H2, I2, rx, q2⟩ => thn (hi pins s2 σ H2 _ I2 q2) fun iv s3 ⟨y, H3, I3, ry, a, H4, ex, g, q3⟩ => ?_) hs
  subst ex
  obtain rfl : u = Value.ref a := rx
  exact d_setItem hu I3 g ry rv fun s4 I4 => ⟨σ, H4, I4, q3⟩
theorem ps_daug {op : Operator} {rd : V → V → Hp → VK → Prop} (hu : X.A.units + 1 < cLine) (ho : PE X o td) (hi : PE X i ty) (hv : PE X value tv) (hop : InOp X op rd)
    (ha : ∀ ov iv new, augStore i ov iv new = (do holding [new, ov, iv] (setItem ov iv new); release [new, ov, iv] []; pure .next)) : PS X (.AugAssign (.Subscript o i tpos) op value pos) (sDAug td ty tv rd) := by
  intro pins s σ H D I h
  refine wpAny_AugAssign_SubscriptAny (thn (ho pins s σ H _ I h) fun u s1 ⟨x, H1, I1, rx, q1⟩ => thn (hi pins s1 σ H1 _ I1 q1) fun iv s2 ⟨y, H2, I2, ry, a, v, ex, g, q2⟩ => ?_) ha
  subst ex
  obtain rfl : u = Value.ref a := rx
  refine d_getItem hu I2 g ry fun w' s3 I3 rw' => thn (hv pins s3 σ H2 _ I3 q2) fun w2 s4 ⟨y2, H3, I4, ry2, q3⟩ => thn (hop pins s4 σ H3 v y2 w' w2 _ I4 rw' ry2 q3) fun w3 s5 ⟨z, H4, I5, rz, H5, g5, q4⟩ => ?_
  exact d_setItem hu I5 g5 ry rz fun s6 I6 => ⟨σ, H5, I6, q4⟩
theorem ps_ddel (ho : PE X o td) (hi : PE X i ty) : PS X (.Delete [.Subscript o i tpos] pos) (sDDel td ty) := by
  intro pins s σ H D I h
  refine wpAny_Delete (wpAny_deleteEach_cons (wpAny_delete_Subscript (thn (ho pins s σ H _ I h) fun u s1 ⟨x, H1, I1, rx, q1⟩ => thn (hi pins s1 σ H1 _ I1 q1) fun iv s2 ⟨y, H2, I2, ry, a, kvs, k, ex, e, ey, l, q2⟩ => ?_)))
  subst ex ey
  obtain rfl : u = Value.ref a := rx
  exact d_delItem I2 e ry l fun s3 I3 => wpAny_deleteEach_nil ⟨σ, _, I3, q2⟩
end


/-! ### displays -/
theorem dk_empty {P : Program} {w : World} {H : Hp} (h : Heap) (hb : sysModules < h.objs.size) : ObjOk P w H (h.push { cls := .type "dict", data := .dict #[] }) h.objs.size (.dK []) :=
  ⟨Nat.zero_le _, beq_eq_false_iff_ne.mpr (Ne.symm (Nat.ne_of_lt hb)), [], .nil, Heap.DictOf.new h⟩
theorem dt_empty {P : Program} {w : World} {H : Hp} (h : Heap) (hb : sysModules < h.objs.size) : ObjOk P w H (h.push { cls := .type "dict", data := .dict #[] }) h.objs.size (.dT []) :=
  ⟨Nat.zero_le _, beq_eq_false_iff_ne.mpr (Ne.symm (Nat.ne_of_lt hb)), [], .nil, _, #[], 0, Heap.get?_push_size _ rfl, ⟨rfl, rfl, rfl⟩, rfl, rfl, List.nodup_nil⟩
/-- {}, to be a dict of the kind that is wanted -/
def tDNewK : TE := fun _ H Q => ∀ p, H p = none → Q (.ref p) (upd H p (.dK []))
def tDNewT : TE := fun _ H Q => ∀ p, H p = none → Q (.ref p) (upd H p (.dT []))
section
variable {X : Cx} {pos : Pos}
theorem pe_dnewK : PE X (.Dict [] [] pos) tDNewK := fun pins s σ H Q I h =>
  wpAny_Dict_empty ⟨.ref s.heap.objs.size, _, I.laid (a := s.heap.objs.size) (o := .dK []) (t' := s.toks) (fun _ _ q => Heap.get?_push_of_some _ q) (Nat.le_refl _) (dk_empty s.heap I.big), rfl, h _ (I.hok.fresh (Nat.le_refl _))⟩
theorem pe_dnewT : PE X (.Dict [] [] pos) tDNewT := fun pins s σ H Q I h =>
  wpAny_Dict_empty ⟨.ref s.heap.objs.size, _, I.laid (a := s.heap.objs.size) (o := .dT []) (t' := s.toks) (fun _ _ q => Heap.get?_push_of_some _ q) (Nat.le_refl _) (dt_empty s.heap I.big), rfl, h _ (I.hok.fresh (Nat.le_refl _))⟩
end

/-- the pairs of a display, from the left -/
def tPairs : List (TE × TE) → St → Hp → (List (V × V) → Hp → Prop) → Prop
  | [], _, H, Q => Q [] H
  | (tk, tv) :: r, σ, H, Q => tk σ H fun x H1 => tv σ H1 fun y H2 => tPairs r σ H2 fun ps H3 => Q ((x, y) :: ps) H3
abbrev VV : List (V × V) → List (Value × Value) → Prop := Paired fun p q => RelV p.1 q.1 ∧ RelV p.2 q.2
def PPs (X : Cx) (pos : Pos) (keys : List (Option Expr)) (values : List Expr) (trs : List (TE × TE)) : Prop :=
  ∀ (pins : List (Addr × Obj)) (s : Shared) (σ : St) (H : Hp) (Q : List (V × V) → Hp → Prop), Inv X pins σ H s → tPairs trs σ H Q →
    wpAny (model X.prog X.w) X.A (evalPairs (pairTrees keys values X.env pos)) (fun vs s' => ∃ ps H', Inv X pins σ H' s' ∧ VV ps vs ∧ Q ps H') X.xe s
theorem pps_nil {X : Cx} {pos : Pos} : PPs X pos [] [] [] := fun pins s σ H Q I h => pairTrees_nil_walk ⟨[], H, I, .nil, h⟩
theorem pps_cons {X : Cx} {pos : Pos} {k v : Expr} {ks : List (Option Expr)} {vs : List Expr} {tk tv : TE} {trs : List (TE × TE)} (hk : PE X k tk) (hv : PE X v tv) (hr : PPs X pos ks vs trs) :
    PPs X pos (some k :: ks) (v :: vs) ((tk, tv) :: trs) := fun pins s σ H Q I h =>
  pairTrees_cons_walk (thn (hk pins s σ H _ I h) fun u s1 ⟨x, H1, I1, rx, q1⟩ => thn (hv pins s1 σ H1 _ I1 q1) fun w2 s2 ⟨y, H2, I2, ry, q2⟩ =>
    thn (hr pins s2 σ H2 _ I2 q2) fun ws s3 ⟨ps, H3, I3, rel, q3⟩ => ⟨(x, y) :: ps, H3, I3, .cons ⟨rx, ry⟩ rel, q3⟩)

def mergeK (kvs more : List (Key × V)) : List (Key × V) := more.foldl (fun acc kv => putK acc kv.1 kv.2) kvs
theorem KV.merge : ∀ {more : List (Key × V)} {rs : List (Key × Value)} {kvs : List (Key × V)} {vs : List (Key × Value)}, KV more rs → KV kvs vs → KV (mergeK kvs more) (merged vs rs) := by
  intro more rs kvs vs r
  unfold KV at r
  induction r generalizing kvs vs with
  | nil => intro q; exact q
  | @cons p q ps qs h t ih =>
    intro r0
    have e : KV (putK kvs p.1 p.2) (stored vs q.1 q.2) := by
      have := r0.put p.1 h.2
      rw [← h.1]; exact this
    exact ih e
theorem length_mergeK : ∀ (more kvs : List (Key × V)), (mergeK kvs more).length ≤ kvs.length + more.length
  | [], kvs => by show kvs.length ≤ kvs.length + 0; omega
  | p :: r, kvs => by
    have h1 := length_mergeK r (putK kvs p.1 p.2)
    have h2 := length_putK kvs p.1 p.2
    show (mergeK (putK kvs p.1 p.2) r).length ≤ _
    rw [List.length_cons]; omega
theorem carries_of {P : Program} {w : World} : ∀ {kvs : List (Key × V)} {ws : List (Value × Value)}, VV (kvs.map fun kv => (kV kv.1, kv.2)) ws → ∃ rs, Carries (mixKind P w) ws rs ∧ KV kvs rs
  | [], _, r => by rw [List.map_nil] at r; cases r; exact ⟨[], True.intro, .nil⟩
  | p :: kvs, _, r => by
    rw [List.map_cons] at r
    cases r with
    | @cons a b as bs h t =>
      obtain ⟨rs, c, q⟩ := carries_of (P := P) (w := w) t
      obtain ⟨b1, b2⟩ := b
      exact ⟨(p.1, b2) :: rs, ⟨kV_is h.1, rfl, c⟩, .cons ⟨rfl, h.2⟩ q⟩
/-- {k: v, ..} with keys ints and texts; the new dict stands empty while the pairs are made -/
def tDisp (trs : List (TE × TE)) : TE := fun σ H Q => ∀ p, H p = none → tPairs trs σ (upd H p (.dK [])) fun ps H2 => H2 p = some (.dK []) ∧ ∃ kvs : List (Key × V), ps = kvs.map (fun kv => (kV kv.1, kv.2)) ∧ kvs.length ≤ 15 ∧ Q (.ref p) (upd H2 p (.dK (mergeK [] kvs)))
theorem pe_disp {X : Cx} {pos : Pos} {keys : List (Option Expr)} {values : List Expr} {trs : List (TE × TE)} (h : PPs X pos keys values trs) (hall : keys.all (·.isSome) = true) (hl : keys.length = values.length) (h0 : keys ≠ [])
    (h15 : keys.length ≤ 15) : PE X (.Dict keys values pos) (tDisp trs) := by
  intro pins s σ H Q I q
  have hn := I.hok.fresh (Nat.le_refl s.heap.objs.size)
  have I1 := I.laid (a := s.heap.objs.size) (o := .dK []) (h' := s.heap.push { cls := .type "dict", data := .dict #[] }) (t' := s.toks) (fun _ _ q => Heap.get?_push_of_some _ q) (Nat.le_refl _) (dk_empty s.heap I.big)
  refine wpAny_Dict_walk (knd := mixKind X.prog X.w) hall hl h0 h15 (thn (h pins _ σ _ _ I1 (q _ hn)) fun ws s2 ⟨ps, H2, I2, rel, e, kvs, ep, lk, q2⟩ => ?_)
  subst ep
  obtain ⟨rs, c, rk⟩ := carries_of (P := X.prog) (w := X.w) rel
  obtain ⟨z, hd, vs0, r0, dd⟩ := dk_of I2.hok e
  cases r0
  refine ⟨rs, c, dd, fun h' dd' hs => ⟨.ref s.heap.objs.size, _, ?_, rfl, q2⟩⟩
  have hz : (mergeK [] kvs).length ≤ sizeLine := by
    have h1 := length_mergeK kvs []
    rw [List.length_nil] at h1
    rw [sizeLine_eq]; omega
  have he : ∃ q, h'.get? s.heap.objs.size = some q := let ⟨q, _, _, hq, _⟩ := dd'; ⟨q, hq⟩
  exact d_write I2 (by rw [e]; exact True.intro) hs he (dk_new hz hd (rk.merge .nil) dd')


/-! ### methods -/
/-- a method call o.m(e) of a built-in, with one argument: what must be seen of the text -/
structure M1 (X : Cx) (o : Expr) (m : Str) (apos : Pos) (e : Expr) (cpos : Pos) : Prop where
  base : attributeBase o m X.env (eval o X.env) = eval o X.env
  few : ((backTo cpos (starEach [e] X.env)).all (fun x => !x.1) && (backToKw cpos (keywordEach [] X.env)).all (fun x => x.1.isSome)
    && decide (([e] : List Expr).length + ([] : List Keyword).length + (if ([] : List Keyword).isEmpty then 0 else 1) < 30)) = true
  line : (apos.endLine == cpos.line) = true
  trees : backTo cpos (starEach [e] X.env) = [(false, eval e X.env)]
structure M2 (X : Cx) (o : Expr) (m : Str) (apos : Pos) (e f : Expr) (cpos : Pos) : Prop where
  base : attributeBase o m X.env (eval o X.env) = eval o X.env
  few : ((backTo cpos (starEach [e, f] X.env)).all (fun x => !x.1) && (backToKw cpos (keywordEach [] X.env)).all (fun x => x.1.isSome)
    && decide (([e, f] : List Expr).length + ([] : List Keyword).length + (if ([] : List Keyword).isEmpty then 0 else 1) < 30)) = true
  line : (apos.endLine == cpos.line) = true
  trees : backTo cpos (starEach [e, f] X.env) = [(false, eval e X.env), (false, eval f X.env)]

/-- a is a dict, whatever its keys -/
def IsD (H : Hp) (a : Addr) : Prop := (∃ kvs, Rd H a (.dK kvs)) ∨ ∃ kvs, Rd H a (.dT kvs)
theorem isD_at {X : Cx} {pins : List (Addr × Obj)} {σ : St} {H : Hp} {s : Shared} {a : Addr} (I : Inv X pins σ H s) (d : IsD H a) :
    s.TypeIs (.ref a) "dict" ∧ (∀ b, Value.ref a = .ref b → ∃ ob, s.heap.get? b = some ob ∧ ob.dict = none) ∧ (a == sysModules) = false := by
  rcases d with ⟨kvs, e⟩ | ⟨kvs, e⟩
  · obtain ⟨_, hd, vs, _, dd⟩ := dk_rd I.hok e
    refine ⟨dd.typeIs, fun b q => ?_, hd⟩
    cases q
    obtain ⟨ob, _, _, h1, h2, _⟩ := dd
    exact ⟨ob, h1, h2.2.1⟩
  · obtain ⟨_, hd, xs, _, dd⟩ := dt_rd I.hok e
    refine ⟨dd.typeIs, fun b q => ?_, hd⟩
    cases q
    obtain ⟨ob, _, _, h1, h2, _⟩ := dd
    exact ⟨ob, h1, h2.2.1⟩

section
variable {X : Cx} {pins : List (Addr × Obj)} {σ : St} {H : Hp} {s : Shared} {a : Addr} {y d : V} {u r : Value} {o : Option V} {A : Around} {E : Value → Shared → Prop}
/-- d.get(y) -/
theorem d_get1 {Q : Value → Shared → Prop} (hu : A.units + 1 < cLine) (I : Inv X pins σ H s) (g : DGet H a y o) (ry : RelV y u) (h : ∀ w' s', Inv X pins σ H s' → RelV (o.getD .non) w' → Q w' s') :
    wpAny (model X.prog X.w) A (call (.builtin "dict.get") [.ref a, u]) Q E s := by
  rcases g with ⟨kvs, k, e, ey, l⟩ | ⟨kvs, k, b, e, ey, eb, l⟩
  · subst ey
    obtain ⟨z, hd, vs, rel, dd⟩ := dk_rd I.hok e
    refine call_meetsIn PySem.F.slot_dict_get dd.typeIs PySem.F.entry_dict_get (PySem.F.args_dict_get_2 _ _) (meets_dict_get (mixKind X.prog X.w) a (kV_is ry) hd) ⟨_, dd.mapOf, h _ _ (I.tok _) ?_⟩
    rw [l]
    exact (rel.val k).getD rfl
  · subst ey
    cases (show u = Value.ref b from ry)
    obtain ⟨z, hd, xs, rel, dd⟩ := dt_rd I.hok e
    refine call_meetsIn PySem.F.slot_dict_get dd.typeIs PySem.F.entry_dict_get (PySem.F.args_dict_get_2 _ _) (meetsH_dict_get (tupleKind (mixKind X.prog X.w)) a b hd) ⟨tupleKind_room_in1 hu, k, xs, key_of I.hok eb, dd, h _ _ (I.tok _) ?_⟩
    rw [l]
    exact (rel.val k).getD rfl
/-- d.get(y, x) -/
theorem d_get2 {Q : Value → Shared → Prop} (hu : A.units + 1 < cLine) (I : Inv X pins σ H s) (g : DGet H a y o) (ry : RelV y u) (rd : RelV d r) (h : ∀ w' s', Inv X pins σ H s' → RelV (o.getD d) w' → Q w' s') :
    wpAny (model X.prog X.w) A (call (.builtin "dict.get") [.ref a, u, r]) Q E s := by
  rcases g with ⟨kvs, k, e, ey, l⟩ | ⟨kvs, k, b, e, ey, eb, l⟩
  · subst ey
    obtain ⟨z, hd, vs, rel, dd⟩ := dk_rd I.hok e
    refine call_meetsIn PySem.F.slot_dict_get dd.typeIs PySem.F.entry_dict_get (PySem.F.args_dict_get_3 _ _ _) (meets_dict_get_default (mixKind X.prog X.w) a (kV_is ry) hd r) ⟨_, dd.mapOf, h _ _ (I.tok _) ?_⟩
    rw [l]
    exact (rel.val k).getD rd
  · subst ey
    cases (show u = Value.ref b from ry)
    obtain ⟨z, hd, xs, rel, dd⟩ := dt_rd I.hok e
    refine call_meetsIn PySem.F.slot_dict_get dd.typeIs PySem.F.entry_dict_get (PySem.F.args_dict_get_3 _ _ _) (meetsH_dict_get_default (tupleKind (mixKind X.prog X.w)) a b hd r) ⟨tupleKind_room_in1 hu, k, xs, key_of I.hok eb, dd, h _ _ (I.tok _) ?_⟩
    rw [l]
    exact (rel.val k).getD rd
end

def tDGet1 (td ty : TE) : TE := fun σ H Q => td σ H fun x H1 => ∃ a, x = .ref a ∧ IsD H1 a ∧ ty σ H1 fun y H2 => ∃ o, DGet H2 a y o ∧ Q (o.getD .non) H2
def tDGet2 (td ty tx : TE) : TE := fun σ H Q => td σ H fun x H1 => ∃ a, x = .ref a ∧ IsD H1 a ∧ ty σ H1 fun y H2 => tx σ H2 fun z H3 => ∃ o, DGet H3 a y o ∧ Q (o.getD z) H3
/-- d.pop(k): there; d.pop(k, x): there or not -/
def tDPop1 (td ty : TE) : TE := fun σ H Q => td σ H fun x H1 => ∃ a, x = .ref a ∧ IsD H1 a ∧ ty σ H1 fun y H2 => ∃ kvs k v, H2 a = some (.dK kvs) ∧ y = kV k ∧ valV kvs k = some v ∧ Q v (upd H2 a (.dK (dropK kvs k)))
def tDPop2 (td ty tx : TE) : TE := fun σ H Q => td σ H fun x H1 => ∃ a, x = .ref a ∧ IsD H1 a ∧ ty σ H1 fun y H2 => tx σ H2 fun z H3 => ∃ kvs k, H3 a = some (.dK kvs) ∧ y = kV k ∧
  (∀ v, valV kvs k = some v → Q v (upd H3 a (.dK (dropK kvs k)))) ∧ (valV kvs k = none → Q z H3)
section
variable {X : Cx} {o e f : Expr} {apos cpos : Pos} {td ty tx : TE}
theorem pe_dget1 (hu : X.A.units + 1 < cLine) (ho : PE X o td) (he : PE X e ty) (m : M1 X o "get" apos e cpos) : PE X (.Call (.Attribute o "get" apos) [e] [] cpos) (tDGet1 td ty) := by
  intro pins s σ H Q I h
  refine wpAny_Call_method m.base m.few m.line PySem.F.plainAttrs_dict PySem.F.slot_dict_get PySem.F.type_dict_get (thn (ho pins s σ H _ I h) fun u s1 ⟨x, H1, I1, rx, a, ex, d, q1⟩ => ?_)
  subst ex
  obtain rfl : u = Value.ref a := rx
  obtain ⟨t1, t2, _⟩ := isD_at I1 d
  refine ⟨t1, t2, ?_⟩
  rw [m.trees]
  refine Calls.callWith_builtin rfl (Calls.evalArgs_plain (Calls.spliced_cons (thn (he pins s1 σ H1 _ I1 q1) fun iv s2 ⟨y, H2, I2, ry, ov, g, q2⟩ => Calls.spliced_nil ?_)))
  exact d_get1 hu I2 g ry fun w' s3 I3 rw' => ⟨_, H2, I3, rw', q2⟩
theorem pe_dget2 (hu : X.A.units + 1 < cLine) (ho : PE X o td) (he : PE X e ty) (hf : PE X f tx) (m : M2 X o "get" apos e f cpos) : PE X (.Call (.Attribute o "get" apos) [e, f] [] cpos) (tDGet2 td ty tx) := by
  intro pins s σ H Q I h
  refine wpAny_Call_method m.base m.few m.line PySem.F.plainAttrs_dict PySem.F.slot_dict_get PySem.F.type_dict_get (thn (ho pins s σ H _ I h) fun u s1 ⟨x, H1, I1, rx, a, ex, d, q1⟩ => ?_)
  subst ex
  obtain rfl : u = Value.ref a := rx
  obtain ⟨t1, t2, _⟩ := isD_at I1 d
  refine ⟨t1, t2, ?_⟩
  rw [m.trees]
  refine Calls.callWith_builtin rfl (Calls.evalArgs_plain (Calls.spliced_cons (thn (he pins s1 σ H1 _ I1 q1) fun iv s2 ⟨y, H2, I2, ry, q2⟩ =>
    Calls.spliced_cons (thn (hf pins s2 σ H2 _ I2 q2) fun fv s3 ⟨z, H3, I3, rz, ov, g, q3⟩ => Calls.spliced_nil ?_))))
  exact d_get2 hu I3 g ry rz fun w' s4 I4 rw' => ⟨_, H3, I4, rw', q3⟩
theorem pe_dpop1 (ho : PE X o td) (he : PE X e ty) (m : M1 X o "pop" apos e cpos) : PE X (.Call (.Attribute o "pop" apos) [e] [] cpos) (tDPop1 td ty) := by
  intro pins s σ H Q I h
  refine wpAny_Call_method m.base m.few m.line PySem.F.plainAttrs_dict PySem.F.slot_dict_pop PySem.F.type_dict_pop (thn (ho pins s σ H _ I h) fun u s1 ⟨x, H1, I1, rx, a, ex, d, q1⟩ => ?_)
  subst ex
  obtain rfl : u = Value.ref a := rx
  obtain ⟨t1, t2, _⟩ := isD_at I1 d
  refine ⟨t1, t2, ?_⟩
  rw [m.trees]
  refine Calls.callWith_builtin rfl (Calls.evalArgs_plain (Calls.spliced_cons (thn (he pins s1 σ H1 _ I1 q1) fun iv s2 ⟨y, H2, I2, ry, kvs, k, v, ea, ey, l, q2⟩ => Calls.spliced_nil ?_)))
  subst ey
  exact d_pop I2 ea ry l (.inl rfl) fun w' s3 I3 rw' => ⟨v, _, I3, rw', q2⟩
theorem pe_dpop2 (ho : PE X o td) (he : PE X e ty) (hf : PE X f tx) (m : M2 X o "pop" apos e f cpos) : PE X (.Call (.Attribute o "pop" apos) [e, f] [] cpos) (tDPop2 td ty tx) := by
  intro pins s σ H Q I h
  refine wpAny_Call_method m.base m.few m.line PySem.F.plainAttrs_dict PySem.F.slot_dict_pop PySem.F.type_dict_pop (thn (ho pins s σ H _ I h) fun u s1 ⟨x, H1, I1, rx, a, ex, d, q1⟩ => ?_)
  subst ex
  obtain rfl : u = Value.ref a := rx
  obtain ⟨t1, t2, _⟩ := isD_at I1 d
  refine ⟨t1, t2, ?_⟩
  rw [m.trees]
  refine Calls.callWith_builtin rfl (Calls.evalArgs_plain (Calls.spliced_cons (thn (he pins s1 σ H1 _ I1 q1) fun iv s2 ⟨y, H2, I2, ry, q2⟩ =>
    Calls.spliced_cons (thn (hf pins s2 σ H2 _ I2 q2) fun fv s3 ⟨z, H3, I3, rz, kvs, k, ea, ey, q3, q4⟩ => Calls.spliced_nil ?_))))
  subst ey
  cases l : valV kvs k with
  | some v => exact d_pop I3 ea ry l (.inr ⟨fv, rfl⟩) fun w' s4 I4 rw' => ⟨v, _, I4, rw', q3 v l⟩
  | none => exact d_popD I3 ea ry l fun s4 I4 => ⟨z, H3, I4, rz, q4 l⟩
end

/-! ### dict(d): a copy -/
section
variable {X : Cx} {pins : List (Addr × Obj)} {σ : St} {H : Hp} {s : Shared} {a : Addr} {kvs : List (Key × V)} {A : Around} {E : Value → Shared → Prop}
theorem d_copyOf {Q : Value → Shared → Prop} (I : Inv X pins σ H s) (e : Rd H a (.dK kvs)) (h : ∀ p s', H p = none → Inv X pins σ (upd H p (.dK kvs)) s' → Q (.ref p) s') : wpAny (model X.prog X.w) A (call (.type "dict") [.ref a]) Q E s := by
  obtain ⟨z, hd, vs, rel, dd⟩ := dk_rd I.hok e
  refine kt_call_dict hd dd (by rw [← rel.length]; exact z) fun h' dd' hs => ?_
  refine h _ _ (I.hok.fresh (Nat.le_refl _)) (I.laid (a := s.heap.objs.size) (o := .dK kvs) (t' := s.toks) (fun b q hq => ?_) (Nat.le_refl _) (dk_new z (beq_eq_false_iff_ne.mpr (Ne.symm (Nat.ne_of_lt I.big))) rel dd'))
  exact (hs.2 b (Nat.ne_of_lt (Heap.lt_size hq))).trans (Heap.get?_push_of_some _ hq)
end


section
variable {X : Cx} {pins : List (Addr × Obj)} {σ : St} {H : Hp} {s : Shared} {a : Addr} {y : V} {u : Value} {A : Around} {E : Value → Shared → Prop}
/-- d[y], not there: a KeyError -/
theorem d_missing {Q : Value → Shared → Prop} (hu : A.units + 1 < cLine) (hh : A.handled = none) (I : Inv X pins σ H s) (g : DGet H a y none) (ry : RelV y u)
    (h : ∀ h' e t', Heap.NewExc s.heap h' e "KeyError" → E (.ref e) { s with heap := h', toks := t' }) : wpAny (model X.prog X.w) A (getItem (.ref a) u) Q E s := by
  rcases g with ⟨kvs, k, e, ey, l⟩ | ⟨kvs, k, b, e, ey, eb, l⟩
  · subst ey
    obtain ⟨z, hd, vs, rel, dd⟩ := dk_rd I.hok e
    have hn : valueAt vs k = none := RelO.none_of (by rw [l]; exact rel.val k)
    exact wpAny_getItem_missing_of (kV_is ry) hd hh dd.mapOf hn fun h' ex ne => h h' ex _ ne
  · subst ey
    cases (show u = Value.ref b from ry)
    obtain ⟨z, hd, xs, rel, dd⟩ := dt_rd I.hok e
    have hn : (atKey xs k).map (·.2) = none := RelO.none_of (by rw [l]; exact rel.val k)
    exact wpAny_getItem_missing_heap (tupleKind_room_in1 hu) (key_of I.hok eb) hd hh dd (Option.map_eq_none_iff.mp hn) fun h' ex ne => h h' ex _ ne
end
end L2

namespace Att
open PySem PySem.W PySem.Calls PyProof.Rows

/-! ### the script -/
theorem ints_of_wellAll {P : Params} {h : Heap} : ∀ (ns : List Int) (vs : List Value), WellAll P h vs (ns.map WData.int) → IntsAre vs ns := by
  intro ns
  induction ns with
  | nil =>
    intro vs w
    rw [List.map_nil] at w
    cases w
    exact .nil
  | cons n ns ih =>
    intro vs w
    rw [List.map_cons] at w
    cases w with
    | cons a b =>
      cases a
      exact .cons _ _ (ih _ b)

theorem script_of {l : OpenLaw} {n : Nat} (hn : l.most = some n) {P : Params} {h : Heap} {args : List WData} {vals : List Value}
    (hpre : l.row.toRowW.claim.pre args = true) (hwl : WellAll P h vals args) :
    ∃ a vs ns, vals = [Value.ref a] ∧ args = [WData.list (ns.map WData.int)] ∧ h.get? a = some { cls := .type "list", data := .seq vs.toArray } ∧ IntsAre vs ns ∧ ns.length ≤ n := by
  have hsh : WShape.hasAll [] args [.list .int] = true := (pre_splitW hpre).1
  have hc : l.pre.holds [] { args := args } = true := (pre_splitW hpre).2
  obtain ⟨d, r, rfl, h1, h2⟩ := hasAllW_cons hsh
  obtain rfl := hasAllW_nil h2
  obtain ⟨xs, rfl, h3⟩ := hasW_list h1
  obtain ⟨ns, rfl⟩ := items_int h3
  have hlen : ns.length ≤ n := by
    unfold OpenLaw.pre at hc
    have h4 : (WTm.not (.lt (.lit (.int (n : Int))) (.len (.arg 0)))).holds [] { args := [.list (ns.map .int)] } = true := by
      have h4 := (holds_andW hc).1
      rw [hn] at h4
      exact h4
    have h5 := condW_of h4 (w_not (w_lt w_lit (w_len_list (w_arg rfl))))
    rw [List.length_map] at h5
    refine Nat.le_of_not_lt fun q => ?_
    have q' : (n : Int) < ((ns.length : Nat) : Int) := by omega
    first
      | (rw [decide_eq_true q'] at h5; exact absurd h5 (by decide))
      | (simp at h5; omega)
  cases hwl with
  | cons w1 w2 =>
    cases w2
    cases w1 with
    | list ho hall => exact ⟨_, _, ns, rfl, rfl, ho, ints_of_wellAll ns _ hall, hlen⟩

theorem post_true (l : OpenLaw) (args : List WData) : l.row.toRowW.claim.post args (.bool true) args = true :=
  postW_of (r := l.row.toRowW) (X := (true == true))
    (show WShape.has [] (.bool true) .bool = true by first | rfl | decide | simp [WShape.has, WShape.arms, WShape.armsAll])
    (show (WTm.eq .res (.lit (.bool true))).value [] { args := args, res := some (.bool true), after := args } = some (.bool (true == true)) from w_eq_bool (w_res rfl) w_lit) rfl

/-! ### the attachment: holds_open's last premise (the goal 'hc' behind k_head) from a wpAny of the law's body -/
theorem attach {l : OpenLaw} {n : Nat} {q : Program} {loose : List Str} {XP : (Str → Option Value) → Heap → Prop} {YP : World → Heap → Prop} {d : DefRec} {x : Str}
    (hn : l.most = some n) (hdf : d.params.defaults = [])
    (hbind : ∀ pm cd doc v : Value, bindArgs (docDef d.name d.params d.body d.scope pm cd doc) ⟨[v], []⟩ = pure [(x, v)])
    (hx : d.scope.names.lookup x = some .local ∨ d.scope.names.lookup x = some .cell)
    (hk : d.scope.kind = .function) (hco : d.scope.isCoroutine = false) (hgen : d.scope.isGenerator = false)
    (body : ∀ (w : World) (s₀ s₁ s : Shared) (mg mb : Str → Option Value) (fa : Addr) (o : Obj) (pm cd doc : Value) (a : Addr) (vs : List Value) (ns : List Int),
      Ground q loose [] XP w s₀ mg mb s₁.heap → YP w s₁.heap →
      s₁.heap.get? fa = some o → o.data = .func (docDef d.name d.params d.body d.scope pm cd doc) → s₁.heap.CodeRec cd d.name → mg d.name = some (.ref fa) →
      s₁.heap.get? a = some { cls := .type "list", data := .seq vs.toArray } → IntsAre vs ns → ns.length ≤ n →
      s.gens = #[] → s.os = s₁.os →
      Fr s₁.heap s₁.heap.objs.size s.heap (bindL (envOfC d.name d.scope s₁.heap.objs.size fa cd).kindOf [(x, .ref a)] fun _ => none) →
      Cl s₁.heap.objs.size (cellsFrom (s₁.heap.objs.size + 1) d.scope.names []) s.heap (bindC (envOfC d.name d.scope s₁.heap.objs.size fa cd).kindOf [(x, .ref a)] fun _ => none) →
      wpAny (model l.prog w) (callerA.deeper (envOfC d.name d.scope s₁.heap.objs.size fa cd)) (execs d.body (envOfC d.name d.scope s₁.heap.objs.size fa cd))
        (fun f s' => f = .ret (.bool true) ∧ OldK s₁.heap s'.heap ∧ s'.os = s₁.os ∧ AllBare s'.gens) (fun _ _ => False) s) :
    WalkO q loose XP YP l.row.toRowW d [] (fun f vs => PySem.call f vs) := by
  intro w s₀ s₁ mg mb G Y fa o pm cd doc dV kV ho hd hcd hD hmg hg args vals as hpre hlay hrd hwl hlo
  obtain rfl : dV = .none := Dflts.none hD hdf
  obtain rfl : kV = .none := Dflts.noKw hD
  obtain ⟨a, vs, ns, rfl, rfl, hobj, hints, hlen⟩ := script_of hn hpre hwl
  refine enter_call ?_
  refine call_cells_ret (o := o) (by rw [depth_caller]; decide) ho (fd_plain hd) G.T.nolimit hcd (hbind pm cd doc (.ref a)) (fun y hy => ?_) (fun h₁ tk F X => ?_) hco hgen hk
  · obtain rfl : y = (x, Value.ref a) := List.mem_singleton.mp hy
    rcases hx with e | e
    · exact .inl e
    · exact .inr ⟨e, cellsFrom_some _ _ _ (.inl e)⟩
  · refine wpAny_mono (body w s₀ s₁ { s₁ with heap := h₁, toks := tk } mg mb fa o pm cd doc a vs ns G Y ho (fd_plain hd) hcd hmg hobj hints hlen hg rfl F X) (fun f s' hq => ?_) (fun _ _ hq => hq)
    obtain ⟨rfl, h2, h3, h4⟩ := hq
    exact ⟨.inl ⟨.bool true, .bool true, [], rfl, fun _ => rfl, .bool true, post_true l _, fun _ => ⟨List.Pairwise.nil, fun _ hm => (nomatch hm)⟩⟩, h2, h3, h4⟩

/-- the same from a codeAny of the CALL (for a layer whose function contracts speak of calls) -/
theorem attach_call {l : OpenLaw} {n : Nat} {q : Program} {loose : List Str} {XP : (Str → Option Value) → Heap → Prop} {YP : World → Heap → Prop} {d : DefRec}
    (hn : l.most = some n) (hdf : d.params.defaults = [])
    (call : ∀ (w : World) (s₀ s₁ : Shared) (mg mb : Str → Option Value) (fa : Addr) (o : Obj) (pm cd doc : Value) (a : Addr) (vs : List Value) (ns : List Int),
      Ground q loose [] XP w s₀ mg mb s₁.heap → YP w s₁.heap →
      s₁.heap.get? fa = some o → o.data = .func (docDef d.name d.params d.body d.scope pm cd doc) → s₁.heap.CodeRec cd d.name → mg d.name = some (.ref fa) →
      s₁.heap.get? a = some { cls := .type "list", data := .seq vs.toArray } → IntsAre vs ns → ns.length ≤ n → s₁.gens = #[] →
      codeAny (model l.prog w) callerA (.call (.ref fa) ⟨[.ref a], []⟩) (fun r s' => r = .ok (.ret (.bool true)) ∧ OldK s₁.heap s'.heap ∧ s'.os = s₁.os ∧ AllBare s'.gens) s₁) :
    WalkO q loose XP YP l.row.toRowW d [] (fun f vs => PySem.call f vs) := by
  intro w s₀ s₁ mg mb G Y fa o pm cd doc dV kV ho hd hcd hD hmg hg args vals as hpre hlay hrd hwl hlo
  obtain rfl : dV = .none := Dflts.none hD hdf
  obtain rfl : kV = .none := Dflts.noKw hD
  obtain ⟨a, vs, ns, rfl, rfl, hobj, hints, hlen⟩ := script_of hn hpre hwl
  refine enter_call (codeAny_mono (call w s₀ s₁ mg mb fa o pm cd doc a vs ns G Y ho (fd_plain hd) hcd hmg hobj hints hlen hg) fun r s' hq => ?_)
  obtain ⟨rfl, h2, h3, h4⟩ := hq
  exact ⟨.inl ⟨.bool true, .bool true, [], rfl, fun _ => rfl, .bool true, post_true l _, fun _ => ⟨List.Pairwise.nil, fun _ hm => (nomatch hm)⟩⟩, h2, h3, h4⟩

/-- the same where the top left finished generators (o_head chose holds_openN): nothing may have changed at all and no generator may be left -/
theorem attachN {l : OpenLaw} {n : Nat} {q : Program} {loose : List Str} {XP : (Str → Option Value) → Heap → Prop} {YP : World → Heap → Prop} {d : DefRec} {x : Str}
    (hn : l.most = some n) (hdf : d.params.defaults = [])
    (hbind : ∀ pm cd doc v : Value, bindArgs (docDef d.name d.params d.body d.scope pm cd doc) ⟨[v], []⟩ = pure [(x, v)])
    (hx : d.scope.names.lookup x = some .local ∨ d.scope.names.lookup x = some .cell)
    (hk : d.scope.kind = .function) (hco : d.scope.isCoroutine = false) (hgen : d.scope.isGenerator = false)
    (body : ∀ (w : World) (s₀ s₁ s : Shared) (mg mb : Str → Option Value) (fa : Addr) (o : Obj) (pm cd doc : Value) (a : Addr) (vs : List Value) (ns : List Int),
      Ground q loose [] XP w s₀ mg mb s₁.heap → YP w s₁.heap →
      s₁.heap.get? fa = some o → o.data = .func (docDef d.name d.params d.body d.scope pm cd doc) → s₁.heap.CodeRec cd d.name → mg d.name = some (.ref fa) →
      s₁.heap.get? a = some { cls := .type "list", data := .seq vs.toArray } → IntsAre vs ns → ns.length ≤ n →
      s.gens = #[] → s.os = s₁.os →
      Fr s₁.heap s₁.heap.objs.size s.heap (bindL (envOfC d.name d.scope s₁.heap.objs.size fa cd).kindOf [(x, .ref a)] fun _ => none) →
      Cl s₁.heap.objs.size (cellsFrom (s₁.heap.objs.size + 1) d.scope.names []) s.heap (bindC (envOfC d.name d.scope s₁.heap.objs.size fa cd).kindOf [(x, .ref a)] fun _ => none) →
      wpAny (model l.prog w) (callerA.deeper (envOfC d.name d.scope s₁.heap.objs.size fa cd)) (execs d.body (envOfC d.name d.scope s₁.heap.objs.size fa cd))
        (fun f s' => f = .ret (.bool true) ∧ (∀ b o, s₁.heap.get? b = some o → s'.heap.get? b = some o) ∧ s'.os = s₁.os ∧ s'.gens = #[]) (fun _ _ => False) s) :
    WalkN q loose XP YP l.row.toRowW d [] (fun f vs => PySem.call f vs) := by
  intro w s₀ s₁ mg mb G Y fa o pm cd doc dV kV ho hd hcd hD hmg hg args vals as hpre hlay hrd hwl hlo
  obtain rfl : dV = .none := Dflts.none hD hdf
  obtain rfl : kV = .none := Dflts.noKw hD
  obtain ⟨a, vs, ns, rfl, rfl, hobj, hints, hlen⟩ := script_of hn hpre hwl
  refine enter_callW ?_
  refine call_cells_ret (o := o) (by rw [depth_caller]; decide) ho (fd_plain hd) G.T.nolimit hcd (hbind pm cd doc (.ref a)) (fun y hy => ?_) (fun h₁ tk F X => ?_) hco hgen hk
  · obtain rfl : y = (x, Value.ref a) := List.mem_singleton.mp hy
    rcases hx with e | e
    · exact .inl e
    · exact .inr ⟨e, cellsFrom_some _ _ _ (.inl e)⟩
  · refine wpAny_mono (body w s₀ s₁ { s₁ with heap := h₁, toks := tk } mg mb fa o pm cd doc a vs ns G Y ho (fd_plain hd) hcd hmg hobj hints hlen hg rfl F X) (fun f s' hq => ?_) (fun _ _ hq => hq)
    obtain ⟨rfl, h2, h3, h4⟩ := hq
    exact ⟨.inl ⟨.bool true, .bool true, [], rfl, fun _ => rfl, .bool true, post_true l _, fun _ => ⟨List.Pairwise.nil, fun _ hm => (nomatch hm)⟩⟩, h2, h3, h4⟩

/-! ### rules over ANY heap (no ledger) from facts about the written part K: the library's own take a ledger (News) for what they write -/
section
variable {prog : Program} {w : World} {A : Around} {E : Value → Shared → Prop} {s : Shared} {K : Frag}

/-- a def of the module, or a method (qual 'C.m'), entered: the frame is the next address; cells behind it -/
theorem call_fn {R : Result → Shared → Prop} {name qual : Str} {params : Arguments} {body : List Stmt} {scope : Scope} {dV kV doc pm cdv ct oc : Value} {an od : Option Addr} {osl : Array (Option Value)} {f : Addr} {args : Args} {binds : List (Str × Value)}
    (X : K.In s.heap) (hlim : s.heap.NoLimit) (ho : K.lookup f = some ⟨oc, od, .func (fnOf name qual params body scope dV kV doc pm an cdv ct), osl⟩) (hcd : codeIn K cdv qual = true) (hroom : A.depth < recursionLimit)
    (hbind : BindsTo s (fnOf name qual params body scope dV kV doc pm an cdv ct) args binds)
    (hkind : (binds.all fun y => scope.names.lookup y.1 == some .local || scope.names.lookup y.1 == some .cell) = true)
    (h : ∀ s₁, InCallC s s.heap.objs.size (bindL (envOfC qual scope s.heap.objs.size f cdv).kindOf binds fun _ => none) (cellsFrom (s.heap.objs.size + 1) scope.names [])
        (bindC (envOfC qual scope s.heap.objs.size f cdv).kindOf binds fun _ => none) s₁ →
      wpAny (model prog w) (A.deeper (envOfC qual scope s.heap.objs.size f cdv)) (execs body (envOfC qual scope s.heap.objs.size f cdv))
        (fun fl s' => R (.ok (.ret (match fl with | .ret v => v | _ => .none))) s')
        (fun e s' => wpAny (model prog w) (A.deeper (envOfC qual scope s.heap.objs.size f cdv)) (leaving (envOfC qual scope s.heap.objs.size f cdv) e) (fun _ s'' => R (.error e) s'') (fun e' s'' => R (.error e') s'') s') s₁)
    (hco : scope.isCoroutine = false) (hgen : scope.isGenerator = false) (hk : scope.kind = .function) : codeAny (model prog w) A (.call (.ref f) args) R s := by
  refine codeAny_call_function hroom (X _ _ ho) rfl hco hgen rfl (codeRec_of X hcd) (hbind _ _ _ _ ?_)
  refine wpAny_newFunctionEnv_cells hk (kindsX hkind _) fun env he s₁ x => ?_
  subst he
  exact ⟨hlim.keeps x.toInCall.keep, codeAny_func (h s₁ x)⟩

/-- C(..): dict at size, instance at size + 1, then __init__ -/
theorem make_obj {R : Result → Shared → Prop} {C fI : Addr} {rest : List Value} {kw : List (Str × Value)}
    (X : K.In s.heap) (hm : makesIn K C = true) (hi : findIn K (.ref C) "__init__" = some (some (.ref fI))) (hf : isFn K (.ref fI) = true)
    (h : codeAny (model prog w) (A.under (.builtin "type.__call__" ⟨.ref C :: rest, kw⟩)) (.call (.ref fI) ⟨.ref (s.heap.objs.size + 1) :: rest, kw⟩) (InitBack (s.heap.objs.size + 1) R)
      { s with heap := (s.heap.push emptyDict).push (instObj C s.heap.objs.size) }) : codeAny (model prog w) A (.call (.ref C) ⟨rest, kw⟩) R s := by
  obtain ⟨hh, g, d, t, os⟩ := s
  exact make_core (makes_of X hm) (looks_findIn X hi) (fun self => bind_fn X self (beq_iff_eq.mp hf)) (.inl rfl) h

/-- x.name where the instance's dict holds the name and the class does not -/
theorem get_field {x C : Addr} {ox : Obj} {es : List DictEntry} {n : Nat} {name : Str} {expr : Bool} {v : Value} {Q : Value → Shared → Prop}
    (X : K.In s.heap) (I : PySem.W.InstAt s.heap x ox C (some (dictOf es n))) (hg : plainGet K C name = true) (hh : hasDictIn K C = true) (ha : findIn K (.ref C) name = some none)
    (hl : getL name es = some (some v)) (hv : handedIn v = true) (h : Q v { s with toks := s.toks + 1 }) : wpAny (model prog w) A (getAttr (.ref x) name expr) Q E s :=
  get_value X I (plainGet_of hg).1 (findObj_own hh ha rfl hl) hv h

/-- x.m(..): the method found in the class -/
theorem get_method {x C f : Addr} {ox : Obj} {es : List DictEntry} {n : Nat} {name : Str} {pl : Sem Bool} {Q : Value × List Value → Shared → Prop}
    (X : K.In s.heap) (I : PySem.W.InstAt s.heap x ox C (some (dictOf es n))) (hg : plainGet K C name = true) (hf : findIn K (.ref C) name = some (some (.ref f))) (ht : isFn K (.ref f) = true)
    (hl : getL name es = some none) (h : Q (.ref f, [.ref x]) s) : wpAny (model prog w) A (getMethod (.ref x) name pl) Q E s :=
  method_fn X I (plainGet_of hg).1 (plainGet_of hg).2 hf (beq_iff_eq.mp ht) (by show (lookIn name (dictOf es n)).map _ = _; rw [lookIn_dict, hl]; rfl) h

/-! the whole heap as the ledger: makes every rule that writes through a ledger a rule over any heap -/
def noObjs (h : Heap) : Heap := { h with objs := #[] }
theorem noObjs_get (h : Heap) (b : Addr) : (noObjs h).get? b = none := by
  cases e : (noObjs h).get? b with
  | none => rfl
  | some o => exact absurd (Heap.lt_size e) (Nat.not_lt_zero _)
def ledger (h : Heap) (L d : Addr) : List (Addr × Obj) := (List.range h.objs.size).filterMap fun a => if a = L ∨ a = d then none else (h.get? a).map fun o => (a, o)
theorem mem_ledger {h : Heap} {L d a : Addr} {o : Obj} : (a, o) ∈ ledger h L d ↔ a ≠ L ∧ a ≠ d ∧ h.get? a = some o := by
  unfold ledger
  rw [List.mem_filterMap]
  constructor
  · rintro ⟨b, _, e⟩
    split at e
    · cases e
    · rename_i hb
      obtain ⟨o', ho, e'⟩ := Option.map_eq_some_iff.mp e
      cases e'
      exact ⟨fun q => hb (.inl q), fun q => hb (.inr q), ho⟩
  · rintro ⟨n1, n2, ho⟩
    refine ⟨a, List.mem_range.mpr (Heap.lt_size ho), ?_⟩
    rw [if_neg (show ¬ (a = L ∨ a = d) from fun q => q.elim n1 n2), ho] <;> rfl
theorem news_ledger {h : Heap} {L d : Addr} {od : Obj} (hne : d ≠ L) (ho : h.get? d = some od) : News (noObjs h) L h ([] ++ (d, od) :: ledger h L d) := by
  rintro ⟨a, o⟩ hp
  rcases List.mem_cons.mp hp with e | hp
  · cases e
    exact ⟨ho, hne, noObjs_get _ _⟩
  · obtain ⟨n1, n2, e⟩ := mem_ledger.mp hp
    exact ⟨e, n1, noObjs_get _ _⟩
theorem fr_all {h : Heap} {L : Addr} {m : Str → Option Value} (n : h.Ns L m) : Fr (noObjs h) L h m :=
  ⟨n, fun b o e => (by rw [noObjs_get] at e; cases e), Nat.zero_le _⟩
/-- Upd of the head entry (for append_K, setItem_K ..) -/
theorem upd_ledger {h : Heap} {L d : Addr} {o o' : Obj} : Upd d o o' ((d, o) :: ledger h L d) ((d, o') :: ledger h L d) :=
  .head fun ⟨_, _⟩ hp => (mem_ledger.mp hp).2.1

/-- x.name = v over any heap: L is any namespace of the heap (the frame's, say): its map stays, its object is not told; all else but the dict stays -/
theorem set_field {x C dx L : Addr} {ox : Obj} {m : Str → Option Value} {es es' : List DictEntry} {n n' : Nat} {name : Str} {v : Value} {Q : Unit → Shared → Prop}
    (X : K.In s.heap) (I : PySem.W.InstAt s.heap x ox C (some (dictOf es n))) (hd : ox.dict = some dx) (hL : s.heap.Ns L m) (hne : dx ≠ L)
    (hs : findIn K (.ref C) "__setattr__" = some (some (.builtin "object.__setattr__"))) (hp : plainOver K C = true) (ht : takerIn K C name = some none) (hh : hasDictIn K C = true) (hl : (getL name es).isSome = true)
    (e : (putL name (PyData.keyHash w.params name) (.str name (s.toks + 1)) v es, putN name es n) = (es', n')) (hz : es'.length ≤ 1000)
    (h : ∀ h' : Heap, h'.Ns L m → h'.get? dx = some (dictOf es' n') → (∀ b o, b ≠ dx → b ≠ L → s.heap.get? b = some o → h'.get? b = some o) → Q () { s with heap := h', toks := s.toks + 2 }) :
    wpAny (model prog w) A (setAttr (.ref x) name v) Q E s := by
  obtain ⟨e1, e2⟩ := Prod.mk.inj e
  have hdx : s.heap.get? dx = some (dictOf es n) := by
    have := I.dict
    rw [hd] at this
    exact this
  refine set_plain X I hs (osa_dict (s := { s with toks := s.toks + 1 }) (h₀ := noObjs s.heap) (L := L) (m := m) (od := dictOf es n) (od' := dictOf es' n') (es := es') (n := n') (pre := []) (post := ledger s.heap L dx)
    (fr_all hL) (news_ledger hne hdx) X I hd hp ht hh hl (fun _ q => nomatch q) (fun ⟨_, _⟩ q => (mem_ledger.mp q).2.1) (by rw [putName_dict, e1, e2]) rfl hz fun h' F' N' => ?_)
  exact h h' F'.ns (N'.get (List.Mem.head _)) fun b o n1 n2 ho => N'.get (List.Mem.tail _ (mem_ledger.mpr ⟨n2, n1, ho⟩))
end
end Att

namespace L2
open PySem PySem.Spec PyProof.Rows

theorem vals_ints : ∀ {vs : List Value} {ns : List Int}, IntsAre vs ns → Vals (ns.map V.int) vs
  | _, _, .nil => .nil
  | _, _, .cons n t h => .cons ⟨t, rfl⟩ (vals_ints h)

/-- nothing is tracked but the script, known to the object (or it is an object of the module) -/
def Only (H : Hp) : Prop := ∀ b, H b = none ∨ ∃ o xs, H b = some (.frz o (.lst xs))

/-- THE HEAD: the law's promise, at the heap behind the top. F, the promise of the law's def, may use that base is part of the heap (so K.In base, base.Ns mainGlobals mg stand in Mod) -/
theorem law_call {P : Program} {w : World} {K : PySem.W.Frag} {mg mb : Str → Option Value} {CX : CXT} {k : Nat} {fa a : Addr} {fd : FuncData} {x : Str} {sp : Sp} {s₁ : Shared} {vs : List Value} {ns : List Int}
    (KX : K.In s₁.heap) (hns : s₁.heap.Ns mainGlobals mg) (hb : s₁.heap.Ns builtinsNs mb) (hbb : ∀ x : Str, x ≠ "__name__" → mb x = bootBuiltins x) (hlim : s₁.heap.NoLimit) (hg : s₁.gens = #[])
    (ha : s₁.heap.get? a = some { cls := .type "list", data := .seq vs.toArray }) (hi : IntsAre vs ns) (hl : ns.length ≤ sizeLine) (hr : Room k callerA)
    (F : ∀ base : Heap, K.In base → base.Ns mainGlobals mg → FnOk P w K mg base CX k fa fd [x] sp) (hbind : ∀ (s : Shared) (u : Value), BindsTo s fd ⟨[u], []⟩ [(x, u)])
    (hsp : ∀ H : Hp, Only H → SqL K H a (ns.map V.int) → sp [.ref a] H (fun v _ => v = .bl true) fun _ _ _ => False)
    (hCX : ∀ H e s', CX [] H s₁ (fun _ _ _ => False) e s' → False) :
    codeAny (model P w) callerA (.call (.ref fa) ⟨[.ref a], []⟩) (fun r s' => r = .ok (.ret (.bool true)) ∧ OldK s₁.heap s'.heap ∧ s'.os = s₁.os ∧ AllBare s'.gens) s₁ := by
  have rv := vals_ints hi
  have lenV := hi.length
  -- from an abstract heap in which nothing but the script may be tracked
  have core : ∀ H : Hp, Only H → SqL K H a (ns.map V.int) → HOk P w H s₁.heap → (∀ b, H b ≠ none → b = a) → (H a ≠ none → K.lookup a = none) →
      codeAny (model P w) callerA (.call (.ref fa) ⟨[.ref a], []⟩) (fun r s' => r = .ok (.ret (.bool true)) ∧ OldK s₁.heap s'.heap ∧ s'.os = s₁.os ∧ AllBare s'.gens) s₁ := by
    intro H hO hS hok hA hK
    have base_of : ∀ {b : Addr} {o : Obj}, s₁.heap.get? b = some o → H b = none → (hidT s₁.heap H).get? b = some o := fun e n => hidT_get e n
    have noA : ∀ {b : Addr} {o : Obj} {es : Array DictEntry} {ep : Nat}, s₁.heap.get? b = some o → o.data = .dict es ep → H b = none := fun {b o es ep} e d => by
      cases q : H b with
      | none => rfl
      | some u =>
        have e' : b = a := hA b (by rw [q]; simp)
        subst e'
        rw [ha] at e; cases e
        have d' : Data.seq vs.toArray _ = Data.dict es ep := d
        cases d'
    have nsK : ∀ {b : Addr} {m : Str → Option Value}, s₁.heap.Ns b m → (hidT s₁.heap H).Ns b m := fun {b m} ⟨o, es, ep, e, d, r⟩ => ⟨o, es, ep, base_of e (noA e d), d, r⟩
    have hKb : K.In (hidT s₁.heap H) := fun b o e => base_of (KX b o e) (by
      cases q : H b with
      | none => rfl
      | some u =>
        have e' : b = a := hA b (by rw [q]; simp)
        subst e'
        rw [hK (by rw [q]; simp)] at e; cases e)
    have hM : Mod K mg (hidT s₁.heap H) := ⟨hKb, nsK hns, ⟨mb, nsK hb, hbb⟩, let ⟨mc, h1, h2⟩ := hlim; ⟨mc, nsK h1, h2⟩⟩
    have e0 : Env0 P w K mg (hidT s₁.heap H) callerA [] s₁ H := ⟨rfl, hM, fun b o e => of_hidT e, Nat.le_of_eq (hidT_size _ _), trivial, fun b hb => absurd (show b ∈ ([] : List Addr) from hb) (by simp), hok, .of_eq hg⟩
    refine codeAny_mono ((F _ hKb (nsK hns)).run callerA [] s₁ H ⟨[.ref a], []⟩ [.ref a] [.ref a] _ _ hr e0 (hbind s₁ (.ref a)) (.cons rfl .nil) (hsp H hO hS)) fun r s' h => ?_
    cases r with
    | error e => exact (hCX H e s' h).elim
    | ok fl =>
      cases fl with
      | next => exact False.elim h
      | brk => exact False.elim h
      | cont => exact False.elim h
      | ret u =>
        obtain ⟨v, H', os, bare, un, hok', r', q⟩ := h
        have q' : v = .bl true := q
        subst q'
        obtain rfl : u = Value.bool true := r'
        refine ⟨rfl, OldK.of_keep fun b o e => ?_, os, bare⟩
        cases q : H b with
        | none => exact un.keep b o e q (by intro z; exact absurd (show b ∈ ([] : List Addr) from z) (by simp)) (by simp)
        | some u =>
          rcases hO b with z | ⟨ob, xs, z⟩
          · rw [q] at z; cases z
          · have z2 := un.frzs b ob _ z
            obtain ⟨e1, _⟩ := hok b _ z
            obtain ⟨e2, _⟩ := hok' b _ z2
            rw [e] at e1; cases e1
            exact e2
  cases hk : K.lookup a with
  | some o =>
    -- the script is one of the module's own objects
    have e := KX a o hk
    rw [ha] at e
    cases e
    refine core (fun _ => none) (fun _ => .inl rfl) (.inr ⟨_, vs.toArray, _, hk, rfl, rfl, rfl, by rw [List.size_toArray, lenV]; exact hl, by simpa using rv⟩) (fun b u z => by have z' : (none : Option HO) = some u := z; cases z') (fun b z => absurd rfl z) fun z => absurd rfl z
  | none =>
    refine core (fun b => if b = a then some (.frz { cls := .type "list", data := .seq vs.toArray } (.lst (ns.map V.int))) else none) (fun b => ?_) (.inl (.inr ⟨{ cls := .type "list", data := .seq vs.toArray }, if_pos rfl⟩)) (fun b u z => ?_) (fun b z => ?_) fun _ => hk
    · by_cases hb : b = a
      · exact .inr ⟨_, _, if_pos hb⟩
      · exact .inl (if_neg hb)
    · by_cases hb : b = a
      · have z' := (if_pos hb).symm.trans z
        cases z'
        subst hb
        exact ⟨ha, by rw [List.length_map]; exact hl, vs, _, rv, ha⟩
      · have z' := (if_neg hb).symm.trans z
        cases z'
    · by_cases hb : b = a
      · exact hb
      · exact absurd (if_neg hb) z
end L2

namespace L2
open PySem PySem.Spec PyProof.Rows

abbrev KOf {K : PySem.W.Frag} {h : Heap} (_ : K.In h) : PySem.W.Frag := K

/-- the goal that k_head leaves (case hc), from the law's promise. F gives the function object fd (K's own) once, then the promise over every base -/
theorem walk_of {l : PySem.W.OpenLaw} {n k : Nat} {q : Program} {loose : List Str} {XP : (Str → Option Value) → Heap → Prop} {YP : World → Heap → Prop} {d : DefRec} {K : Params → PySem.W.Frag} {CX : World → CXT} {sp : World → Sp} {x : Str}
    (hn : l.most = some n) (hn2 : n ≤ sizeLine) (hdf : d.params.defaults = []) (hr : Room k callerA)
    (hY : ∀ (w : World) (h : Heap), YP w h → (K w.params).In h)
    (F : ∀ (w : World) (mg : Str → Option Value) (fa : Addr) (h : Heap), (K w.params).In h → h.Ns mainGlobals mg → mg d.name = some (.ref fa) →
      ∃ fd : FuncData, (∀ (s : Shared) (u : Value), BindsTo s fd ⟨[u], []⟩ [(x, u)]) ∧
        ∀ base : Heap, (K w.params).In base → base.Ns mainGlobals mg → FnOk l.prog w (K w.params) mg base (CX w) k fa fd [x] (sp w))
    (hsp : ∀ (w : World) (H : Hp) (a : Addr) (ns : List Int), ns.length ≤ n → Only H → SqL (K w.params) H a (ns.map V.int) → sp w [.ref a] H (fun v _ => v = .bl true) fun _ _ _ => False)
    (hCX : ∀ (w : World) (H : Hp) (s : Shared) (e : Value) (s' : Shared), CX w [] H s (fun _ _ _ => False) e s' → False) :
    PySem.W.WalkO q loose XP YP l.row.toRowW d [] (fun f vs => PySem.call f vs) := by
  refine Att.attach_call hn hdf fun w s₀ s₁ mg mb fa o pm cd doc a vs ns G Y ho hd hcd hmg hobj hints hlen hg => ?_
  have KX := hY w _ Y
  obtain ⟨fd, hb, hF⟩ := F w mg fa _ KX G.T.g hmg
  exact law_call KX G.T.g G.T.b G.T.builtins G.T.nolimit hg hobj hints (Nat.le_trans hlen hn2) hr hF hb (fun H hO hS => hsp w H a ns hlen hO hS) fun H e s' => hCX w H s₁ e s'
/-- the same where the promise hangs on the written part alone: (sp := My.sp_law), no hole under a binder -/
theorem walk_ofK {l : PySem.W.OpenLaw} {n k : Nat} {q : Program} {loose : List Str} {XP : (Str → Option Value) → Heap → Prop} {YP : World → Heap → Prop} {d : DefRec} {K : Params → PySem.W.Frag} {CX : CXT} {sp : PySem.W.Frag → Sp} {x : Str}
    (hn : l.most = some n) (hn2 : n ≤ sizeLine) (hdf : d.params.defaults = []) (hr : Room k callerA)
    (hY : ∀ (w : World) (h : Heap), YP w h → (K w.params).In h)
    (F : ∀ (w : World) (mg : Str → Option Value) (fa : Addr) (h : Heap), (K w.params).In h → h.Ns mainGlobals mg → mg d.name = some (.ref fa) →
      ∃ fd : FuncData, (∀ (s : Shared) (u : Value), BindsTo s fd ⟨[u], []⟩ [(x, u)]) ∧
        ∀ base : Heap, (K w.params).In base → base.Ns mainGlobals mg → FnOk l.prog w (K w.params) mg base CX k fa fd [x] (sp (K w.params)))
    (hsp : ∀ (K : PySem.W.Frag) (H : Hp) (a : Addr) (ns : List Int), ns.length ≤ n → Only H → SqL K H a (ns.map V.int) → sp K [.ref a] H (fun v _ => v = .bl true) fun _ _ _ => False)
    (hCX : ∀ (H : Hp) (s : Shared) (e : Value) (s' : Shared), CX [] H s (fun _ _ _ => False) e s' → False) :
    PySem.W.WalkO q loose XP YP l.row.toRowW d [] (fun f vs => PySem.call f vs) :=
  walk_of (K := K) (CX := fun _ => CX) (sp := fun w => sp (K w.params)) hn hn2 hdf hr hY F (fun w H a ns h1 h2 h3 => hsp (K w.params) H a ns h1 h2 h3) fun _ H s e s' => hCX H s e s'
end L2

/- THE LAST THEOREM (shape; LID, My.* are yours):
   My.Adr: a structure of the addresses that your layer names (classes, functions); My.Txt K t: a structure (Prop) of the equations over K;
   My.txt_mk : {K} {implicit addresses ..} (e1 : nsIn K mainGlobals "law" = some (some (.ref f))) (e2 : K.lookup f = some ⟨oc, od, .func (fnOf "law" "law" params body scope dV kV doc pm an cdv ct), sl⟩) (e3 : codeIn K cdv "law" = true) .. : ∃ t, My.Txt K t

set_option maxRecDepth 100000 in
set_option maxHeartbeats 0 in
theorem PySem.Challenge.cw_LID_holds : PySem.Challenge.rw_LID.Holds := by
  w_on; o_law; k_head; (case hw => w_witness2)
  k_fill
  refine L2.walk_of (l := PySem.Challenge.rw_LID) (n := 63) (k := 40) (x := "script") (CX := fun w => ..) (sp := fun _ => My.sp_law) rfl (by decide) rfl ⟨rfl, by decide, by decide⟩ (fun w h Y => PySem.W.kIn_of Y) ?F ?S ?C
  case F =>
    intro w mg fa h KX G hmg
    have T : ∃ t, My.Txt (L2.KOf KX) t := by
      dsimp only [L2.KOf]                          -- K must stand as «<heap const> w.params» for k_is
      refine' My.txt_mk ?e1 ?e2 ?e3 ..
      (case e1 => PySem.W.k_is)                    -- in the order: a name -> its address -> its object -> its parts
      (case e2 => PySem.W.k_is)
      ..
    obtain ⟨t, T⟩ := T
    have e0 := hmg.symm.trans (PySem.W.mg_of KX G T.law)
    cases e0                                       -- fa is the law's own address
    exact ⟨_, fun s u => .of_eq rfl, fun base kb nb => My.law_fn T kb nb⟩     -- if «.of_eq rfl» comes too early: refine' ⟨_, ?b, fun base kb nb => My.law_fn T kb nb⟩; exact fun s u => .of_eq rfl
  case S => exact fun w H a ns hl hO hS => ..
  case C => exact ..
(the tactic k_is has no namespace: write k_is) -/

/-! SHORT WORDS over the layer: a def of the text, its body, what a loop and a test want. -/
namespace L2
open PySem PySem.Spec PyProof.Rows

/-! ### the text by places -/
/-- the j-th statement of a class's body -/
def inClass (s : Stmt) (j : Nat) : Stmt := match s with
  | .ClassDef _ _ _ body _ _ _ _ _ _ _ => body.getD j (.Pass ⟨0, 0, 0, 0⟩)
  | _ => .Pass ⟨0, 0, 0, 0⟩
def defArgs (s : Stmt) : Arguments := match s with
  | .FunctionDef _ a _ _ _ _ _ _ _ _ => a
  | _ => { posonlyargs := [], args := [], vararg := none, kwonlyargs := [], kw_defaults := [], kwarg := none, defaults := [] }
def defBody (s : Stmt) : List Stmt := match s with
  | .FunctionDef _ _ b _ _ _ _ _ _ _ => b
  | _ => []
def defScope (s : Stmt) : Scope := match s with
  | .FunctionDef _ _ _ _ _ _ sc _ _ _ => sc
  | _ => { kind := .function, names := [], isGenerator := false, isCoroutine := false }

/-! ### no exception leaves a def -/
abbrev CX0 : CXT := fun _ _ _ _ _ _ => False
abbrev E0 : XK := fun _ _ _ => False
theorem pass0 {X : Cx} : Passes CX0 X E0 := fun _ _ _ _ _ _ _ h => h.elim

/-! ### a def (or method) of the text as it stands behind the top -/
structure Fun (K : PySem.W.Frag) (x qual : Str) (st : Stmt) (f : Addr) (fd : FuncData) : Prop where
  ex : ∃ (oc : Value) (od : Option Addr) (kV doc pm : Value) (an : Option Addr) (cdv ct : Value) (osl : Array (Option Value)),
    fd = PySem.W.fnOf x qual (defArgs st) (defBody st) (defScope st) .none kV doc pm an cdv ct ∧ K.lookup f = some ⟨oc, od, .func fd, osl⟩ ∧ PySem.W.codeIn K cdv qual = true
  kp : PySem.W.keepIn K (.ref f) = true
section
variable {P : Program} {w : World} {K : PySem.W.Frag} {mg : Str → Option Value} {base : Heap}
/-- THE RULE for a def: its body as a term of rules, and the reading of that term -/
theorem Fun.ok {x qual : Str} {st : Stmt} {f : Addr} {fd : FuncData} {N ps : List Str} {k : Nat} {sp : Sp} (F : Fun K x qual st f fd) (S : FnScope N ps (defScope st)) (len : ∀ vs H Q E, sp vs H Q E → vs.length = ps.length)
    (hbody : ∀ (cdv : Value) (A : Around) (outer : List Env) (s : Shared) (H : Hp) (vs : List V) (Q : VK) (E : XK), Room k (A.deeper (envOfC qual (defScope st) s.heap.objs.size f cdv)) → sp vs H Q E →
      ∃ t, PSs (cxOf CX0 P w K mg base N qual (defScope st) f cdv A outer s H E).nox (defBody st) t ∧ t { nx := fun _ H' => Q .non H', rt := Q } (start N vs) H) : FnOk P w K mg base CX0 (k + 1) f fd ps sp := by
  obtain ⟨oc, od, kV, doc, pm, an, cdv, ct, osl, rfl, lk, hcd⟩ := F.ex
  refine fn_of lk hcd S len fun A outer s H vs Q E hr hsp => ?_
  obtain ⟨t, h, q⟩ := hbody cdv A outer s H vs Q E hr hsp
  exact ⟨t, h.nox, q⟩
/-- how its arguments bind (no defaults): h is «fun _ _ _ _ _ _ us hl => match us, hl with | [_, _], _ => rfl», one _ a parameter -/
theorem Fun.binds {x qual : Str} {st : Stmt} {f : Addr} {fd : FuncData} {ps : List Str} (F : Fun K x qual st f fd)
    (h : ∀ (kV doc pm : Value) (an : Option Addr) (cdv ct : Value) (us : List Value), us.length = ps.length → bindArgs (PySem.W.fnOf x qual (defArgs st) (defBody st) (defScope st) .none kV doc pm an cdv ct) ⟨us, []⟩ = pure (ps.zip us)) : Binds K fd ps [] := by
  obtain ⟨oc, od, kV, doc, pm, an, cdv, ct, osl, rfl, lk, hcd⟩ := F.ex
  exact .all (h kV doc pm an cdv ct)
theorem fun_mk {x qual : Str} {st : Stmt} {f : Addr} {oc : Value} {od an : Option Addr} {osl : Array (Option Value)} {kV doc pm cdv ct : Value} (l : K.lookup f = some ⟨oc, od, .func (PySem.W.fnOf x qual (defArgs st) (defBody st) (defScope st) .none kV doc pm an cdv ct), osl⟩)
    (c : PySem.W.codeIn K cdv qual = true) (k : PySem.W.keepIn K (.ref f) = true) : Fun K x qual st f (PySem.W.fnOf x qual (defArgs st) (defBody st) (defScope st) .none kV doc pm an cdv ct) := ⟨⟨oc, od, kV, doc, pm, an, cdv, ct, osl, rfl, l, c⟩, k⟩
end
theorem hu_of {A : Around} {k : Nat} (hr : Room k A) : A.units + 1 < cLine := Nat.lt_of_le_of_lt (Nat.add_le_add_left (by decide : 1 ≤ 64) _) hr.units
theorem small1000 {n : Nat} (h : n ≤ 1000) : n < sizeLine := Nat.lt_of_le_of_lt h (by decide)

/-! ### expressions in short: the name that stands in the i-th slot -/
section
variable {X : Cx}
theorem pv (i : Nat) {x : Str} {pos : Pos} (hN : X.N[i]? = some x := by rfl) (hv : Vis X.env.scope x := by first | exact Or.inl rfl | exact Or.inr (Or.inl rfl) | exact Or.inr (Or.inr rfl)) (hd : (x == ("__debug__" : Str)) = false := by decide)
    (hcd : (x == ("__classdict__" : Str)) = false := by decide) : PE X (.Name x pos) (tVar i) := pe_var hN hv hd hcd
/-- len of a dict -/
theorem call_lenD : CallR X (.builtin "len") (fun xs H Q => ∃ a kvs, xs = [V.ref a] ∧ H a = some (.dK kvs) ∧ Q (.int kvs.length) H) := by
  intro pins s σ H xs us Q I r h
  obtain ⟨a, kvs, rfl, ha, q⟩ := h
  obtain ⟨u, rfl, ru⟩ := vals1 r
  cases ru
  exact d_len I (.inl ha) fun t s' I' => ⟨.int kvs.length, H, I', ⟨t, rfl⟩, q⟩
end

/-! ### tests -/
theorem iteF {A B : Prop} (h : B) : if false = true then A else B := by
  rw [if_neg Bool.false_ne_true]
  exact h
theorem iteT {A B : Prop} (h : A) : if true = true then A else B := by
  rw [if_pos rfl]
  exact h
theorem ite2 {c A B : Prop} [Decidable c] (h1 : c → A) (h2 : ¬ c → B) : if c then A else B := by
  by_cases h : c
  · rw [if_pos h]
    exact h1 h
  · rw [if_neg h]
    exact h2 h
theorem iteNS {c A B : Prop} [Decidable c] (hc : c) (h : B) : if (!decide c) = true then A else B := by
  rw [decide_eq_true hc]
  exact iteF h

/-! ### heaps -/
/-- all that was tracked is as it was -/
def Same (H H' : Hp) : Prop := ∀ b o, H b = some o → H' b = some o
theorem Same.refl (H : Hp) : Same H H := fun _ _ h => h
theorem Same.trans {H H1 H2 : Hp} (a : Same H H1) (b : Same H1 H2) : Same H H2 := fun c o h => b c o (a c o h)
theorem Same.free {H H' : Hp} (e : Same H H') {l : Addr} (h : H' l = Option.none) : H l = Option.none := by
  cases q : H l with
  | none => rfl
  | some o =>
    rw [e l o q] at h
    cases h
theorem Same.seq {K : PySem.W.Frag} {H H' : Hp} {a : Addr} {xs : List V} (e : Same H H') (h : SqL K H a xs) : SqL K H' a xs := by
  rcases h with (h | ⟨o, h⟩) | h
  · exact .inl (.inl (e _ _ h))
  · exact .inl (.inr ⟨o, e _ _ h⟩)
  · exact .inr h

/-! ### a dict's pairs: keys that differ -/
section
variable {κ : Type} [DecidableEq κ]
theorem valV_not {kvs : List (κ × V)} {k : κ} (h : valV kvs k = none) : ¬ k ∈ kvs.map (·.1) := by
  intro m
  obtain ⟨p, hp, e⟩ := List.mem_map.mp m
  have q : (kvs.any fun kv => decide (kv.1 = k)) = true := List.any_eq_true.mpr ⟨p, hp, decide_eq_true e⟩
  rw [valV_any, h] at q
  exact absurd q (by simp)
theorem valV_in {kvs : List (κ × V)} {k : κ} {v : V} (h : valV kvs k = some v) : k ∈ kvs.map (·.1) := by
  have q : (kvs.any fun kv => decide (kv.1 = k)) = true := by
    rw [valV_any, h]
    all_goals rfl
  obtain ⟨p, hp, e⟩ := List.any_eq_true.mp q
  exact List.mem_map.mpr ⟨p, hp, of_decide_eq_true e⟩
theorem nd_snoc : ∀ {l : List κ} {k : κ}, l.Nodup → ¬ k ∈ l → (l ++ [k]).Nodup
  | [], k, _, _ => by simp
  | a :: r, k, h, hk => by
    obtain ⟨h1, h2⟩ := List.nodup_cons.mp h
    show (a :: (r ++ [k])).Nodup
    refine List.nodup_cons.mpr ⟨fun m => ?_, nd_snoc h2 fun m => hk (List.mem_cons.mpr (Or.inr m))⟩
    rcases List.mem_append.mp m with q | q
    · exact h1 q
    · exact hk (List.mem_cons.mpr (Or.inl (List.mem_singleton.mp q).symm))
theorem nd_putK {kvs : List (κ × V)} {k : κ} (v : V) (hn : (kvs.map (·.1)).Nodup) (h : valV kvs k = none) : ((putK kvs k v).map (·.1)).Nodup := by
  rw [putK_new v h, List.map_append]
  exact nd_snoc hn (valV_not h)
theorem dropK_pos {p : κ × V} {r : List (κ × V)} {k : κ} (e : p.1 = k) : dropK (p :: r) k = dropK r k := by
  unfold dropK
  rw [List.filter_cons, if_neg (by simp [e])]
theorem dropK_neg {p : κ × V} {r : List (κ × V)} {k : κ} (e : ¬ p.1 = k) : dropK (p :: r) k = p :: dropK r k := by
  unfold dropK
  rw [List.filter_cons, if_pos (by simp [e])]
theorem dropK_no : ∀ {kvs : List (κ × V)} {k : κ}, ¬ k ∈ kvs.map (·.1) → dropK kvs k = kvs
  | [], _, _ => rfl
  | p :: r, k, h => by
    have h' : ¬ k ∈ r.map (·.1) := fun m => by
      obtain ⟨q, hq, e⟩ := List.mem_map.mp m
      exact h (List.mem_map.mpr ⟨q, List.mem_cons.mpr (Or.inr hq), e⟩)
    rw [dropK_neg fun e => h (List.mem_map.mpr ⟨p, List.mem_cons.mpr (Or.inl rfl), e⟩), dropK_no h']
theorem dropK_mem {kvs : List (κ × V)} {k : κ} {p : κ × V} (h : p ∈ dropK kvs k) : p ∈ kvs := (List.mem_filter.mp h).1
theorem nd_dropK : ∀ {kvs : List (κ × V)} {k : κ}, (kvs.map (·.1)).Nodup → ((dropK kvs k).map (·.1)).Nodup
  | [], _, _ => List.nodup_nil
  | p :: r, k, h => by
    have h : (p.1 :: r.map (·.1)).Nodup := h
    obtain ⟨h1, h2⟩ := List.nodup_cons.mp h
    by_cases e : p.1 = k
    · rw [dropK_pos e]
      exact nd_dropK h2
    · rw [dropK_neg e]
      show (p.1 :: (dropK r k).map (·.1)).Nodup
      refine List.nodup_cons.mpr ⟨fun m => h1 ?_, nd_dropK h2⟩
      obtain ⟨q, hq, eq⟩ := List.mem_map.mp m
      exact List.mem_map.mpr ⟨q, dropK_mem hq, eq⟩
theorem dropK_len : ∀ {kvs : List (κ × V)} {k : κ}, (kvs.map (·.1)).Nodup → k ∈ kvs.map (·.1) → (dropK kvs k).length + 1 = kvs.length
  | [], _, _, m => by simp at m
  | p :: r, k, h, m => by
    have h : (p.1 :: r.map (·.1)).Nodup := h
    have m : k = p.1 ∨ k ∈ r.map (·.1) := List.mem_cons.mp m
    obtain ⟨h1, h2⟩ := List.nodup_cons.mp h
    by_cases e : p.1 = k
    · subst e
      rw [dropK_pos rfl, dropK_no h1]
      all_goals rfl
    · have m' : k ∈ r.map (·.1) := m.resolve_left fun z => e z.symm
      have q := dropK_len h2 m'
      rw [dropK_neg e, List.length_cons, List.length_cons]
      omega
end
end L2

set_option maxHeartbeats 4000000
/-! List comprehensions of one clause, over the hand layer. -/
namespace L2
open PySem PySem.Spec PyProof.Rows

/-- the block's slots, read from the def's -/
def pull (ρ : List (Option Nat)) (σ : St) : St := ρ.map fun o => match o with
  | none => none
  | some j => (σ[j]?).getD none
theorem pull_some {ρ : List (Option Nat)} {σ : St} {i : Nat} {v : V} (h : (pull ρ σ)[i]? = some (some v)) : ∃ j, ρ[i]? = some (some j) ∧ σ[j]? = some (some v) := by
  unfold pull at h
  rw [List.getElem?_map] at h
  cases e : ρ[i]? with
  | none => rw [e] at h; cases h
  | some o =>
    rw [e] at h
    cases o with
    | none => cases h
    | some j =>
      refine ⟨j, rfl, ?_⟩
      have h' : (σ[j]?).getD none = some v := Option.some.inj h
      cases q : σ[j]? with
      | none => rw [q] at h'; cases h'
      | some z => rw [q] at h'; exact congrArg some h'

def closOf (scope : Scope) (env : Env) : List (Str × Addr) := scope.names.foldl (fun cs x => if x.2 = .free then (x.1, (env.cells.lookup x.1).getD 0) :: cs else cs) []

theorem clos_go {env : Env} : ∀ {names : List (Str × NameKind)} {cs : List (Str × Addr)}, (∀ x ∈ names, x.2 = .free → ∃ c, env.cells.lookup x.1 = some c) →
    (forIn names cs fun (x : Str × NameKind) (r : List (Str × Addr)) => (match x with
      | (name, kind) => if (kind == .free) = true then do
          let a ← cellOf env name
          pure (ForInStep.yield ((name, a) :: r))
        else pure (ForInStep.yield r) : Sem (ForInStep (List (Str × Addr))))) = pure (names.foldl (fun cs x => if x.2 = .free then (x.1, (env.cells.lookup x.1).getD 0) :: cs else cs) cs)
  | [], cs, _ => rfl
  | (n, k) :: r, cs, h => by
    rw [List.forIn_cons, List.foldl_cons]
    have ih := fun cs => clos_go (names := r) (cs := cs) fun x hx => h x (List.mem_cons_of_mem _ hx)
    by_cases hk : k = .free
    · subst hk
      obtain ⟨c, e⟩ := h (n, .free) List.mem_cons_self rfl
      have e' : env.cells.lookup n = some c := e
      simp only [beq_self_eq_true, if_true, cellOf, e', pure_bind, Option.getD_some]
      exact ih _
    · have hb : (k == NameKind.free) = false := by simpa using hk
      simp only [hb, Bool.false_eq_true, if_false, hk, pure_bind]
      exact ih _
theorem clos_ok {scope : Scope} {env : Env} (h : ∀ x ∈ scope.names, x.2 = .free → ∃ c, env.cells.lookup x.1 = some c) : closureFor scope env = pure (closOf scope env) := by
  unfold closureFor closOf
  have q := clos_go (cs := []) h
  simp only [] at q ⊢
  rw [q]
  rfl
theorem clos_mem {env : Env} : ∀ {names : List (Str × NameKind)} {cs : List (Str × Addr)}, (∀ x ∈ names, x.2 = .free → ∃ c, env.cells.lookup x.1 = some c) → (∀ p ∈ cs, env.cells.lookup p.1 = some p.2) →
    ∀ p ∈ names.foldl (fun cs x => if x.2 = .free then (x.1, (env.cells.lookup x.1).getD 0) :: cs else cs) cs, env.cells.lookup p.1 = some p.2
  | [], _, _, hc => hc
  | (n, k) :: r, cs, h, hc => by
    rw [List.foldl_cons]
    refine clos_mem (names := r) (fun x hx => h x (List.mem_cons_of_mem _ hx)) ?_
    by_cases hk : k = .free
    · subst hk
      obtain ⟨c, e⟩ := h (n, .free) List.mem_cons_self rfl
      have e' : env.cells.lookup n = some c := e
      rw [if_pos rfl]
      intro p hp
      rcases List.mem_cons.mp hp with z | z
      · subst z
        show env.cells.lookup n = some ((env.cells.lookup n).getD 0)
        rw [e']
        all_goals rfl
      · exact hc p z
    · rw [if_neg hk]
      exact hc
theorem clos_keep {env : Env} {x : Str} : ∀ {names : List (Str × NameKind)} {cs : List (Str × Addr)}, ((x, NameKind.free) ∈ names ∨ ∃ c, (x, c) ∈ cs) →
    ∃ c, (x, c) ∈ names.foldl (fun cs x => if x.2 = .free then (x.1, (env.cells.lookup x.1).getD 0) :: cs else cs) cs
  | [], cs, h => h.elim (fun z => nomatch z) fun z => z
  | (n, k) :: r, cs, h => by
    rw [List.foldl_cons]
    refine clos_keep (names := r) ?_
    rcases h with h | ⟨c, h⟩
    · rcases List.mem_cons.mp h with z | z
      · cases z
        rw [if_pos rfl]
        exact .inr ⟨_, List.mem_cons_self⟩
      · exact .inl z
    · right
      by_cases hk : k = .free
      · rw [if_pos hk]; exact ⟨c, List.mem_cons_of_mem _ h⟩
      · rw [if_neg hk]; exact ⟨c, h⟩
theorem lookup_mem {α : Type} : ∀ {l : List (Str × α)} {x : Str} {c : α}, (x, c) ∈ l → ∃ d, l.lookup x = some d
  | [], _, _, h => nomatch h
  | (n, a) :: r, x, c, h => by
    rw [List.lookup_cons]
    cases hx : x == n with
    | true => exact ⟨a, rfl⟩
    | false =>
      rcases List.mem_cons.mp h with z | z
      · injection z with z1 z2
        rw [z1] at hx
        simp at hx
      · exact lookup_mem z
theorem clos_has {scope : Scope} {env : Env} {x : Str} (h : ∀ x ∈ scope.names, x.2 = .free → ∃ c, env.cells.lookup x.1 = some c) (hx : scope.names.lookup x = some .free) : ∃ c, (closOf scope env).lookup x = some c ∧ env.cells.lookup x = some c := by
  obtain ⟨c, hc⟩ := clos_keep (env := env) (cs := []) (.inl (PySem.mem_of_lookup hx))
  obtain ⟨d, hd⟩ := lookup_mem hc
  exact ⟨d, hd, clos_mem (cs := []) h (fun p hp => absurd hp (List.not_mem_nil)) _ (PySem.mem_of_lookup hd)⟩
theorem clos_of {scope : Scope} {env : Env} {x : Str} {c : Addr} (h : ∀ x ∈ scope.names, x.2 = .free → ∃ c, env.cells.lookup x.1 = some c) (e : (closOf scope env).lookup x = some c) : env.cells.lookup x = some c :=
  clos_mem (cs := []) h (fun p hp => absurd hp (List.not_mem_nil)) _ (PySem.mem_of_lookup e)
theorem lookup_map_snd {f : Str × NameKind → NameKind} {x : Str} : ∀ {names : List (Str × NameKind)}, (names.map fun y => (y.1, f y)).lookup x = (names.lookup x).map fun k => f (x, k)
  | [] => rfl
  | (n, k) :: r => by
    rw [List.map_cons, List.lookup_cons, List.lookup_cons]
    cases hx : x == n with
    | true =>
      have e : x = n := by simpa using hx
      subst e
      rfl
    | false => exact lookup_map_snd
theorem relab_eq {env : Env} {names : List (Str × NameKind)} {x : Str} : (names.map fun (n, k) => if (k == NameKind.free && env.scope.kind == .function && env.kindOf n == some .cell) then (n, NameKind.cell) else (n, k)).lookup x =
    (names.lookup x).map fun k => if (k == NameKind.free && env.scope.kind == .function && env.kindOf x == some .cell) then NameKind.cell else k := by
  have e : (fun (y : Str × NameKind) => match y with | (n, k) => if (k == NameKind.free && env.scope.kind == .function && env.kindOf n == some .cell) then (n, NameKind.cell) else (n, k)) =
      fun y => (y.1, if (y.2 == NameKind.free && env.scope.kind == .function && env.kindOf y.1 == some .cell) then NameKind.cell else y.2) := by
    funext ⟨n, k⟩
    dsimp only
    split <;> rfl
  rw [e]
  exact lookup_map_snd
theorem relabel_free {env : Env} {names : List (Str × NameKind)} {x : Str} (h : names.lookup x = some .free) :
    (names.map fun (n, k) => if (k == NameKind.free && env.scope.kind == .function && env.kindOf n == some .cell) then (n, NameKind.cell) else (n, k)).lookup x = some .cell ∨
    (names.map fun (n, k) => if (k == NameKind.free && env.scope.kind == .function && env.kindOf n == some .cell) then (n, NameKind.cell) else (n, k)).lookup x = some .free := by
  rw [relab_eq, h, Option.map_some]
  split
  · exact .inl rfl
  · exact .inr rfl
theorem relabel_of {env : Env} {names : List (Str × NameKind)} {x : Str} (hc : ∀ y ∈ names, y.2 ≠ .cell)
    (h : (names.map fun (n, k) => if (k == NameKind.free && env.scope.kind == .function && env.kindOf n == some .cell) then (n, NameKind.cell) else (n, k)).lookup x = some .cell ∨
    (names.map fun (n, k) => if (k == NameKind.free && env.scope.kind == .function && env.kindOf n == some .cell) then (n, NameKind.cell) else (n, k)).lookup x = some .free) : names.lookup x = some .free := by
  rw [relab_eq] at h
  cases e : names.lookup x with
  | none => rw [e] at h; rcases h with h | h <;> cases h
  | some k =>
    have nk : k ≠ .cell := hc (x, k) (PySem.mem_of_lookup e)
    rw [e, Option.map_some] at h
    by_cases hk : k = .free
    · rw [hk]
    · have hb : (k == NameKind.free) = false := by simpa using hk
      rw [hb] at h
      simp only [Bool.false_and, Bool.false_eq_true, if_false] at h
      rcases h with h | h
      · exact absurd (Option.some.inj h) nk
      · exact h

/-- what is to be looked up of a block's names -/
def compChk (sc osc : Scope) (N N' : List Str) (ρ : List (Option Nat)) : Bool :=
  decide (sc.kind = .function) && decide (N'.length = ρ.length) &&
  sc.names.all (fun y => decide (y.2 ≠ .cell) && (decide (y.2 ≠ .local) || decide (sc.names.lookup y.1 = some .local)) && (decide (y.2 ≠ .free) || (decide (osc.names.lookup y.1 = some .cell) || decide (osc.names.lookup y.1 = some .free)))) &&
  (N'.zip ρ).all (fun p => match p.2 with
    | none => true
    | some j => decide (N[j]? = some p.1) && decide (sc.names.lookup p.1 = some .free))
structure CompOk (sc osc : Scope) (N N' : List Str) (ρ : List (Option Nat)) : Prop where
  kind : sc.kind = .function
  len : N'.length = ρ.length
  cell : ∀ y ∈ sc.names, y.2 ≠ .cell
  loc : ∀ y ∈ sc.names, y.2 = .local → sc.names.lookup y.1 = some .local
  free : ∀ y ∈ sc.names, y.2 = .free → osc.names.lookup y.1 = some .cell ∨ osc.names.lookup y.1 = some .free
  from_ : ∀ (i j : Nat) (x : Str), N'[i]? = some x → ρ[i]? = some (some j) → N[j]? = some x ∧ sc.names.lookup x = some .free
theorem compChk_ok {sc osc : Scope} {N N' : List Str} {ρ : List (Option Nat)} (h : compChk sc osc N N' ρ = true) : CompOk sc osc N N' ρ := by
  unfold compChk at h
  rw [Bool.and_eq_true, Bool.and_eq_true, Bool.and_eq_true] at h
  obtain ⟨⟨⟨h1, h2⟩, h3⟩, h4⟩ := h
  have h3' := List.all_eq_true.mp h3
  have h4' := List.all_eq_true.mp h4
  refine ⟨of_decide_eq_true h1, of_decide_eq_true h2, fun y hy => ?_, fun y hy e => ?_, fun y hy e => ?_, fun i j x e1 e2 => ?_⟩
  · have q := h3' y hy
    rw [Bool.and_eq_true, Bool.and_eq_true] at q
    exact of_decide_eq_true q.1.1
  · have q := h3' y hy
    rw [Bool.and_eq_true, Bool.and_eq_true, Bool.or_eq_true] at q
    rcases q.1.2 with z | z
    · exact absurd e (of_decide_eq_true z)
    · exact of_decide_eq_true z
  · have q := h3' y hy
    rw [Bool.and_eq_true, Bool.or_eq_true, Bool.or_eq_true] at q
    rcases q.2 with z | z | z
    · exact absurd e (of_decide_eq_true z)
    · exact .inl (of_decide_eq_true z)
    · exact .inr (of_decide_eq_true z)
  · have hm : (x, some j) ∈ N'.zip ρ := by
      refine List.mem_of_getElem? (i := i) ?_
      rw [List.getElem?_zip_eq_some]
      exact ⟨e1, e2⟩
    have q := h4' _ hm
    rw [Bool.and_eq_true] at q
    exact ⟨of_decide_eq_true q.1, of_decide_eq_true q.2⟩

/-- the block's context -/
def compCx (X : Cx) (scope : Scope) (N' : List Str) (C : Addr) (s : Shared) (H : Hp) (fp : List Addr) : Cx where
  prog := X.prog
  w := X.w
  K := X.K
  mg := X.mg
  base := X.base
  A := X.A
  N := N'
  s₀ := s
  H₀ := H
  env := compEnvC scope (closOf scope X.env) C X.env
  outer := X.stack
  stack := X.stack
  ex := fp
  fn := fun _ => false
  calm := X.calm
  pn := []
  xe := fun _ _ => False

section
variable {X : Cx} {pins : List (Addr × Obj)} {σ : St} {H : Hp} {s : Shared} {scope : Scope} {N' : List Str} {ρ : List (Option Nat)}

theorem Inv.cells_of (I : Inv X pins σ H s) (ck : CompOk scope X.env.scope X.N N' ρ) : ∀ x ∈ scope.names, x.2 = .free → ∃ c, X.env.cells.lookup x.1 = some c := fun x hx e => I.ok.has x.1 (ck.free x hx e)
theorem fp_base (I : Inv X pins σ H s) {fp : List Addr} (hf : ∀ b ∈ fp, FpOk X pins H b) {b : Addr} {o : Obj} (e : X.base.get? b = some o) : b ∉ fp := fun hb => by
  obtain ⟨_, _, _, h, _⟩ := hf b hb
  rcases h with h | h
  · exact I.ok.noex b o e h
  · exact absurd (Nat.lt_of_lt_of_le (Heap.lt_size (I.ok.bs b o e).1) h) (Nat.lt_irrefl _)
theorem fp_fs (I : Inv X pins σ H s) {fp : List Addr} (hf : ∀ b ∈ fp, FpOk X pins H b) {b : Addr} (hb : b ∈ fp) : b ∉ frs X.stack := fun h => by
  obtain ⟨_, n1, n2, _⟩ := hf b hb
  rcases List.mem_cons.mp (I.stkSub b h) with z | z
  · exact n1 z
  · exact n2 z
/-- a block begins: l the list that it fills, C its own names -/
theorem Inv.block (I : Inv X pins σ H s) (ck : CompOk scope X.env.scope X.N N' ρ) {fp : List Addr} (hf : ∀ b ∈ fp, FpOk X pins H b) (hfo : ∀ b ∈ fp, ∃ o, s.heap.get? b = some o)
    {C l : Addr} {lo : Obj} {h' : Heap} {t' : Nat} (hk : ∀ b o, s.heap.get? b = some o → h'.get? b = some o) (hC : s.heap.objs.size ≤ C) (hn : h'.Ns C fun _ => none)
    (hl : s.heap.objs.size ≤ l) (hlC : l ≠ C) (hlo : h'.get? l = some lo) (hld : ∀ v, lo.data ≠ .cell v) : Inv (compCx X scope N' C s H fp) [(l, lo)] (pull ρ σ) H { s with heap := h', toks := t' } := by
  have hfr := I.cells_of ck
  have young : ∀ {b : Addr} {o : Obj}, s.heap.get? b = some o → ∀ {a : Addr}, s.heap.objs.size ≤ a → b ≠ a := fun e _ ha z => by
    subst z
    exact absurd (Nat.lt_of_lt_of_le (Heap.lt_size e) ha) (Nat.lt_irrefl _)
  refine ⟨⟨I.ok.mod, ck.kind, I.ok.glob, I.ok.blt, hC, fun x y c h1 h2 => ?_, fun x hx => ?_, (fun x c z => (nomatch z)), I.ok.hd, I.ok.frames, .inl rfl, fun b hb => ⟨?_, fun x c e => ?_⟩, I.bs, Nat.le_trans I.ok.bsz I.sz, fun b o e => fp_base I hf e,
    fun b hb => fp_fs I hf hb, I.stack, I.stkFree⟩, rfl, I.bare, Un.kept hk, ⟨_, hn, fun i x v e1 e2 e3 => ?_⟩, fun x c e => ?_, I.hok.fresh hC, fun x c e => I.freeC x c (clos_of hfr e), fun p hp => ?_, I.hok.kept hk, ?_⟩
  · exact I.ok.inj x y c (clos_of hfr h1) (clos_of hfr h2)
  · obtain ⟨c, e, _⟩ := clos_has hfr (relabel_of ck.cell hx)
    exact ⟨c, e⟩
  · obtain ⟨o, e⟩ := hfo b hb
    exact young e hC
  · exact (hf b hb).2.2.2.2.1 x c (clos_of hfr e)
  · obtain ⟨j, r1, r2⟩ := pull_some e2
    obtain ⟨n1, n2⟩ := ck.from_ i j x e1 r1
    obtain ⟨m, hm, hl'⟩ := I.loc
    have kd := ck.free _ (PySem.mem_of_lookup n2) rfl
    obtain ⟨u, r, lk⟩ := hl' j x v n1 r2 (.inr kd)
    refine ⟨u, r, .inr ⟨relabel_free n2, ?_⟩⟩
    obtain ⟨c, c1, c2⟩ := clos_has hfr n2
    refine ⟨c, c1, ?_⟩
    rcases lk with ⟨k, _⟩ | ⟨_, c', e', ⟨o, ho, hd⟩⟩
    · rcases kd with kd | kd
      · have k' : X.env.scope.names.lookup x = some .local := k
        rw [show X.env.scope.names.lookup x = some .cell from kd] at k'; cases k'
      · have k' : X.env.scope.names.lookup x = some .local := k
        rw [show X.env.scope.names.lookup x = some .free from kd] at k'; cases k'
    · rw [c2] at e'; cases e'
      exact ⟨o, hk _ o ho, hd⟩
  · obtain ⟨v, o, ho, hd⟩ := I.cell x c (clos_of hfr e)
    exact ⟨v, o, hk _ o ho, hd⟩
  · have hp' : p ∈ [(l, lo)] := hp
    rcases List.mem_cons.mp hp' with z | z
    · subst z
      refine ⟨hlo, I.hok.fresh hl, hlC, fun z => ?_, hld⟩
      have z' : l ∈ frs X.stack := z
      rcases List.mem_cons.mp (I.stkSub l z') with q | q
      · exact absurd (Nat.lt_of_lt_of_le (q ▸ I.lt) hl) (Nat.lt_irrefl _)
      · exact I.nofs hl q
    · exact nomatch z
  · show (pull ρ σ).length = N'.length
    unfold pull
    rw [List.length_map, ck.len]

/-- a block ends: the list is there -/
theorem Inv.unblock {s' : Shared} {fp : List Addr} {C l : Addr} {σc : St} {Hc : Hp} {acc : List V} {its : List Value} {n : Nat} (I : Inv X pins σ H s) (hf : ∀ b ∈ fp, FpOk X pins H b)
    (hC : s.heap.objs.size ≤ C) (hl : s.heap.objs.size ≤ l) (J : Inv (compCx X scope N' C s H fp) [(l, { cls := .type "list", data := .seq its.toArray n })] σc Hc s') (r : Vals acc its) (hz : acc.length ≤ sizeLine) :
    Hc l = none ∧ Inv X pins σ (upd Hc l (.lst acc)) s' := by
  obtain ⟨hlo, hln, hlC, hlf, _⟩ := J.pin (l, { cls := .type "list", data := .seq its.toArray n }) (List.mem_append_right _ List.mem_cons_self)
  have hln : Hc l = none := hln
  have hlo : s'.heap.get? l = some { cls := .type "list", data := .seq its.toArray n } := hlo
  refine ⟨hln, ?_⟩
  have hb := J.base
  have young : ∀ {b : Addr} {o : Obj}, s.heap.get? b = some o → b ≠ l := fun e z => by
    subst z
    exact absurd (Nat.lt_of_lt_of_le (Heap.lt_size e) hl) (Nat.lt_irrefl _)
  refine I.call' (ch := fp) J.os ⟨fun b o e n h1 h2 => hb.keep b o e n h1 h2, fun b o e n h1 h2 => hb.slot b o e n h1 h2, fun b o e n h2 => ?_, fun b o e h2 => hb.there b o e h2, fun b xs e => ?_, fun b o u e => ?_, fun b ps e => ?_⟩ ?_ J.bare fun b hb' => ?_
  · rw [upd_ne (young e)]
    exact hb.free b o e n h2
  · have q := hb.tups b xs e
    rw [upd_ne (ne_of_none q hln)]
    exact q
  · have q := hb.frzs b o u e
    rw [upd_ne (ne_of_none q hln)]
    exact q
  · obtain ⟨more, q⟩ := hb.tbls b ps e
    exact ⟨more, by rw [upd_ne (ne_of_none q hln)]; exact q⟩
  · intro a o e
    by_cases ha : a = l
    · subst ha
      rw [upd_same] at e
      cases e
      exact ⟨hz, its, n, r, hlo⟩
    · rw [upd_ne ha] at e
      exact (J.hok a o e).stay (fun _ _ _ q => q) (fun c q => by rw [upd_ne (ne_of_none q hln)]; exact q) fun c xs q => by rw [upd_ne (ne_of_none q hln)]; exact q
  · obtain ⟨f0, f1, f2, f3, f4, f5⟩ := hf b hb'
    exact ⟨f3, f1, f4, f5⟩
end

/-! ### the loop -/
section
variable {prog : Program} {w : World} {A : Around} {R : Result → Shared → Prop} {s : Shared}
/-- no exception: nothing to pass on -/
abbrev X0 : Value → Shared → Prop := fun _ _ => False
theorem lift0 {α : Type} {t : Sem α} {M : Model} {Q : α → Shared → Prop} {E : Value → Shared → Prop} (h : wpAny M A t Q X0 s) : wpAny M A t Q E s := wpAny_mono h (fun _ _ q => q) fun _ _ z => False.elim z
theorem comp_append {l : Addr} {its : List Value} {k : Nat} {y : Value} {E : Value → Shared → Prop} {Q : Value → Shared → Prop} (hl : s.heap.get? l = some { cls := .type "list", data := .seq its.toArray k }) (hz : its.length ≤ sizeLine)
    (h : ∀ h' k', h'.get? l = some { cls := .type "list", data := .seq (its ++ [y]).toArray k' } → (∀ b o, b ≠ l → s.heap.get? b = some o → h'.get? b = some o) → Q .none { s with heap := h' }) :
    wpAny (model prog w) A (call (.builtin "list.append") [.ref l, y]) Q E s := by
  refine wpAny_list_append_plain ⟨k, hl⟩ (fun h' hp sb => ?_) (by rw [List.size_toArray]; exact hz)
  obtain ⟨k', e⟩ := hp
  refine h h' k' ?_ fun b o hb q => (sb.2 b hb).trans q
  rw [e]
  simp
theorem compLoop_any {elt target iter : Expr} {ifs : List Expr} {scope : Scope} {pos : Pos} {it acc : Value} {env : Env} (I : Nat → Shared → Prop)
    (turn : ∀ n s, I n s → wpAny (model prog w) A (pyNext it) (fun r s₁ => match r with
      | none => R (.ok .next) s₁
      | some v => wpAny (model prog w) A (letOwnedTupleGo target it v) (fun _ s₁' => wpAny (model prog w) A (assign target env v) (fun _ s₂ =>
          wpAny (model prog w) A (forIn ifs true fun c r => if r = true then do let ok ← isTrue c env (eval c env); pure (ForInStep.yield ok) else pure (ForInStep.yield r)) (fun ok s₃ =>
            if ok = true then wpAny (model prog w) A (eval elt env) (fun x s₄ =>
              wpAny (model prog w) A (call (.builtin "list.append") [acc, x]) (fun _ s₅ => ∃ m, m < n ∧ I m s₅) X0 s₄) X0 s₃
            else ∃ m, m < n ∧ I m s₃) X0 s₂) X0 s₁') X0 s₁) X0 s)
    (n : Nat) (h : I n s) : codeAny (model prog w) A (.compLoop (.ListComp elt [⟨target, iter, ifs, 0⟩] scope pos) 0 it acc env) R s := by
  refine codeAny_loop rfl I (fun n s hI => ?_) n h
  show wpAny _ A ((compTurn (.ListComp elt [⟨target, iter, ifs, 0⟩] scope pos) 0 it acc env).onRaise (fun x => do noteFrame x env; theTreesLotGoes x)) _ _ s
  refine wpAny_noted ?_
  rw [compTurn_list]
  refine wpAny_bind (wpAny_standAt (wpAny_bind (lift0 (wpAny_mono (turn n s hI) (fun r s₁ h₁ => ?_) fun _ _ h' => False.elim h'))))
  cases r with
  | none => exact wpAny_pure h₁
  | some v =>
    refine wpAny_bind (wpAny_mono h₁ (fun _ s₁' h₁' => ?_) fun _ _ h' => False.elim h')
    refine wpAny_bind (wpAny_mono h₁' (fun _ s₂ h₂ => wpAny_bind (wpAny_mono h₂ (fun ok s₃ h₃ => ?_) fun _ _ h' => False.elim h')) fun _ _ h' => False.elim h')
    cases ok with
    | false => exact wpAny_pure ⟨rfl, h₃⟩
    | true =>
      exact wpAny_bind (wpAny_bind (wpAny_mono h₃ (fun x s₄ h₄ => wpAny_bind (wpAny_mono h₄ (fun _ s₅ h₅ => wpAny_pure (wpAny_pure ⟨rfl, h₅⟩)) fun _ _ h' => False.elim h')) fun _ _ h' => False.elim h'))
end

/-- the tests of a clause, one at most -/
def PTs (X : Cx) (ifs : List Expr) (t : TT) : Prop :=
  ∀ (pins : List (Addr × Obj)) (s : Shared) (σ : St) (H : Hp) (Q : Bool → Hp → Prop), Inv X pins σ H s → t σ H Q →
    wpAny (model X.prog X.w) X.A (forIn ifs true fun c r => if r = true then do let ok ← isTrue c X.env (eval c X.env); pure (ForInStep.yield ok) else pure (ForInStep.yield r)) (TP X pins σ Q) X.xe s
def tYes : TT := fun _ H Q => Q true H
theorem pts_nil {X : Cx} : PTs X [] tYes := fun _ _ _ H _ I h => wpAny_tests_nil ⟨H, I, h⟩
theorem pts_one {X : Cx} {c : Expr} {t : TT} (h : PT X c t) : PTs X [c] t := fun pins s σ H Q I hq => wpAny_tests_one (h pins s σ H Q I hq)

/-- [elt for tg in iter if ..]: W, by the turn, a measure, what is in the list, the block's names and the heap -/
def tComp (ρ : List (Option Nat)) (wi : TI) (g : TG) (tt : TT) (te : TE) : TE := fun σ H Q => wi σ H fun J H1 => ∃ W : Nat → Nat → List V → St → Hp → Prop, (∃ m, W 0 m [] (pull ρ σ) H1) ∧ ∀ i m acc σc Hc, W i m acc σc Hc →
  (J.stop i Hc ∧ acc.length ≤ sizeLine ∧ ∀ l, Hc l = none → Q (.ref l) (upd Hc l (.lst acc))) ∨
  (J.go i Hc ∧ acc.length < sizeLine ∧ ∃ N : List V → St → Hp → Prop, (∀ acc' σ' H', N acc' σ' H' → ∃ m', m' < m ∧ W (i + 1) m' acc' σ' H') ∧
    ∀ x H', J.yld i Hc x H' → g x σc H' fun σ2 H2 => tt σ2 H2 fun b H3 => if b = true then te σ2 H3 fun v H4 => N (acc ++ [v]) σ2 H4 else N acc σ2 H3)

section
variable {X : Cx} {scope : Scope} {N' : List Str} {ρ : List (Option Nat)} {tg iter elt : Expr} {ifs : List Expr} {pos : Pos} {wi : TI} {g : TG} {tt : TT} {te : TE}

theorem comp_run {use : Option (Value → Sem Unit)} {pins : List (Addr × Obj)} {s : Shared} {σ : St} {H : Hp} {Q : VK} {QQ : Value → Shared → Prop} (hc : X.calm = true) (hi : PI X tg iter wi)
    (hg : ∀ C s H fp, PG (compCx X scope N' C s H fp) tg g) (ht : ∀ C s H fp, PTs (compCx X scope N' C s H fp) ifs tt) (he : ∀ C s H fp, PE (compCx X scope N' C s H fp) elt te)
    (ck : CompOk scope X.env.scope X.N N' ρ) (hs : ∀ x, foldedSetIterable iter X.env x = pure x) (I : Inv X pins σ H s) (h : tComp ρ wi g tt te σ H Q)
    (post : ∀ (l C : Addr) (m : Str → Option Value) (H' : Hp) (s' : Shared), Inv X pins σ H' s' → Q (.ref l) H' → s'.heap.Ns C m → H' C = none → C ≠ X.env.locals → (X.s₀.heap.objs.size ≤ C) → (∀ x c, X.env.cells.lookup x = some c → c ≠ C) → (∀ p ∈ X.pn ++ pins, p.1 ≠ C) →
      compPost (model X.prog X.w) X.A X.xe use QQ (.ref l) C (.ok .next) s') :
    wpAny (model X.prog X.w) X.A (comprehension (.ListComp elt [⟨tg, iter, ifs, 0⟩] scope pos) scope X.env (firstIterPos [⟨tg, iter, ifs, 0⟩] pos) (newList []) false (eval iter X.env) use) QQ X.xe s := by
  have hfr := I.cells_of ck
  refine wpAny_comprehension_free rfl hs (clos_ok hfr) ck.kind ck.loc ?_
  refine thn (hi pins s σ H _ I h) fun v s1 h1 => thn h1 fun itv s2 h2 => ?_
  obtain ⟨it, fp, tn, J, H2, e, I2, T, st2, f2, W, ⟨m0, w0⟩, turn⟩ := h2
  subst e
  refine wpAny_newObj_type (wpAny_newFunctionEnv ck.cell (by intro y hy; simp at hy) (fun h₁ hns₁ hsb₁ => ?_) ck.kind)
  dsimp only at hns₁ hsb₁ ⊢
  generalize hH2 : s2.heap.push { cls := .type "list", dict := none, data := .seq ([] : List Value).toArray } = G2 at hns₁ hsb₁ ⊢
  have hCs : G2.objs.size = s2.heap.objs.size + 1 := by rw [← hH2, Heap.size_push]
  have hlC : s2.heap.objs.size ≠ G2.objs.size := by rw [hCs]; exact Nat.ne_of_lt (Nat.lt_succ_self _)
  have hC : s2.heap.objs.size ≤ G2.objs.size := by rw [hCs]; exact Nat.le_succ _
  have old : ∀ b o, s2.heap.get? b = some o → h₁.get? b = some o := fun b o e => hsb₁.extBut b o (by rw [hCs]; exact Nat.ne_of_lt (Nat.lt_succ_of_lt (Heap.lt_size e))) (Heap.get?_push_of_some _ (hH2 ▸ Heap.get?_push_of_some _ e))
  have hlo : h₁.get? s2.heap.objs.size = some { cls := .type "list", data := .seq ([] : List Value).toArray } := hsb₁.extBut _ _ hlC (Heap.get?_push_of_some _ (hH2 ▸ Heap.get?_push_size _ rfl))
  have hfo : ∀ b ∈ fp, ∃ o, s2.heap.get? b = some o := fun b hb => let ⟨o, e, _⟩ := T.obj _ _ st2 b hb; ⟨o, e⟩
  have I3 : Inv (compCx X scope N' G2.objs.size s2 H2 fp) [(s2.heap.objs.size, { cls := .type "list", data := .seq ([] : List Value).toArray })] (pull ρ σ) H2 { s2 with heap := h₁, toks := s2.toks + ([] : List (Str × Value)).length } :=
    I2.block ck f2 hfo old hC hns₁ (Nat.le_refl _) hlC hlo (fun v z => nomatch z)
  have st3 : tn 0 h₁ := T.keep _ _ _ st2 fun b _ o e => old b o e
  have fpok : ∀ {Hc : Hp} {lo : Obj}, (∀ b ∈ fp, Hc b = none) → ∀ b ∈ fp, FpOk (compCx X scope N' G2.objs.size s2 H2 fp) [(s2.heap.objs.size, lo)] Hc b := fun {Hc lo} hn b hb => by
    obtain ⟨o, ho⟩ := hfo b hb
    have ne : ∀ {a : Addr}, s2.heap.objs.size ≤ a → b ≠ a := fun ha z => by
      subst z
      exact absurd (Nat.lt_of_lt_of_le (Heap.lt_size ho) ha) (Nat.lt_irrefl _)
    refine ⟨hn b hb, ne hC, fp_fs I2 f2 hb, .inl hb, fun x c e => (f2 b hb).2.2.2.2.1 x c (clos_of hfr e), fun p hp => ?_⟩
    have hp' : p ∈ [(s2.heap.objs.size, lo)] := hp
    rcases List.mem_cons.mp hp' with z | z
    · subst z; exact Ne.symm (ne (Nat.le_refl _))
    · exact nomatch z
  have loop : ∀ s₃ : Shared, s₃ = { s2 with heap := h₁, toks := s2.toks + ([] : List (Str × Value)).length } →
      codeAny (model X.prog X.w) X.A (.compLoop (.ListComp elt [⟨tg, iter, ifs, 0⟩] scope pos) 0 (.ref it) (.ref s2.heap.objs.size) (compEnvC scope (closOf scope X.env) G2.objs.size X.env))
        (compPost (model X.prog X.w) X.A X.xe use QQ (.ref s2.heap.objs.size) G2.objs.size) s₃ := by
    rintro s₃ rfl
    refine compLoop_any (fun n s' => ∃ i acc its k σc Hc, Inv (compCx X scope N' G2.objs.size s2 H2 fp) [(s2.heap.objs.size, { cls := .type "list", data := .seq (its : List Value).toArray k })] σc Hc s' ∧ Vals acc its ∧ tn i s'.heap ∧ (∀ b ∈ fp, Hc b = none) ∧ W i n acc σc Hc) ?_ m0
      ⟨0, [], [], 0, _, _, I3, .nil, st3, fun b hb => (f2 b hb).1, w0⟩
    rintro n s4 ⟨i, acc, its, k, σ4, H4, I4, rv, st4, fr4, w4⟩
    rcases turn i n acc σ4 H4 w4 with ⟨stop, hz, q⟩ | ⟨go, hz, N, hN, step⟩
    · refine thn (T.done (compCx X scope N' G2.objs.size s2 H2 fp) rfl rfl rfl hc i _ s4 σ4 H4 X0 I4 (fpok fr4) st4 stop) fun r s5 ⟨hr, I5⟩ => ?_
      subst hr
      obtain ⟨hln, I6⟩ := I2.unblock f2 hC (Nat.le_refl _) I5 rv hz
      obtain ⟨m, hm, _⟩ := I5.loc
      have hcn : H4 G2.objs.size = none := I5.free
      have f6 := I2.fpOk hC (H' := H2) (I2.hok.fresh hC)
      exact post s2.heap.objs.size G2.objs.size m _ s5 I6 (q _ hln) hm (by rw [upd_ne (Ne.symm hlC)]; exact hcn) f6.2.1 (Nat.le_trans I2.sz hC) f6.2.2.2.2.1 f6.2.2.2.2.2
    · refine thn (T.item (compCx X scope N' G2.objs.size s2 H2 fp) rfl rfl rfl hc i _ s4 σ4 H4 X0 I4 (fpok fr4) st4 go) fun r s5 ⟨u, hr, h5⟩ => ?_
      subst hr
      refine thn h5 fun _ s6 ⟨x, H6, I6, r6, y6, st6, fr6⟩ => ?_
      have I6' := I6.pinned (fpok fr6) (T.obj _ _ st6)
      refine thn (hg G2.objs.size s2 H2 fp _ s6 σ4 H6 x u _ I6' r6 (step x H6 y6)) fun _ s7 ⟨σ7, H7, I7, q7⟩ => ?_
      refine thn (ht G2.objs.size s2 H2 fp _ s7 σ7 H7 _ I7 q7) fun b s8 ⟨H8, I8, q8⟩ => ?_
      have stay : ∀ {σ9 : St} {H9 : Hp} {s9 : Shared}, Inv (compCx X scope N' G2.objs.size s2 H2 fp) ([(s2.heap.objs.size, { cls := .type "list", data := .seq its.toArray k })] ++ pinsAt fp s6.heap) σ9 H9 s9 → tn (i + 1) s9.heap ∧ ∀ b ∈ fp, H9 b = none := fun {σ9 H9 s9} I9 => by
        refine ⟨T.keep _ _ _ st6 fun b hb o e => (I9.pin (b, o) (List.mem_append_right _ (List.mem_append_right _ (mem_pinsAt hb e)))).1, fun b hb => ?_⟩
        obtain ⟨o, e, d⟩ := T.obj _ _ st6 b hb
        exact (I9.pin (b, o) (List.mem_append_right _ (List.mem_append_right _ (mem_pinsAt hb e)))).2.1
      cases b with
      | false =>
        rw [if_neg Bool.false_ne_true]
        rw [if_neg Bool.false_ne_true] at q8
        obtain ⟨m', hm, w9⟩ := hN _ _ _ q8
        obtain ⟨a1, a2⟩ := stay I8
        exact ⟨m', hm, i + 1, acc, its, k, σ7, H8, I8.unpinned, rv, a1, a2, w9⟩
      | true =>
        rw [if_pos rfl]
        rw [if_pos rfl] at q8
        refine thn (he G2.objs.size s2 H2 fp _ s8 σ7 H8 _ I8 q8) fun y s9 ⟨v, H9, I9, r9, q9⟩ => ?_
        obtain ⟨m', hm, w9⟩ := hN _ _ _ q9
        obtain ⟨a1, a2⟩ := stay I9
        have J9 := I9.unpinned
        obtain ⟨p1, p2, p3, p4, p5⟩ := J9.pin (s2.heap.objs.size, { cls := .type "list", data := .seq its.toArray k }) (List.mem_append_right _ List.mem_cons_self)
        have p1 : s9.heap.get? s2.heap.objs.size = some { cls := .type "list", data := .seq its.toArray k } := p1
        have hlen := rv.length
        refine comp_append p1 (by omega) fun h10 k' g10 sb10 => ⟨m', hm, i + 1, acc ++ [v], its ++ [y], k', σ7, H9, ?_, Vals.append rv (.cons r9 .nil), ?_, a2, w9⟩
        · have nfp : s2.heap.objs.size ∉ fp := fun z => by
            obtain ⟨o, e⟩ := hfo _ z
            exact absurd (Heap.lt_size e) (Nat.lt_irrefl _)
          have J10 : Inv (compCx X scope N' G2.objs.size s2 H2 fp) [] σ7 H9 s9 := J9.pins_of fun p hp => nomatch hp
          have ncell : ∀ x c, (compCx X scope N' G2.objs.size s2 H2 fp).env.cells.lookup x = some c → c ≠ s2.heap.objs.size := fun x c e z => by
            obtain ⟨v', o', ho', hd'⟩ := J10.cell x c e
            rw [z, p1] at ho'
            cases ho'
            cases hd'
          have J11 : Inv (compCx X scope N' G2.objs.size s2 H2 fp) [] σ7 H9 { s9 with heap := h10 } := J10.turned (t' := s9.toks) (it := s2.heap.objs.size) (fun b o hb e => sb10 b o hb e) p2 p3 (.inr (Nat.le_refl _)) ncell (fun p hp => nomatch hp)
          refine J11.pins_of fun p hp => ?_
          rcases List.mem_cons.mp hp with z | z
          · subst z
            exact ⟨g10, p2, p3, p4, fun v z => nomatch z⟩
          · exact nomatch z
        · refine T.keep _ _ _ a1 fun b hb o e => sb10 b o (fun z => ?_) e
          subst z
          obtain ⟨o', e'⟩ := hfo _ hb
          exact absurd (Heap.lt_size e') (Nat.lt_irrefl _)
  exact codeAny_compStart_list (loop _ rfl) (T.self X.A 0 _ _ _ st3 (loop _ rfl))

/-- [elt for tg in iter if ..] -/
theorem pe_comp (N' : List Str) (ρ : List (Option Nat)) (hc : X.calm = true) (hi : PI X tg iter wi)
    (hg : ∀ C s H fp, PG (compCx X scope N' C s H fp) tg g) (ht : ∀ C s H fp, PTs (compCx X scope N' C s H fp) ifs tt) (he : ∀ C s H fp, PE (compCx X scope N' C s H fp) elt te)
    (ck : compChk scope X.env.scope X.N N' ρ = true) (hs : ∀ x, foldedSetIterable iter X.env x = pure x := by intro _; rfl) :
    PE X (.ListComp elt [⟨tg, iter, ifs, 0⟩] scope pos) (tComp ρ wi g tt te) := by
  intro pins s σ H Q I h
  rw [eval_ListComp]
  refine comp_run (use := none) hc hi hg ht he (compChk_ok ck) hs I h fun l C m H' s' I' q hm hC h1 h2 h3 h4 => ?_
  refine ⟨m, hm, fun h'' sb => ?_⟩
  refine ⟨.ref l, H', ?_, rfl, q⟩
  exact I'.turned (t' := s'.toks) (it := C) (fun b o hb e => (sb.2 b hb).trans e) hC h1 (.inr h2) h3 h4
/-- x = [elt for ..], x a plain local of the def on the same line: the name is stored within the block's end -/
theorem ps_setcomp {i : Nat} {x : Str} {pos' spos : Pos} (N' : List Str) (ρ : List (Option Nat)) (hN : X.N.Nodup) (hx : X.N[i]? = some x) (hl : Loc X.env.scope x) (hc : X.calm = true) (hi : PI X tg iter wi)
    (hg : ∀ C s H fp, PG (compCx X scope N' C s H fp) tg g) (ht : ∀ C s H fp, PTs (compCx X scope N' C s H fp) ifs tt) (he : ∀ C s H fp, PE (compCx X scope N' C s H fp) elt te)
    (ck : compChk scope X.env.scope X.N N' ρ = true) (hsw : swapsWith (.ListComp elt [⟨tg, iter, ifs, 0⟩] scope pos) (some (.Name x pos')) spos.line X.env = pure true := by rfl)
    (hs : ∀ x, foldedSetIterable iter X.env x = pure x := by intro _; rfl) (hf : X.fn x = true ∨ X.env.scope.names.lookup x = some .local := by first | exact .inl rfl | exact .inr rfl | assumption) :
    PS X (.Assign [.Name x pos'] (.ListComp elt [⟨tg, iter, ifs, 0⟩] scope pos) spos) (tAsg (tComp ρ wi g tt te) (gName i)) := by
  intro pins s σ H D I h
  rw [exec_Assign_Name_used _ _ _ _ hsw]
  refine wpAny_bind (wpAny_standAt (wpAny_bind ?_))
  show wpAny _ X.A (do let _ ← comprehension (.ListComp elt [⟨tg, iter, ifs, 0⟩] scope pos) scope X.env _ (newList []) false (eval iter X.env) (some (assign (.Name x pos') X.env))) _ _ s
  refine wpAny_bind (wpAny_mono (comp_run (use := some (assign (.Name x pos') X.env)) (QQ := fun _ s' => SP X pins D .next s') (Q := fun v H' => D.nx (σ.set i (some v)) H') hc hi hg ht he (compChk_ok ck) hs I h fun l C m H' s' I' q hm hC h1 h2 h3 h4 => ?_)
    (fun _ s' hq => wpAny_pure (wpAny_pure hq)) fun _ _ e => e)
  show wpAny _ X.A (assign (.Name x pos') X.env (.ref l)) _ _ _
  refine wpAny_assign_Name (store_ok2 I' hN hx hl (v := .ref l) rfl (fun s2 I2 ⟨a, sb, ha⟩ => ?_) hf)
  have neC : C ≠ a := by
    rcases ha with z | z
    · rw [z]; exact h1
    · exact Ne.symm (h3 x a z)
  refine ⟨m, hm.sameBut sb neC, fun h'' sb'' => ?_⟩
  refine ⟨σ.set i (some (.ref l)), H', ?_, q⟩
  exact I2.turned (t' := s2.toks) (it := C) (fun b o hb e => (sb''.2 b hb).trans e) hC h1 (.inr h2) h3 h4
end
end L2

set_option maxHeartbeats 4000000
/-! More rules over the hand layer: isinstance, powers and products of any size, a def of the text in one word. -/
namespace L2
open PySem PySem.Spec PyProof.Rows
section
variable {X : Cx}
theorem call_isi : CallR X (.builtin "isinstance") (fun xs H Q => ∃ x T t b, xs = [x, .ty T] ∧ TyOf X.K H x t ∧ PySem.W.kitOne X.K t (.type T) = some b ∧ Q (.bl b) H) := by
  intro pins s σ H xs us Q I r h
  obtain ⟨x, T, t, b, rfl, ty, e, q⟩ := h
  obtain ⟨u, v, rfl, ru, rv⟩ := r.two
  have ev : v = Value.type T := rv
  subst ev
  exact isinst_ok I ru ty e fun tk => ⟨.bl b, H, I.tok _, rfl, q⟩
/-- a ** b of any size within the line -/
def CPowB (i j : Int) : Prop := 0 ≤ j ∧ (Builtin.Int.intBits i : Int) * j ≤ 2 ^ 27
theorem op_powB : OpR X (binaryOp .Pow) (rI CPowB fun i j => .int (i ^ j.toNat)) := opI fun _ _ _ _ _ _ _ hc q => pow_int hc.1 hc.2 q
def CMulB (i j : Int) : Prop := IntMulOk i j
theorem op_mulB : OpR X (binaryOp .Mult) (rI CMulB fun i j => .int (i * j)) := opI fun _ _ _ _ _ _ _ hc q => mul_int q hc

/-- a def of the text, known by its name -/
def Def (P : Program) (w : World) (K : PySem.W.Frag) (mg : Str → Option Value) (base : Heap) (k : Nat) (x : Str) (ps : List Str) (sp : Sp) : Prop :=
  ∃ f fd, FnOk P w K mg base CX0 k f fd ps sp ∧ mg x = some (.ref f) ∧ PySem.W.keepIn K (.ref f) = true ∧ Binds K fd ps []
def tCal (sp : Sp) (t : TA) : TE := fun σ H Q => t σ H fun vs H1 => sp vs H1 Q E0
theorem pe_def {k : Nat} {x : Str} {ps : List Str} {sp : Sp} {e : Expr} {es : List Expr} {t : TA} {p pos : Pos} (D : Def X.prog X.w X.K X.mg X.base k x ps sp) (hr : Room k X.A) (ha : PA X (e :: es) t) (hg : Gl X x := by rfl)
    (hdb : (x == ("__debug__" : Str)) = false := by decide) (he : starEach (e :: es) X.env = (false, eval e X.env) :: starEach es X.env := by rfl) (hpl : (backTo pos (starEach es X.env)).any (·.1) = false := by rfl) :
    PE X (.Call (.Name x p) (e :: es) [] pos) (tCal sp t) := by
  obtain ⟨f, fd, F, hm, kp, hb⟩ := D
  intro pins s σ H Q I h
  refine pe_call (E := E0) (dvs := []) (ds := []) F hr hg hm kp hb .nil pass0 ha hdb he hpl pins s σ H Q I ?_
  have e : tCall sp [] E0 t = tCal sp t := by
    funext σ H Q
    unfold tCall tCal
    congr 1
    funext vs H1
    rw [List.append_nil]
  rw [e]
  exact h
theorem def_mk {P : Program} {w : World} {K : PySem.W.Frag} {mg : Str → Option Value} {base : Heap} {k : Nat} {x : Str} {ps : List Str} {sp : Sp} {st : Stmt} {f : Addr} {fd : FuncData} (F : Fun K x x st f fd) (hm : mg x = some (.ref f))
    (G : FnOk P w K mg base CX0 k f fd ps sp) (b : Binds K fd ps []) : Def P w K mg base k x ps sp := ⟨f, fd, G, hm, F.kp, b⟩
end

/-! ### what stays -/
theorem Same.upd {H : Hp} {a : Addr} {o : HO} (h : H a = none) : Same H (upd H a o) := fun b u e => by
  rw [upd_ne (ne_of_none e h)]
  exact e
theorem Same.tup {K : PySem.W.Frag} {H H' : Hp} {a : Addr} {xs : List V} (e : Same H H') (h : SqT K H a xs) : SqT K H' a xs := by
  rcases h with (h | ⟨o, h⟩) | h
  · exact .inl (.inl (e _ _ h))
  · exact .inl (.inr ⟨o, e _ _ h⟩)
  · exact .inr h

/-! ### small words -/
theorem iteP {c A B : Prop} [Decidable c] (hc : c) (h : A) : if c then A else B := by
  rw [if_pos hc]
  exact h
theorem iteN {c A B : Prop} [Decidable c] (hc : ¬ c) (h : B) : if c then A else B := by
  rw [if_neg hc]
  exact h
theorem bt_len : bootBuiltins "len" = some (.builtin "len") := by decide +kernel
theorem bt_isinstance : bootBuiltins "isinstance" = some (.builtin "isinstance") := by decide +kernel
theorem bt_sorted : bootBuiltins "sorted" = some (.builtin "sorted") := by decide +kernel
theorem bt_sum : bootBuiltins "sum" = some (.builtin "sum") := by decide +kernel
theorem bt_all : bootBuiltins "all" = some (.builtin "all") := by decide +kernel
theorem bt_bool : bootBuiltins "bool" = some (.type "bool") := by decide +kernel
theorem bt_int : bootBuiltins "int" = some (.type "int") := by decide +kernel
theorem bt_str : bootBuiltins "str" = some (.type "str") := by decide +kernel
theorem bt_list : bootBuiltins "list" = some (.type "list") := by decide +kernel
theorem bt_tuple : bootBuiltins "tuple" = some (.type "tuple") := by decide +kernel
theorem bt_dict : bootBuiltins "dict" = some (.type "dict") := by decide +kernel
theorem Same.write {H H2 : Hp} {l : Addr} {o : HO} (s : Same H H2) (hl : H l = none) : Same H (L2.upd H2 l o) := fun b u e => by
  rw [upd_ne (ne_of_none e hl)]
  exact s b u e
theorem dec_intV {i j : Int} : decide (V.int i = V.int j) = decide (i = j) := by
  rw [Bool.eq_iff_iff]
  simp
theorem dec_blV {i j : Bool} : decide (V.bl i = V.bl j) = decide (i = j) := by
  rw [Bool.eq_iff_iff]
  simp
theorem cutV_from (xs : List V) (k : Nat) (h : k ≤ xs.length) : cutV xs (some (k : Int)) none = xs.drop k := by
  unfold cutV
  rw [HT.sIx_nat, HT.sIx_none, Nat.min_eq_left h]
  exact List.take_of_length_le (by rw [List.length_drop]; omega)
theorem cutV_to (xs : List V) (k : Nat) : cutV xs none (some (k : Int)) = xs.take k := by
  unfold cutV
  rw [HT.sIx_none, HT.sIx_nat, List.drop_zero, Nat.sub_zero]
  by_cases h : k ≤ xs.length
  · rw [Nat.min_eq_left h]
  · rw [Nat.min_eq_right (by omega), List.take_of_length_le (Nat.le_refl _), List.take_of_length_le (by omega)]

/-! ### places in lists of ints -/
theorem atI_ints {zs : List Int} {i : Int} (h0 : 0 ≤ i) (h1 : i < (zs.length : Int)) : atI (zs.map V.int) i = some (.int (zs.getD i.toNat 0)) := by
  have e : ((i.toNat : Nat) : Int) = i := Int.toNat_of_nonneg h0
  have hlt : i.toNat < zs.length := by omega
  have q : (zs.map V.int)[i.toNat]? = some (.int (zs.getD i.toNat 0)) := by
    rw [List.getElem?_map, List.getElem?_eq_getElem hlt]
    simp [List.getD, hlt]
  have := atI_nat q
  rw [e] at this
  exact this

/-! ### the forms one uses of a comprehension -/
/-- Q of the list that a block has filled -/
def CompOut (Q : VK) (acc : List V) (Hc : Hp) : Prop := ∀ l, Hc l = none → Q (.ref l) (upd Hc l (.lst acc))
theorem comp_range {n : Nat} {lo : Int} {g : TG} {tt : TT} {te : TE} {ρ : List (Option Nat)} {σ : St} {H : Hp} {Q : VK} (Pv : Nat → List V → St → Hp → Prop) (h0 : Pv 0 [] (pull ρ σ) H) (hn : n < sizeLine)
    (hl : ∀ i acc σc Hc, Pv i acc σc Hc → acc.length ≤ i)
    (hs : ∀ i acc σc Hc, i < n → Pv i acc σc Hc → g (.int (lo + i)) σc Hc fun σ2 H2 => tt σ2 H2 fun b H3 => if b = true then te σ2 H3 fun v H4 => Pv (i + 1) (acc ++ [v]) σ2 H4 else Pv (i + 1) acc σ2 H3)
    (hd : ∀ acc σc Hc, Pv n acc σc Hc → CompOut Q acc Hc) :
    ∃ W : Nat → Nat → List V → St → Hp → Prop, (∃ m, W 0 m [] (pull ρ σ) H) ∧ ∀ i m acc σc Hc, W i m acc σc Hc →
      ((Itr lo n).stop i Hc ∧ acc.length ≤ sizeLine ∧ ∀ l, Hc l = none → Q (.ref l) (upd Hc l (.lst acc))) ∨
      ((Itr lo n).go i Hc ∧ acc.length < sizeLine ∧ ∃ N : List V → St → Hp → Prop, (∀ acc' σ' H', N acc' σ' H' → ∃ m', m' < m ∧ W (i + 1) m' acc' σ' H') ∧
        ∀ x H', (Itr lo n).yld i Hc x H' → g x σc H' fun σ2 H2 => tt σ2 H2 fun b H3 => if b = true then te σ2 H3 fun v H4 => N (acc ++ [v]) σ2 H4 else N acc σ2 H3) := by
  refine ⟨fun i m acc σ H => m = n - i ∧ i ≤ n ∧ Pv i acc σ H, ⟨n, by simp, Nat.zero_le _, h0⟩, ?_⟩
  rintro i m acc σc Hc ⟨rfl, hi, p⟩
  have ha := hl i acc σc Hc p
  by_cases hlt : i < n
  · refine .inr ⟨hlt, by omega, Pv (i + 1), fun acc' σ' H' p' => ⟨n - (i + 1), by omega, rfl, hlt, p'⟩, fun x H' y => ?_⟩
    obtain ⟨e, y⟩ := y
    subst e y
    exact hs i acc σc _ hlt p
  · have e : i = n := by omega
    subst e
    exact .inl ⟨Nat.le_refl _, by omega, hd acc σc Hc p⟩
theorem comp_list {K : PySem.W.Frag} {a : Addr} {xs : List V} {g : TG} {tt : TT} {te : TE} {ρ : List (Option Nat)} {σ : St} {H : Hp} {Q : VK} (Pv : Nat → List V → St → Hp → Prop) (h0 : Pv 0 [] (pull ρ σ) H) (hn : xs.length < sizeLine)
    (hl : ∀ i acc σc Hc, Pv i acc σc Hc → acc.length ≤ i ∧ SqL K Hc a xs)
    (hs : ∀ i x acc σc Hc, xs[i]? = some x → Pv i acc σc Hc → g x σc Hc fun σ2 H2 => tt σ2 H2 fun b H3 => if b = true then te σ2 H3 fun v H4 => Pv (i + 1) (acc ++ [v]) σ2 H4 else Pv (i + 1) acc σ2 H3)
    (hd : ∀ acc σc Hc, Pv xs.length acc σc Hc → CompOut Q acc Hc) :
    ∃ W : Nat → Nat → List V → St → Hp → Prop, (∃ m, W 0 m [] (pull ρ σ) H) ∧ ∀ i m acc σc Hc, W i m acc σc Hc →
      ((Itl K a).stop i Hc ∧ acc.length ≤ sizeLine ∧ ∀ l, Hc l = none → Q (.ref l) (upd Hc l (.lst acc))) ∨
      ((Itl K a).go i Hc ∧ acc.length < sizeLine ∧ ∃ N : List V → St → Hp → Prop, (∀ acc' σ' H', N acc' σ' H' → ∃ m', m' < m ∧ W (i + 1) m' acc' σ' H') ∧
        ∀ x H', (Itl K a).yld i Hc x H' → g x σc H' fun σ2 H2 => tt σ2 H2 fun b H3 => if b = true then te σ2 H3 fun v H4 => N (acc ++ [v]) σ2 H4 else N acc σ2 H3) := by
  refine ⟨fun i m acc σ H => m = xs.length - i ∧ i ≤ xs.length ∧ Pv i acc σ H, ⟨xs.length, by simp, Nat.zero_le _, h0⟩, ?_⟩
  rintro i m acc σc Hc ⟨rfl, hi, p⟩
  obtain ⟨ha, q⟩ := hl i acc σc Hc p
  by_cases hlt : i < xs.length
  · refine .inr ⟨⟨xs, xs[i], q, by simp [hlt]⟩, by omega, Pv (i + 1), fun acc' σ' H' p' => ⟨xs.length - (i + 1), by omega, rfl, hlt, p'⟩, fun x H' y => ?_⟩
    obtain ⟨e, y⟩ := y
    subst e
    exact hs i x acc σc _ (y xs q) p
  · have e : i = xs.length := by omega
    subst e
    exact .inl ⟨⟨xs, q, Nat.le_refl _⟩, by omega, hd acc σc Hc p⟩
theorem comp_tup {K : PySem.W.Frag} {a : Addr} {xs : List V} {g : TG} {tt : TT} {te : TE} {ρ : List (Option Nat)} {σ : St} {H : Hp} {Q : VK} (Pv : Nat → List V → St → Hp → Prop) (h0 : Pv 0 [] (pull ρ σ) H) (hn : xs.length < sizeLine)
    (hl : ∀ i acc σc Hc, Pv i acc σc Hc → acc.length ≤ i ∧ SqT K Hc a xs)
    (hs : ∀ i x acc σc Hc, xs[i]? = some x → Pv i acc σc Hc → g x σc Hc fun σ2 H2 => tt σ2 H2 fun b H3 => if b = true then te σ2 H3 fun v H4 => Pv (i + 1) (acc ++ [v]) σ2 H4 else Pv (i + 1) acc σ2 H3)
    (hd : ∀ acc σc Hc, Pv xs.length acc σc Hc → CompOut Q acc Hc) :
    ∃ W : Nat → Nat → List V → St → Hp → Prop, (∃ m, W 0 m [] (pull ρ σ) H) ∧ ∀ i m acc σc Hc, W i m acc σc Hc →
      ((Itt K a).stop i Hc ∧ acc.length ≤ sizeLine ∧ ∀ l, Hc l = none → Q (.ref l) (upd Hc l (.lst acc))) ∨
      ((Itt K a).go i Hc ∧ acc.length < sizeLine ∧ ∃ N : List V → St → Hp → Prop, (∀ acc' σ' H', N acc' σ' H' → ∃ m', m' < m ∧ W (i + 1) m' acc' σ' H') ∧
        ∀ x H', (Itt K a).yld i Hc x H' → g x σc H' fun σ2 H2 => tt σ2 H2 fun b H3 => if b = true then te σ2 H3 fun v H4 => N (acc ++ [v]) σ2 H4 else N acc σ2 H3) := by
  refine ⟨fun i m acc σ H => m = xs.length - i ∧ i ≤ xs.length ∧ Pv i acc σ H, ⟨xs.length, by simp, Nat.zero_le _, h0⟩, ?_⟩
  rintro i m acc σc Hc ⟨rfl, hi, p⟩
  obtain ⟨ha, q⟩ := hl i acc σc Hc p
  by_cases hlt : i < xs.length
  · refine .inr ⟨⟨xs, xs[i], q, by simp [hlt]⟩, by omega, Pv (i + 1), fun acc' σ' H' p' => ⟨xs.length - (i + 1), by omega, rfl, hlt, p'⟩, fun x H' y => ?_⟩
    obtain ⟨e, y⟩ := y
    subst e
    exact hs i x acc σc _ (y xs q) p
  · have e : i = xs.length := by omega
    subst e
    exact .inl ⟨⟨xs, q, Nat.le_refl _⟩, by omega, hd acc σc Hc p⟩
end L2

set_option maxHeartbeats 4000000
/-! Plain data, and what stands for it on the abstract heap. -/
namespace L2
open PySem PySem.Spec PyProof.Rows
variable {KF : PySem.W.Frag}
inductive Dv where
  | non | bl (b : Bool) | int (i : Int) | str (x : Str) | lst (xs : List Dv) | tup (xs : List Dv) | dic (kvs : List (List Key × Dv))
  /-- the script, a list that nobody changes -/
  | scr (ns : List Int)
instance : Inhabited Dv := ⟨.non⟩
mutual
def Dv.toPy : Dv → PyData
  | .non => .none
  | .bl b => .bool b
  | .int i => .int i
  | .str x => .str x
  | .lst xs => .list (toPys xs)
  | .tup xs => .tuple (toPys xs)
  | .dic _ => .dict []
  | .scr _ => .dict []
def toPys : List Dv → List PyData
  | [] => []
  | x :: r => x.toPy :: toPys r
end
mutual
def Dv.imm : Dv → Bool
  | .lst _ => false
  | .dic _ => false
  | .scr _ => false
  | .tup xs => imms xs
  | _ => true
def imms : List Dv → Bool
  | [] => true
  | x :: r => x.imm && imms r
end
/-- the script's list: frozen, or the module's -/
def Scr (KF : PySem.W.Frag) (H : Hp) (a : Addr) (ns : List Int) : Prop := (∃ o, H a = some (.frz o (.lst (ns.map V.int)))) ∨
  ∃ (o : Obj) (its : Array Value) (n : Nat), KF.lookup a = some o ∧ o.cls = .type "list" ∧ o.dict = none ∧ o.data = .seq its n ∧ its.size ≤ sizeLine ∧ Vals (ns.map V.int) its.toList
theorem Scr.sq {KF : PySem.W.Frag} {H : Hp} {a : Addr} {ns : List Int} (h : Scr KF H a ns) : SqL KF H a (ns.map V.int) := by
  rcases h with ⟨o, h⟩ | h
  · exact .inl (.inr ⟨o, h⟩)
  · exact .inr h
mutual
inductive RepF (KF : PySem.W.Frag) (S : Addr → Prop) (H : Hp) : V → Dv → Prop
  | non : RepF KF S H .non .non
  | bl (b : Bool) : RepF KF S H (.bl b) (.bl b)
  | int (i : Int) : RepF KF S H (.int i) (.int i)
  | str (x : Str) : RepF KF S H (.str x) (.str x)
  | lst {a : Addr} {xs : List V} {ds : List Dv} : S a → H a = some (.lst xs) → RepsF KF S H xs ds → RepF KF S H (.ref a) (.lst ds)
  | tup {a : Addr} {xs : List V} {ds : List Dv} : H a = some (.tup xs) → RepsF KF S H xs ds → RepF KF S H (.ref a) (.tup ds)
  | dic {a : Addr} {xs : List (List Key × V)} {ds : List (List Key × Dv)} : S a → H a = some (.dT xs) → RepsK KF S H xs ds → RepF KF S H (.ref a) (.dic ds)
  | scr {a : Addr} {ns : List Int} : Scr KF H a ns → RepF KF S H (.ref a) (.scr ns)
inductive RepsF (KF : PySem.W.Frag) (S : Addr → Prop) (H : Hp) : List V → List Dv → Prop
  | nil : RepsF KF S H [] []
  | cons {v : V} {vs : List V} {d : Dv} {ds : List Dv} : RepF KF S H v d → RepsF KF S H vs ds → RepsF KF S H (v :: vs) (d :: ds)
inductive RepsK (KF : PySem.W.Frag) (S : Addr → Prop) (H : Hp) : List (List Key × V) → List (List Key × Dv) → Prop
  | nil : RepsK KF S H [] []
  | cons {k : List Key} {v : V} {vs : List (List Key × V)} {d : Dv} {ds : List (List Key × Dv)} : RepF KF S H v d → RepsK KF S H vs ds → RepsK KF S H ((k, v) :: vs) ((k, d) :: ds)
end
abbrev Imm : Addr → Prop := fun _ => False
/-- what stays: tuples, and what S names -/
def Keeps (S : Addr → Prop) (H H' : Hp) : Prop := ∀ a o, H a = some o → ((∃ xs, o = .tup xs) ∨ (∃ b u, o = .frz b u) ∨ S a) → H' a = some o
theorem Keeps.of {S : Addr → Prop} {H H' : Hp} (e : Same H H') : Keeps S H H' := fun a o h _ => e a o h
theorem Keeps.mono {S S' : Addr → Prop} {H H' : Hp} (e : Keeps S' H H') (m : ∀ a, S a → S' a) : Keeps S H H' := fun a o h c => e a o h (c.imp id (.imp id (m a)))
mutual
theorem RepF.keep {S : Addr → Prop} {H H' : Hp} (e : Keeps S H H') : ∀ {v : V} {d : Dv}, RepF KF S H v d → RepF KF S H' v d
  | _, _, .non => .non
  | _, _, .bl b => .bl b
  | _, _, .int i => .int i
  | _, _, .str x => .str x
  | _, _, .lst s h r => .lst s (e _ _ h (.inr (.inr s))) (RepsF.keep e r)
  | _, _, .tup h r => .tup (e _ _ h (.inl ⟨_, rfl⟩)) (RepsF.keep e r)
  | _, _, .dic s h r => .dic s (e _ _ h (.inr (.inr s))) (RepsK.keep e r)
  | _, _, .scr h => .scr (h.imp (fun ⟨o, q⟩ => ⟨o, e _ _ q (.inr (.inl ⟨_, _, rfl⟩))⟩) id)
theorem RepsF.keep {S : Addr → Prop} {H H' : Hp} (e : Keeps S H H') : ∀ {vs : List V} {ds : List Dv}, RepsF KF S H vs ds → RepsF KF S H' vs ds
  | _, _, .nil => .nil
  | _, _, .cons h r => .cons (RepF.keep e h) (RepsF.keep e r)
theorem RepsK.keep {S : Addr → Prop} {H H' : Hp} (e : Keeps S H H') : ∀ {vs : List (List Key × V)} {ds : List (List Key × Dv)}, RepsK KF S H vs ds → RepsK KF S H' vs ds
  | _, _, .nil => .nil
  | _, _, .cons h r => .cons (RepF.keep e h) (RepsK.keep e r)
end
mutual
theorem RepF.mono {S S' : Addr → Prop} {H : Hp} (m : ∀ a, H a ≠ none → S a → S' a) : ∀ {v : V} {d : Dv}, RepF KF S H v d → RepF KF S' H v d
  | _, _, .non => .non
  | _, _, .bl b => .bl b
  | _, _, .int i => .int i
  | _, _, .str x => .str x
  | _, _, .lst s h r => .lst (m _ (by rw [h]; exact fun z => nomatch z) s) h (RepsF.mono m r)
  | _, _, .tup h r => .tup h (RepsF.mono m r)
  | _, _, .dic s h r => .dic (m _ (by rw [h]; exact fun z => nomatch z) s) h (RepsK.mono m r)
  | _, _, .scr h => .scr h
theorem RepsF.mono {S S' : Addr → Prop} {H : Hp} (m : ∀ a, H a ≠ none → S a → S' a) : ∀ {vs : List V} {ds : List Dv}, RepsF KF S H vs ds → RepsF KF S' H vs ds
  | _, _, .nil => .nil
  | _, _, .cons h r => .cons (RepF.mono m h) (RepsF.mono m r)
theorem RepsK.mono {S S' : Addr → Prop} {H : Hp} (m : ∀ a, H a ≠ none → S a → S' a) : ∀ {vs : List (List Key × V)} {ds : List (List Key × Dv)}, RepsK KF S H vs ds → RepsK KF S' H vs ds
  | _, _, .nil => .nil
  | _, _, .cons h r => .cons (RepF.mono m h) (RepsK.mono m r)
end
mutual
theorem RepF.imm {S S' : Addr → Prop} {H : Hp} : ∀ {v : V} {d : Dv}, RepF KF S H v d → d.imm = true → RepF KF S' H v d
  | _, _, .non, _ => .non
  | _, _, .bl b, _ => .bl b
  | _, _, .int i, _ => .int i
  | _, _, .str x, _ => .str x
  | _, _, .lst _ _ _, h => by simp [Dv.imm] at h
  | _, _, .tup e r, h => .tup e (RepsF.imm r (by simpa [Dv.imm] using h))
  | _, _, .dic _ _ _, h => by simp [Dv.imm] at h
  | _, _, .scr _, h => by simp [Dv.imm] at h
theorem RepsF.imm {S S' : Addr → Prop} {H : Hp} : ∀ {vs : List V} {ds : List Dv}, RepsF KF S H vs ds → imms ds = true → RepsF KF S' H vs ds
  | _, _, .nil, _ => .nil
  | _, _, .cons a r, h => by
    rw [imms, Bool.and_eq_true] at h
    exact .cons (RepF.imm a h.1) (RepsF.imm r h.2)
end
theorem RepF.same {S : Addr → Prop} {H H' : Hp} (e : Same H H') {v : V} {d : Dv} (r : RepF KF S H v d) : RepF KF S H' v d := r.keep (.of e)
theorem RepsF.same {S : Addr → Prop} {H H' : Hp} (e : Same H H') {v : List V} {d : List Dv} (r : RepsF KF S H v d) : RepsF KF S H' v d := r.keep (.of e)
theorem RepsF.append {S : Addr → Prop} {H : Hp} : ∀ {xs ys : List V} {ds es : List Dv}, RepsF KF S H xs ds → RepsF KF S H ys es → RepsF KF S H (xs ++ ys) (ds ++ es)
  | _, _, _, _, .nil, s => s
  | _, _, _, _, .cons h r, s => .cons h (RepsF.append r s)
theorem RepsF.length {S : Addr → Prop} {H : Hp} : ∀ {xs : List V} {ds : List Dv}, RepsF KF S H xs ds → xs.length = ds.length
  | _, _, .nil => rfl
  | _, _, .cons _ r => congrArg (· + 1) (RepsF.length r)
theorem RepsF.get {S : Addr → Prop} {H : Hp} : ∀ {xs : List V} {ds : List Dv} {i : Nat} {d : Dv}, RepsF KF S H xs ds → ds[i]? = some d → ∃ x, xs[i]? = some x ∧ RepF KF S H x d
  | _, _, _, _, .nil, e => by simp at e
  | _, _, 0, _, .cons h _, e => by simp at e; subst e; exact ⟨_, rfl, h⟩
  | _, _, i + 1, x, .cons _ r, e => by
    obtain ⟨d, h1, h2⟩ := RepsF.get (i := i) r (by simpa using e)
    exact ⟨d, by simpa using h1, h2⟩
theorem RepsF.get' {S : Addr → Prop} {H : Hp} : ∀ {xs : List V} {ds : List Dv} {i : Nat} {x : V}, RepsF KF S H xs ds → xs[i]? = some x → ∃ d, ds[i]? = some d ∧ RepF KF S H x d
  | _, _, _, _, .nil, e => by simp at e
  | _, _, 0, _, .cons h _, e => by simp at e; subst e; exact ⟨_, rfl, h⟩
  | _, _, i + 1, x, .cons _ r, e => by
    obtain ⟨d, h1, h2⟩ := RepsF.get' (i := i) r (by simpa using e)
    exact ⟨d, by simpa using h1, h2⟩
theorem RepsF.drop {S : Addr → Prop} {H : Hp} : ∀ (k : Nat) {xs : List V} {ds : List Dv}, RepsF KF S H xs ds → RepsF KF S H (xs.drop k) (ds.drop k)
  | 0, _, _, r => by simpa using r
  | k + 1, _, _, .nil => by simpa using RepsF.nil
  | k + 1, _, _, .cons _ r => by simpa using RepsF.drop k r
theorem RepsF.take {S : Addr → Prop} {H : Hp} : ∀ (k : Nat) {xs : List V} {ds : List Dv}, RepsF KF S H xs ds → RepsF KF S H (xs.take k) (ds.take k)
  | 0, _, _, _ => by simpa using RepsF.nil
  | k + 1, _, _, .nil => by simpa using RepsF.nil
  | k + 1, _, _, .cons h r => by simpa using RepsF.cons h (RepsF.take k r)
theorem RepsF.reverse {S : Addr → Prop} {H : Hp} : ∀ {xs : List V} {ds : List Dv}, RepsF KF S H xs ds → RepsF KF S H xs.reverse ds.reverse
  | _, _, .nil => .nil
  | _, _, .cons h r => by
    rw [List.reverse_cons, List.reverse_cons]
    exact RepsF.append (RepsF.reverse r) (.cons h .nil)
theorem RepsF.set {S : Addr → Prop} {H : Hp} : ∀ {xs : List V} {ds : List Dv} (i : Nat) {x : V} {d : Dv}, RepsF KF S H xs ds → RepF KF S H x d → RepsF KF S H (xs.set i x) (ds.set i d)
  | _, _, _, _, _, .nil, _ => .nil
  | _, _, 0, _, _, .cons _ r, h => .cons h r
  | _, _, i + 1, _, _, .cons a r, h => .cons a (RepsF.set i r h)
theorem repsF_ints {S : Addr → Prop} {H : Hp} : ∀ (r : List Int), RepsF KF S H (r.map V.int) (r.map Dv.int)
  | [] => .nil
  | i :: r => .cons (.int i) (repsF_ints r)
theorem RepsF.ints {S : Addr → Prop} {H : Hp} : ∀ {xs : List V} {r : List Int}, RepsF KF S H xs (r.map Dv.int) → xs = r.map V.int
  | _, [], .nil => rfl
  | _, i :: r, .cons h q => by
    cases h
    rw [RepsF.ints q]
    all_goals rfl
theorem RepsF.bls {S : Addr → Prop} {H : Hp} : ∀ {xs : List V} {r : List Bool}, RepsF KF S H xs (r.map Dv.bl) → xs = r.map V.bl
  | _, [], .nil => rfl
  | _, i :: r, .cons h q => by
    cases h
    rw [RepsF.bls q]
    all_goals rfl
/-! ### what is read of the heap itself -/
section
variable {X : Cx} {pins : List (Addr × Obj)} {σ : St} {H : Hp} {s : Shared} {S : Addr → Prop}
mutual
theorem RepF.reads (I : Inv X pins σ H s) : ∀ {v : V} {d : Dv} {u : Value}, RepF KF S H v d → RelV v u → PyData.canLay0 d.toPy = true → ∃ as, Reads s.heap u d.toPy as
  | _, _, _, .non, r, _ => by cases r; exact ⟨_, .none⟩
  | _, _, _, .bl b, r, _ => by cases r; exact ⟨_, .bool b⟩
  | _, _, _, .int i, r, _ => by obtain ⟨t, rfl⟩ := r; exact ⟨_, .int i t⟩
  | _, _, _, .str x, r, _ => by obtain ⟨t, rfl⟩ := r; exact ⟨_, .str x t⟩
  | _, _, _, .lst _ h q, r, c => by
    cases r
    obtain ⟨its, rv, ⟨o, n, ho, hc, _, hd⟩, _⟩ := I.list (SqL.of h)
    obtain ⟨as, ra⟩ := RepsF.reads I q rv (by simpa [Dv.toPy, PyData.canLay0] using c)
    exact ⟨_, .list ho hc hd (by simpa using ra)⟩
  | _, _, _, .tup h q, r, c => by
    cases r
    obtain ⟨its, rv, ⟨o, ho, hc, n, hd⟩, _⟩ := I.tuple (SqT.of h)
    obtain ⟨as, ra⟩ := RepsF.reads I q rv (by simpa [Dv.toPy, PyData.canLay0] using c)
    exact ⟨_, .tuple ho hc hd (by simpa using ra)⟩
  | _, _, _, .dic _ _ _, _, c => by simp [Dv.toPy, PyData.canLay0] at c
  | _, _, _, .scr _, _, c => by simp [Dv.toPy, PyData.canLay0] at c
theorem RepsF.reads (I : Inv X pins σ H s) : ∀ {vs : List V} {ds : List Dv} {us : List Value}, RepsF KF S H vs ds → Vals vs us → PyData.canLayAll0 (toPys ds) = true → ∃ as, ReadsAll s.heap us (toPys ds) as
  | _, _, _, .nil, r, _ => by cases r; exact ⟨_, .nil⟩
  | _, _, _, .cons h q, r, c => by
    rw [toPys, PyData.canLayAll0, Bool.and_eq_true] at c
    cases r with
    | cons r1 r2 =>
      obtain ⟨as, ra⟩ := RepF.reads I h r1 c.1
      obtain ⟨bs, rb⟩ := RepsF.reads I q r2 c.2
      exact ⟨_, .cons ra rb⟩
end
/-- both sides of == may be read so -/
def eqOk (x y : Dv) : Bool := x.toPy.canLay0 && y.toPy.canLay0 && decide (min x.toPy.depth y.toPy.depth ≤ 60)
def rEqF (KF : PySem.W.Frag) : R2 := fun x y H Q => ∃ dx dy, RepF KF (fun _ => True) H x dx ∧ RepF KF (fun _ => True) H y dy ∧ eqOk dx dy = true ∧ Q (.bl (PyData.eqv dx.toPy dy.toPy)) H
def rNeF (KF : PySem.W.Frag) : R2 := fun x y H Q => ∃ dx dy, RepF KF (fun _ => True) H x dx ∧ RepF KF (fun _ => True) H y dy ∧ eqOk dx dy = true ∧ Q (.bl (!PyData.eqv dx.toPy dy.toPy)) H
theorem eqOk_of {x y : Dv} (h : eqOk x y = true) : x.toPy.canLay0 = true ∧ y.toPy.canLay0 = true ∧ min x.toPy.depth y.toPy.depth ≤ 60 := by
  unfold eqOk at h
  rw [Bool.and_eq_true, Bool.and_eq_true] at h
  exact ⟨h.1.1, h.1.2, of_decide_eq_true h.2⟩
theorem op_eqF (hu : X.A.units + 64 < cLine) : OpR X (compareOp .Eq) (rEqF X.K) := by
  intro pins s σ H x y v u Q I rx ry h
  obtain ⟨dx, dy, hx, hy, ok, q⟩ := h
  obtain ⟨cx, cy, dp⟩ := eqOk_of ok
  obtain ⟨as, ra⟩ := hx.reads I rx cx
  obtain ⟨bs, rb⟩ := hy.reads I ry cy
  exact SeqAt.compareEq_reads ra rb cx cy (by omega) ⟨.bl _, H, I, rfl, q⟩
theorem op_neF (hu : X.A.units + 64 < cLine) : OpR X (compareOp .NotEq) (rNeF X.K) := by
  intro pins s σ H x y v u Q I rx ry h
  obtain ⟨dx, dy, hx, hy, ok, q⟩ := h
  obtain ⟨cx, cy, dp⟩ := eqOk_of ok
  obtain ⟨as, ra⟩ := hx.reads I rx cx
  obtain ⟨bs, rb⟩ := hy.reads I ry cy
  exact SeqAt.compareNe_reads ra rb cx cy (by omega) ⟨.bl _, H, I, rfl, q⟩
end
end L2

set_option maxHeartbeats 4000000
/-! A def's names as data; expressions, tests and statements by what they make of it. -/
namespace L2
open PySem PySem.Spec PyProof.Rows
variable {KF : PySem.W.Frag}
abbrev Dt := List (Option Dv)
abbrev EM := Dt → Option Dv
def Own (ms : List Nat) (σ : St) (a : Addr) : Prop := ∃ i, i ∈ ms ∧ σ[i]? = some (some (.ref a))
/-- a list or dict of its own, its items never change -/
def Cell (KF : PySem.W.Frag) (H : Hp) (a : Addr) : Dv → Prop
  | .lst ds => ∃ xs, H a = some (.lst xs) ∧ RepsF KF Imm H xs ds
  | .dic ds => ∃ xs, H a = some (.dT xs) ∧ RepsK KF Imm H xs ds
  | _ => False
inductive Kd where
  | one | imm | frh | any | bor
def Got (KF : PySem.W.Frag) (k : Kd) (ms : List Nat) (σ : St) (H H' : Hp) (v : V) (d : Dv) : Prop := match k with
  | .one => ∃ a, v = .ref a ∧ H a = none ∧ Cell KF H' a d
  | .imm => RepF KF Imm H' v d
  | .frh => RepF KF (fun a => H a = none) H' v d
  | .any => RepF KF (fun a => ¬ Own ms σ a) H' v d
  | .bor => RepF KF (fun _ => True) H' v d
structure Rel (KF : PySem.W.Frag) (ms : List Nat) (H0 : Hp) (δ : Dt) (σ : St) (H : Hp) : Prop where
  len : σ.length = δ.length
  keep : Same H0 H
  get : ∀ i d, δ[i]? = some (some d) → ∃ v, σ[i]? = some (some v) ∧
    ((i ∈ ms ∧ ∃ a, v = .ref a ∧ H0 a = none ∧ Cell KF H a d ∧ ∀ j, j ∈ ms → σ[j]? = some (some (.ref a)) → j = i) ∨ (i ∉ ms ∧ RepF KF (fun a => ¬ Own ms σ a) H v d))
  all : ∀ i, i ∈ ms → ∀ v, σ[i]? = some (some v) → ∃ d, δ[i]? = some (some d)
def Sft (o : HO) : Prop := (∀ xs, o ≠ .tup xs) ∧ ∀ b u, o ≠ .frz b u
theorem Cell.there {H : Hp} {a : Addr} {d : Dv} (h : Cell KF H a d) : ∃ o, H a = some o ∧ Sft o := by
  cases d with
  | lst ds => obtain ⟨xs, h, _⟩ := h; exact ⟨_, h, fun _ z => (nomatch z), fun _ _ z => (nomatch z)⟩
  | dic ds => obtain ⟨xs, h, _⟩ := h; exact ⟨_, h, fun _ z => (nomatch z), fun _ _ z => (nomatch z)⟩
  | _ => exact h.elim
theorem Cell.keep {H H' : Hp} {a : Addr} {d : Dv} (h : Cell KF H a d) (e : Keeps Imm H H') (ha : ∀ o, H a = some o → H' a = some o) : Cell KF H' a d := by
  cases d with
  | lst ds => obtain ⟨xs, h, r⟩ := h; exact ⟨xs, ha _ h, r.keep e⟩
  | dic ds => obtain ⟨xs, h, r⟩ := h; exact ⟨xs, ha _ h, r.keep e⟩
  | _ => exact h.elim
theorem Cell.same {H H' : Hp} {a : Addr} {d : Dv} (h : Cell KF H a d) (e : Same H H') : Cell KF H' a d := h.keep (.of e) fun o q => e a o q
theorem Cell.rep {H : Hp} {a : Addr} {d : Dv} {S : Addr → Prop} (h : Cell KF H a d) (s : S a) : RepF KF S H (.ref a) d := by
  cases d with
  | lst ds => obtain ⟨xs, h, r⟩ := h; exact .lst s h (r.mono fun _ _ z => z.elim)
  | dic ds => obtain ⟨xs, h, r⟩ := h; exact .dic s h (r.mono fun _ _ z => z.elim)
  | _ => exact h.elim
section
variable {ms : List Nat} {σ σ' : St} {H0 H H1 H2 : Hp} {δ : Dt} {v : V} {d : Dv} {k : Kd}
theorem Rel.own (R : Rel KF ms H0 δ σ H) {a : Addr} (h : Own ms σ a) : ∃ o, H a = some o ∧ Sft o := by
  obtain ⟨i, hi, e⟩ := h
  obtain ⟨d, hd⟩ := R.all i hi _ e
  obtain ⟨v, e', q⟩ := R.get i d hd
  rw [e] at e'; cases e'
  rcases q with ⟨_, a', ea, _, c, _⟩ | ⟨n, _⟩
  · cases ea; exact c.there
  · exact absurd hi n
theorem Rel.fresh (R : Rel KF ms H0 δ σ H) {a : Addr} (h : H a = none) : ¬ Own ms σ a := fun z => by
  obtain ⟨o, e, _⟩ := R.own z
  rw [h] at e; cases e
theorem Rel.same (R : Rel KF ms H0 δ σ H) (e : Same H H1) : Rel KF ms H0 δ σ H1 := by
  refine ⟨R.len, fun a o h => e a o (R.keep a o h), fun i d hd => ?_, R.all⟩
  obtain ⟨v, hv, q⟩ := R.get i d hd
  refine ⟨v, hv, ?_⟩
  rcases q with ⟨m, a, ea, h0, c, u⟩ | ⟨n, r⟩
  · exact .inl ⟨m, a, ea, h0, c.same e, u⟩
  · exact .inr ⟨n, r.same e⟩
theorem Got.same (g : Got KF k ms σ H H1 v d) (e : Same H1 H2) : Got KF k ms σ H H2 v d := by
  cases k with
  | one => obtain ⟨a, ea, h, c⟩ := g; exact ⟨a, ea, h, c.same e⟩
  | imm => exact RepF.same e g
  | frh => exact RepF.same e g
  | any => exact RepF.same e g
  | bor => exact RepF.same e g
theorem none_back (e : Same H H1) {a : Addr} (h : H1 a = none) : H a = none := by
  cases q : H a with
  | none => rfl
  | some o => rw [e a o q] at h; cases h
theorem Got.back (g : Got KF k ms σ H1 H2 v d) (e : Same H H1) : Got KF k ms σ H H2 v d := by
  cases k with
  | one => obtain ⟨a, ea, h, c⟩ := g; exact ⟨a, ea, none_back e h, c⟩
  | imm => exact g
  | frh => exact RepF.mono (fun a _ h => none_back e h) g
  | any => exact g
  | bor => exact g
theorem Got.bor (g : Got KF k ms σ H H1 v d) : RepF KF (fun _ => True) H1 v d := by
  cases k with
  | one => obtain ⟨a, ea, h, c⟩ := g; subst ea; exact c.rep trivial
  | imm => exact RepF.mono (fun _ _ z => z.elim) g
  | frh => exact RepF.mono (fun _ _ z => trivial) g
  | any => exact RepF.mono (fun _ _ z => trivial) g
  | bor => exact g
inductive Kd.le : Kd → Kd → Prop
  | refl (k : Kd) : Kd.le k k
  | one_frh : Kd.le .one .frh
  | one_any : Kd.le .one .any
  | imm_frh : Kd.le .imm .frh
  | imm_any : Kd.le .imm .any
  | frh_any : Kd.le .frh .any
  | bor (k : Kd) : Kd.le k .bor
theorem Got.le (R : Rel KF ms H0 δ σ H) {k' : Kd} (l : Kd.le k k') (g : Got KF k ms σ H H1 v d) : Got KF k' ms σ H H1 v d := by
  cases l with
  | refl => exact g
  | one_frh => obtain ⟨a, ea, h, c⟩ := g; subst ea; exact c.rep h
  | one_any => obtain ⟨a, ea, h, c⟩ := g; subst ea; exact c.rep (R.fresh h)
  | imm_frh => exact RepF.mono (fun _ _ z => z.elim) g
  | imm_any => exact RepF.mono (fun _ _ z => z.elim) g
  | frh_any => exact RepF.mono (fun _ _ z => R.fresh z) g
  | bor => exact g.bor
theorem Got.imm (g : Got KF k ms σ H H1 v d) (h : d.imm = true) : RepF KF Imm H1 v d := g.bor.imm h
end
/-! ### expressions -/
def DE (KF : PySem.W.Frag) (ms : List Nat) (k : Kd) (te : TE) (m : EM) : Prop :=
  ∀ (δ : Dt) (σ : St) (H0 H : Hp) (Q : VK) (d : Dv), Rel KF ms H0 δ σ H → m δ = some d → (∀ v H', Same H H' → Got KF k ms σ H H' v d → Q v H') → te σ H Q
def PD (X : Cx) (ms : List Nat) (k : Kd) (e : Expr) (m : EM) : Prop := ∃ te, PE X e te ∧ DE X.K ms k te m
def DTs (KF : PySem.W.Frag) (ms : List Nat) (tt : TT) (m : Dt → Option Bool) : Prop :=
  ∀ (δ : Dt) (σ : St) (H0 H : Hp) (Q : Bool → Hp → Prop) (b : Bool), Rel KF ms H0 δ σ H → m δ = some b → (∀ H', Same H H' → Q b H') → tt σ H Q
def PDt (X : Cx) (ms : List Nat) (e : Expr) (m : Dt → Option Bool) : Prop := ∃ tt, PT X e tt ∧ DTs X.K ms tt m
def PDw (X : Cx) (ms : List Nat) (e : Expr) (m : Dt → Option Bool) : Prop := ∃ tt, PW X e tt ∧ DTs X.K ms tt m
/-- several, of one kind -/
def Gots (KF : PySem.W.Frag) (k : Kd) (ms : List Nat) (σ : St) (H H' : Hp) : List V → List Dv → Prop
  | [], [] => True
  | v :: vs, d :: ds => Got KF k ms σ H H' v d ∧ Gots KF k ms σ H H' vs ds
  | _, _ => False
def DA (KF : PySem.W.Frag) (ms : List Nat) (k : Kd) (ta : TA) (m : Dt → Option (List Dv)) : Prop :=
  ∀ (δ : Dt) (σ : St) (H0 H : Hp) (Q : List V → Hp → Prop) (ds : List Dv), Rel KF ms H0 δ σ H → m δ = some ds → (∀ vs H', Same H H' → Gots KF k ms σ H H' vs ds → Q vs H') → ta σ H Q
def PDa (X : Cx) (ms : List Nat) (k : Kd) (es : List Expr) (m : Dt → Option (List Dv)) : Prop := ∃ ta, PA X es ta ∧ DA X.K ms k ta m
section
variable {ms : List Nat} {σ : St} {H H1 H2 : Hp} {k : Kd}
theorem Gots.same : ∀ {vs : List V} {ds : List Dv}, Gots KF k ms σ H H1 vs ds → Same H1 H2 → Gots KF k ms σ H H2 vs ds
  | [], [], _, _ => trivial
  | _ :: _, _ :: _, h, e => ⟨h.1.same e, Gots.same h.2 e⟩
  | [], _ :: _, h, _ => h.elim
  | _ :: _, [], h, _ => h.elim
theorem Gots.back : ∀ {vs : List V} {ds : List Dv}, Gots KF k ms σ H1 H2 vs ds → Same H H1 → Gots KF k ms σ H H2 vs ds
  | [], [], _, _ => trivial
  | _ :: _, _ :: _, h, e => ⟨h.1.back e, Gots.back h.2 e⟩
  | [], _ :: _, h, _ => h.elim
  | _ :: _, [], h, _ => h.elim
theorem Gots.length : ∀ {vs : List V} {ds : List Dv}, Gots KF k ms σ H H1 vs ds → vs.length = ds.length
  | [], [], _ => rfl
  | _ :: _, _ :: _, h => congrArg (· + 1) (Gots.length h.2)
  | [], _ :: _, h => h.elim
  | _ :: _, [], h => h.elim
theorem Gots.bor : ∀ {vs : List V} {ds : List Dv}, Gots KF k ms σ H H1 vs ds → RepsF KF (fun _ => True) H1 vs ds
  | [], [], _ => .nil
  | _ :: _, _ :: _, h => .cons h.1.bor (Gots.bor h.2)
  | [], _ :: _, h => h.elim
  | _ :: _, [], h => h.elim
theorem Gots.anys : ∀ {vs : List V} {ds : List Dv}, Gots KF .any ms σ H H1 vs ds → RepsF KF (fun a => ¬ Own ms σ a) H1 vs ds
  | [], [], _ => .nil
  | _ :: _, _ :: _, h => .cons h.1 (Gots.anys h.2)
  | [], _ :: _, h => h.elim
  | _ :: _, [], h => h.elim
theorem Gots.frhs : ∀ {vs : List V} {ds : List Dv}, Gots KF .frh ms σ H H1 vs ds → RepsF KF (fun a => H a = none) H1 vs ds
  | [], [], _ => .nil
  | _ :: _, _ :: _, h => .cons h.1 (Gots.frhs h.2)
  | [], _ :: _, h => h.elim
  | _ :: _, [], h => h.elim
theorem Gots.imms : ∀ {vs : List V} {ds : List Dv}, Gots KF .imm ms σ H H1 vs ds → RepsF KF Imm H1 vs ds
  | [], [], _ => .nil
  | _ :: _, _ :: _, h => .cons h.1 (Gots.imms h.2)
  | [], _ :: _, h => h.elim
  | _ :: _, [], h => h.elim
end
/-! ### the mirrors -/
def eVar (i : Nat) : EM := fun δ => (δ[i]?).join
def eC (d : Dv) : EM := fun _ => some d
def eOp (f : Dv → Dv → Option Dv) (a b : EM) : EM := fun δ => (a δ).bind fun x => (b δ).bind fun y => f x y
def eUn (f : Dv → Option Dv) (a : EM) : EM := fun δ => (a δ).bind f
def eImm (a : EM) : EM := fun δ => (a δ).bind fun x => if x.imm = true then some x else none
def eAnd (a b : EM) : EM := fun δ => (a δ).bind fun x => match x with
  | .bl true => b δ
  | .bl false => some (.bl false)
  | _ => none
def eOr (a b : EM) : EM := fun δ => (a δ).bind fun x => match x with
  | .bl true => some (.bl true)
  | .bl false => b δ
  | _ => none
def eIf (c : Dt → Option Bool) (a b : EM) : EM := fun δ => (c δ).bind fun x => if x = true then a δ else b δ
def asBool : Dv → Option Bool
  | .bl b => some b
  | _ => none
def tOf (a : EM) : Dt → Option Bool := fun δ => (a δ).bind asBool
def tyes : Dt → Option Bool := fun _ => some true
def tnot (a : Dt → Option Bool) : Dt → Option Bool := fun δ => (a δ).map (!·)
def tand (a b : Dt → Option Bool) : Dt → Option Bool := fun δ => (a δ).bind fun x => if x = true then b δ else some false
def tor (a b : Dt → Option Bool) : Dt → Option Bool := fun δ => (a δ).bind fun x => if x = true then some true else b δ
def aNil : Dt → Option (List Dv) := fun _ => some []
def aCons (a : EM) (r : Dt → Option (List Dv)) : Dt → Option (List Dv) := fun δ => (a δ).bind fun x => (r δ).bind fun xs => some (x :: xs)
def lim : Nat := 100000
theorem lim_ok {n : Nat} (h : n ≤ lim) : n < sizeLine := Nat.lt_of_le_of_lt h (by decide)
def eTup (a : Dt → Option (List Dv)) : EM := fun δ => (a δ).bind fun xs => if xs.length ≤ lim then some (.tup xs) else none
def eLst (a : Dt → Option (List Dv)) : EM := fun δ => (a δ).bind fun xs => if xs.length ≤ lim then some (.lst xs) else none
def eLstI (a : Dt → Option (List Dv)) : EM := fun δ => (a δ).bind fun xs => if xs.length ≤ lim ∧ imms xs = true then some (.lst xs) else none
def dAdd : Dv → Dv → Option Dv
  | .int i, .int j => some (.int (i + j))
  | _, _ => none
def dSub : Dv → Dv → Option Dv
  | .int i, .int j => some (.int (i - j))
  | _, _ => none
def mulOk (i j : Int) : Bool := decide (i.natAbs < 2 ^ 64) || decide (j.natAbs < 2 ^ 64) || (decide (i.natAbs < 2 ^ 2048) && decide (j.natAbs < 2 ^ 2048))
def dMul : Dv → Dv → Option Dv
  | .int i, .int j => if mulOk i j = true then some (.int (i * j)) else none
  | _, _ => none
def dDiv : Dv → Dv → Option Dv
  | .int i, .int j => if 0 < j ∧ j < 1073741824 then some (.int (i / j)) else none
  | _, _ => none
def dMod : Dv → Dv → Option Dv
  | .int i, .int j => if 0 < j then some (.int (i % j)) else none
  | _, _ => none
def dPow : Dv → Dv → Option Dv
  | .int i, .int j => if 0 ≤ j ∧ j ≤ 1000 ∧ i.natAbs < 2 ^ 2048 then some (.int (i ^ j.toNat)) else none
  | _, _ => none
def dNeg : Dv → Option Dv
  | .int i => some (.int (-i))
  | _ => none
def dNot : Dv → Option Dv
  | .bl b => some (.bl (!b))
  | _ => none
def dLt : Dv → Dv → Option Dv
  | .int i, .int j => some (.bl (decide (i < j)))
  | _, _ => none
def dLe : Dv → Dv → Option Dv
  | .int i, .int j => some (.bl (decide (i ≤ j)))
  | _, _ => none
def dGt : Dv → Dv → Option Dv
  | .int i, .int j => some (.bl (decide (j < i)))
  | _, _ => none
def dGe : Dv → Dv → Option Dv
  | .int i, .int j => some (.bl (decide (j ≤ i)))
  | _, _ => none
def dEq (x y : Dv) : Option Dv := if eqOk x y = true then some (.bl (PyData.eqv x.toPy y.toPy)) else none
def dNe (x y : Dv) : Option Dv := if eqOk x y = true then some (.bl (!PyData.eqv x.toPy y.toPy)) else none
def dIx : Dv → Dv → Option Dv
  | .lst xs, .int i => atI xs i
  | .scr ns, .int i => (atI ns i).map .int
  | .tup xs, .int i => atI xs i
  | _, _ => none
def dLen : Dv → Option Dv
  | .lst xs => some (.int xs.length)
  | .scr xs => some (.int xs.length)
  | .tup xs => some (.int xs.length)
  | _ => none
def dCat : Dv → Dv → Option Dv
  | .lst xs, .lst ys => if xs.length + ys.length ≤ lim then some (.lst (xs ++ ys)) else none
  | _, _ => none
/-! ### rules -/
section
variable {X : Cx} {ms : List Nat} {k k' : Kd} {e a b : Expr} {m ma mb : EM} {pos : Pos}
theorem PD.le (h : PD X ms k e m) (l : Kd.le k k') : PD X ms k' e m := by
  obtain ⟨te, p, q⟩ := h
  exact ⟨te, p, fun δ σ H0 H Q d R hm hq => q δ σ H0 H Q d R hm fun v H' s g => hq v H' s (g.le R l)⟩
theorem pd_imm (h : PD X ms k e m) : PD X ms .imm e (eImm m) := by
  obtain ⟨te, p, q⟩ := h
  refine ⟨te, p, fun δ σ H0 H Q d R hm hq => ?_⟩
  obtain ⟨x, hx, e⟩ := Option.bind_eq_some_iff.mp hm
  split at e
  · next h => cases e; exact q δ σ H0 H Q _ R hx fun v H' s g => hq v H' s (g.imm h)
  · cases e
theorem PE.pd_c {v : V} {d : Dv} (h : PE X e (tC v)) (r : ∀ H, RepF X.K Imm H v d) : PD X ms .imm e (eC d) :=
  ⟨_, h, fun δ σ H0 H Q d' R hm hq => by cases hm; exact hq v H (fun _ _ z => z) (r H)⟩
theorem pd_int {i j} : PD X ms .imm (.Constant (.int i) j pos) (eC (.int i)) := PE.pd_c pe_int fun _ => .int i
theorem pd_bl {i j} : PD X ms .imm (.Constant (.bool i) j pos) (eC (.bl i)) := PE.pd_c pe_bl fun _ => .bl i
theorem pd_non {j} : PD X ms .imm (.Constant .none j pos) (eC .non) := PE.pd_c pe_non fun _ => .non
theorem pd_str {i j} : PD X ms .imm (.Constant (.str i) j pos) (eC (.str i)) := PE.pd_c pe_str fun _ => .str i
theorem eVar_some {i : Nat} {δ : Dt} {d : Dv} (h : eVar i δ = some d) : δ[i]? = some (some d) := by
  unfold eVar at h
  cases e : δ[i]? with
  | none => rw [e] at h; cases h
  | some o => rw [e] at h; cases o with
    | none => cases h
    | some x => cases h; rfl
/-- a name that is never changed in place -/
theorem pd_var (i : Nat) {x : Str} (hi : decide (i ∈ ms) = false) (h : PE X (.Name x pos) (tVar i)) : PD X ms .any (.Name x pos) (eVar i) := by
  refine ⟨_, h, fun δ σ H0 H Q d R hm hq => ?_⟩
  obtain ⟨v, hv, q⟩ := R.get i d (eVar_some hm)
  rcases q with ⟨z, _⟩ | ⟨_, r⟩
  · exact absurd z (of_decide_eq_false hi)
  · exact ⟨v, hv, hq v H (fun _ _ z => z) r⟩
/-- any name, to be read -/
theorem pd_varB (i : Nat) {x : Str} (h : PE X (.Name x pos) (tVar i)) : PD X ms .bor (.Name x pos) (eVar i) := by
  refine ⟨_, h, fun δ σ H0 H Q d R hm hq => ?_⟩
  obtain ⟨v, hv, q⟩ := R.get i d (eVar_some hm)
  refine ⟨v, hv, hq v H (fun _ _ z => z) ?_⟩
  rcases q with ⟨z, a, rfl, _, c, _⟩ | ⟨_, r⟩
  · exact c.rep trivial
  · exact RepF.mono (fun _ _ _ => trivial) r
/-- two-place operations: what the rule wants of the values -/
def OpD (KF : PySem.W.Frag) (r : R2) (f : Dv → Dv → Option Dv) : Prop :=
  ∀ (H : Hp) (x y : V) (dx dy d : Dv) (Q : VK), RepF KF (fun _ => True) H x dx → RepF KF (fun _ => True) H y dy → f dx dy = some d → (∀ v, RepF KF Imm H v d → Q v H) → r x y H Q
theorem de_op {r : R2} {f : Dv → Dv → Option Dv} {ta tb : TE} {k1 k2 : Kd} (hf : OpD KF r f) (ha : DE KF ms k1 ta ma) (hb : DE KF ms k2 tb mb) : DE KF ms .imm (tOp r ta tb) (eOp f ma mb) := by
  intro δ σ H0 H Q d R hm hq
  obtain ⟨x, hx, e⟩ := Option.bind_eq_some_iff.mp hm
  obtain ⟨y, hy, e⟩ := Option.bind_eq_some_iff.mp e
  refine ha δ σ H0 H _ x R hx fun v H1 s1 g1 => ?_
  refine hb δ σ H0 H1 _ y (R.same s1) hy fun u H2 s2 g2 => ?_
  exact hf H2 v u x y d Q (g1.same s2).bor g2.bor e fun z rz => hq z H2 (fun a o h => s2 a o (s1 a o h)) rz
theorem pd_op {op : Operator} {r : R2} {f : Dv → Dv → Option Dv} {k1 k2 : Kd} (ho : OpR X (binaryOp op) r) (hf : OpD X.K r f) (ha : PD X ms k1 a ma) (hb : PD X ms k2 b mb) : PD X ms .imm (.BinOp a op b pos) (eOp f ma mb) := by
  obtain ⟨ta, pa, qa⟩ := ha
  obtain ⟨tb, pb, qb⟩ := hb
  exact ⟨_, pe_op ho pa pb, de_op hf qa qb⟩
theorem pd_cmp {op : CmpOp} {r : R2} {f : Dv → Dv → Option Dv} {k1 k2 : Kd} (ho : OpR X (compareOp op) r) (hf : OpD X.K r f) (ha : PD X ms k1 a ma) (hb : PD X ms k2 b mb) (hm : behindInMarks op b = false) : PD X ms .imm (.Compare a [op] [b] pos) (eOp f ma mb) := by
  obtain ⟨ta, pa, qa⟩ := ha
  obtain ⟨tb, pb, qb⟩ := hb
  exact ⟨_, pe_cmpR ho pa pb hm, de_op hf qa qb⟩
theorem pdt_cmp {op : CmpOp} {r : R2} {f : Dv → Dv → Option Dv} {k1 k2 : Kd} (ho : OpR X (compareOp op) r) (hf : OpD X.K r f) (ha : PD X ms k1 a ma) (hb : PD X ms k2 b mb) (hm : behindInMarks op b = false) : PDt X ms (.Compare a [op] [b] pos) (tOf (eOp f ma mb)) := by
  obtain ⟨ta, pa, qa⟩ := ha
  obtain ⟨tb, pb, qb⟩ := hb
  refine ⟨_, pt_cmpR ho pa pb hm, fun δ σ H0 H Q c R hm hq => ?_⟩
  obtain ⟨x, hx, e⟩ := Option.bind_eq_some_iff.mp hm
  refine de_op hf qa qb δ σ H0 H _ x R hx fun v H' s g => ?_
  cases x with
  | bl z => cases e; cases g; exact ⟨_, rfl, hq H' s⟩
  | _ => cases e
theorem opd_add : OpD KF (rI0 fun i j => .int (i + j)) dAdd := by
  intro H x y dx dy d Q rx ry h hq
  cases rx <;> cases ry <;> simp only [dAdd] at h <;> first | cases h | skip
  exact ⟨_, _, rfl, rfl, hq _ (.int _)⟩
theorem opd_sub : OpD KF (rI0 fun i j => .int (i - j)) dSub := by
  intro H x y dx dy d Q rx ry h hq
  cases rx <;> cases ry <;> simp only [dSub] at h <;> first | cases h | skip
  exact ⟨_, _, rfl, rfl, hq _ (.int _)⟩
theorem opd_lt : OpD KF (rI0 fun i j => .bl (decide (i < j))) dLt := by
  intro H x y dx dy d Q rx ry h hq
  cases rx <;> cases ry <;> simp only [dLt] at h <;> first | cases h | skip
  exact ⟨_, _, rfl, rfl, hq _ (.bl _)⟩
theorem opd_le : OpD KF (rI0 fun i j => .bl (decide (i ≤ j))) dLe := by
  intro H x y dx dy d Q rx ry h hq
  cases rx <;> cases ry <;> simp only [dLe] at h <;> first | cases h | skip
  exact ⟨_, _, rfl, rfl, hq _ (.bl _)⟩
theorem opd_gt : OpD KF (rI0 fun i j => .bl (decide (j < i))) dGt := by
  intro H x y dx dy d Q rx ry h hq
  cases rx <;> cases ry <;> simp only [dGt] at h <;> first | cases h | skip
  exact ⟨_, _, rfl, rfl, hq _ (.bl _)⟩
theorem opd_ge : OpD KF (rI0 fun i j => .bl (decide (j ≤ i))) dGe := by
  intro H x y dx dy d Q rx ry h hq
  cases rx <;> cases ry <;> simp only [dGe] at h <;> first | cases h | skip
  exact ⟨_, _, rfl, rfl, hq _ (.bl _)⟩
theorem opd_mod : OpD KF (rI (fun _ j => 0 < j) fun i j => .int (i % j)) dMod := by
  intro H x y dx dy d Q rx ry h hq
  cases rx <;> cases ry <;> simp only [dMod] at h <;> first | cases h | skip
  split at h
  · next c => cases h; exact ⟨_, _, rfl, rfl, c, hq _ (.int _)⟩
  · cases h
theorem opd_div : OpD KF (rI CDiv fun i j => .int (i / j)) dDiv := by
  intro H x y dx dy d Q rx ry h hq
  cases rx <;> cases ry <;> simp only [dDiv] at h <;> first | cases h | skip
  split at h
  · next c => cases h; exact ⟨_, _, rfl, rfl, c, hq _ (.int _)⟩
  · cases h
theorem opd_eq : OpD KF (rEqF KF) dEq := by
  intro H x y dx dy d Q rx ry h hq
  unfold dEq at h
  split at h
  · next c => cases h; exact ⟨_, _, rx, ry, c, hq _ (.bl _)⟩
  · cases h
theorem opd_ne : OpD KF (rNeF KF) dNe := by
  intro H x y dx dy d Q rx ry h hq
  unfold dNe at h
  split at h
  · next c => cases h; exact ⟨_, _, rx, ry, c, hq _ (.bl _)⟩
  · cases h
theorem bits_le {i : Int} {n : Nat} (h : i.natAbs < 2 ^ n) : Builtin.Int.intBits i ≤ n := by
  unfold Builtin.Int.intBits
  split
  · exact Nat.zero_le _
  · next h0 =>
    have hn : i.natAbs ≠ 0 := fun z => h0 (by simpa using z)
    exact (Nat.log2_lt hn).mpr h
theorem mulOk_of {i j : Int} (h : mulOk i j = true) : IntMulOk i j := by
  unfold mulOk at h
  rw [Bool.or_eq_true, Bool.or_eq_true, Bool.and_eq_true] at h
  rcases h with (h | h) | ⟨h1, h2⟩
  · have := of_decide_eq_true h
    exact (CMul.ok (.inl ⟨by omega, by omega⟩))
  · have := of_decide_eq_true h
    exact (CMul.ok (.inr ⟨by omega, by omega⟩))
  · have h1 := of_decide_eq_true h1
    have h2 := of_decide_eq_true h2
    have b1 := bits_le h1
    have b2 := bits_le h2
    exact IntMulOk.of_bits (Nat.le_trans b1 (by decide)) (Nat.le_trans b2 (by decide))
theorem opd_mul : OpD KF (rI CMulB fun i j => .int (i * j)) dMul := by
  intro H x y dx dy d Q rx ry h hq
  cases rx <;> cases ry <;> simp only [dMul] at h <;> first | cases h | skip
  split at h
  · next c => cases h; exact ⟨_, _, rfl, rfl, mulOk_of c, hq _ (.int _)⟩
  · cases h
theorem opd_pow : OpD KF (rI CPowB fun i j => .int (i ^ j.toNat)) dPow := by
  intro H x y dx dy d Q rx ry h hq
  cases rx <;> cases ry <;> simp only [dPow] at h <;> first | cases h | skip
  split at h
  · next c =>
    cases h
    refine ⟨_, _, rfl, rfl, ⟨c.1, ?_⟩, hq _ (.int _)⟩
    have b := bits_le c.2.2
    refine Int.le_trans (Int.mul_le_mul (Int.ofNat_le.mpr b) c.2.1 c.1 (by decide)) (by decide)
  · cases h
theorem pd_un {op : UnaryOp} {r : V → Hp → VK → Prop} {f : Dv → Option Dv} (ho : UnR X (unaryOp op) r) (hf : ∀ (H : Hp) (x : V) (dx d : Dv) (Q : VK), RepF X.K (fun _ => True) H x dx → f dx = some d → (∀ v, RepF X.K Imm H v d → Q v H) → r x H Q)
    (ha : PD X ms k a ma) : PD X ms .imm (.UnaryOp op a pos) (eUn f ma) := by
  obtain ⟨ta, pa, qa⟩ := ha
  refine ⟨_, pe_un ho pa, fun δ σ H0 H Q d R hm hq => ?_⟩
  obtain ⟨x, hx, e⟩ := Option.bind_eq_some_iff.mp hm
  refine qa δ σ H0 H _ x R hx fun v H1 s1 g1 => ?_
  exact hf H1 v x d Q g1.bor e fun z rz => hq z H1 s1 rz
theorem pd_neg (ha : PD X ms k a ma) : PD X ms .imm (.UnaryOp .USub a pos) (eUn dNeg ma) := pd_un un_neg (fun H x dx d Q rx h hq => by
  cases rx <;> simp only [dNeg] at h <;> first | cases h | skip
  exact ⟨_, rfl, hq _ (.int _)⟩) ha
theorem pd_not (ha : PD X ms k a ma) : PD X ms .imm (.UnaryOp .Not a pos) (eUn dNot ma) := by
  obtain ⟨ta, pa, qa⟩ := ha
  refine ⟨_, pe_not pa, fun δ σ H0 H Q d R hm hq => ?_⟩
  obtain ⟨x, hx, e⟩ := Option.bind_eq_some_iff.mp hm
  refine qa δ σ H0 H _ x R hx fun v H1 s1 g1 => ?_
  have g := g1.bor
  cases g <;> simp only [dNot] at e <;> first | cases e | skip
  exact ⟨_, rfl, hq _ _ s1 (RepF.bl _)⟩
theorem pd_one {op} (h : PD X ms k a ma) : PD X ms k (.BoolOp op [a] pos) ma := by
  obtain ⟨ta, pa, qa⟩ := h
  exact ⟨ta, pe_one pa, qa⟩
theorem pd_and {rest : List Expr} {k2 : Kd} (ha : PD X ms k a ma) (hb : PD X ms k2 (.BoolOp .And (b :: rest) pos) mb) : PD X ms .bor (.BoolOp .And (a :: b :: rest) pos) (eAnd ma mb) := by
  obtain ⟨ta, pa, qa⟩ := ha
  obtain ⟨tb, pb, qb⟩ := hb
  refine ⟨_, pe_and pa pb, fun δ σ H0 H Q d R hm hq => ?_⟩
  obtain ⟨x, hx, e⟩ := Option.bind_eq_some_iff.mp hm
  refine qa δ σ H0 H _ x R hx fun v H1 s1 g1 => ?_
  have g := g1.bor
  cases g with
  | bl c =>
    refine ⟨c, rfl, ?_⟩
    cases c with
    | true => exact qb δ σ H0 H1 _ d (R.same s1) e fun u H2 s2 g2 => hq u H2 (fun a o h => s2 a o (s1 a o h)) g2.bor
    | false => cases e; exact hq _ H1 s1 (.bl false)
  | _ => cases e
theorem pd_or {rest : List Expr} {k2 : Kd} (ha : PD X ms k a ma) (hb : PD X ms k2 (.BoolOp .Or (b :: rest) pos) mb) : PD X ms .bor (.BoolOp .Or (a :: b :: rest) pos) (eOr ma mb) := by
  obtain ⟨ta, pa, qa⟩ := ha
  obtain ⟨tb, pb, qb⟩ := hb
  refine ⟨_, pe_or pa pb, fun δ σ H0 H Q d R hm hq => ?_⟩
  obtain ⟨x, hx, e⟩ := Option.bind_eq_some_iff.mp hm
  refine qa δ σ H0 H _ x R hx fun v H1 s1 g1 => ?_
  have g := g1.bor
  cases g with
  | bl c =>
    refine ⟨c, rfl, ?_⟩
    cases c with
    | false => exact qb δ σ H0 H1 _ d (R.same s1) e fun u H2 s2 g2 => hq u H2 (fun a o h => s2 a o (s1 a o h)) g2.bor
    | true => cases e; exact hq _ H1 s1 (.bl true)
  | _ => cases e
theorem pdt_val (h : PD X ms k e m) (he : ∀ whole, isTrue e X.env whole = (do let v ← whole; standAt e.pos; holding [v] (truthy v)) := by intro _; rfl) : PDt X ms e (tOf m) := by
  obtain ⟨te, pe, qe⟩ := h
  refine ⟨_, pt_val pe he, fun δ σ H0 H Q c R hm hq => ?_⟩
  obtain ⟨x, hx, e⟩ := Option.bind_eq_some_iff.mp hm
  refine qe δ σ H0 H _ x R hx fun v H' s g => ?_
  have g := g.bor
  cases g with
  | bl z => cases e; exact ⟨_, rfl, hq H' s⟩
  | _ => cases e
variable {ta' tb' : Dt → Option Bool}
theorem pdt_not (h : PDt X ms a ta') : PDt X ms (.UnaryOp .Not a pos) (tnot ta') := by
  obtain ⟨t, p, q⟩ := h
  refine ⟨_, pt_not p, fun δ σ H0 H Q c R hm hq => ?_⟩
  obtain ⟨x, hx, e⟩ := Option.map_eq_some_iff.mp hm
  subst e
  exact q δ σ H0 H _ x R hx fun H' s => hq H' s
theorem pdw_and1 (h : PDt X ms a ta') : PDw X ms (.BoolOp .And [a] pos) ta' := by
  obtain ⟨t, p, q⟩ := h
  exact ⟨t, pw_and1 p, q⟩
theorem pdw_or1 (h : PDt X ms a ta') : PDw X ms (.BoolOp .Or [a] pos) ta' := by
  obtain ⟨t, p, q⟩ := h
  exact ⟨t, pw_or1 p, q⟩
theorem pdw_and {rest : List Expr} (h : PDt X ms a ta') (hb : PDw X ms (.BoolOp .And (b :: rest) pos) tb') : PDw X ms (.BoolOp .And (a :: b :: rest) pos) (tand ta' tb') := by
  obtain ⟨t, p, q⟩ := h
  obtain ⟨u, p2, q2⟩ := hb
  refine ⟨_, pw_and p p2, fun δ σ H0 H Q c R hm hq => ?_⟩
  obtain ⟨x, hx, e⟩ := Option.bind_eq_some_iff.mp hm
  refine q δ σ H0 H _ x R hx fun H1 s1 => ?_
  cases x with
  | true => exact q2 δ σ H0 H1 _ c (R.same s1) e fun H2 s2 => hq H2 fun a o h => s2 a o (s1 a o h)
  | false => cases e; exact hq H1 s1
theorem pdw_or {rest : List Expr} (h : PDt X ms a ta') (hb : PDw X ms (.BoolOp .Or (b :: rest) pos) tb') : PDw X ms (.BoolOp .Or (a :: b :: rest) pos) (tor ta' tb') := by
  obtain ⟨t, p, q⟩ := h
  obtain ⟨u, p2, q2⟩ := hb
  refine ⟨_, pw_or p p2, fun δ σ H0 H Q c R hm hq => ?_⟩
  obtain ⟨x, hx, e⟩ := Option.bind_eq_some_iff.mp hm
  refine q δ σ H0 H _ x R hx fun H1 s1 => ?_
  cases x with
  | false => exact q2 δ σ H0 H1 _ c (R.same s1) e fun H2 s2 => hq H2 fun a o h => s2 a o (s1 a o h)
  | true => cases e; exact hq H1 s1
theorem PDw.pt (h : PDw X ms a ta') : PDt X ms a ta' := by
  obtain ⟨t, p, q⟩ := h
  exact ⟨t, p.pt, q⟩
theorem pd_if {c : Expr} (hc : PDt X ms c ta') (ha : PD X ms k a ma) (hb : PD X ms k b mb) : PD X ms k (.IfExp c a b pos) (eIf ta' ma mb) := by
  obtain ⟨t, p, q⟩ := hc
  obtain ⟨ta, pa, qa⟩ := ha
  obtain ⟨tb, pb, qb⟩ := hb
  refine ⟨_, pe_ifExp p pa pb, fun δ σ H0 H Q d R hm hq => ?_⟩
  obtain ⟨x, hx, e⟩ := Option.bind_eq_some_iff.mp hm
  refine q δ σ H0 H _ x R hx fun H1 s1 => ?_
  cases x with
  | true => exact qa δ σ H0 H1 _ d (R.same s1) e fun u H2 s2 g2 => hq u H2 (fun a o h => s2 a o (s1 a o h)) (g2.back s1)
  | false => exact qb δ σ H0 H1 _ d (R.same s1) e fun u H2 s2 g2 => hq u H2 (fun a o h => s2 a o (s1 a o h)) (g2.back s1)
/-! ### argument lists and displays -/
variable {es : List Expr} {ml : Dt → Option (List Dv)}
theorem pda_nil : PDa X ms k [] aNil := ⟨_, pa_nil, fun δ σ H0 H Q ds R hm hq => by cases hm; exact hq [] H (fun _ _ z => z) trivial⟩
theorem pda_cons (ha : PD X ms k a ma) (hr : PDa X ms k es ml) (hs : starEach (a :: es) X.env = (false, eval a X.env) :: starEach es X.env := by rfl) : PDa X ms k (a :: es) (aCons ma ml) := by
  obtain ⟨ta, pa, qa⟩ := ha
  obtain ⟨tr, pr, qr⟩ := hr
  refine ⟨_, pa_cons pa pr hs, fun δ σ H0 H Q ds R hm hq => ?_⟩
  obtain ⟨x, hx, e⟩ := Option.bind_eq_some_iff.mp hm
  obtain ⟨xs, hxs, e⟩ := Option.bind_eq_some_iff.mp e
  cases e
  refine qa δ σ H0 H _ x R hx fun v H1 s1 g1 => ?_
  refine qr δ σ H0 H1 _ xs (R.same s1) hxs fun vs H2 s2 g2 => ?_
  exact hq (v :: vs) H2 (fun a o h => s2 a o (s1 a o h)) ⟨g1.same s2, g2.back s1⟩
theorem Same.new {H : Hp} {p : Addr} {o : HO} (h : H p = none) : Same H (L2.upd H p o) := Same.upd h
theorem pd_tup {x1} (h : PDa X ms k es ml) (hk : k = .imm ∨ k = .frh ∨ k = .any ∨ k = .bor) : PD X ms k (.Tuple es x1 pos) (eTup ml) := by
  obtain ⟨t, p, q⟩ := h
  refine ⟨_, pe_tup p, fun δ σ H0 H Q d R hm hq => ?_⟩
  obtain ⟨xs, hx, e⟩ := Option.bind_eq_some_iff.mp hm
  split at e
  · next hl =>
    cases e
    refine q δ σ H0 H _ xs R hx fun vs H1 s1 g1 => ⟨?_, fun p hp => ?_⟩
    · rw [g1.length]; exact Nat.le_of_lt (lim_ok hl)
    · have s2 := Same.new (o := .tup vs) hp
      refine hq _ _ (fun a o h => s2 a o (s1 a o h)) ?_
      rcases hk with rfl | rfl | rfl | rfl
      · exact .tup upd_same (g1.imms.same s2)
      · exact .tup upd_same (g1.frhs.same s2)
      · exact .tup upd_same (g1.anys.same s2)
      · exact .tup upd_same (g1.bor.same s2)
  · cases e
/-- a list display of things that never change -/
theorem pd_lstI (h : PDa X ms k es ml) : PD X ms .one (.List es pos) (eLstI ml) := by
  obtain ⟨t, p, q⟩ := h
  refine ⟨_, pe_lst p, fun δ σ H0 H Q d R hm hq => ?_⟩
  obtain ⟨xs, hx, e⟩ := Option.bind_eq_some_iff.mp hm
  split at e
  · next hl =>
    cases e
    refine q δ σ H0 H _ xs R hx fun vs H1 s1 g1 => ⟨?_, fun p hp => ?_⟩
    · rw [g1.length]; exact Nat.le_of_lt (lim_ok hl.1)
    · have s2 := Same.new (o := .lst vs) hp
      exact hq _ _ (fun a o h => s2 a o (s1 a o h)) ⟨p, rfl, none_back s1 hp, vs, upd_same, (g1.bor.imm hl.2).same s2⟩
  · cases e
/-- a list display of anything -/
theorem pd_lst (h : PDa X ms .any es ml) : PD X ms .any (.List es pos) (eLst ml) := by
  obtain ⟨t, p, q⟩ := h
  refine ⟨_, pe_lst p, fun δ σ H0 H Q d R hm hq => ?_⟩
  obtain ⟨xs, hx, e⟩ := Option.bind_eq_some_iff.mp hm
  split at e
  · next hl =>
    cases e
    refine q δ σ H0 H _ xs R hx fun vs H1 s1 g1 => ⟨?_, fun p hp => ?_⟩
    · rw [g1.length]; exact Nat.le_of_lt (lim_ok hl)
    · have s2 := Same.new (o := .lst vs) hp
      exact hq _ _ (fun a o h => s2 a o (s1 a o h)) (.lst ((R.same s1).fresh hp) upd_same (g1.anys.same s2))
  · cases e
end
end L2

set_option maxHeartbeats 4000000
/-! Subscripts, slices, calls of builtins, comprehensions, statements, defs: by data. -/
namespace L2
open PySem PySem.Spec PyProof.Rows
variable {KF : PySem.W.Frag}
theorem Same.tr {H H1 H2 : Hp} (a : Same H H1) (b : Same H1 H2) : Same H H2 := fun x o h => b x o (a x o h)
def ixKd : Kd → Kd
  | .one => .imm
  | k => k
section
variable {ms : List Nat} {σ : St} {H H1 H2 : Hp} {k : Kd}
theorem RepsF.gots_imm : ∀ {xs : List V} {ds : List Dv}, RepsF KF Imm H1 xs ds → Gots KF .imm ms σ H H1 xs ds
  | _, _, .nil => trivial
  | _, _, .cons h r => ⟨h, RepsF.gots_imm r⟩
theorem RepsF.gots_frh : ∀ {xs : List V} {ds : List Dv}, RepsF KF (fun a => H a = none) H1 xs ds → Gots KF .frh ms σ H H1 xs ds
  | _, _, .nil => trivial
  | _, _, .cons h r => ⟨h, RepsF.gots_frh r⟩
theorem RepsF.gots_any : ∀ {xs : List V} {ds : List Dv}, RepsF KF (fun a => ¬ Own ms σ a) H1 xs ds → Gots KF .any ms σ H H1 xs ds
  | _, _, .nil => trivial
  | _, _, .cons h r => ⟨h, RepsF.gots_any r⟩
theorem RepsF.gots_bor : ∀ {xs : List V} {ds : List Dv}, RepsF KF (fun _ => True) H1 xs ds → Gots KF .bor ms σ H H1 xs ds
  | _, _, .nil => trivial
  | _, _, .cons h r => ⟨h, RepsF.gots_bor r⟩
theorem Got.lst {v : V} {ds : List Dv} (g : Got KF k ms σ H H1 v (.lst ds)) : ∃ a xs, v = .ref a ∧ H1 a = some (.lst xs) ∧ Gots KF (ixKd k) ms σ H H1 xs ds := by
  cases k with
  | one => obtain ⟨a, rfl, _, xs, e, r⟩ := g; exact ⟨a, xs, rfl, e, r.gots_imm⟩
  | imm => cases g with | lst s h r => exact s.elim
  | frh => cases g with | lst s h r => exact ⟨_, _, rfl, h, r.gots_frh⟩
  | any => cases g with | lst s h r => exact ⟨_, _, rfl, h, r.gots_any⟩
  | bor => cases g with | lst s h r => exact ⟨_, _, rfl, h, r.gots_bor⟩
theorem Got.tup {v : V} {ds : List Dv} (g : Got KF k ms σ H H1 v (.tup ds)) : ∃ a xs, v = .ref a ∧ H1 a = some (.tup xs) ∧ Gots KF (ixKd k) ms σ H H1 xs ds := by
  cases k with
  | one => obtain ⟨a, rfl, _, c⟩ := g; exact c.elim
  | imm => cases g with | tup h r => exact ⟨_, _, rfl, h, r.gots_imm⟩
  | frh => cases g with | tup h r => exact ⟨_, _, rfl, h, r.gots_frh⟩
  | any => cases g with | tup h r => exact ⟨_, _, rfl, h, r.gots_any⟩
  | bor => cases g with | tup h r => exact ⟨_, _, rfl, h, r.gots_bor⟩
theorem got_imm {v : V} {d : Dv} (r : RepF KF Imm H1 v d) : Got KF (ixKd k) ms σ H H1 v d := by
  cases k with
  | one => exact r
  | imm => exact r
  | frh => exact r.mono fun _ _ z => z.elim
  | any => exact r.mono fun _ _ z => z.elim
  | bor => exact r.mono fun _ _ z => z.elim
theorem Gots.get : ∀ {xs : List V} {ds : List Dv} {j : Nat} {d : Dv}, Gots KF k ms σ H H1 xs ds → ds[j]? = some d → ∃ u, xs[j]? = some u ∧ Got KF k ms σ H H1 u d
  | [], [], _, _, _, e => by simp at e
  | x :: _, _ :: _, 0, _, g, e => by simp at e; subst e; exact ⟨x, rfl, g.1⟩
  | _ :: _, _ :: _, j + 1, d, g, e => by
    obtain ⟨u, h1, h2⟩ := Gots.get (j := j) (d := d) g.2 (by simpa using e)
    exact ⟨u, by simpa using h1, h2⟩
  | [], _ :: _, _, _, g, _ => g.elim
  | _ :: _, [], _, _, g, _ => g.elim
theorem Gots.atI {xs : List V} {ds : List Dv} {i : Int} {d : Dv} (g : Gots KF k ms σ H H1 xs ds) (e : L2.atI ds i = some d) : ∃ u, L2.atI xs i = some u ∧ Got KF k ms σ H H1 u d := by
  unfold L2.atI at e ⊢
  rw [g.length]
  obtain ⟨j, hj, e⟩ := Option.bind_eq_some_iff.mp e
  obtain ⟨u, hu, q⟩ := g.get e
  exact ⟨u, by rw [hj]; exact hu, q⟩
end
section
variable {X : Cx} {ms : List Nat} {k k1 k2 : Kd} {e a b : Expr} {m ma mb : EM} {pos : Pos}
theorem pd_ix (ha : PD X ms k a ma) (hb : PD X ms k2 b mb) (hs : PlainIx b) : PD X ms (ixKd k) (.Subscript a b pos) (eOp dIx ma mb) := by
  obtain ⟨ta, pa, qa⟩ := ha
  obtain ⟨tb, pb, qb⟩ := hb
  refine ⟨_, pe_ix ix_seq pa pb hs, fun δ σ H0 H Q d R hm hq => ?_⟩
  obtain ⟨x, hx, e⟩ := Option.bind_eq_some_iff.mp hm
  obtain ⟨y, hy, e⟩ := Option.bind_eq_some_iff.mp e
  refine qa δ σ H0 H _ x R hx fun v H1 s1 g1 => ?_
  refine qb δ σ H0 H1 _ y (R.same s1) hy fun u H2 s2 g2 => ?_
  have g1 := g1.same s2
  have s12 := s1.tr s2
  have g2 := g2.bor
  cases x with
  | lst ds =>
    cases g2 <;> simp only [dIx] at e <;> first | cases e | skip
    obtain ⟨p, xs, rfl, h, r⟩ := g1.lst
    obtain ⟨z, hz, gz⟩ := r.atI e
    exact .inl ⟨p, xs, _, z, rfl, rfl, SqL.of h, hz, hq z H2 s12 gz⟩
  | scr ns =>
    cases g2 <;> simp only [dIx] at e <;> first | cases e | skip
    have g := g1.bor
    cases g with
    | scr h =>
      obtain ⟨z, hz, rfl⟩ := Option.map_eq_some_iff.mp e
      refine .inl ⟨_, _, _, .int z, rfl, rfl, h.sq, ?_, hq _ H2 s12 (got_imm (.int z))⟩
      unfold atI at hz ⊢
      rw [List.length_map]
      obtain ⟨j, hj, e⟩ := Option.bind_eq_some_iff.mp hz
      rw [hj]
      show (ns.map V.int)[j]? = _
      rw [List.getElem?_map, e]
      rfl
  | tup ds =>
    cases g2 <;> simp only [dIx] at e <;> first | cases e | skip
    obtain ⟨p, xs, rfl, h, r⟩ := g1.tup
    obtain ⟨z, hz, gz⟩ := r.atI e
    exact .inr (.inl ⟨p, xs, _, z, rfl, rfl, SqT.of h, hz, hq z H2 s12 gz⟩)
  | _ => cases g2 <;> simp only [dIx] at e <;> cases e
/-- a slice's ends -/
def PDo (X : Cx) (ms : List Nat) (e : Option Expr) (m : Dt → Option (Option Int)) : Prop := ∃ t, PO X e t ∧
  ∀ (δ : Dt) (σ : St) (H0 H : Hp) (Q : Option Int → Hp → Prop) (o : Option Int), Rel X.K ms H0 δ σ H → m δ = some o → (∀ H', Same H H' → Q o H') → t σ H Q
def oNone : Dt → Option (Option Int) := fun _ => some none
def asInt : Dv → Option Int
  | .int i => some i
  | _ => none
def oSome (m : EM) : Dt → Option (Option Int) := fun δ => (m δ).bind fun d => (asInt d).map some
theorem pdo_none : PDo X ms none oNone := ⟨_, po_none, fun δ σ H0 H Q o R hm hq => by cases hm; exact hq H fun _ _ z => z⟩
theorem pdo_some (h : PD X ms k e m) : PDo X ms (some e) (oSome m) := by
  obtain ⟨te, p, q⟩ := h
  refine ⟨_, po_some p, fun δ σ H0 H Q o R hm hq => ?_⟩
  obtain ⟨x, hx, e⟩ := Option.bind_eq_some_iff.mp hm
  refine q δ σ H0 H _ x R hx fun v H1 s1 g1 => ?_
  have g := g1.bor
  cases g <;> simp only [asInt] at e <;> cases e
  exact ⟨_, rfl, hq H1 s1⟩
def cutD {α : Type} (xs : List α) (lo hi : Option Int) : List α := (xs.drop (HT.sIx xs.length 0 lo)).take (HT.sIx xs.length xs.length hi - HT.sIx xs.length 0 lo)
def eSl (m : EM) (lo hi : Dt → Option (Option Int)) : EM := fun δ => (m δ).bind fun x => (lo δ).bind fun l => (hi δ).bind fun h => match x with
  | .lst ds => if imms (cutD ds l h) = true then some (.lst (cutD ds l h)) else none
  | .scr ns => some (.lst (cutD (ns.map Dv.int) l h))
  | _ => none
theorem pd_sl {lo hi : Option Expr} {ml mh : Dt → Option (Option Int)} {p2 : Pos} (he : PD X ms k e m) (hl : PDo X ms lo ml) (hh : PDo X ms hi mh) : PD X ms .one (.Subscript e (.Slice lo hi none p2) pos) (eSl m ml mh) := by
  obtain ⟨te, p, q⟩ := he
  obtain ⟨tl, pl, ql⟩ := hl
  obtain ⟨th, ph, qh⟩ := hh
  refine ⟨_, pe_slice sl_list p pl ph, fun δ σ H0 H Q d R hm hq => ?_⟩
  obtain ⟨x, hx, e⟩ := Option.bind_eq_some_iff.mp hm
  obtain ⟨l, hl, e⟩ := Option.bind_eq_some_iff.mp e
  obtain ⟨h, hh, e⟩ := Option.bind_eq_some_iff.mp e
  refine q δ σ H0 H _ x R hx fun v H1 s1 g1 => ?_
  refine ql δ σ H0 H1 _ l (R.same s1) hl fun H2 s2 => ?_
  refine qh δ σ H0 H2 _ h (R.same (s1.tr s2)) hh fun H3 s3 => ?_
  have g := (g1.same (s2.tr s3)).bor
  cases g with
  | @lst a xs ds _ hr r =>
    simp only at e
    split at e
    · next hi =>
      cases e
      refine ⟨a, xs, rfl, SqL.of hr, fun p hp => ?_⟩
      have s4 := Same.new (o := .lst (cutV xs l h)) hp
      have s03 := s1.tr (s2.tr s3)
      refine hq _ _ (s03.tr s4) ⟨p, rfl, none_back s03 hp, _, upd_same, ?_⟩
      have rr : RepsF X.K (fun _ => True) H3 (cutV xs l h) (cutD ds l h) := by
        unfold cutV cutD
        rw [r.length]
        exact (r.drop _).take _
      exact (rr.imm hi).same s4
    · cases e
  | @scr a ns hr =>
    cases e
    refine ⟨a, _, rfl, hr.sq, fun p hp => ?_⟩
    have s4 := Same.new (o := .lst (cutV (ns.map V.int) l h)) hp
    have s03 := s1.tr (s2.tr s3)
    refine hq _ _ (s03.tr s4) ⟨p, rfl, none_back s03 hp, _, upd_same, ?_⟩
    have r : ∀ HH, RepsF X.K Imm HH (ns.map V.int) (ns.map Dv.int) := fun _ => repsF_ints ns
    generalize L2.upd H3 p (.lst (cutV (ns.map V.int) l h)) = HH
    unfold cutV cutD
    have := ((r HH).drop (HT.sIx (ns.map V.int).length 0 l)).take (HT.sIx (ns.map V.int).length (ns.map V.int).length h - HT.sIx (ns.map V.int).length 0 l)
    simpa using this
  | _ => cases e
/-! ### calls of builtins -/
/-- what a builtin wants of its arguments, and what it makes of them -/
def CallD (KF : PySem.W.Frag) (r : List V → Hp → VK → Prop) (k : Kd) (f : List Dv → Option Dv) : Prop :=
  ∀ (ms : List Nat) (σ : St) (H : Hp) (vs : List V) (ds : List Dv) (d : Dv) (Q : VK), RepsF KF (fun _ => True) H vs ds → f ds = some d → (∀ v H', Same H H' → Got KF k ms σ H H' v d → Q v H') → r vs H Q
def eCall (f : List Dv → Option Dv) (a : Dt → Option (List Dv)) : EM := fun δ => (a δ).bind f
variable {es : List Expr} {ml : Dt → Option (List Dv)} {r : List V → Hp → VK → Prop} {f : List Dv → Option Dv} {x : Str} {p : Pos}
theorem pd_callB {id : String} (hc : CallR X (.builtin id) r) (hf : CallD X.K r k f) (hg : Gl X x) (hm : X.mg x = none) (hv : bootBuiltins x = some (.builtin id)) (ha : PDa X ms k1 (a :: es) ml) (hn : x ≠ "__name__" := by decide) (hdb : (x == ("__debug__" : Str)) = false := by decide)
    (he : starEach (a :: es) X.env = (false, eval a X.env) :: starEach es X.env := by rfl) (hpl : (backTo pos (starEach es X.env)).any (·.1) = false := by rfl) :
    PD X ms k (.Call (.Name x p) (a :: es) [] pos) (eCall f ml) := by
  obtain ⟨ta, pa, qa⟩ := ha
  refine ⟨_, pe_callB hc hg hm hv pa hn hdb he hpl, fun δ σ H0 H Q d R hm hq => ?_⟩
  obtain ⟨xs, hx, e⟩ := Option.bind_eq_some_iff.mp hm
  refine qa δ σ H0 H _ xs R hx fun vs H1 s1 g1 => ?_
  exact hf ms σ H1 vs xs d Q g1.bor e fun v H' s g => hq v H' (s1.tr s) (g.back s1)
theorem pd_callTy {T : String} (hc : CallR X (.type T) r) (hf : CallD X.K r k f) (hg : Gl X x) (hm : X.mg x = none) (hv : bootBuiltins x = some (.type T)) (ha : PDa X ms k1 (a :: es) ml) (hn : x ≠ "__name__" := by decide) (hdb : (x == ("__debug__" : Str)) = false := by decide)
    (he : starEach (a :: es) X.env = (false, eval a X.env) :: starEach es X.env := by rfl) (hpl : (backTo pos (starEach es X.env)).any (·.1) = false := by rfl) :
    PD X ms k (.Call (.Name x p) (a :: es) [] pos) (eCall f ml) := by
  obtain ⟨ta, pa, qa⟩ := ha
  refine ⟨_, pe_callTy hc hg hm hv pa hn hdb he hpl, fun δ σ H0 H Q d R hm hq => ?_⟩
  obtain ⟨xs, hx, e⟩ := Option.bind_eq_some_iff.mp hm
  refine qa δ σ H0 H _ xs R hx fun vs H1 s1 g1 => ?_
  exact hf ms σ H1 vs xs d Q g1.bor e fun v H' s g => hq v H' (s1.tr s) (g.back s1)
def fLen : List Dv → Option Dv
  | [d] => dLen d
  | _ => none
theorem cd_len : CallD KF (fun xs H Q => ∃ p ys, xs = [.ref p] ∧ (SqL KF H p ys ∨ SqT KF H p ys) ∧ Q (.int ys.length) H) .imm fLen := by
  intro ms σ H vs ds d Q r e hq
  cases r with
  | nil => cases e
  | cons h r =>
    cases r with
    | cons _ _ => cases e
    | nil =>
      cases h <;> simp only [fLen, dLen] at e <;> cases e
      · next a xs ds s h q =>
        refine ⟨a, xs, rfl, .inl (SqL.of h), ?_⟩
        rw [q.length]
        exact hq _ H (fun _ _ z => z) (RepF.int _)
      · next a xs ds h q =>
        refine ⟨a, xs, rfl, .inr (SqT.of h), ?_⟩
        rw [q.length]
        exact hq _ H (fun _ _ z => z) (RepF.int _)
      · next a ns h =>
        refine ⟨a, _, rfl, .inl h.sq, ?_⟩
        rw [List.length_map]
        exact hq _ H (fun _ _ z => z) (RepF.int _)
/-- tuple(x) of a list (a new tuple), of a tuple (the same); its items never change -/
def fTuple : List Dv → Option Dv
  | [.scr ns] => some (.tup (ns.map .int))
  | [.lst ds] => if imms ds = true then some (.tup ds) else none
  | [.tup ds] => if imms ds = true then some (.tup ds) else none
  | _ => none
theorem cd_tuple : CallD KF (fun xs H Q => ∃ p ys, xs = [.ref p] ∧ ((SqL KF H p ys ∧ ∀ l, H l = none → Q (.ref l) (upd H l (.tup ys))) ∨ (SqT KF H p ys ∧ Q (.ref p) H))) .imm fTuple := by
  intro ms σ H vs ds d Q r e hq
  cases r with
  | nil => cases e
  | cons h r =>
    cases r with
    | cons _ _ => cases h <;> cases e
    | nil =>
      cases h <;> simp only [fTuple] at e <;> first | cases e | skip
      · next a xs ds s h q =>
        split at e
        · next hi =>
          cases e
          refine ⟨a, xs, rfl, .inl ⟨SqL.of h, fun l hl => ?_⟩⟩
          have s := Same.new (o := .tup xs) hl
          exact hq _ _ s (RepF.tup upd_same ((q.imm hi).same s))
        · cases e
      · next a xs ds h q =>
        split at e
        · next hi => cases e; exact ⟨a, xs, rfl, .inr ⟨SqT.of h, hq _ H (fun _ _ z => z) (RepF.tup h (q.imm hi))⟩⟩
        · cases e
      · next a ns h =>
        refine ⟨a, _, rfl, .inl ⟨h.sq, fun l hl => ?_⟩⟩
        exact hq _ _ (Same.new hl) (RepF.tup upd_same (repsF_ints ns))
/-- list(x): a new list -/
def fList : List Dv → Option Dv
  | [.scr ns] => some (.lst (ns.map .int))
  | [.lst ds] => if imms ds = true then some (.lst ds) else none
  | [.tup ds] => if imms ds = true then some (.lst ds) else none
  | _ => none
theorem cd_list : CallD KF (fun xs H Q => ∃ p ys, xs = [.ref p] ∧ (SqL KF H p ys ∨ SqT KF H p ys) ∧ ∀ l, H l = none → Q (.ref l) (upd H l (.lst ys))) .one fList := by
  intro ms σ H vs ds d Q r e hq
  cases r with
  | nil => cases e
  | cons h r =>
    cases r with
    | cons _ _ => cases h <;> cases e
    | nil =>
      cases h <;> simp only [fList] at e <;> first | cases e | skip
      · next a xs ds s h q =>
        split at e
        · next hi =>
          cases e
          refine ⟨a, xs, rfl, .inl (SqL.of h), fun l hl => ?_⟩
          have s := Same.new (o := .lst xs) hl
          exact hq _ _ s ⟨l, rfl, hl, _, upd_same, (q.imm hi).same s⟩
        · cases e
      · next a xs ds h q =>
        split at e
        · next hi =>
          cases e
          refine ⟨a, xs, rfl, .inr (SqT.of h), fun l hl => ?_⟩
          have s := Same.new (o := .lst xs) hl
          exact hq _ _ s ⟨l, rfl, hl, _, upd_same, (q.imm hi).same s⟩
        · cases e
      · next a ns h =>
        refine ⟨a, _, rfl, .inl h.sq, fun l hl => ?_⟩
        exact hq _ _ (Same.new hl) ⟨l, rfl, hl, _, upd_same, repsF_ints ns⟩
/-! ### xs + ys -/
def dCatI (x y : Dv) : Option Dv := (dCat x y).bind fun z => match z with
  | .lst ds => if imms ds = true then some (.lst ds) else none
  | _ => none
def rCatR : R2 := fun x y H Q => ∃ l b xs zs, x = .ref l ∧ y = .ref b ∧ H l = some (.lst xs) ∧ H b = some (.lst zs) ∧ xs.length + zs.length ≤ sizeLine ∧ ∀ p, H p = none → Q (.ref p) (upd H p (.lst (xs ++ zs)))
theorem op_catR : OpR X (binaryOp .Add) rCatR := by
  intro pins s σ H x y v u Q I rx ry h
  obtain ⟨l, b, xs, zs, rfl, rfl, hH, hB, hz, q⟩ := h
  cases rx
  cases ry
  obtain ⟨z, its, n, r, e⟩ := (show Rd H l (.lst xs) from .inl hH).ok I.hok
  obtain ⟨z2, its2, n2, r2, e2⟩ := (show Rd H b (.lst zs) from .inl hB).ok I.hok
  have hl := r.length
  have hl2 := r2.length
  refine PySem.P.add_list e e2 ?_ (by rw [List.size_toArray, List.size_toArray]; omega)
  have ea : its.toArray ++ its2.toArray = (its ++ its2).toArray := by simp
  rw [ea]
  exact ⟨.ref _, _, I.lnew (t' := s.toks) (r.append r2) (by rw [List.length_append]; omega), rfl, q _ I.fresh⟩
theorem pd_cat (ha : PD X ms k1 a ma) (hb : PD X ms k2 b mb) : PD X ms .one (.BinOp a .Add b pos) (eOp dCatI ma mb) := by
  obtain ⟨ta, pa, qa⟩ := ha
  obtain ⟨tb, pb, qb⟩ := hb
  refine ⟨_, pe_op op_catR pa pb, fun δ σ H0 H Q d R hm hq => ?_⟩
  obtain ⟨x, hx, e⟩ := Option.bind_eq_some_iff.mp hm
  obtain ⟨y, hy, e⟩ := Option.bind_eq_some_iff.mp e
  obtain ⟨z, hz, e⟩ := Option.bind_eq_some_iff.mp e
  refine qa δ σ H0 H _ x R hx fun v H1 s1 g1 => ?_
  refine qb δ σ H0 H1 _ y (R.same s1) hy fun u H2 s2 g2 => ?_
  have g1 := (g1.same s2).bor
  have g2 := g2.bor
  cases g1 with
  | @lst p1 vs xs _ e1 r1 =>
    cases g2 with
    | @lst p2 us ys _ e2 r2 =>
      simp only [dCat] at hz
      split at hz
      · next hl =>
        cases hz
        simp only at e
        split at e
        · next hi =>
          cases e
          refine ⟨p1, p2, vs, us, rfl, rfl, e1, e2, ?_, fun p hp => ?_⟩
          · rw [r1.length, r2.length]; exact Nat.le_of_lt (lim_ok hl)
          · have s := Same.new (o := .lst (vs ++ us)) hp
            exact hq _ _ (s1.tr (s2.tr s)) ⟨p, rfl, none_back (s1.tr s2) hp, _, upd_same, ((r1.append r2).imm hi).same s⟩
        · cases e
      · cases hz
    | _ => cases hz
  | _ => cases hz
end
end L2

set_option maxHeartbeats 4000000
/-! Walks, targets, comprehensions, statements, defs: by data. -/
namespace L2
open PySem PySem.Spec PyProof.Rows
variable {KF : PySem.W.Frag}
/-! ### what is walked -/
def Stays (ms : List Nat) (σ : St) (H H' : Hp) : Prop := ∀ a o, H a = some o → ¬ Own ms σ a → H' a = some o
/-- the items come one by one: while the heap grows (lp false: a comprehension), while a body runs (lp true) -/
def IOk (KF : PySem.W.Frag) (ms : List Nat) (σ : St) (lp : Bool) (H : Hp) (J : It) (ds : List Dv) : Prop :=
  ds.length ≤ lim ∧ ∀ H', Same H H' ∨ (lp = true ∧ Stays ms σ H H') → (∀ i, i < ds.length → J.go i H') ∧ (∀ i x H'', i < ds.length → J.yld i H' x H'' → H'' = H' ∧ ∃ d, ds[i]? = some d ∧ RepF KF (fun a => ¬ Own ms σ a ∧ H a ≠ none) H' x d) ∧ J.stop ds.length H'
def PDi (X : Cx) (ms : List Nat) (lp : Bool) (tg iter : Expr) (m : Dt → Option (List Dv)) : Prop := ∃ wi, PI X tg iter wi ∧
  ∀ (δ : Dt) (σ : St) (H0 H : Hp) (R : It → Hp → Prop) (ds : List Dv), Rel X.K ms H0 δ σ H → m δ = some ds → (∀ J H', Same H H' → IOk X.K ms σ lp H' J ds → R J H') → wi σ H R
def iL (m : EM) : Dt → Option (List Dv) := fun δ => (m δ).bind fun x => match x with
  | .scr ns => if ns.length ≤ lim then some (ns.map .int) else none
  | .lst ds => if ds.length ≤ lim then some ds else none
  | _ => none
def iLI (m : EM) : Dt → Option (List Dv) := fun δ => (m δ).bind fun x => match x with
  | .lst ds => if ds.length ≤ lim ∧ imms ds = true then some ds else none
  | _ => none
def iT (m : EM) : Dt → Option (List Dv) := fun δ => (m δ).bind fun x => match x with
  | .tup ds => if ds.length ≤ lim then some ds else none
  | _ => none
def iTI (m : EM) : Dt → Option (List Dv) := fun δ => (m δ).bind fun x => match x with
  | .tup ds => if ds.length ≤ lim ∧ imms ds = true then some ds else none
  | _ => none
def rangeD (lo : Int) (n : Nat) : List Dv := (List.range n).map fun (i : Nat) => .int (lo + (i : Int))
def iR1 (m : EM) : Dt → Option (List Dv) := fun δ => (m δ).bind fun x => match x with
  | .int j => if -(2 ^ 60) ≤ j ∧ j ≤ lim then some (rangeD 0 j.toNat) else none
  | _ => none
def iR2 (m m2 : EM) : Dt → Option (List Dv) := fun δ => (m δ).bind fun x => (m2 δ).bind fun y => match x, y with
  | .int i, .int j => if -(2 ^ 60) ≤ i ∧ i ≤ 2 ^ 60 ∧ j ≤ i + lim ∧ -(2 ^ 61) ≤ j then some (rangeD i (j - i).toNat) else none
  | _, _ => none
theorem Stays.keeps {ms : List Nat} {σ : St} {H H' : Hp} {H0 : Hp} {δ : Dt} (R : Rel KF ms H0 δ σ H) (s : Stays ms σ H H') : Keeps (fun a => ¬ Own ms σ a) H H' := fun a o h c => by
  rcases c with ⟨xs, rfl⟩ | ⟨b, u, rfl⟩ | c
  · exact s a _ h fun z => by
      obtain ⟨o', e', n⟩ := R.own z
      rw [h] at e'; cases e'
      exact n.1 xs rfl
  · exact s a _ h fun z => by
      obtain ⟨o', e', n⟩ := R.own z
      rw [h] at e'; cases e'
      exact n.2 b u rfl
  · exact s a o h c
theorem rangeD_get {lo : Int} {n i : Nat} (h : i < n) : (rangeD lo n)[i]? = some (.int (lo + (i : Int))) := by
  unfold rangeD
  rw [List.getElem?_map, List.getElem?_range h]
  rfl
theorem rangeD_len (lo : Int) (n : Nat) : (rangeD lo n).length = n := by unfold rangeD; simp
section
variable {X : Cx} {ms : List Nat} {k : Kd} {lp : Bool} {tg e a b : Expr} {m ma mb : EM} {pos : Pos}
theorem iok_list {σ : St} {H H0 : Hp} {δ : Dt} {p : Addr} {xs : List V} {ds : List Dv} (R : Rel KF ms H0 δ σ H) (n : ¬ Own ms σ p) (h : H p = some (.lst xs)) (r : RepsF KF (fun a => ¬ Own ms σ a) H xs ds) (hz : ds.length ≤ lim) : IOk KF ms σ lp H (Itl KF p) ds := by
  refine ⟨hz, fun H' s => ?_⟩
  have kp : Keeps (fun a => ¬ Own ms σ a) H H' := by
    rcases s with s | ⟨_, s⟩
    · exact .of s
    · exact Stays.keeps R s
  have h' := kp _ _ h (.inr (.inr n))
  have r' := RepsF.keep (S := fun a => ¬ Own ms σ a ∧ H a ≠ none) (kp.mono fun _ z => z.1) (r.mono fun _ h n => ⟨n, h⟩)
  refine ⟨fun i hi => ?_, fun i x H'' hi y => ?_, ⟨xs, SqL.of h', by rw [r.length]; exact Nat.le_refl _⟩⟩
  · have hx : i < xs.length := by rw [r.length]; exact hi
    exact ⟨xs, xs[i], SqL.of h', by simp [hx]⟩
  · obtain ⟨e1, e2⟩ := y
    obtain ⟨d, hd, rd⟩ := r'.get' (e2 xs (SqL.of h'))
    exact ⟨e1, d, hd, rd⟩
theorem iok_listB {σ : St} {H : Hp} {p : Addr} {xs : List V} {ds : List Dv} (h : H p = some (.lst xs)) (r : RepsF KF Imm H xs ds) (hz : ds.length ≤ lim) : IOk KF ms σ false H (Itl KF p) ds := by
  refine ⟨hz, fun H' s => ?_⟩
  have s : Same H H' := by
    rcases s with s | ⟨z, _⟩
    · exact s
    · cases z
  have h' := s _ _ h
  have r' := r.same s
  refine ⟨fun i hi => ?_, fun i x H'' hi y => ?_, ⟨xs, SqL.of h', by rw [r.length]; exact Nat.le_refl _⟩⟩
  · have hx : i < xs.length := by rw [r.length]; exact hi
    exact ⟨xs, xs[i], SqL.of h', by simp [hx]⟩
  · obtain ⟨e1, e2⟩ := y
    obtain ⟨d, hd, rd⟩ := r'.get' (e2 xs (SqL.of h'))
    exact ⟨e1, d, hd, rd.mono fun _ _ z => z.elim⟩
theorem iok_scr {σ : St} {H H0 : Hp} {δ : Dt} {p : Addr} {ns : List Int} (R : Rel KF ms H0 δ σ H) (h : Scr KF H p ns) (hz : ns.length ≤ lim) : IOk KF ms σ lp H (Itl KF p) (ns.map .int) := by
  refine ⟨by rw [List.length_map]; exact hz, fun H' s => ?_⟩
  have kp : Keeps (fun a => ¬ Own ms σ a) H H' := by
    rcases s with s | ⟨_, s⟩
    · exact .of s
    · exact Stays.keeps R s
  have h' : Scr KF H' p ns := h.imp (fun ⟨o, q⟩ => ⟨o, kp _ _ q (.inr (.inl ⟨_, _, rfl⟩))⟩) id
  rw [List.length_map]
  refine ⟨fun i hi => ?_, fun i x H'' hi y => ?_, ⟨_, h'.sq, by rw [List.length_map]; exact Nat.le_refl _⟩⟩
  · exact ⟨_, .int ns[i], h'.sq, by simp [hi]⟩
  · obtain ⟨e1, e2⟩ := y
    have e3 := e2 _ h'.sq
    rw [List.getElem?_map, List.getElem?_eq_getElem hi] at e3
    cases e3
    exact ⟨e1, .int ns[i], by simp [hi], .int _⟩
theorem iok_tup {σ : St} {H H0 : Hp} {δ : Dt} {p : Addr} {xs : List V} {ds : List Dv} (R : Rel KF ms H0 δ σ H) (h : H p = some (.tup xs)) (r : RepsF KF (fun a => ¬ Own ms σ a) H xs ds) (hz : ds.length ≤ lim) : IOk KF ms σ lp H (Itt KF p) ds := by
  refine ⟨hz, fun H' s => ?_⟩
  have kp : Keeps (fun a => ¬ Own ms σ a) H H' := by
    rcases s with s | ⟨_, s⟩
    · exact .of s
    · exact Stays.keeps R s
  have h' := kp _ _ h (.inl ⟨xs, rfl⟩)
  have r' := RepsF.keep (S := fun a => ¬ Own ms σ a ∧ H a ≠ none) (kp.mono fun _ z => z.1) (r.mono fun _ h n => ⟨n, h⟩)
  refine ⟨fun i hi => ?_, fun i x H'' hi y => ?_, ⟨xs, SqT.of h', by rw [r.length]; exact Nat.le_refl _⟩⟩
  · have hx : i < xs.length := by rw [r.length]; exact hi
    exact ⟨xs, xs[i], SqT.of h', by simp [hx]⟩
  · obtain ⟨e1, e2⟩ := y
    obtain ⟨d, hd, rd⟩ := r'.get' (e2 xs (SqT.of h'))
    exact ⟨e1, d, hd, rd⟩
theorem iok_range {σ : St} {H : Hp} {lo : Int} {n : Nat} (hz : n ≤ lim) : IOk KF ms σ lp H (Itr lo n) (rangeD lo n) := by
  refine ⟨by rw [rangeD_len]; exact hz, fun H' s => ?_⟩
  rw [rangeD_len]
  refine ⟨fun i hi => hi, fun i x H'' hi y => ?_, Nat.le_refl n⟩
  obtain ⟨e1, e2⟩ := y
  subst e2
  exact ⟨e1, _, rangeD_get hi, .int _⟩
theorem pdi_list (h : PD X ms .any e m) : PDi X ms lp tg e (iL m) := by
  obtain ⟨te, p, q⟩ := h
  refine ⟨_, pi_list p, fun δ σ H0 H R ds L hm hq => ?_⟩
  obtain ⟨x, hx, e⟩ := Option.bind_eq_some_iff.mp hm
  refine q δ σ H0 H _ x L hx fun v H1 s1 g => ?_
  cases x with
  | lst zs =>
    simp only at e
    split at e
    · next hz =>
      cases e
      cases g with
      | lst n h r => exact ⟨_, rfl, ⟨_, SqL.of h⟩, hq _ H1 s1 (iok_list (L.same s1) n h r hz)⟩
    · cases e
  | scr ns =>
    simp only at e
    split at e
    · next hz =>
      cases e
      cases g with
      | scr h => exact ⟨_, rfl, ⟨_, h.sq⟩, hq _ H1 s1 (iok_scr (L.same s1) h hz)⟩
    · cases e
  | _ => cases e
theorem pdi_listB (h : PD X ms k e m) : PDi X ms false tg e (iLI m) := by
  obtain ⟨te, p, q⟩ := h
  refine ⟨_, pi_list p, fun δ σ H0 H R ds L hm hq => ?_⟩
  obtain ⟨x, hx, e⟩ := Option.bind_eq_some_iff.mp hm
  refine q δ σ H0 H _ x L hx fun v H1 s1 g => ?_
  cases x with
  | lst zs =>
    simp only at e
    split at e
    · next hi =>
      cases e
      cases g.bor with
      | lst n h r => exact ⟨_, rfl, ⟨_, SqL.of h⟩, hq _ H1 s1 (iok_listB h (r.imm hi.2) hi.1)⟩
    · cases e
  | _ => cases e
theorem pdi_tup (h : PD X ms .any e m) : PDi X ms lp tg e (iT m) := by
  obtain ⟨te, p, q⟩ := h
  refine ⟨_, pi_tup p, fun δ σ H0 H R ds L hm hq => ?_⟩
  obtain ⟨x, hx, e⟩ := Option.bind_eq_some_iff.mp hm
  refine q δ σ H0 H _ x L hx fun v H1 s1 g => ?_
  cases x with
  | tup zs =>
    simp only at e
    split at e
    · next hz =>
      cases e
      cases g with
      | tup h r => exact ⟨_, rfl, ⟨_, SqT.of h⟩, hq _ H1 s1 (iok_tup (L.same s1) h r hz)⟩
    · cases e
  | _ => cases e
theorem pdi_tupB (h : PD X ms k e m) : PDi X ms lp tg e (iTI m) := by
  obtain ⟨te, p, q⟩ := h
  refine ⟨_, pi_tup p, fun δ σ H0 H R ds L hm hq => ?_⟩
  obtain ⟨x, hx, e⟩ := Option.bind_eq_some_iff.mp hm
  refine q δ σ H0 H _ x L hx fun v H1 s1 g => ?_
  cases x with
  | tup zs =>
    simp only at e
    split at e
    · next hi =>
      cases e
      cases g.bor with
      | tup h r => exact ⟨_, rfl, ⟨_, SqT.of h⟩, hq _ H1 s1 (iok_tup (L.same s1) h (r.imm hi.2) hi.1)⟩
    · cases e
  | _ => cases e
theorem lim_int {j : Int} (h : j ≤ (lim : Int)) : j < 2 ^ 62 := Int.lt_of_le_of_lt h (by decide)
theorem pdi_range1 {p : Pos} (hg : Gl X "range") (hm : X.mg "range" = none) (h : PD X ms k a m) (hs : starEach [a] X.env = [(false, eval a X.env)] := by rfl) : PDi X ms lp tg (.Call (.Name "range" p) [a] [] pos) (iR1 m) := by
  obtain ⟨te, pe, q⟩ := h
  refine ⟨_, pi_range1 hg hm (pa_cons pe pa_nil hs) hs, fun δ σ H0 H R ds L hm hq => ?_⟩
  obtain ⟨x, hx, e⟩ := Option.bind_eq_some_iff.mp hm
  refine q δ σ H0 H _ x L hx fun v H1 s1 g => ?_
  have g := g.bor
  cases g with
  | int j =>
    simp only at e
    split at e
    · next hl =>
      cases e
      exact ⟨j, rfl, Int.le_trans (by decide) hl.1, lim_int hl.2, hq _ H1 s1 (iok_range (by have := hl.2; omega))⟩
    · cases e
  | _ => cases e
theorem pdi_range2 {p : Pos} {k2 : Kd} (hg : Gl X "range") (hm : X.mg "range" = none) (h : PD X ms k a ma) (h2 : PD X ms k2 b mb) (hs : starEach [a, b] X.env = [(false, eval a X.env), (false, eval b X.env)] := by rfl) (hs2 : starEach [b] X.env = [(false, eval b X.env)] := by rfl) :
    PDi X ms lp tg (.Call (.Name "range" p) [a, b] [] pos) (iR2 ma mb) := by
  obtain ⟨te, pe, q⟩ := h
  obtain ⟨te2, pe2, q2⟩ := h2
  refine ⟨_, pi_range2 hg hm (pa_cons pe (pa_cons pe2 pa_nil hs2) (by rw [hs, hs2])) hs hs2, fun δ σ H0 H R ds L hm hq => ?_⟩
  obtain ⟨x, hx, e⟩ := Option.bind_eq_some_iff.mp hm
  obtain ⟨y, hy, e⟩ := Option.bind_eq_some_iff.mp e
  refine q δ σ H0 H _ x L hx fun v H1 s1 g => ?_
  refine q2 δ σ H0 H1 _ y (L.same s1) hy fun u H2 s2 g2 => ?_
  have g := (g.same s2).bor
  have g2 := g2.bor
  cases g with
  | int i =>
    cases g2 with
    | int j =>
      simp only at e
      split at e
      · next c =>
        cases e
        have hl : (lim : Int) = 100000 := rfl
        exact ⟨i, j, rfl, ⟨by omega, by omega, by omega, by omega⟩, hq _ H2 (s1.tr s2) (iok_range (by omega))⟩
      · cases e
    | _ => cases e
  | _ => cases e
end
/-! ### targets -/
/-- the names that are changed in place stay as they are -/
def SameOwn (ms : List Nat) (σ σ' : St) : Prop := ∀ i, i ∈ ms → σ'[i]? = σ[i]?
theorem SameOwn.own {ms : List Nat} {σ σ' : St} (h : SameOwn ms σ σ') {a : Addr} : Own ms σ' a ↔ Own ms σ a := by
  constructor
  · rintro ⟨i, hi, e⟩; exact ⟨i, hi, by rw [← h i hi]; exact e⟩
  · rintro ⟨i, hi, e⟩; exact ⟨i, hi, by rw [h i hi]; exact e⟩
theorem SameOwn.refl {ms : List Nat} {σ : St} : SameOwn ms σ σ := fun _ _ => rfl
theorem SameOwn.tr {ms : List Nat} {σ σ1 σ2 : St} (h : SameOwn ms σ σ1) (g : SameOwn ms σ1 σ2) : SameOwn ms σ σ2 := fun i hi => (g i hi).trans (h i hi)
def DG (KF : PySem.W.Frag) (ms : List Nat) (g : TG) (m : Dv → Dt → Option Dt) : Prop :=
  ∀ (δ δ1 : Dt) (σ : St) (H0 H : Hp) (v : V) (d : Dv) (Q : St → Hp → Prop), Rel KF ms H0 δ σ H → RepF KF (fun a => ¬ Own ms σ a) H v d → m d δ = some δ1 → (∀ σ1, Rel KF ms H0 δ1 σ1 H → SameOwn ms σ σ1 → Q σ1 H) → g v σ H Q
def DGs (KF : PySem.W.Frag) (ms : List Nat) (g : TGs) (m : List Dv → Dt → Option Dt) : Prop :=
  ∀ (δ δ1 : Dt) (σ : St) (H0 H : Hp) (vs : List V) (ds : List Dv) (Q : St → Hp → Prop), Rel KF ms H0 δ σ H → RepsF KF (fun a => ¬ Own ms σ a) H vs ds → m ds δ = some δ1 → (∀ σ1, Rel KF ms H0 δ1 σ1 H → SameOwn ms σ σ1 → Q σ1 H) → g vs σ H Q
def PDg (X : Cx) (ms : List Nat) (tg : Expr) (m : Dv → Dt → Option Dt) : Prop := ∃ g, PG X tg g ∧ DG X.K ms g m
def PDgs (X : Cx) (ms : List Nat) (tgs : List Expr) (m : List Dv → Dt → Option Dt) : Prop := ∃ g, PGs X tgs g ∧ DGs X.K ms g m
def gN (i : Nat) : Dv → Dt → Option Dt := fun d δ => some (δ.set i (some d))
def gZ : List Dv → Dt → Option Dt
  | [], δ => some δ
  | _, _ => none
def gC (g : Dv → Dt → Option Dt) (r : List Dv → Dt → Option Dt) : List Dv → Dt → Option Dt
  | d :: ds, δ => (g d δ).bind (r ds)
  | _, _ => none
def gT (n : Nat) (g : List Dv → Dt → Option Dt) : Dv → Dt → Option Dt
  | .tup ds, δ => if ds.length = n then g ds δ else none
  | _, _ => none
theorem Rel.set {ms : List Nat} {H0 H : Hp} {δ : Dt} {σ : St} {i : Nat} {v : V} {d : Dv} (R : Rel KF ms H0 δ σ H) (hi : i ∉ ms) (r : RepF KF (fun a => ¬ Own ms σ a) H v d) :
    Rel KF ms H0 (δ.set i (some d)) (σ.set i (some v)) H ∧ SameOwn ms σ (σ.set i (some v)) := by
  have so : SameOwn ms σ (σ.set i (some v)) := fun j hj => by
    have ne : i ≠ j := fun z => hi (z ▸ hj)
    rw [List.getElem?_set_ne ne]
  refine ⟨⟨by rw [List.length_set, List.length_set]; exact R.len, R.keep, fun j d' hd => ?_, fun j hj u e => ?_⟩, so⟩
  · by_cases hj : i = j
    · subst hj
      have hl : i < δ.length := by
        have := (List.getElem?_eq_some_iff.mp hd).1
        rwa [List.length_set] at this
      rw [List.getElem?_set_self hl] at hd
      cases hd
      refine ⟨v, List.getElem?_set_self (by rw [R.len]; exact hl), .inr ⟨hi, r.mono fun a _ n z => n (so.own.mp z)⟩⟩
    · rw [List.getElem?_set_ne hj] at hd
      obtain ⟨u, hu, q⟩ := R.get j d' hd
      refine ⟨u, by rw [List.getElem?_set_ne hj]; exact hu, ?_⟩
      rcases q with ⟨mj, a, ea, h0, c, un⟩ | ⟨nj, r'⟩
      · exact .inl ⟨mj, a, ea, h0, c, fun l hl e => un l hl (by rw [← so l hl]; exact e)⟩
      · exact .inr ⟨nj, r'.mono fun a _ n z => n (so.own.mp z)⟩
  · have ne : i ≠ j := fun z => hi (z ▸ hj)
    rw [List.getElem?_set_ne ne] at e
    obtain ⟨d', hd⟩ := R.all j hj u e
    exact ⟨d', by rw [List.getElem?_set_ne ne]; exact hd⟩
section
variable {X : Cx} {ms : List Nat} {pos : Pos}
theorem pdg_name {i : Nat} {x : Str} (hi : decide (i ∈ ms) = false) (h : PG X (.Name x pos) (gName i)) : PDg X ms (.Name x pos) (gN i) :=
  ⟨_, h, fun δ δ1 σ H0 H v d Q R r hm hq => by
    cases hm
    obtain ⟨R', so⟩ := R.set (of_decide_eq_false hi) r
    exact hq _ R' so⟩
theorem pdgs_nil : PDgs X ms [] gZ := ⟨_, pgs_nil, fun δ δ1 σ H0 H vs ds Q R r hm hq => by
  cases r with
  | nil => cases hm; exact ⟨rfl, hq σ R .refl⟩
  | cons _ _ => cases hm⟩
theorem pdgs_cons {e : Expr} {es : List Expr} {g : Dv → Dt → Option Dt} {gs : List Dv → Dt → Option Dt} (h1 : PDg X ms e g) (h2 : PDgs X ms es gs)
    (hs : (assignEach (e :: es) X.env).map (·.2) = assign e X.env :: (assignEach es X.env).map (·.2) := by rfl) : PDgs X ms (e :: es) (gC g gs) := by
  obtain ⟨t, p, q⟩ := h1
  obtain ⟨u, p2, q2⟩ := h2
  refine ⟨_, pgs_cons p p2 hs, fun δ δ1 σ H0 H vs ds Q R r hm hq => ?_⟩
  cases r with
  | nil => cases hm
  | cons h r =>
    obtain ⟨δ2, e1, e2⟩ := Option.bind_eq_some_iff.mp hm
    refine ⟨_, _, rfl, q δ δ2 σ H0 H _ _ _ R h e1 fun σ1 R1 so1 => ?_⟩
    exact q2 δ2 δ1 σ1 H0 H _ _ _ R1 (r.mono fun a _ n z => n (so1.own.mp z)) e2 fun σ2 R2 so2 => hq σ2 R2 (so1.tr so2)
theorem pdg_tup {es : List Expr} {k : Nat} {g : List Dv → Dt → Option Dt} {n : Nat} (hc : X.calm = true) (h : PDgs X ms es g)
    (hn : (assignEach es X.env).length = n := by rfl) (hst : (assignEach es X.env).findIdx? (·.1) = none := by rfl) : PDg X ms (.Tuple es k pos) (gT n g) := by
  obtain ⟨t, p, q⟩ := h
  refine ⟨_, pg_tup hc p hn hst, fun δ δ1 σ H0 H v d Q R r hm hq => ?_⟩
  cases r with
  | tup h r =>
    simp only [gT] at hm
    split at hm
    · next hl => exact ⟨_, _, rfl, SqT.of h, by rw [r.length]; exact hl, q δ δ1 σ H0 H _ _ Q R r hm hq⟩
    · cases hm
  | _ => cases hm
end
/-! ### comprehensions -/
def pullD (ρ : List (Option Nat)) (δ : Dt) : Dt := ρ.map fun o => match o with
  | none => none
  | some j => (δ[j]?).join
def compM (g : Dv → Dt → Option Dt) (c : Dt → Option Bool) (el : EM) (δ : Dt) : List Dv → Option (List Dv)
  | [] => some []
  | d :: ds => (g d δ).bind fun δ1 => (c δ1).bind fun b => if b = true then (el δ1).bind fun x => if x.imm = true then (compM g c el δ ds).map (x :: ·) else none else compM g c el δ ds
def eComp (ρ : List (Option Nat)) (it : Dt → Option (List Dv)) (g : Dv → Dt → Option Dt) (c : Dt → Option Bool) (el : EM) : EM := fun δ => (it δ).bind fun ds => (compM g c el (pullD ρ δ) ds).map .lst
def pullChk (ρ : List (Option Nat)) (ms ms' : List Nat) : Bool :=
  ms'.all (fun i => match ρ[i]? with | some (some j) => decide (j ∈ ms) | _ => false) &&
  (List.range ρ.length).all (fun i => match ρ[i]? with | some (some j) => decide (j ∉ ms) || decide (i ∈ ms') | _ => true) && decide ((ρ.filterMap id).Nodup)
theorem pullD_some {ρ : List (Option Nat)} {δ : Dt} {i : Nat} {d : Dv} (h : (pullD ρ δ)[i]? = some (some d)) : ∃ j, ρ[i]? = some (some j) ∧ δ[j]? = some (some d) := by
  unfold pullD at h
  rw [List.getElem?_map] at h
  cases e : ρ[i]? with
  | none => rw [e] at h; cases h
  | some o =>
    rw [e] at h
    cases o with
    | none => cases h
    | some j =>
      refine ⟨j, rfl, ?_⟩
      have h' : (δ[j]?).join = some d := Option.some.inj h
      cases q : δ[j]? with
      | none => rw [q] at h'; cases h'
      | some z => rw [q] at h'; exact congrArg some h'
theorem pull_of {ρ : List (Option Nat)} {σ : St} {i j : Nat} {v : V} (h : ρ[i]? = some (some j)) (e : σ[j]? = some (some v)) : (pull ρ σ)[i]? = some (some v) := by
  unfold pull
  rw [List.getElem?_map, h]
  show some ((σ[j]?).getD none) = _
  rw [e]; rfl
theorem pullD_of {ρ : List (Option Nat)} {δ : Dt} {i j : Nat} {v : Dv} (h : ρ[i]? = some (some j)) (e : δ[j]? = some (some v)) : (pullD ρ δ)[i]? = some (some v) := by
  unfold pullD
  rw [List.getElem?_map, h]
  show some ((δ[j]?).join) = _
  rw [e]; rfl
theorem nodup_inj {ρ : List (Option Nat)} (h : (ρ.filterMap id).Nodup) : ∀ {i i' j : Nat}, ρ[i]? = some (some j) → ρ[i']? = some (some j) → i = i' := by
  induction ρ with
  | nil => intro i i' j e; simp at e
  | cons o r ih =>
    intro i i' j e e'
    have hr : (r.filterMap id).Nodup := by
      cases o with
      | none => simpa using h
      | some x => simp only [List.filterMap_cons, id] at h; exact (List.nodup_cons.mp h).2
    have hm : ∀ {q : Nat}, r[q]? = some (some j) → j ∈ r.filterMap id := fun {q} e => by
      rw [List.mem_filterMap]
      exact ⟨some j, List.mem_of_getElem? e, rfl⟩
    cases i with
    | zero =>
      cases i' with
      | zero => rfl
      | succ i' =>
        simp only [List.getElem?_cons_zero, Option.some.injEq] at e
        subst e
        simp only [List.filterMap_cons, id] at h
        exact absurd (hm (by simpa using e')) (List.nodup_cons.mp h).1
    | succ i =>
      cases i' with
      | zero =>
        simp only [List.getElem?_cons_zero, Option.some.injEq] at e'
        subst e'
        simp only [List.filterMap_cons, id] at h
        exact absurd (hm (by simpa using e)) (List.nodup_cons.mp h).1
      | succ i' => exact congrArg (· + 1) (ih hr (by simpa using e) (by simpa using e'))
structure PullOk (ρ : List (Option Nat)) (ms ms' : List Nat) : Prop where
  from_ : ∀ (i : Nat), i ∈ ms' → ∃ j : Nat, j ∈ ms ∧ ρ[i]? = some (some j)
  to_ : ∀ (i j : Nat), ρ[i]? = some (some j) → j ∈ ms → i ∈ ms'
  inj : ∀ (i i' j : Nat), ρ[i]? = some (some j) → ρ[i']? = some (some j) → i = i'
theorem pullChk_ok {ρ : List (Option Nat)} {ms ms' : List Nat} (h : pullChk ρ ms ms' = true) : PullOk ρ ms ms' := by
  unfold pullChk at h
  rw [Bool.and_eq_true, Bool.and_eq_true] at h
  obtain ⟨⟨h1, h2⟩, h3⟩ := h
  refine ⟨fun i hi => ?_, fun i j e hj => ?_, fun i i' j e e' => nodup_inj (of_decide_eq_true h3) e e'⟩
  · have q := List.all_eq_true.mp h1 i hi
    split at q
    · next j e => exact ⟨j, of_decide_eq_true q, e⟩
    · cases q
  · have hl := (List.getElem?_eq_some_iff.mp e).1
    have q := List.all_eq_true.mp h2 i (List.mem_range.mpr hl)
    rw [e] at q
    simp only [Bool.or_eq_true] at q
    rcases q with q | q
    · exact absurd hj (of_decide_eq_true q)
    · exact of_decide_eq_true q
section
variable {ρ : List (Option Nat)} {ms ms' : List Nat} {δ : Dt} {σ : St} {H0 H : Hp}
theorem PullOk.own (P : PullOk ρ ms ms') {a : Addr} (h : Own ms' (pull ρ σ) a) : Own ms σ a := by
  obtain ⟨i, hi, e⟩ := h
  obtain ⟨j, hj, er⟩ := P.from_ i hi
  obtain ⟨j', er', e'⟩ := pull_some e
  rw [er] at er'; cases er'
  exact ⟨j, hj, e'⟩
theorem Rel.pull (R : Rel KF ms H0 δ σ H) (P : PullOk ρ ms ms') : Rel KF ms' H0 (pullD ρ δ) (L2.pull ρ σ) H := by
  refine ⟨by unfold L2.pull pullD; simp, R.keep, fun i d hd => ?_, fun i hi v e => ?_⟩
  · obtain ⟨j, er, ed⟩ := pullD_some hd
    obtain ⟨v, ev, q⟩ := R.get j d ed
    refine ⟨v, pull_of er ev, ?_⟩
    rcases q with ⟨mj, a, rfl, h0, c, un⟩ | ⟨nj, r⟩
    · refine .inl ⟨P.to_ i j er mj, a, rfl, h0, c, fun l hl e => ?_⟩
      obtain ⟨j', hj', er'⟩ := P.from_ l hl
      obtain ⟨j2, er2, e2⟩ := pull_some e
      rw [er'] at er2; cases er2
      have := un j' hj' e2
      subst this
      exact P.inj l i j' er' er
    · refine .inr ⟨fun z => ?_, r.mono fun a _ n z => n (P.own z)⟩
      obtain ⟨j', hj', er'⟩ := P.from_ i z
      rw [er] at er'; cases er'
      exact nj hj'
  · obtain ⟨j, hj, er⟩ := P.from_ i hi
    obtain ⟨j', er', e'⟩ := pull_some e
    rw [er] at er'; cases er'
    obtain ⟨d, hd⟩ := R.all j hj v e'
    exact ⟨d, pullD_of er hd⟩
/-- names that were set anew are forgotten -/
theorem Rel.forget {δ1 : Dt} (R : Rel KF ms H0 δ1 σ H) (hl : δ.length = δ1.length) (h : ∀ (i : Nat) (d : Dv), δ[i]? = some (some d) → δ1[i]? = some (some d)) (hm : ∀ (i : Nat), i ∈ ms → ∀ d : Dv, δ1[i]? = some (some d) → ∃ d' : Dv, δ[i]? = some (some d')) : Rel KF ms H0 δ σ H :=
  ⟨R.len.trans hl.symm, R.keep, fun i d hd => R.get i d (h i d hd), fun i hi v e => by
    obtain ⟨d, hd⟩ := R.all i hi v e
    exact hm i hi d hd⟩
end
end L2

set_option maxHeartbeats 4000000
/-! Comprehensions, statements, defs: by data. -/
namespace L2
open PySem PySem.Spec PyProof.Rows
variable {KF : PySem.W.Frag}
def tM (KF : PySem.W.Frag) (ms : List Nat) (k : Kd) (m : EM) : TE := fun σ H Q => ∃ H0 δ d, Rel KF ms H0 δ σ H ∧ m δ = some d ∧ ∀ v H', Same H H' → Got KF k ms σ H H' v d → Q v H'
def ttM (KF : PySem.W.Frag) (ms : List Nat) (m : Dt → Option Bool) : TT := fun σ H Q => ∃ H0 δ b, Rel KF ms H0 δ σ H ∧ m δ = some b ∧ ∀ H', Same H H' → Q b H'
def tgM (KF : PySem.W.Frag) (ms : List Nat) (m : Dv → Dt → Option Dt) : TG := fun v σ H Q => ∃ H0 δ d δ1, Rel KF ms H0 δ σ H ∧ RepF KF (fun a => ¬ Own ms σ a) H v d ∧ m d δ = some δ1 ∧ ∀ σ1, Rel KF ms H0 δ1 σ1 H → SameOwn ms σ σ1 → Q σ1 H
def PDts (X : Cx) (ms : List Nat) (ifs : List Expr) (m : Dt → Option Bool) : Prop := ∃ tt, PTs X ifs tt ∧ DTs X.K ms tt m
/-- a target sets these names alone -/
def GExt (z : List Nat) (g : Dv → Dt → Option Dt) : Prop := ∀ d δ δ1, g d δ = some δ1 → δ1.length = δ.length ∧ ∀ i : Nat, i ∉ z → δ1[i]? = δ[i]?
def GExts (z : List Nat) (g : List Dv → Dt → Option Dt) : Prop := ∀ d δ δ1, g d δ = some δ1 → δ1.length = δ.length ∧ ∀ i : Nat, i ∉ z → δ1[i]? = δ[i]?
theorem gext_name (i : Nat) : GExt [i] (gN i) := fun d δ δ1 h => by
  cases h
  refine ⟨List.length_set, fun j hj => ?_⟩
  have ne : i ≠ j := fun z => hj (by simp [z])
  exact List.getElem?_set_ne ne
theorem gext_nil : GExts [] gZ := fun d δ δ1 h => by
  cases d with
  | nil => cases h; exact ⟨rfl, fun _ _ => rfl⟩
  | cons _ _ => cases h
theorem gext_cons {z z' : List Nat} {g : Dv → Dt → Option Dt} {gs : List Dv → Dt → Option Dt} (h : GExt z g) (h' : GExts z' gs) : GExts (z ++ z') (gC g gs) := fun d δ δ1 e => by
  cases d with
  | nil => cases e
  | cons d ds =>
    obtain ⟨δ2, e1, e2⟩ := Option.bind_eq_some_iff.mp e
    obtain ⟨l1, f1⟩ := h d δ δ2 e1
    obtain ⟨l2, f2⟩ := h' ds δ2 δ1 e2
    exact ⟨l2.trans l1, fun i hi => (f2 i fun z => hi (List.mem_append_right _ z)).trans (f1 i fun z => hi (List.mem_append_left _ z))⟩
theorem gext_tup {z : List Nat} {n : Nat} {g : List Dv → Dt → Option Dt} (h : GExts z g) : GExt z (gT n g) := fun d δ δ1 e => by
  cases d with
  | tup ds =>
    simp only [gT] at e
    split at e
    · exact h ds δ δ1 e
    · cases e
  | _ => cases e
section
variable {X : Cx} {ms : List Nat} {k : Kd} {e : Expr} {m : EM} {pos : Pos}
theorem PD.pe (h : PD X ms k e m) : PE X e (tM X.K ms k m) := by
  obtain ⟨te, p, q⟩ := h
  intro pins s σ H Q I ⟨H0, δ, d, R, hm, hq⟩
  exact p pins s σ H Q I (q δ σ H0 H Q d R hm hq)
theorem pdts_nil : PDts X ms [] tyes := ⟨_, pts_nil, fun δ σ H0 H Q b R hm hq => by cases hm; exact hq H fun _ _ z => z⟩
theorem pdts_one {t : Dt → Option Bool} (h : PDt X ms e t) : PDts X ms [e] t := by
  obtain ⟨tt, p, q⟩ := h
  exact ⟨_, pts_one p, q⟩
theorem PDts.pts {ifs : List Expr} {t : Dt → Option Bool} (h : PDts X ms ifs t) : PTs X ifs (ttM X.K ms t) := by
  obtain ⟨te, p, q⟩ := h
  intro pins s σ H Q I ⟨H0, δ, d, R, hm, hq⟩
  exact p pins s σ H Q I (q δ σ H0 H Q d R hm hq)
theorem PDg.pg {g : Dv → Dt → Option Dt} (h : PDg X ms e g) : PG X e (tgM X.K ms g) := by
  obtain ⟨te, p, q⟩ := h
  intro pins s σ H v u Q I r ⟨H0, δ, d, δ1, R, rd, hm, hq⟩
  exact p pins s σ H v u Q I r (q δ δ1 σ H0 H v d Q R rd hm hq)
end
section
variable {ms ms' : List Nat} {ρ : List (Option Nat)} {k : Kd} {wi : TI} {it : Dt → Option (List Dv)} {g : Dv → Dt → Option Dt} {c : Dt → Option Bool} {el : EM} {z : List Nat}
theorem de_comp (hi : ∀ (δ : Dt) (σ : St) (H0 H : Hp) (R : It → Hp → Prop) (ds : List Dv), Rel KF ms H0 δ σ H → it δ = some ds → (∀ J H', Same H H' → IOk KF ms σ false H' J ds → R J H') → wi σ H R)
    (P : PullOk ρ ms ms') (hz : GExt z g) (hz' : z.all (fun i => decide (ρ[i]? = some none)) = true) : DE KF ms .one (tComp ρ wi (tgM KF ms' g) (ttM KF ms' c) (tM KF ms' k el)) (eComp ρ it g c el) := by
  intro δ σ H0 H Q d R hm hq
  obtain ⟨ds, hds, e⟩ := Option.bind_eq_some_iff.mp hm
  obtain ⟨out, ho, rfl⟩ := Option.map_eq_some_iff.mp e
  refine hi δ σ H0 H _ ds R hds fun J H1 s1 ok => ?_
  obtain ⟨hlim, ok⟩ := ok
  have R1 := (R.same s1).pull P
  have notz : ∀ {i : Nat} {x : Dv}, (pullD ρ δ)[i]? = some (some x) → i ∉ z := fun {i x} e hzi => by
    obtain ⟨j, er, _⟩ := pullD_some e
    have := of_decide_eq_true (List.all_eq_true.mp hz' i hzi)
    rw [er] at this; cases this
  have msz : ∀ {i : Nat}, i ∈ ms' → i ∉ z := fun {i} hi hzi => by
    obtain ⟨j, _, er⟩ := P.from_ i hi
    have := of_decide_eq_true (List.all_eq_true.mp hz' i hzi)
    rw [er] at this; cases this
  refine ⟨fun i n acc σc Hc => n = ds.length - i ∧ i ≤ ds.length ∧ Same H1 Hc ∧ Rel KF ms' H0 (pullD ρ δ) σc Hc ∧ SameOwn ms' (pull ρ σ) σc ∧ acc.length ≤ i ∧
    ∃ done rest, RepsF KF Imm Hc acc done ∧ compM g c el (pullD ρ δ) (ds.drop i) = some rest ∧ done ++ rest = out, ⟨ds.length, by simp, Nat.zero_le _, Same.refl _, R1, .refl, Nat.le_refl _, [], out, .nil, by simpa using ho, by simp⟩, ?_⟩
  rintro i n acc σc Hc ⟨rfl, hi', sc, Rc, so, hl, done, rest, ra, hr, hout⟩
  obtain ⟨go, yl, st⟩ := ok Hc (.inl sc)
  by_cases hlt : i < ds.length
  · right
    refine ⟨go i hlt, ?_, fun acc' σ' H' => Same H1 H' ∧ Rel KF ms' H0 (pullD ρ δ) σ' H' ∧ SameOwn ms' (pull ρ σ) σ' ∧ acc'.length ≤ i + 1 ∧ ∃ done rest, RepsF KF Imm H' acc' done ∧ compM g c el (pullD ρ δ) (ds.drop (i + 1)) = some rest ∧ done ++ rest = out,
      fun acc' σ' H' ⟨a1, a2, a3, a4, a5⟩ => ⟨ds.length - (i + 1), by omega, rfl, hlt, a1, a2, a3, a4, a5⟩, fun x H' y => ?_⟩
    · have := lim_ok hlim; omega
    · obtain ⟨rfl, d, hd, rx⟩ := yl i x H' hlt y
      have hdrop : ds.drop i = d :: ds.drop (i + 1) := by
        rw [List.drop_eq_getElem_cons hlt]
        congr 1
        rw [List.getElem?_eq_getElem hlt] at hd
        exact Option.some.inj hd
      rw [hdrop, compM] at hr
      obtain ⟨δ1, h1, hr⟩ := Option.bind_eq_some_iff.mp hr
      obtain ⟨b, hb, hr⟩ := Option.bind_eq_some_iff.mp hr
      obtain ⟨l1, f1⟩ := hz d _ δ1 h1
      refine ⟨H0, pullD ρ δ, d, δ1, Rc, rx.mono fun a _ n z => n.1 (P.own (so.own.mp z)), h1, fun σ1 R1' so1 => ?_⟩
      have forget : ∀ {H2 : Hp}, Rel KF ms' H0 δ1 σ1 H2 → Rel KF ms' H0 (pullD ρ δ) σ1 H2 := fun {H2} R2 => by
        refine R2.forget l1.symm (fun j x e => ?_) fun j hj x e => ?_
        · rw [f1 j (notz e)]; exact e
        · rw [f1 j (msz hj)] at e; exact ⟨x, e⟩
      refine ⟨H0, δ1, b, R1', hb, fun H2 s2 => ?_⟩
      cases b with
      | true =>
        rw [if_pos rfl] at hr
        obtain ⟨y, hy, hr⟩ := Option.bind_eq_some_iff.mp hr
        split at hr
        · next him =>
          obtain ⟨rest', hr', rfl⟩ := Option.map_eq_some_iff.mp hr
          rw [if_pos rfl]
          refine ⟨H0, δ1, y, R1'.same s2, hy, fun v H3 s3 g3 => ?_⟩
          have s23 := s2.tr s3
          refine ⟨sc.tr s23, forget (R1'.same s23), so.tr so1, by rw [List.length_append]; exact Nat.add_le_add_right hl 1, done ++ [y], rest', (ra.same s23).append (.cons (g3.imm him) .nil), hr', by rw [← hout, List.append_assoc]; rfl⟩
        · cases hr
      | false =>
        rw [if_neg Bool.false_ne_true] at hr
        rw [if_neg Bool.false_ne_true]
        exact ⟨sc.tr s2, forget (R1'.same s2), so.tr so1, Nat.le_succ_of_le hl, done, rest, ra.same s2, hr, hout⟩
  · left
    have hie : i = ds.length := by omega
    subst hie
    rw [List.drop_length, compM] at hr
    cases hr
    rw [List.append_nil] at hout
    subst hout
    have := lim_ok hlim
    refine ⟨st, by omega, fun l hln => ?_⟩
    have s2 := Same.new (o := .lst acc) hln
    exact hq _ _ (s1.tr (sc.tr s2)) ⟨l, rfl, none_back (s1.tr sc) hln, acc, upd_same, ra.same s2⟩
variable {X : Cx} {scope : Scope} {tg iter elt : Expr} {ifs : List Expr} {pos : Pos}
theorem pd_comp (N' : List Str) (ρ : List (Option Nat)) (ms' : List Nat) (hc : X.calm = true) (hi : PDi X ms false tg iter it) (hg : ∀ C s H fp, PDg (compCx X scope N' C s H fp) ms' tg g)
    (ht : ∀ C s H fp, PDts (compCx X scope N' C s H fp) ms' ifs c) (he : ∀ C s H fp, PD (compCx X scope N' C s H fp) ms' k elt el) (hz : GExt z g)
    (ck : compChk scope X.env.scope X.N N' ρ = true) (hp : pullChk ρ ms ms' = true) (hz' : z.all (fun i => decide (ρ[i]? = some none)) = true) (hs : ∀ x, foldedSetIterable iter X.env x = pure x := by intro _; rfl) :
    PD X ms .one (.ListComp elt [⟨tg, iter, ifs, 0⟩] scope pos) (eComp ρ it g c el) := by
  obtain ⟨wi, pi, qi⟩ := hi
  exact ⟨_, pe_comp N' ρ hc pi (fun C s H fp => (hg C s H fp).pg) (fun C s H fp => (ht C s H fp).pts) (fun C s H fp => (he C s H fp).pe) ck hs, de_comp qi (pullChk_ok hp) hz hz'⟩
end
/-! ### statements -/
inductive Fl where
  | nx (δ : Dt) | rt (d : Dv) | bk (δ : Dt) | ct (δ : Dt)
abbrev SM := Dt → Option Fl
def Stp (ms : List Nat) (σ : St) (H : Hp) (σ' : St) (H' : Hp) : Prop := Stays ms σ H H' ∧ ∀ a, Own ms σ' a → Own ms σ a ∨ H a = none
theorem Stp.refl {ms : List Nat} {σ : St} {H : Hp} : Stp ms σ H σ H := ⟨fun _ _ h _ => h, fun _ h => .inl h⟩
theorem Stp.of {ms : List Nat} {σ σ' : St} {H H' : Hp} (s : Same H H') (so : SameOwn ms σ σ') : Stp ms σ H σ' H' := ⟨fun a o h _ => s a o h, fun a h => .inl (so.own.mp h)⟩
theorem Stp.tr {ms : List Nat} {σ σ1 σ2 : St} {H H1 H2 : Hp} (a : Stp ms σ H σ1 H1) (b : Stp ms σ1 H1 σ2 H2) : Stp ms σ H σ2 H2 := by
  refine ⟨fun x o h n => b.1 x o (a.1 x o h n) fun z => ?_, fun x h => ?_⟩
  · rcases a.2 x z with q | q
    · exact n q
    · rw [h] at q; cases q
  · rcases b.2 x h with q | q
    · exact a.2 x q
    · by_cases n : Own ms σ x
      · exact .inl n
      · right
        cases e : H x with
        | none => rfl
        | some o => rw [a.1 x o e n] at q; cases q
def After (KF : PySem.W.Frag) (ms : List Nat) (rk : Kd) (H0 : Hp) (σ : St) (H : Hp) (D : Ends) : Fl → Prop
  | .nx δ => ∀ σ' H', Stp ms σ H σ' H' → Rel KF ms H0 δ σ' H' → D.nx σ' H'
  | .rt d => ∀ v H', Same H0 H' → Got KF rk [] [] H0 H' v d → D.rt v H'
  | .bk δ => ∀ σ' H', Stp ms σ H σ' H' → Rel KF ms H0 δ σ' H' → D.bk σ' H'
  | .ct δ => ∀ σ' H', Stp ms σ H σ' H' → Rel KF ms H0 δ σ' H' → D.ct σ' H'
theorem After.step {ms : List Nat} {rk : Kd} {H0 : Hp} {σ σ1 : St} {H H1 : Hp} {D : Ends} {r : Fl} (h : After KF ms rk H0 σ H D r) (s : Stp ms σ H σ1 H1) : After KF ms rk H0 σ1 H1 D r := by
  cases r with
  | nx δ => exact fun σ' H' s' R => h σ' H' (s.tr s') R
  | rt d => exact h
  | bk δ => exact fun σ' H' s' R => h σ' H' (s.tr s') R
  | ct δ => exact fun σ' H' s' R => h σ' H' (s.tr s') R
def DS (KF : PySem.W.Frag) (ms : List Nat) (rk : Kd) (ts : TS) (m : SM) : Prop :=
  ∀ (δ : Dt) (σ : St) (H0 H : Hp) (D : Ends) (r : Fl), Rel KF ms H0 δ σ H → m δ = some r → After KF ms rk H0 σ H D r → ts D σ H
def PDs (X : Cx) (ms : List Nat) (rk : Kd) (st : Stmt) (m : SM) : Prop := ∃ ts, PS X st ts ∧ DS X.K ms rk ts m
def PDss (X : Cx) (ms : List Nat) (rk : Kd) (st : List Stmt) (m : SM) : Prop := ∃ ts, PSs X st ts ∧ DS X.K ms rk ts m
def sSkip : SM := fun δ => some (.nx δ)
def sSeq (a b : SM) : SM := fun δ => (a δ).bind fun r => match r with
  | .nx δ1 => b δ1
  | r => some r
def sSet (i : Nat) (m : EM) : SM := fun δ => (m δ).map fun d => .nx (δ.set i (some d))
def sRet (m : EM) : SM := fun δ => (m δ).map .rt
def sRetN : SM := fun _ => some (.rt .non)
def sIf (c : Dt → Option Bool) (a b : SM) : SM := fun δ => (c δ).bind fun x => if x = true then a δ else b δ
def sDrop (m : EM) : SM := fun δ => (m δ).map fun _ => .nx δ
def loopM (g : Dv → Dt → Option Dt) (body : SM) : List Dv → SM
  | [], δ => some (.nx δ)
  | d :: ds, δ => (g d δ).bind fun δ1 => (body δ1).bind fun r => match r with
    | .nx δ2 => loopM g body ds δ2
    | .ct δ2 => loopM g body ds δ2
    | .bk δ2 => some (.nx δ2)
    | .rt d => some (.rt d)
def sFor (it : Dt → Option (List Dv)) (g : Dv → Dt → Option Dt) (body : SM) : SM := fun δ => (it δ).bind fun ds => loopM g body ds δ
def sApp (i : Nat) (m : EM) : SM := fun δ => (m δ).bind fun d => (eVar i δ).bind fun x => match x with
  | .lst ds => if ds.length < lim ∧ d.imm = true then some (.nx (δ.set i (some (.lst (ds ++ [d]))))) else none
  | _ => none
section
variable {X : Cx} {ms : List Nat} {rk k : Kd} {e : Expr} {m : EM} {pos pos' : Pos} {st : Stmt} {rest a b : List Stmt} {ma mb : SM}
theorem pdss_nil : PDss X ms rk [] sSkip := ⟨_, pss_nil, fun δ σ H0 H D r R hm hq => by cases hm; exact hq σ H .refl R⟩
theorem pdss_cons (h1 : PDs X ms rk st ma) (h2 : PDss X ms rk rest mb) : PDss X ms rk (st :: rest) (sSeq ma mb) := by
  obtain ⟨t, p, q⟩ := h1
  obtain ⟨u, p2, q2⟩ := h2
  refine ⟨_, pss_cons p p2, fun δ σ H0 H D r R hm hq => ?_⟩
  obtain ⟨r1, h1, e⟩ := Option.bind_eq_some_iff.mp hm
  refine q δ σ H0 H _ r1 R h1 ?_
  cases r1 with
  | nx δ1 => exact fun σ' H' s' R' => q2 δ1 σ' H0 H' D r R' e (hq.step s')
  | rt d => cases e; exact hq
  | bk d => cases e; exact hq
  | ct d => cases e; exact hq
theorem pdss_one (h1 : PDs X ms rk st ma) : PDss X ms rk [st] ma := by
  obtain ⟨t, p, q⟩ := h1
  exact ⟨_, pss_one p, q⟩
theorem pds_pass : PDs X ms rk (.Pass pos) sSkip := ⟨_, ps_pass, fun δ σ H0 H D r R hm hq => by cases hm; exact hq σ H .refl R⟩
theorem pds_break : PDs X ms rk (.Break pos) (fun δ => some (.bk δ)) := ⟨_, ps_break, fun δ σ H0 H D r R hm hq => by cases hm; exact hq σ H .refl R⟩
theorem pds_continue : PDs X ms rk (.Continue pos) (fun δ => some (.ct δ)) := ⟨_, ps_continue, fun δ σ H0 H D r R hm hq => by cases hm; exact hq σ H .refl R⟩
theorem Got.ret {σ : St} {H0 H H1 : Hp} {v : V} {d : Dv} (g : Got KF k ms σ H H1 v d) (s : Same H0 H) (l : Kd.le k rk) (n : rk ≠ .any) : Got KF rk [] [] H0 H1 v d := by
  cases l with
  | refl =>
    cases rk with
    | one => obtain ⟨a, ea, h, c⟩ := g; exact ⟨a, ea, none_back s h, c⟩
    | imm => exact g
    | frh => exact RepF.mono (fun a _ h => none_back s h) g
    | any => exact absurd rfl n
    | bor => exact g
  | one_frh => obtain ⟨a, ea, h, c⟩ := g; subst ea; exact c.rep (none_back s h)
  | one_any => exact absurd rfl n
  | imm_frh => exact RepF.mono (fun _ _ z => z.elim) g
  | imm_any => exact absurd rfl n
  | frh_any => exact absurd rfl n
  | bor => exact g.bor
theorem pds_ret (h : PD X ms k e m) (l : Kd.le k rk) (n : rk ≠ .any) : PDs X ms rk (.Return (some e) pos) (sRet m) := by
  obtain ⟨te, p, q⟩ := h
  refine ⟨_, ps_ret p, fun δ σ H0 H D r R hm hq => ?_⟩
  obtain ⟨d, hd, rfl⟩ := Option.map_eq_some_iff.mp hm
  refine q δ σ H0 H _ d R hd fun v H' s g => ?_
  exact hq v H' (R.keep.tr s) (g.ret R.keep l n)
/-- return of a name that was changed in place -/
theorem pds_retOwn (i : Nat) {x : Str} (hi : decide (i ∈ ms) = true) (h : PE X (.Name x pos') (tVar i)) : PDs X ms .one (.Return (some (.Name x pos')) pos) (sRet (eVar i)) := by
  refine ⟨_, ps_ret h, fun δ σ H0 H D r R hm hq => ?_⟩
  obtain ⟨d, hd, rfl⟩ := Option.map_eq_some_iff.mp hm
  obtain ⟨v, hv, q⟩ := R.get i d (eVar_some hd)
  rcases q with ⟨_, a, rfl, h0, c, _⟩ | ⟨n, _⟩
  · exact ⟨_, hv, hq _ H R.keep ⟨a, rfl, h0, c⟩⟩
  · exact absurd (of_decide_eq_true hi) n
theorem pds_if {c : Expr} {tc : Dt → Option Bool} (hc : PDt X ms c tc) (ha : PDss X ms rk a ma) (hb : PDss X ms rk b mb) : PDs X ms rk (.If c a b pos) (sIf tc ma mb) := by
  obtain ⟨t, p, q⟩ := hc
  obtain ⟨ta, pa, qa⟩ := ha
  obtain ⟨tb, pb, qb⟩ := hb
  refine ⟨_, ps_if p pa pb, fun δ σ H0 H D r R hm hq => ?_⟩
  obtain ⟨x, hx, e⟩ := Option.bind_eq_some_iff.mp hm
  refine q δ σ H0 H _ x R hx fun H1 s1 => ?_
  have hq' := hq.step (Stp.of s1 .refl)
  cases x with
  | true => exact qa δ σ H0 H1 D r (R.same s1) e hq'
  | false => exact qb δ σ H0 H1 D r (R.same s1) e hq'
theorem pds_drop (h : PD X ms k e m) (hs : swapsWith e none pos.line X.env = pure false := by rfl) : PDs X ms rk (.Expr e pos) (sDrop m) := by
  obtain ⟨te, p, q⟩ := h
  refine ⟨_, ps_expr p hs, fun δ σ H0 H D r R hm hq => ?_⟩
  obtain ⟨d, hd, rfl⟩ := Option.map_eq_some_iff.mp hm
  exact q δ σ H0 H _ d R hd fun v H' s g => hq σ H' (.of s .refl) (R.same s)
theorem ds_set {te : TE} {i : Nat} (hi : decide (i ∈ ms) = false) (q : DE KF ms k te m) (l : Kd.le k .any) : DS KF ms rk (tAsg te (gName i)) (sSet i m) := by
  intro δ σ H0 H D r R hm hq
  obtain ⟨d, hd, rfl⟩ := Option.map_eq_some_iff.mp hm
  refine q δ σ H0 H _ d R hd fun v H' s g => ?_
  obtain ⟨R', so⟩ := (R.same s).set (of_decide_eq_false hi) (g.le R l)
  exact hq _ H' (.of s so) R'
theorem Rel.setOwn {H0 H H' : Hp} {δ : Dt} {σ : St} {i : Nat} {a : Addr} {d : Dv} (R : Rel KF ms H0 δ σ H) (hi : i ∈ ms) (s : Same H H') (hn : H a = none) (c : Cell KF H' a d) :
    Rel KF ms H0 (δ.set i (some d)) (σ.set i (some (.ref a))) H' ∧ Stp ms σ H (σ.set i (some (.ref a))) H' := by
  have na : ∀ {j : Nat}, j ∈ ms → σ[j]? ≠ some (some (.ref a)) := fun {j} hj e => R.fresh hn ⟨j, hj, e⟩
  have own : ∀ {b : Addr}, Own ms (σ.set i (some (.ref a))) b → Own ms σ b ∨ b = a := fun {b} ⟨j, hj, e⟩ => by
    by_cases hij : i = j
    · subst hij
      by_cases hl : i < σ.length
      · rw [List.getElem?_set_self hl] at e; cases e; exact .inr rfl
      · rw [List.set_eq_of_length_le (by omega)] at e; exact .inl ⟨i, hj, e⟩
    · rw [List.getElem?_set_ne hij] at e; exact .inl ⟨j, hj, e⟩
  refine ⟨⟨by rw [List.length_set, List.length_set]; exact R.len, R.keep.tr s, fun j d' hd => ?_, fun j hj u e => ?_⟩, fun b o h _ => s b o h, fun b h => ?_⟩
  · by_cases hj : i = j
    · subst hj
      have hl : i < δ.length := by
        have := (List.getElem?_eq_some_iff.mp hd).1
        rwa [List.length_set] at this
      rw [List.getElem?_set_self hl] at hd
      cases hd
      refine ⟨_, List.getElem?_set_self (by rw [R.len]; exact hl), .inl ⟨hi, a, rfl, none_back R.keep hn, c, fun l hl' e => ?_⟩⟩
      by_cases hil : i = l
      · exact hil.symm
      · rw [List.getElem?_set_ne hil] at e; exact absurd e (na hl')
    · rw [List.getElem?_set_ne hj] at hd
      obtain ⟨u, hu, q⟩ := R.get j d' hd
      refine ⟨u, by rw [List.getElem?_set_ne hj]; exact hu, ?_⟩
      rcases q with ⟨mj, b, rfl, h0, c', un⟩ | ⟨nj, r'⟩
      · refine .inl ⟨mj, b, rfl, h0, c'.same s, fun l hl e => ?_⟩
        by_cases hil : i = l
        · subst hil
          by_cases hl2 : i < σ.length
          · rw [List.getElem?_set_self hl2] at e
            cases e
            exact absurd hu (na mj)
          · rw [List.set_eq_of_length_le (by omega)] at e; exact un _ hl e
        · rw [List.getElem?_set_ne hil] at e; exact un l hl e
      · refine .inr ⟨nj, ?_⟩
        refine RepF.same s (r'.mono fun b hb n z => ?_)
        rcases own z with z | z
        · exact n z
        · exact hb (z ▸ hn)
  · by_cases hij : i = j
    · subst hij
      by_cases hl : i < δ.length
      · exact ⟨d, List.getElem?_set_self hl⟩
      · rw [List.set_eq_of_length_le (by rw [R.len]; omega)] at e
        rw [List.set_eq_of_length_le (by omega)]
        exact R.all i hj u e
    · rw [List.getElem?_set_ne hij] at e
      obtain ⟨d', hd⟩ := R.all j hj u e
      exact ⟨d', by rw [List.getElem?_set_ne hij]; exact hd⟩
  · rcases own h with h | h
    · exact .inl h
    · exact .inr (h ▸ hn)
theorem ds_own {te : TE} {i : Nat} (hi : decide (i ∈ ms) = true) (q : DE KF ms .one te m) : DS KF ms rk (tAsg te (gName i)) (sSet i m) := by
  intro δ σ H0 H D r R hm hq
  obtain ⟨d, hd, rfl⟩ := Option.map_eq_some_iff.mp hm
  refine q δ σ H0 H _ d R hd fun v H' s g => ?_
  obtain ⟨a, rfl, hn, c⟩ := g
  obtain ⟨R', st⟩ := R.setOwn (of_decide_eq_true hi) s hn c
  exact hq _ H' st R'
theorem pds_set {i : Nat} {x : Str} (hi : decide (i ∈ ms) = false) (h : PD X ms k e m) (l : Kd.le k .any) (hN : X.N.Nodup) (hx : X.N[i]? = some x) (hl : Loc X.env.scope x) (hs : swapsWith e (some (.Name x pos')) pos.line X.env = pure false := by rfl)
    (hf : X.fn x = true ∨ X.env.scope.names.lookup x = some .local := by first | exact .inl rfl | exact .inr rfl | assumption) : PDs X ms rk (.Assign [.Name x pos'] e pos) (sSet i m) := by
  obtain ⟨te, p, q⟩ := h
  exact ⟨_, ps_set hN hx hl p hs hf, ds_set hi q l⟩
theorem pds_own {i : Nat} {x : Str} (hi : decide (i ∈ ms) = true) (h : PD X ms .one e m) (hN : X.N.Nodup) (hx : X.N[i]? = some x) (hl : Loc X.env.scope x) (hs : swapsWith e (some (.Name x pos')) pos.line X.env = pure false := by rfl)
    (hf : X.fn x = true ∨ X.env.scope.names.lookup x = some .local := by first | exact .inl rfl | exact .inr rfl | assumption) : PDs X ms rk (.Assign [.Name x pos'] e pos) (sSet i m) := by
  obtain ⟨te, p, q⟩ := h
  exact ⟨_, ps_set hN hx hl p hs hf, ds_own hi q⟩
section
variable {ms' : List Nat} {ρ : List (Option Nat)} {it : Dt → Option (List Dv)} {g : Dv → Dt → Option Dt} {c : Dt → Option Bool} {el : EM} {z : List Nat} {scope : Scope} {tg iter elt : Expr} {ifs : List Expr} {spos cpos : Pos}
theorem pds_setcomp {i : Nat} {x : Str} (N' : List Str) (ρ : List (Option Nat)) (ms' : List Nat) (hi' : decide (i ∈ ms) = false) (hN : X.N.Nodup) (hx : X.N[i]? = some x) (hl : Loc X.env.scope x) (hc : X.calm = true) (hi : PDi X ms false tg iter it) (hg : ∀ C s H fp, PDg (compCx X scope N' C s H fp) ms' tg g)
    (ht : ∀ C s H fp, PDts (compCx X scope N' C s H fp) ms' ifs c) (he : ∀ C s H fp, PD (compCx X scope N' C s H fp) ms' k elt el) (hz : GExt z g)
    (ck : compChk scope X.env.scope X.N N' ρ = true) (hp : pullChk ρ ms ms' = true) (hz' : z.all (fun i => decide (ρ[i]? = some none)) = true)
    (hsw : swapsWith (.ListComp elt [⟨tg, iter, ifs, 0⟩] scope cpos) (some (.Name x pos')) spos.line X.env = pure true := by rfl) (hs : ∀ x, foldedSetIterable iter X.env x = pure x := by intro _; rfl)
    (hf : X.fn x = true ∨ X.env.scope.names.lookup x = some .local := by first | exact .inl rfl | exact .inr rfl | assumption) :
    PDs X ms rk (.Assign [.Name x pos'] (.ListComp elt [⟨tg, iter, ifs, 0⟩] scope cpos) spos) (sSet i (eComp ρ it g c el)) := by
  obtain ⟨wi, pi, qi⟩ := hi
  exact ⟨_, ps_setcomp N' ρ hN hx hl hc pi (fun C s H fp => (hg C s H fp).pg) (fun C s H fp => (ht C s H fp).pts) (fun C s H fp => (he C s H fp).pe) ck hsw hs hf, ds_set hi' (de_comp qi (pullChk_ok hp) hz hz') .one_any⟩
theorem pds_owncomp {i : Nat} {x : Str} (N' : List Str) (ρ : List (Option Nat)) (ms' : List Nat) (hi' : decide (i ∈ ms) = true) (hN : X.N.Nodup) (hx : X.N[i]? = some x) (hl : Loc X.env.scope x) (hc : X.calm = true) (hi : PDi X ms false tg iter it) (hg : ∀ C s H fp, PDg (compCx X scope N' C s H fp) ms' tg g)
    (ht : ∀ C s H fp, PDts (compCx X scope N' C s H fp) ms' ifs c) (he : ∀ C s H fp, PD (compCx X scope N' C s H fp) ms' k elt el) (hz : GExt z g)
    (ck : compChk scope X.env.scope X.N N' ρ = true) (hp : pullChk ρ ms ms' = true) (hz' : z.all (fun i => decide (ρ[i]? = some none)) = true)
    (hsw : swapsWith (.ListComp elt [⟨tg, iter, ifs, 0⟩] scope cpos) (some (.Name x pos')) spos.line X.env = pure true := by rfl) (hs : ∀ x, foldedSetIterable iter X.env x = pure x := by intro _; rfl)
    (hf : X.fn x = true ∨ X.env.scope.names.lookup x = some .local := by first | exact .inl rfl | exact .inr rfl | assumption) :
    PDs X ms rk (.Assign [.Name x pos'] (.ListComp elt [⟨tg, iter, ifs, 0⟩] scope cpos) spos) (sSet i (eComp ρ it g c el)) := by
  obtain ⟨wi, pi, qi⟩ := hi
  exact ⟨_, ps_setcomp N' ρ hN hx hl hc pi (fun C s H fp => (hg C s H fp).pg) (fun C s H fp => (ht C s H fp).pts) (fun C s H fp => (he C s H fp).pe) ck hsw hs hf, ds_own hi' (de_comp qi (pullChk_ok hp) hz hz')⟩
end
/-! ### for -/
theorem pds_for {iter tg : Expr} {body : List Stmt} {it : Dt → Option (List Dv)} {g : Dv → Dt → Option Dt} {mb : SM} (hp : PassesOwn (model X.prog X.w) X.A X.env X.xe) (hc : X.calm = true) (hi : PDi X ms true tg iter it) (hg : PDg X ms tg g) (hb : PDss X ms rk body mb)
    (hs : ∀ x, foldedSetIterable iter X.env x = pure x := by intro _; rfl) : PDs X ms rk (.For tg iter body [] pos) (sFor it g mb) := by
  obtain ⟨wi, pi, qi⟩ := hi
  obtain ⟨tg', pg, qg⟩ := hg
  obtain ⟨tb, pb, qb⟩ := hb
  refine ⟨_, ps_for hp hc pi pg pb hs, fun δ σ H0 H D r R hm hq => ?_⟩
  obtain ⟨ds, hds, e⟩ := Option.bind_eq_some_iff.mp hm
  refine qi δ σ H0 H _ ds R hds fun J H1 s1 ok => ?_
  obtain ⟨hlim, ok⟩ := ok
  have hq1 := hq.step (Stp.of s1 .refl)
  refine ⟨fun i n σc Hc => n = ds.length - i ∧ i ≤ ds.length ∧ Stp ms σ H1 σc Hc ∧ ∃ δc, Rel X.K ms H0 δc σc Hc ∧ loopM g mb (ds.drop i) δc = some r, ⟨ds.length, by simp, Nat.zero_le _, .refl, δ, R.same s1, by simpa using e⟩, ?_⟩
  rintro i n σc Hc ⟨rfl, hi', sc, δc, Rc, hr⟩
  obtain ⟨go, yl, st⟩ := ok Hc (.inr ⟨rfl, sc.1⟩)
  by_cases hlt : i < ds.length
  · right
    refine ⟨go i hlt, fun σ' H' => Stp ms σ H1 σ' H' ∧ ∃ δc, Rel X.K ms H0 δc σ' H' ∧ loopM g mb (ds.drop (i + 1)) δc = some r, fun σ' H' ⟨a1, a2⟩ => ⟨ds.length - (i + 1), by omega, rfl, hlt, a1, a2⟩, fun x H' y => ?_⟩
    obtain ⟨rfl, d, hd, rx⟩ := yl i x H' hlt y
    have hdrop : ds.drop i = d :: ds.drop (i + 1) := by
      rw [List.drop_eq_getElem_cons hlt]
      congr 1
      rw [List.getElem?_eq_getElem hlt] at hd
      exact Option.some.inj hd
    rw [hdrop, loopM] at hr
    obtain ⟨δ1, h1, hr⟩ := Option.bind_eq_some_iff.mp hr
    obtain ⟨r1, h2, hr⟩ := Option.bind_eq_some_iff.mp hr
    have rx' : RepF X.K (fun a => ¬ Own ms σc a) H' x d := rx.mono fun a ha n z => by
      rcases sc.2 a z with q | q
      · exact n.1 q
      · exact n.2 q
    refine qg δc δ1 σc H0 H' x d _ Rc rx' h1 fun σ1 R1 so1 => ?_
    have sc1 := sc.tr (Stp.of (Same.refl H') so1)
    refine qb δ1 σ1 H0 H' _ r1 R1 h2 ?_
    cases r1 with
    | nx δ2 => exact fun σ2 H2 s2 R2 => ⟨sc1.tr s2, δ2, R2, hr⟩
    | ct δ2 => exact fun σ2 H2 s2 R2 => ⟨sc1.tr s2, δ2, R2, hr⟩
    | bk δ2 =>
      cases hr
      exact fun σ2 H2 s2 R2 => hq1 σ2 H2 (sc1.tr s2) R2
    | rt d' =>
      cases hr
      exact hq1
  · left
    have hie : i = ds.length := by omega
    subst hie
    rw [List.drop_length, loopM] at hr
    cases hr
    exact ⟨st, hq1 σc Hc sc Rc⟩
end
end L2

set_option maxHeartbeats 4000000
/-! Defs and their calls; isinstance, all, sum; changes in place: by data. -/
namespace L2
open PySem PySem.Spec PyProof.Rows
variable {KF : PySem.W.Frag}
/-! ### defs -/
def startD (n : Nat) (ds : List Dv) : Dt := ds.map some ++ List.replicate (n - ds.length) none
def callM (n np : Nat) (body : SM) (ds : List Dv) : Option Dv := if ds.length = np then (body (startD n ds)).bind fun r => match r with
  | .rt d => some d
  | _ => none
  else none
def spD (KF : PySem.W.Frag) (rk : Kd) (m : List Dv → Option Dv) : Sp := fun vs H Q _ => ∃ ds d, RepsF KF (fun _ => True) H vs ds ∧ m ds = some d ∧ ∀ v H', Same H H' → Got KF rk [] [] H H' v d → Q v H'
theorem Gots.to_bor {k : Kd} {ms : List Nat} {σ : St} {H H1 : Hp} {vs : List V} {ds : List Dv} (g : Gots KF k ms σ H H1 vs ds) : Gots KF .bor ms σ H H1 vs ds := g.bor.gots_bor
theorem Got.call {rk : Kd} {ms : List Nat} {σ : St} {H H1 : Hp} {v : V} {d : Dv} (g : Got KF rk [] [] H H1 v d) (n : rk ≠ .any) : Got KF rk ms σ H H1 v d := by
  cases rk with
  | any => exact absurd rfl n
  | _ => exact g
theorem rel_start {ms : List Nat} {H : Hp} {vs : List V} {ds : List Dv} {N : List Str} (r : RepsF KF (fun _ => True) H vs ds) (hms : ∀ i, i ∈ ms → ds.length ≤ i) (hn : ds.length ≤ N.length) : Rel KF ms H (startD N.length ds) (start N vs) H := by
  have hl := r.length
  have noOwn : ∀ i, i ∈ ms → ∀ v, (start N vs)[i]? ≠ some (some v) := fun i hi v e => by
    unfold start at e
    rw [List.getElem?_append_right (by rw [List.length_map]; have := hms i hi; omega)] at e
    have := List.mem_of_getElem? e
    rw [List.mem_replicate] at this
    exact nomatch this.2
  refine ⟨?_, fun _ _ z => z, fun i d hd => ?_, fun i hi v e => absurd e (noOwn i hi v)⟩
  · unfold start startD
    simp only [List.length_append, List.length_map, List.length_replicate, hl]
  · unfold startD at hd
    by_cases hi : i < ds.length
    · rw [List.getElem?_append_left (by rw [List.length_map]; exact hi), List.getElem?_map] at hd
      obtain ⟨d', e1, e2⟩ := Option.map_eq_some_iff.mp hd
      cases e2
      obtain ⟨v, hv, rv⟩ := r.get e1
      refine ⟨v, ?_, .inr ⟨fun z => ?_, rv.mono fun a _ _ z => ?_⟩⟩
      · unfold start
        rw [List.getElem?_append_left (by rw [List.length_map]; omega), List.getElem?_map, hv]
        rfl
      · have := hms i z; omega
      · obtain ⟨j, hj, e⟩ := z
        exact noOwn j hj _ e
    · rw [List.getElem?_append_right (by rw [List.length_map]; omega)] at hd
      have := List.mem_of_getElem? hd
      rw [List.mem_replicate] at this
      exact nomatch this.2
section
variable {P : Program} {w : World} {K : PySem.W.Frag} {mg : Str → Option Value} {base : Heap}
theorem def_ok {x qual : Str} {st : Stmt} {f : Addr} {fd : FuncData} {N ps : List Str} {k : Nat} {rk : Kd} {body : SM} (ms : List Nat) (F : Fun K x qual st f fd) (S : FnScope N ps (defScope st)) (hms : ms.all (fun i => decide (ps.length ≤ i)) = true) (hps : decide (ps.length ≤ N.length) = true)
    (hb : ∀ (cdv : Value) (A : Around) (outer : List Env) (s : Shared) (H : Hp) (E : XK), Room k (A.deeper (envOfC qual (defScope st) s.heap.objs.size f cdv)) → PDss (cxOf CX0 P w K mg base N qual (defScope st) f cdv A outer s H E).nox ms rk (defBody st) body) :
    FnOk P w K mg base CX0 (k + 1) f fd ps (spD K rk (callM N.length ps.length body)) := by
  have len : ∀ {ds : List Dv} {d : Dv}, callM N.length ps.length body ds = some d → ds.length = ps.length := fun {ds d} h => by
    unfold callM at h
    split at h
    · assumption
    · cases h
  refine F.ok (k := k) S (fun vs H Q E h => ?_) fun cdv A outer s H vs Q E hr h => ?_
  · obtain ⟨ds, d, r, hm, _⟩ := h
    rw [r.length]
    exact len hm
  · obtain ⟨ds, d, r, hm, hq⟩ := h
    obtain ⟨t, p, q⟩ := hb cdv A outer s H E hr
    refine ⟨t, p, ?_⟩
    have hl := len hm
    have hps' := of_decide_eq_true hps
    have R : Rel K ms H (startD N.length ds) (start N vs) H := rel_start r (fun i hi => by rw [hl]; exact of_decide_eq_true (List.all_eq_true.mp hms i hi)) (by omega)
    unfold callM at hm
    rw [if_pos hl] at hm
    obtain ⟨fl, hf, e⟩ := Option.bind_eq_some_iff.mp hm
    cases fl with
    | rt d' => cases e; exact q _ _ H H _ _ R hf fun v H' s g => hq v H' s g
    | _ => cases e
theorem FnOk.weaken {k : Nat} {f : Addr} {fd : FuncData} {ps : List Str} {sp sp' : Sp} (F : FnOk P w K mg base CX0 k f fd ps sp) (h : ∀ vs H Q E, sp' vs H Q E → sp vs H Q E) : FnOk P w K mg base CX0 k f fd ps sp' :=
  ⟨fun vs H Q E q => F.len vs H Q E (h vs H Q E q), fun A outer s H args us vs Q E hr e b v q => F.run A outer s H args us vs Q E hr e b v (h vs H Q E q)⟩
/-- the mirror may be told otherwise -/
theorem FnOk.mirror {k : Nat} {f : Addr} {fd : FuncData} {ps : List Str} {rk : Kd} {m m' : List Dv → Option Dv} (F : FnOk P w K mg base CX0 k f fd ps (spD K rk m)) (h : ∀ ds d, m' ds = some d → m ds = some d) : FnOk P w K mg base CX0 k f fd ps (spD K rk m') :=
  F.weaken fun vs H Q E ⟨ds, d, r, hm, hq⟩ => ⟨ds, d, r, h ds d hm, hq⟩
end
section
variable {X : Cx} {ms : List Nat} {rk k1 : Kd} {a : Expr} {es : List Expr} {ml : Dt → Option (List Dv)} {m : List Dv → Option Dv} {x : Str} {ps : List Str} {p pos : Pos}
theorem pd_def {k : Nat} (D : Def X.prog X.w X.K X.mg X.base k x ps (spD X.K rk m)) (hr : Room k X.A) (n : rk ≠ .any) (ha : PDa X ms k1 (a :: es) ml) (hg : Gl X x := by rfl)
    (hdb : (x == ("__debug__" : Str)) = false := by decide) (he : starEach (a :: es) X.env = (false, eval a X.env) :: starEach es X.env := by rfl) (hpl : (backTo pos (starEach es X.env)).any (·.1) = false := by rfl) :
    PD X ms rk (.Call (.Name x p) (a :: es) [] pos) (eCall m ml) := by
  obtain ⟨ta, pa, qa⟩ := ha
  refine ⟨_, pe_def D hr pa hg hdb he hpl, fun δ σ H0 H Q d R hm hq => ?_⟩
  obtain ⟨xs, hx, e⟩ := Option.bind_eq_some_iff.mp hm
  refine qa δ σ H0 H _ xs R hx fun vs H1 s1 g1 => ?_
  exact ⟨xs, d, g1.bor, e, fun v H' s g => hq v H' (s1.tr s) ((g.call n).back s1)⟩
end
/-! ### isinstance -/
def tyN : Dv → String
  | .non => "NoneType"
  | .bl _ => "bool"
  | .int _ => "int"
  | .str _ => "str"
  | .lst _ => "list"
  | .tup _ => "tuple"
  | .dic _ => "dict"
  | .scr _ => "list"
def Dv.isScr : Dv → Bool
  | .scr _ => true
  | _ => false
theorem RepF.ty {S : Addr → Prop} {H : Hp} {v : V} {d : Dv} (r : RepF KF S H v d) (hs : d.isScr = false) : TyOf KF H v (.type (tyN d)) := by
  cases r with
  | non => exact .non
  | bl b => exact .bl b
  | int i => exact .int i
  | str x => exact .str x
  | lst s h r => exact .lst h
  | tup h r => exact .tup h
  | dic s h r => exact .dT h
  | scr h => cases hs
def isiN (T C : String) : Bool := T == C || (T == "bool" && C == "int")
def tys : List String := ["NoneType", "bool", "int", "str", "list", "tuple", "dict"]
theorem tyN_in (d : Dv) : tyN d ∈ tys := by cases d <;> simp [tyN, tys]
def kitB (T C : String) : Option Bool := if (Value.type T == Value.type C) = true then some true else (if PySem.W.kitMeta C = true then (fastBuiltinMro T).map (·.contains (.type C)) else none)
theorem kit_all : (tys.all fun T => tys.all fun C => decide (kitB T C = some (isiN T C))) = true := by decide +kernel
theorem kit_of {K : PySem.W.Frag} {T C : String} (h : T ∈ tys) (h' : C ∈ tys) : PySem.W.kitOne K (.type T) (.type C) = some (isiN T C) := by
  have q := of_decide_eq_true (List.all_eq_true.mp (List.all_eq_true.mp kit_all T h) C h')
  exact q
def eIsi (C : String) (m : EM) : EM := fun δ => (m δ).bind fun d => if d.isScr = false then some (.bl (isiN (tyN d) C)) else none
section
variable {X : Cx} {ms : List Nat} {k : Kd} {a : Expr} {m : EM} {p p2 pos : Pos} {c : Str}
theorem pd_isi (C : String) (ha : PD X ms k a m) (hg : Gl X "isinstance") (hm : X.mg "isinstance" = none) (hcg : Gl X c) (hcm : X.mg c = none) (hcb : bootBuiltins c = some (.type C)) (hC : C ∈ tys := by decide) (hn : c ≠ "__name__" := by decide) (hd : (c == ("__debug__" : Str)) = false := by decide)
    (he : starEach [a, .Name c p2] X.env = (false, eval a X.env) :: starEach [.Name c p2] X.env := by rfl) (he2 : starEach [.Name c p2] X.env = (false, eval (.Name c p2) X.env) :: starEach [] X.env := by rfl) (hpl : (backTo pos (starEach [.Name c p2] X.env)).any (·.1) = false := by rfl) :
    PD X ms .imm (.Call (.Name "isinstance" p) [a, .Name c p2] [] pos) (eIsi C m) := by
  obtain ⟨ta, pa, qa⟩ := ha
  have pc : PE X (.Name c p2) (tC (.ty C)) := pe_bltn hcg hcm hcb rfl hn hd
  refine ⟨_, pe_callB call_isi hg hm bt_isinstance (pa_cons pa (pa_cons pc pa_nil he2) he) (by decide) (by decide) he hpl, fun δ σ H0 H Q d R hm hq => ?_⟩
  obtain ⟨x, hx, e⟩ := Option.bind_eq_some_iff.mp hm
  split at e
  case isFalse => cases e
  next hsc =>
  cases e
  refine qa δ σ H0 H _ x R hx fun v H1 s1 g1 => ?_
  exact ⟨v, C, _, _, rfl, g1.bor.ty hsc, kit_of (tyN_in x) hC, hq _ H1 s1 (RepF.bl _)⟩
end
/-! ### all, sum of a list -/
section
variable {X : Cx}
theorem vals_bls : ∀ {bs : List Bool} {us : List Value}, Vals (bs.map V.bl) us → us = bs.map Value.bool
  | [], us, r => by cases r; rfl
  | b :: bs, us, r => by
    cases r with
    | cons r1 r2 =>
      have e : _ = Value.bool b := r1
      rw [e, vals_bls r2]
      all_goals rfl
theorem all_range (bs : List Bool) : (List.range bs.length).all (fun i => bs.getD i true) = bs.all id := by
  have e : (List.range bs.length).map (fun i => bs.getD i true) = bs := by
    apply List.ext_getElem
    · simp
    · intro i h1 h2
      simp [List.getD, h2]
  conv => rhs; rw [← e]
  rw [List.all_map]
  rfl
theorem any_range (bs : List Bool) : (List.range bs.length).any (fun i => bs.getD i true) = bs.any id := by
  have e : (List.range bs.length).map (fun i => bs.getD i true) = bs := by
    apply List.ext_getElem
    · simp
    · intro i h1 h2
      simp [List.getD, h2]
  conv => rhs; rw [← e]
  rw [List.any_map]
  rfl
theorem PlainL.lt {h : Heap} {a : Addr} {its : Array Value} (p : PlainL h a its) : a < h.objs.size := by
  obtain ⟨o, n, ho, _⟩ := p
  exact Heap.lt_size ho
theorem call_all (hc : X.calm = true) : CallR X (.builtin "all") (fun xs H Q => ∃ (a : Addr) (bs : List Bool), xs = [.ref a] ∧ H a = some (.lst (bs.map V.bl)) ∧ Q (.bl (bs.all id)) H) := by
  intro pins s σ H xs us Q I r h
  obtain ⟨a, bs, rfl, hq, q⟩ := h
  obtain ⟨u, rfl, ru⟩ := r.one
  cases ru
  obtain ⟨its, rv, pl, hz⟩ := I.list (SqL.of hq)
  have ei := vals_bls rv
  subst ei
  have hlt := PlainL.lt pl
  refine call_all_walk (wpAny_pyIter_list pl.isList ?_)
  refine ⟨s.heap.objs.size, _, _, _, _, _, fun i => bs.getD i true, rfl, Walks.list (A := X.A.in1) (I.ok.hd hc) s.heap.objs.size a (Nat.ne_of_lt hlt) (bs.map Value.bool).toArray, ⟨⟨_, Heap.get?_push_size _ rfl, rfl, rfl⟩, ?_⟩, ?_, fun h' tk hk => ?_⟩
  · obtain ⟨o, n, ho, hcl, hdi, hd⟩ := pl
    exact ⟨o, Heap.get?_push_of_some _ ho, hcl, n, hd⟩
  · intro i v s' Q' E' hv hQ
    have hv' : (bs.map Value.bool)[i]? = some v := by simpa using hv
    rw [List.getElem?_map] at hv'
    cases e : bs[i]? with
    | none => rw [e] at hv'; cases hv'
    | some b =>
      rw [e] at hv'
      have hv'' : v = Value.bool b := (Option.some.inj hv').symm
      subst hv''
      have eb : bs.getD i true = b := by simp [List.getD, e]
      have hQ : Q' (bs.getD i true) s' := hQ
      rw [eb] at hQ
      exact wpAny_truthy_bool hQ
  · have es : (bs.map Value.bool).toArray.size = bs.length := by simp
    rw [es, all_range]
    refine ⟨.bl (bs.all id), H, I.kept (h' := h') (t' := tk) (fun b o e => hk b o (fun z => ?_) (Heap.get?_push_of_some _ e)), rfl, q⟩
    have z' : b = s.heap.objs.size := by simpa using z
    rw [z'] at e
    exact absurd (Heap.lt_size e) (Nat.lt_irrefl _)
theorem preSum_take (ns : List Int) : ∀ k, k ≤ ns.length → preSum (fun i => ns.getD i 0) k = (ns.take k).sum
  | 0, _ => by simp [preSum]
  | k + 1, h => by
    have hk : k < ns.length := h
    rw [preSum, preSum_take ns k (by omega), List.take_succ, List.sum_append, List.getElem?_eq_getElem hk]
    simp [List.getD, hk]
theorem preSum_list (ns : List Int) : preSum (fun i => ns.getD i 0) ns.length = ns.sum := by
  rw [preSum_take ns ns.length (Nat.le_refl _), List.take_length]
theorem call_sum (hc : X.calm = true) : CallR X (.builtin "sum") (fun xs H Q => ∃ (a : Addr) (ns : List Int), xs = [.ref a] ∧ SqL X.K H a (ns.map V.int) ∧ Q (.int ns.sum) H) := by
  intro pins s σ H xs us Q I r h
  obtain ⟨a, ns, rfl, hq, q⟩ := h
  obtain ⟨u, rfl, ru⟩ := r.one
  cases ru
  obtain ⟨its, rv, pl, hz⟩ := I.list hq
  have hlt := PlainL.lt pl
  have hl := rv.length
  rw [List.length_map] at hl
  refine call_sum_walkAnyS (wpAny_pyIter_list pl.isList ?_)
  refine ⟨s.heap.objs.size, _, _, _, _, _, _, fun i => ns.getD i 0, rfl, (Walks.list (A := X.A.in1) (I.ok.hd hc) s.heap.objs.size a (Nat.ne_of_lt hlt) its.toArray).toS, ⟨⟨_, Heap.get?_push_size _ rfl, rfl, rfl⟩, ?_⟩, ?_, ?_, fun s' t' mv => ?_⟩
  · obtain ⟨o, n, ho, hcl, hdi, hd⟩ := pl
    exact ⟨o, Heap.get?_push_of_some _ ho, hcl, n, hd⟩
  · intro b hb
    have hb' : b = s.heap.objs.size ∨ b = a := by simpa using hb
    show b < (s.heap.push _).objs.size
    rw [Heap.size_push]
    rcases hb' with e | e
    · rw [e]; exact Nat.lt_succ_self _
    · rw [e]; exact Nat.lt_succ_of_lt hlt
  · intro i v hv
    have hv' : its[i]? = some v := by simpa using hv
    have hi : i < its.length := (List.getElem?_eq_some_iff.mp hv').1
    have e : (ns.map V.int)[i]? = some (.int (ns.getD i 0)) := by
      rw [List.getElem?_map, List.getElem?_eq_getElem (by omega)]
      simp [List.getD, show i < ns.length by omega]
    obtain ⟨u, hu, ru⟩ := rv.get e
    rw [hv'] at hu
    cases hu
    exact ru
  · have es : its.toArray.size = ns.length := by simp [hl]
    rw [es, preSum_list]
    refine ⟨.int ns.sum, H, ?_, ⟨_, rfl⟩, q⟩
    obtain ⟨h', g', d', k', o'⟩ := s'
    have e1 : g' = s.gens := mv.gens
    have e2 : d' = s.drawn := mv.drawn
    have e3 : o' = s.os := mv.os
    subst e1 e2 e3
    refine I.kept (h' := h') (t' := k') fun b o e => mv.heap b o (fun z => ?_) (Heap.get?_push_of_some _ e)
    have z' : b = s.heap.objs.size := by simpa using z
    rw [z'] at e
    exact absurd (Heap.lt_size e) (Nat.lt_irrefl _)
end
def asBools : List Dv → Option (List Bool)
  | [] => some []
  | .bl b :: r => (asBools r).map (b :: ·)
  | _ :: _ => none
theorem asBools_eq : ∀ {ds : List Dv} {bs : List Bool}, asBools ds = some bs → ds = bs.map Dv.bl
  | [], _, h => by cases h; rfl
  | d :: r, bs, h => by
    cases d with
    | bl b =>
      obtain ⟨bs', h', rfl⟩ := Option.map_eq_some_iff.mp h
      rw [asBools_eq h']
      all_goals rfl
    | _ => cases h
def fAll : List Dv → Option Dv
  | [.lst ds] => (asBools ds).map fun bs => .bl (bs.all id)
  | _ => none
theorem cd_all : CallD KF (fun xs H Q => ∃ (a : Addr) (bs : List Bool), xs = [.ref a] ∧ H a = some (.lst (bs.map V.bl)) ∧ Q (.bl (bs.all id)) H) .imm fAll := by
  intro ms σ H vs ds d Q r e hq
  cases r with
  | nil => cases e
  | cons h r =>
    cases r with
    | cons _ _ => cases h <;> cases e
    | nil =>
      cases h with
      | lst s h q =>
        obtain ⟨bs, hb, rfl⟩ := Option.map_eq_some_iff.mp e
        have := asBools_eq hb
        subst this
        have := q.bls
        subst this
        exact ⟨_, bs, rfl, h, hq _ H (fun _ _ z => z) (RepF.bl _)⟩
      | _ => cases e
def asInts : List Dv → Option (List Int)
  | [] => some []
  | .int b :: r => (asInts r).map (b :: ·)
  | _ :: _ => none
theorem asInts_eq : ∀ {ds : List Dv} {bs : List Int}, asInts ds = some bs → ds = bs.map Dv.int
  | [], _, h => by cases h; rfl
  | d :: r, bs, h => by
    cases d with
    | int b =>
      obtain ⟨bs', h', rfl⟩ := Option.map_eq_some_iff.mp h
      rw [asInts_eq h']
      all_goals rfl
    | _ => cases h
theorem asInts_map : ∀ (bs : List Int), asInts (bs.map Dv.int) = some bs
  | [] => rfl
  | b :: r => by rw [List.map_cons, asInts, asInts_map r]; rfl
theorem asBools_map : ∀ (bs : List Bool), asBools (bs.map Dv.bl) = some bs
  | [] => rfl
  | b :: r => by rw [List.map_cons, asBools, asBools_map r]; rfl
def fSum : List Dv → Option Dv
  | [.scr ns] => some (.int ns.sum)
  | [.lst ds] => (asInts ds).map fun ns => .int ns.sum
  | _ => none
theorem cd_sum : CallD KF (fun xs H Q => ∃ (a : Addr) (ns : List Int), xs = [.ref a] ∧ SqL KF H a (ns.map V.int) ∧ Q (.int ns.sum) H) .imm fSum := by
  intro ms σ H vs ds d Q r e hq
  cases r with
  | nil => cases e
  | cons h r =>
    cases r with
    | cons _ _ => cases h <;> cases e
    | nil =>
      cases h with
      | lst s h q =>
        obtain ⟨bs, hb, rfl⟩ := Option.map_eq_some_iff.mp e
        have := asInts_eq hb
        subst this
        have := q.ints
        subst this
        exact ⟨_, bs, rfl, SqL.of h, hq _ H (fun _ _ z => z) (RepF.int _)⟩
      | scr h => cases e; exact ⟨_, _, rfl, h.sq, hq _ H (fun _ _ z => z) (RepF.int _)⟩
      | _ => cases e
def fAbs : List Dv → Option Dv
  | [.int i] => some (.int (if i < 0 then -i else i))
  | _ => none
theorem cd_abs : CallD KF (fun xs H Q => ∃ i, xs = [.int i] ∧ Q (.int (if i < 0 then -i else i)) H) .imm fAbs := by
  intro ms σ H vs ds d Q r e hq
  cases r with
  | nil => cases e
  | cons h r =>
    cases r with
    | cons _ _ => cases h <;> cases e
    | nil =>
      cases h with
      | int i => cases e; exact ⟨_, rfl, hq _ H (fun _ _ z => z) (RepF.int _)⟩
      | _ => cases e
def fInt : List Dv → Option Dv
  | [.int i] => some (.int i)
  | [.bl b] => some (.int (if b then 1 else 0))
  | _ => none
theorem cd_int : CallD KF (fun xs H Q => (∃ i, xs = [.int i] ∧ Q (.int i) H) ∨ ∃ k, xs = [.bl k] ∧ Q (.int (if k then 1 else 0)) H) .imm fInt := by
  intro ms σ H vs ds d Q r e hq
  cases r with
  | nil => cases e
  | cons h r =>
    cases r with
    | cons _ _ => cases h <;> cases e
    | nil =>
      cases h with
      | int i => cases e; exact .inl ⟨_, rfl, hq _ H (fun _ _ z => z) (RepF.int _)⟩
      | bl b => cases e; exact .inr ⟨_, rfl, hq _ H (fun _ _ z => z) (RepF.int _)⟩
      | _ => cases e
def fStr : List Dv → Option Dv
  | [.int i] => if i.natAbs < 2 ^ 1920 then some (.str (toString i)) else none
  | _ => none
theorem cd_str : CallD KF (fun xs H Q => ∃ i : Int, xs = [.int i] ∧ i.natAbs.log2 < 1920 ∧ Q (.str (toString i)) H) .imm fStr := by
  intro ms σ H vs ds d Q r e hq
  cases r with
  | nil => cases e
  | cons h r =>
    cases r with
    | cons _ _ => cases h <;> cases e
    | nil =>
      cases h with
      | int i =>
        simp only [fStr] at e
        split at e
        · next hi =>
          cases e
          refine ⟨_, rfl, ?_, hq _ H (fun _ _ z => z) (RepF.str _)⟩
          by_cases h0 : i.natAbs = 0
          · rw [h0]; decide
          · exact (Nat.log2_lt h0).mpr hi
        · cases e
      | _ => cases e
/-! ### changes in place -/
theorem Rel.mut {ms : List Nat} {H0 H : Hp} {δ : Dt} {σ : St} {i : Nat} {a : Addr} {d : Dv} {o : HO} (R : Rel KF ms H0 δ σ H) (hi : i ∈ ms) (hs : σ[i]? = some (some (.ref a))) (ho : ∀ xs, o ≠ .tup xs) (c : Cell KF (L2.upd H a o) a d) :
    Rel KF ms H0 (δ.set i (some d)) σ (L2.upd H a o) ∧ Stp ms σ H σ (L2.upd H a o) := by
  have oa : Own ms σ a := ⟨i, hi, hs⟩
  obtain ⟨oo, eo, no⟩ := R.own oa
  obtain ⟨d0, hd0⟩ := R.all i hi _ hs
  obtain ⟨v0, hv0, q0⟩ := R.get i d0 hd0
  rw [hs] at hv0; cases hv0
  obtain ⟨h0a, una⟩ : H0 a = none ∧ ∀ j, j ∈ ms → σ[j]? = some (some (.ref a)) → j = i := by
    rcases q0 with ⟨_, a', ea, h0, _, un⟩ | ⟨n, _⟩
    · cases ea; exact ⟨h0, un⟩
    · exact absurd hi n
  have st : Stays ms σ H (L2.upd H a o) := fun b ob hb n => by
    have ne : b ≠ a := fun z => n (z ▸ oa)
    rw [upd_ne ne]; exact hb
  have kpI : Keeps Imm H (L2.upd H a o) := fun b ob hb k => by
    rcases k with ⟨xs, rfl⟩ | ⟨c, u, rfl⟩ | k
    · rw [upd_ne (fun z => by rw [z, eo] at hb; cases hb; exact no.1 xs rfl)]; exact hb
    · rw [upd_ne (fun z => by rw [z, eo] at hb; cases hb; exact no.2 c u rfl)]; exact hb
    · exact k.elim
  refine ⟨⟨by rw [List.length_set]; exact R.len, fun b ob hb => ?_, fun j d' hd => ?_, fun j hj u e => ?_⟩, st, fun b h => .inl h⟩
  · rw [upd_ne (fun z => by rw [z, h0a] at hb; cases hb)]
    exact R.keep b ob hb
  · by_cases hj : i = j
    · subst hj
      have hl : i < δ.length := by
        have := (List.getElem?_eq_some_iff.mp hd).1
        rwa [List.length_set] at this
      rw [List.getElem?_set_self hl] at hd
      cases hd
      exact ⟨_, hs, .inl ⟨hi, a, rfl, h0a, c, una⟩⟩
    · rw [List.getElem?_set_ne hj] at hd
      obtain ⟨u, hu, q⟩ := R.get j d' hd
      refine ⟨u, hu, ?_⟩
      rcases q with ⟨mj, b, rfl, h0, c', un⟩ | ⟨nj, r'⟩
      · refine .inl ⟨mj, b, rfl, h0, c'.keep kpI fun ob hb => ?_, un⟩
        rw [upd_ne (fun z => hj (by subst z; exact (una j mj hu).symm))]
        exact hb
      · exact .inr ⟨nj, r'.keep (Stays.keeps R st)⟩
  · by_cases hij : i = j
    · subst hij
      have hl : i < δ.length := (List.getElem?_eq_some_iff.mp hd0).1
      exact ⟨d, List.getElem?_set_self hl⟩
    · obtain ⟨d', hd⟩ := R.all j hj u e
      exact ⟨d', by rw [List.getElem?_set_ne hij]; exact hd⟩
theorem Rel.getOwn {ms : List Nat} {H0 H : Hp} {δ : Dt} {σ : St} {i : Nat} {d : Dv} (R : Rel KF ms H0 δ σ H) (hi : i ∈ ms) (h : eVar i δ = some d) : ∃ a, σ[i]? = some (some (.ref a)) ∧ Cell KF H a d := by
  obtain ⟨v, hv, q⟩ := R.get i d (eVar_some h)
  rcases q with ⟨_, a, rfl, _, c, _⟩ | ⟨n, _⟩
  · exact ⟨a, hv, c⟩
  · exact absurd hi n
section
variable {X : Cx} {ms : List Nat} {rk k : Kd} {e : Expr} {m : EM} {i : Nat} {x : Str} {np apos cpos pos : Pos}
/-- x.append(e) -/
theorem pds_append (hi : decide (i ∈ ms) = true) (hx : PE X (.Name x np) (tVar i)) (h : PD X ms k e m) (he : starEach [e] X.env = (false, eval e X.env) :: starEach [] X.env := by rfl)
    (hbase : attributeBase (.Name x np) "append" X.env (eval (.Name x np) X.env) = eval (.Name x np) X.env := by rfl) (hline : (apos.endLine == cpos.line) = true := by rfl)
    (hfew : ((backTo cpos (starEach [e] X.env)).all (fun x => !x.1) && (backToKw cpos (keywordEach [] X.env)).all (fun x => x.1.isSome)
      && decide (([e] : List Expr).length + ([] : List Keyword).length + (if ([] : List Keyword).isEmpty then 0 else 1) < 30)) = true := by rfl)
    (hplain : (backTo cpos (starEach [] X.env)).any (·.1) = false := by rfl)
    (hs : swapsWith (.Call (.Attribute (.Name x np) "append" apos) [e] [] cpos) none pos.line X.env = pure false := by rfl) :
    PDs X ms rk (.Expr (.Call (.Attribute (.Name x np) "append" apos) [e] [] cpos) pos) (sApp i m) := by
  obtain ⟨te, p, q⟩ := h
  refine ⟨_, ps_expr (pe_bm PySem.F.plainAttrs_list PySem.F.slot_list_append PySem.F.type_list_append mt_append hx (pa_cons p pa_nil he) hbase hfew hline he hplain) hs, fun δ σ H0 H D r R hm hq => ?_⟩
  have hi := of_decide_eq_true hi
  obtain ⟨d, hd, e1⟩ := Option.bind_eq_some_iff.mp hm
  obtain ⟨z, hz, e2⟩ := Option.bind_eq_some_iff.mp e1
  cases z with
  | lst ds =>
    simp only at e2
    split at e2
    · next hl =>
      cases e2
      obtain ⟨a, hsa, xs, hxs, rx⟩ := R.getOwn hi hz
      refine ⟨_, hsa, .inl ⟨rfl, xs, SqL.of hxs⟩, ?_⟩
      refine q δ σ H0 H _ d R hd fun v H1 s1 g1 => ?_
      have R1 := R.same s1
      obtain ⟨a', hsa', xs', hxs', rx'⟩ := R1.getOwn hi hz
      rw [hsa] at hsa'; cases hsa'
      refine ⟨a, xs', v, rfl, rfl, hxs', by rw [rx'.length]; exact Nat.lt_trans hl.1 (by decide), ?_⟩
      have nt : ∀ ys, HO.lst (xs' ++ [v]) ≠ .tup ys := fun _ z => nomatch z
      have kp : Keeps Imm H1 (L2.upd H1 a (.lst (xs' ++ [v]))) := fun b ob hb k => by
        rcases k with ⟨ys, rfl⟩ | ⟨c, u, rfl⟩ | k
        · rw [upd_ne (fun z => by rw [z, hxs'] at hb; cases hb)]; exact hb
        · rw [upd_ne (fun z => by rw [z, hxs'] at hb; cases hb)]; exact hb
        · exact k.elim
      have c : Cell X.K (L2.upd H1 a (.lst (xs' ++ [v]))) a (.lst (ds ++ [d])) := ⟨_, upd_same, (rx'.keep kp).append (.cons ((g1.imm hl.2).keep kp) .nil)⟩
      obtain ⟨R2, st⟩ := R1.mut hi hsa nt c
      exact hq σ _ ((Stp.of s1 .refl).tr st) R2
    · cases e2
  | _ => cases e2
end
end L2

set_option maxHeartbeats 4000000
/-! The law's own head; how mirrors are reckoned. -/
namespace L2
open PySem PySem.Spec PyProof.Rows
variable {KF : PySem.W.Frag}
theorem ne_one : Kd.one ≠ .any := fun z => nomatch z
theorem ne_imm : Kd.imm ≠ .any := fun z => nomatch z
theorem ne_frh : Kd.frh ≠ .any := fun z => nomatch z
theorem ne_bor : Kd.bor ≠ .any := fun z => nomatch z
theorem law_sp {H : Hp} {a : Addr} {ns : List Int} {m : List Dv → Option Dv} {E : XK} (hO : Only H) (hS : SqL KF H a (ns.map V.int)) (h : m [.scr ns] = some (.bl true)) : spD KF .imm m [.ref a] H (fun v _ => v = .bl true) E := by
  refine ⟨[.scr ns], _, .cons (.scr ?_) .nil, h, fun v H' s g => ?_⟩
  · rcases hS with (hS | ⟨o, hS⟩) | hS
    · rcases hO a with e | ⟨o, xs, e⟩
      · rw [hS] at e; cases e
      · rw [hS] at e; cases e
    · exact .inl ⟨o, hS⟩
    · exact .inr hS
  · cases g; rfl
/-! ### reckoning: each combinator as a function of what its parts come to (nothing under a binder) -/
def opB (f : Dv → Dv → Option Dv) : Option Dv → Option Dv → Option Dv
  | some x, some y => f x y
  | _, _ => none
def unB (f : Dv → Option Dv) : Option Dv → Option Dv
  | some x => f x
  | _ => none
def immB : Option Dv → Option Dv
  | some x => if x.imm = true then some x else none
  | _ => none
def andB (a : Option Dv) (b : EM) (δ : Dt) : Option Dv := match a with
  | some (.bl true) => b δ
  | some (.bl false) => some (.bl false)
  | _ => none
def orB (a : Option Dv) (b : EM) (δ : Dt) : Option Dv := match a with
  | some (.bl true) => some (.bl true)
  | some (.bl false) => b δ
  | _ => none
def ifB {α : Type} (c : Option Bool) (a b : Dt → Option α) (δ : Dt) : Option α := match c with
  | some true => a δ
  | some false => b δ
  | none => none
def tofB : Option Dv → Option Bool
  | some (.bl b) => some b
  | _ => none
def tandB (c : Option Bool) (b : Dt → Option Bool) (δ : Dt) : Option Bool := match c with
  | some true => b δ
  | some false => some false
  | none => none
def torB (c : Option Bool) (b : Dt → Option Bool) (δ : Dt) : Option Bool := match c with
  | some true => some true
  | some false => b δ
  | none => none
def tnotB : Option Bool → Option Bool
  | some b => some (!b)
  | none => none
def consB : Option Dv → Option (List Dv) → Option (List Dv)
  | some x, some xs => some (x :: xs)
  | _, _ => none
def tupB : Option (List Dv) → Option Dv
  | some xs => if xs.length ≤ lim then some (.tup xs) else none
  | none => none
def lstB : Option (List Dv) → Option Dv
  | some xs => if xs.length ≤ lim then some (.lst xs) else none
  | none => none
def lstIB : Option (List Dv) → Option Dv
  | some xs => if xs.length ≤ lim ∧ imms xs = true then some (.lst xs) else none
  | none => none
def callB (f : List Dv → Option Dv) : Option (List Dv) → Option Dv
  | some xs => f xs
  | none => none
def slB : Option Dv → Option (Option Int) → Option (Option Int) → Option Dv
  | some (.lst ds), some l, some h => if imms (cutD ds l h) = true then some (.lst (cutD ds l h)) else none
  | some (.scr ns), some l, some h => some (.lst (cutD (ns.map Dv.int) l h))
  | _, _, _ => none
def partB : Option Dv → Option (Option Int)
  | some (.int i) => some (some i)
  | _ => none
def seqB (a : Option Fl) (b : SM) : Option Fl := match a with
  | some (.nx δ) => b δ
  | some r => some r
  | none => none
def setB (i : Nat) (a : Option Dv) (δ : Dt) : Option Fl := match a with
  | some d => some (.nx (δ.set i (some d)))
  | none => none
def retB : Option Dv → Option Fl
  | some d => some (.rt d)
  | none => none
def dropB (a : Option Dv) (δ : Dt) : Option Fl := match a with
  | some _ => some (.nx δ)
  | none => none
def forB (a : Option (List Dv)) (g : Dv → Dt → Option Dt) (b : SM) (δ : Dt) : Option Fl := match a with
  | some ds => loopM g b ds δ
  | none => none
def compB (a : Option (List Dv)) (g : Dv → Dt → Option Dt) (c : Dt → Option Bool) (el : EM) (δ : Dt) : Option Dv := match a with
  | some ds => (compM g c el δ ds).map .lst
  | none => none
def appB (i : Nat) (a x : Option Dv) (δ : Dt) : Option Fl := match a, x with
  | some d, some (.lst ds) => if ds.length < lim ∧ d.imm = true then some (.nx (δ.set i (some (.lst (ds ++ [d]))))) else none
  | _, _ => none
def endB : Option Fl → Option Dv
  | some (.rt d) => some d
  | _ => none
theorem eOp_b {f : Dv → Dv → Option Dv} {a b : EM} {δ : Dt} : eOp f a b δ = opB f (a δ) (b δ) := by unfold eOp; cases a δ <;> cases b δ <;> rfl
theorem eUn_b {f : Dv → Option Dv} {a : EM} {δ : Dt} : eUn f a δ = unB f (a δ) := by unfold eUn; cases a δ <;> rfl
theorem eImm_b {a : EM} {δ : Dt} : eImm a δ = immB (a δ) := by unfold eImm; cases a δ <;> rfl
theorem eAnd_b {a b : EM} {δ : Dt} : eAnd a b δ = andB (a δ) b δ := by
  unfold eAnd andB
  cases a δ with
  | none => rfl
  | some x => cases x with
    | bl b => cases b <;> rfl
    | _ => rfl
theorem eOr_b {a b : EM} {δ : Dt} : eOr a b δ = orB (a δ) b δ := by
  unfold eOr orB
  cases a δ with
  | none => rfl
  | some x => cases x with
    | bl b => cases b <;> rfl
    | _ => rfl
theorem eIf_b {c : Dt → Option Bool} {a b : EM} {δ : Dt} : eIf c a b δ = ifB (c δ) a b δ := by
  unfold eIf ifB
  cases c δ with
  | none => rfl
  | some x => cases x <;> rfl
theorem sIf_b {c : Dt → Option Bool} {a b : SM} {δ : Dt} : sIf c a b δ = ifB (c δ) a b δ := by
  unfold sIf ifB
  cases c δ with
  | none => rfl
  | some x => cases x <;> rfl
theorem tOf_b {a : EM} {δ : Dt} : tOf a δ = tofB (a δ) := by
  unfold tOf tofB asBool
  cases a δ with
  | none => rfl
  | some x => cases x <;> rfl
theorem tand_b {a b : Dt → Option Bool} {δ : Dt} : tand a b δ = tandB (a δ) b δ := by
  unfold tand tandB
  cases a δ with
  | none => rfl
  | some x => cases x <;> rfl
theorem tor_b {a b : Dt → Option Bool} {δ : Dt} : tor a b δ = torB (a δ) b δ := by
  unfold tor torB
  cases a δ with
  | none => rfl
  | some x => cases x <;> rfl
theorem tnot_b {a : Dt → Option Bool} {δ : Dt} : tnot a δ = tnotB (a δ) := by unfold tnot; cases a δ <;> rfl
theorem tyes_b {δ : Dt} : tyes δ = some true := rfl
theorem aNil_b {δ : Dt} : aNil δ = some [] := rfl
theorem aCons_b {a : EM} {r : Dt → Option (List Dv)} {δ : Dt} : aCons a r δ = consB (a δ) (r δ) := by unfold aCons; cases a δ <;> cases r δ <;> rfl
theorem eTup_b {a : Dt → Option (List Dv)} {δ : Dt} : eTup a δ = tupB (a δ) := by unfold eTup; cases a δ <;> rfl
theorem eLst_b {a : Dt → Option (List Dv)} {δ : Dt} : eLst a δ = lstB (a δ) := by unfold eLst; cases a δ <;> rfl
theorem eLstI_b {a : Dt → Option (List Dv)} {δ : Dt} : eLstI a δ = lstIB (a δ) := by unfold eLstI; cases a δ <;> rfl
theorem eCall_b {f : List Dv → Option Dv} {a : Dt → Option (List Dv)} {δ : Dt} : eCall f a δ = callB f (a δ) := by unfold eCall; cases a δ <;> rfl
theorem eSl_b {m : EM} {lo hi : Dt → Option (Option Int)} {δ : Dt} : eSl m lo hi δ = slB (m δ) (lo δ) (hi δ) := by
  unfold eSl
  cases m δ with
  | none => rfl
  | some x => cases lo δ <;> cases hi δ <;> cases x <;> rfl
theorem oNone_b {δ : Dt} : oNone δ = some none := rfl
theorem oSome_b {m : EM} {δ : Dt} : oSome m δ = partB (m δ) := by
  unfold oSome
  cases m δ with
  | none => rfl
  | some x => cases x <;> rfl
theorem sSeq_b {a b : SM} {δ : Dt} : sSeq a b δ = seqB (a δ) b := by
  unfold sSeq
  cases a δ with
  | none => rfl
  | some x => cases x <;> rfl
theorem sSet_b {i : Nat} {m : EM} {δ : Dt} : sSet i m δ = setB i (m δ) δ := by unfold sSet; cases m δ <;> rfl
theorem sRet_b {m : EM} {δ : Dt} : sRet m δ = retB (m δ) := by unfold sRet; cases m δ <;> rfl
theorem sDrop_b {m : EM} {δ : Dt} : sDrop m δ = dropB (m δ) δ := by unfold sDrop; cases m δ <;> rfl
theorem sSkip_b {δ : Dt} : sSkip δ = some (.nx δ) := rfl
theorem sFor_b {it : Dt → Option (List Dv)} {g : Dv → Dt → Option Dt} {b : SM} {δ : Dt} : sFor it g b δ = forB (it δ) g b δ := by unfold sFor; cases it δ <;> rfl
theorem eComp_b {ρ : List (Option Nat)} {it : Dt → Option (List Dv)} {g : Dv → Dt → Option Dt} {c : Dt → Option Bool} {el : EM} {δ : Dt} : eComp ρ it g c el δ = compB (it δ) g c el (pullD ρ δ) := by unfold eComp; cases it δ <;> rfl
theorem sApp_b {i : Nat} {m : EM} {δ : Dt} : sApp i m δ = appB i (m δ) (eVar i δ) δ := by
  unfold sApp
  cases m δ with
  | none => rfl
  | some d =>
    cases eVar i δ with
    | none => rfl
    | some x => cases x <;> rfl
theorem eC_b {d : Dv} {δ : Dt} : eC d δ = some d := rfl
theorem callM_b {n np : Nat} {body : SM} {ds : List Dv} (h : ds.length = np) : callM n np body ds = endB (body (startD n ds)) := by
  unfold callM
  rw [if_pos h]
  cases body (startD n ds) with
  | none => rfl
  | some x => cases x <;> rfl
theorem eVar_z {d : Option Dv} {δ : Dt} : eVar 0 (d :: δ) = d := rfl
theorem eVar_s {i : Nat} {d : Option Dv} {δ : Dt} : eVar (i + 1) (d :: δ) = eVar i δ := rfl
theorem opB_s {f : Dv → Dv → Option Dv} {x y : Dv} : opB f (some x) (some y) = f x y := rfl
theorem unB_s {f : Dv → Option Dv} {x : Dv} : unB f (some x) = f x := rfl
theorem immB_s {x : Dv} (h : x.imm = true) : immB (some x) = some x := by show (if _ then _ else _) = _; rw [if_pos h]
theorem andB_t {b : EM} {δ : Dt} : andB (some (.bl true)) b δ = b δ := rfl
theorem andB_f {b : EM} {δ : Dt} : andB (some (.bl false)) b δ = some (.bl false) := rfl
theorem orB_t {b : EM} {δ : Dt} : orB (some (.bl true)) b δ = some (.bl true) := rfl
theorem orB_f {b : EM} {δ : Dt} : orB (some (.bl false)) b δ = b δ := rfl
theorem ifB_t {α : Type} {a b : Dt → Option α} {δ : Dt} : ifB (some true) a b δ = a δ := rfl
theorem ifB_f {α : Type} {a b : Dt → Option α} {δ : Dt} : ifB (some false) a b δ = b δ := rfl
theorem tofB_s {b : Bool} : tofB (some (.bl b)) = some b := rfl
theorem tandB_t {b : Dt → Option Bool} {δ : Dt} : tandB (some true) b δ = b δ := rfl
theorem tandB_f {b : Dt → Option Bool} {δ : Dt} : tandB (some false) b δ = some false := rfl
theorem torB_t {b : Dt → Option Bool} {δ : Dt} : torB (some true) b δ = some true := rfl
theorem torB_f {b : Dt → Option Bool} {δ : Dt} : torB (some false) b δ = b δ := rfl
theorem tnotB_s {b : Bool} : tnotB (some b) = some (!b) := rfl
theorem consB_s {x : Dv} {xs : List Dv} : consB (some x) (some xs) = some (x :: xs) := rfl
theorem tupB_s {xs : List Dv} (h : xs.length ≤ lim) : tupB (some xs) = some (.tup xs) := by show (if _ then _ else _) = _; rw [if_pos h]
theorem lstB_s {xs : List Dv} (h : xs.length ≤ lim) : lstB (some xs) = some (.lst xs) := by show (if _ then _ else _) = _; rw [if_pos h]
theorem lstIB_s {xs : List Dv} (h : xs.length ≤ lim) (h' : imms xs = true) : lstIB (some xs) = some (.lst xs) := by show (if xs.length ≤ lim ∧ imms xs = true then _ else _) = _; rw [if_pos ⟨h, h'⟩]
theorem callB_s {f : List Dv → Option Dv} {xs : List Dv} : callB f (some xs) = f xs := rfl
theorem partB_s {i : Int} : partB (some (.int i)) = some (some i) := rfl
theorem slB_scr {ns : List Int} {l h : Option Int} : slB (some (.scr ns)) (some l) (some h) = some (.lst (cutD (ns.map Dv.int) l h)) := rfl
theorem slB_lst {ds : List Dv} {l h : Option Int} (hi : imms (cutD ds l h) = true) : slB (some (.lst ds)) (some l) (some h) = some (.lst (cutD ds l h)) := by
  show (if imms (cutD ds l h) = true then _ else _) = _
  rw [if_pos hi]
theorem seqB_n {δ : Dt} {b : SM} : seqB (some (.nx δ)) b = b δ := rfl
theorem seqB_r {d : Dv} {b : SM} : seqB (some (.rt d)) b = some (.rt d) := rfl
theorem setB_s {i : Nat} {d : Dv} {δ : Dt} : setB i (some d) δ = some (.nx (δ.set i (some d))) := rfl
theorem retB_s {d : Dv} : retB (some d) = some (.rt d) := rfl
theorem dropB_s {d : Dv} {δ : Dt} : dropB (some d) δ = some (.nx δ) := rfl
theorem forB_s {ds : List Dv} {g : Dv → Dt → Option Dt} {b : SM} {δ : Dt} : forB (some ds) g b δ = loopM g b ds δ := rfl
theorem compB_s {ds : List Dv} {g : Dv → Dt → Option Dt} {c : Dt → Option Bool} {el : EM} {δ : Dt} : compB (some ds) g c el δ = (compM g c el δ ds).map .lst := rfl
theorem endB_r {d : Dv} : endB (some (.rt d)) = some d := rfl
theorem appB_s {i : Nat} {d : Dv} {ds : List Dv} {δ : Dt} (h : ds.length < lim) (h' : d.imm = true) : appB i (some d) (some (.lst ds)) δ = some (.nx (δ.set i (some (.lst (ds ++ [d]))))) := by
  show (if ds.length < lim ∧ d.imm = true then _ else _) = _
  rw [if_pos ⟨h, h'⟩]
theorem gN_b {i : Nat} {d : Dv} {δ : Dt} : gN i d δ = some (δ.set i (some d)) := rfl
theorem dAdd_i {i j : Int} : dAdd (.int i) (.int j) = some (.int (i + j)) := rfl
theorem dSub_i {i j : Int} : dSub (.int i) (.int j) = some (.int (i - j)) := rfl
theorem dMod_i {i j : Int} (h : 0 < j) : dMod (.int i) (.int j) = some (.int (i % j)) := by show (if 0 < j then _ else _) = _; rw [if_pos h]
theorem dDiv_i {i j : Int} (h : 0 < j ∧ j < 1073741824) : dDiv (.int i) (.int j) = some (.int (i / j)) := by show (if 0 < j ∧ j < 1073741824 then _ else _) = _; rw [if_pos h]
theorem dMul_i {i j : Int} (h : mulOk i j = true) : dMul (.int i) (.int j) = some (.int (i * j)) := by show (if mulOk i j = true then _ else _) = _; rw [if_pos h]
theorem dLt_i {i j : Int} : dLt (.int i) (.int j) = some (.bl (decide (i < j))) := rfl
theorem dLe_i {i j : Int} : dLe (.int i) (.int j) = some (.bl (decide (i ≤ j))) := rfl
theorem dGt_i {i j : Int} : dGt (.int i) (.int j) = some (.bl (decide (j < i))) := rfl
theorem dGe_i {i j : Int} : dGe (.int i) (.int j) = some (.bl (decide (j ≤ i))) := rfl
theorem dNeg_i {i : Int} : dNeg (.int i) = some (.int (-i)) := rfl
theorem dNot_b {b : Bool} : dNot (.bl b) = some (.bl (!b)) := rfl
theorem dEq_i {i j : Int} : dEq (.int i) (.int j) = some (.bl (decide (i = j))) := by
  have h : eqOk (.int i) (.int j) = true := by
    show (true && true && decide (min 1 1 ≤ 60)) = true
    rfl
  show (if eqOk _ _ = true then _ else _) = _
  rw [if_pos h]
  rfl
theorem dNe_i {i j : Int} : dNe (.int i) (.int j) = some (.bl (!decide (i = j))) := by
  have h : eqOk (.int i) (.int j) = true := by
    show (true && true && decide (min 1 1 ≤ 60)) = true
    rfl
  show (if eqOk _ _ = true then _ else _) = _
  rw [if_pos h]
  rfl
theorem dEq_b {i j : Bool} : dEq (.bl i) (.bl j) = some (.bl (i == j)) := by
  have h : eqOk (.bl i) (.bl j) = true := by
    show (true && true && decide (min 1 1 ≤ 60)) = true
    rfl
  show (if eqOk _ _ = true then _ else _) = _
  rw [if_pos h]
  rfl
theorem dIx_l {xs : List Dv} {i : Int} : dIx (.lst xs) (.int i) = atI xs i := rfl
theorem dIx_t {xs : List Dv} {i : Int} : dIx (.tup xs) (.int i) = atI xs i := rfl
theorem dIx_s {xs : List Int} {i : Int} : dIx (.scr xs) (.int i) = (atI xs i).map .int := rfl
theorem atI_of {α : Type} {xs : List α} {i : Int} {x : α} (h0 : 0 ≤ i) (h : xs[i.toNat]? = some x) : atI xs i = some x := by
  have e : ((i.toNat : Nat) : Int) = i := Int.toNat_of_nonneg h0
  have := atI_nat h
  rwa [e] at this
theorem atI_int {zs : List Int} {i : Int} (h0 : 0 ≤ i) (h1 : i < (zs.length : Int)) : atI (zs.map Dv.int) i = some (.int (zs.getD i.toNat 0)) := by
  refine atI_of h0 ?_
  have hlt : i.toNat < zs.length := by omega
  rw [List.getElem?_map, List.getElem?_eq_getElem hlt]
  simp [List.getD, hlt]
theorem imms_int : ∀ (zs : List Int), imms (zs.map Dv.int) = true
  | [] => rfl
  | z :: r => by rw [List.map_cons, imms, imms_int r]; rfl
theorem lim_eq : lim = 100000 := (rfl)
theorem lenc {α : Type} {a : α} {l : List α} : (a :: l).length = l.length + 1 := (rfl)
theorem lenn {α : Type} : ([] : List α).length = 0 := (rfl)
theorem imm_int {i : Int} : Dv.imm (.int i) = true := (rfl)
theorem imm_bl {i : Bool} : Dv.imm (.bl i) = true := (rfl)
theorem imm_str {i : Str} : Dv.imm (.str i) = true := (rfl)
theorem imm_non : Dv.imm .non = true := (rfl)
theorem imm_tup {ds : List Dv} : Dv.imm (.tup ds) = imms ds := (rfl)
theorem imms_nil : imms [] = true := (rfl)
theorem imms_cons {d : Dv} {ds : List Dv} : imms (d :: ds) = (d.imm && imms ds) := (rfl)
theorem imms_append : ∀ {a b : List Dv}, imms (a ++ b) = (imms a && imms b)
  | [], b => rfl
  | x :: a, b => by rw [List.cons_append, imms, imms, imms_append, Bool.and_assoc]
theorem fLen_l {ds : List Dv} : fLen [.lst ds] = some (.int ds.length) := rfl
theorem fLen_t {ds : List Dv} : fLen [.tup ds] = some (.int ds.length) := rfl
theorem fLen_s {ds : List Int} : fLen [.scr ds] = some (.int ds.length) := rfl
theorem fTuple_l {ds : List Dv} (h : imms ds = true) : fTuple [.lst ds] = some (.tup ds) := by show (if _ then _ else _) = _; rw [if_pos h]
theorem fTuple_t {ds : List Dv} (h : imms ds = true) : fTuple [.tup ds] = some (.tup ds) := by show (if _ then _ else _) = _; rw [if_pos h]
theorem fList_l {ds : List Dv} (h : imms ds = true) : fList [.lst ds] = some (.lst ds) := by show (if _ then _ else _) = _; rw [if_pos h]
theorem fList_t {ds : List Dv} (h : imms ds = true) : fList [.tup ds] = some (.lst ds) := by show (if _ then _ else _) = _; rw [if_pos h]
theorem fList_s {ds : List Int} : fList [.scr ds] = some (.lst (ds.map .int)) := rfl
theorem dCatI_l {a b : List Dv} (h : a.length + b.length ≤ lim) (h' : imms (a ++ b) = true) : dCatI (.lst a) (.lst b) = some (.lst (a ++ b)) := by
  unfold dCatI
  show (Option.bind (if a.length + b.length ≤ lim then _ else _) _) = _
  rw [if_pos h]
  show (if imms (a ++ b) = true then _ else _) = _
  rw [if_pos h']
theorem eIsi_b {C : String} {m : EM} {δ : Dt} : eIsi C m δ = (match m δ with | some d => if d.isScr = false then some (.bl (isiN (tyN d) C)) else none | none => none) := by unfold eIsi; cases m δ <;> rfl
theorem iL_l {m : EM} {δ : Dt} {ds : List Dv} (h : m δ = some (.lst ds)) (hl : ds.length ≤ lim) : iL m δ = some ds := by unfold iL; rw [h]; show (if _ then _ else _) = _; rw [if_pos hl]
theorem iT_t {m : EM} {δ : Dt} {ds : List Dv} (h : m δ = some (.tup ds)) (hl : ds.length ≤ lim) : iT m δ = some ds := by unfold iT; rw [h]; show (if _ then _ else _) = _; rw [if_pos hl]
theorem iR1_i {m : EM} {δ : Dt} {j : Int} (h : m δ = some (.int j)) (hl : 0 ≤ j ∧ j ≤ 100000) : iR1 m δ = some (rangeD 0 j.toNat) := by
  unfold iR1; rw [h]
  show (if _ then _ else _) = _
  rw [if_pos]
  have : (lim : Int) = 100000 := rfl
  omega
theorem dEq_s {x y : Str} {b : Bool} (h : eqOk (.str x) (.str y) = true) (h' : (x == y) = b) : dEq (.str x) (.str y) = some (.bl b) := by
  show (if eqOk _ _ = true then _ else _) = _
  rw [if_pos h, ← h']
  rfl
theorem cutD_from {α : Type} (xs : List α) (k : Nat) (h : k ≤ xs.length) : cutD xs (some (k : Int)) none = xs.drop k := by
  unfold cutD
  rw [HT.sIx_nat, HT.sIx_none, Nat.min_eq_left h]
  exact List.take_of_length_le (by rw [List.length_drop]; omega)
theorem cutD_to {α : Type} (xs : List α) (k : Nat) : cutD xs none (some (k : Int)) = xs.take k := by
  unfold cutD
  rw [HT.sIx_none, HT.sIx_nat, List.drop_zero, Nat.sub_zero]
  by_cases h : k ≤ xs.length
  · rw [Nat.min_eq_left h]
  · rw [Nat.min_eq_right (by omega), List.take_of_length_le (Nat.le_refl _), List.take_of_length_le (by omega)]
theorem cutD_map {α β : Type} (f : α → β) (xs : List α) (l h : Option Int) : cutD (xs.map f) l h = (cutD xs l h).map f := by
  unfold cutD
  rw [List.length_map, ← List.map_drop, ← List.map_take]
theorem mulOk_l {i j : Int} (h : -(2 ^ 63) ≤ i ∧ i ≤ 2 ^ 63) : mulOk i j = true := by
  unfold mulOk
  rw [decide_eq_true (show i.natAbs < 2 ^ 64 by omega)]
  rfl
theorem mulOk_r {i j : Int} (h : -(2 ^ 63) ≤ j ∧ j ≤ 2 ^ 63) : mulOk i j = true := by
  unfold mulOk
  rw [decide_eq_true (show j.natAbs < 2 ^ 64 by omega), Bool.or_true]
  rfl
/-! ### loops and comprehensions by what holds between two turns -/
theorem loop_inv {g : Dv → Dt → Option Dt} {body : SM} : ∀ {ds : List Dv} {δ : Dt} (I : Nat → Dt → Prop), I 0 δ → (∀ i d δ, ds[i]? = some d → I i δ → ∃ δ1 δ2, g d δ = some δ1 ∧ body δ1 = some (.nx δ2) ∧ I (i + 1) δ2) → ∃ δ', loopM g body ds δ = some (.nx δ') ∧ I ds.length δ'
  | [], δ, I, h0, _ => ⟨δ, rfl, h0⟩
  | d :: ds, δ, I, h0, st => by
    obtain ⟨δ1, δ2, h1, h2, h3⟩ := st 0 d δ rfl h0
    obtain ⟨δ', e, h⟩ := loop_inv (ds := ds) (δ := δ2) (fun i => I (i + 1)) h3 fun i d δ hd hi => st (i + 1) d δ (by simpa using hd) hi
    refine ⟨δ', ?_, h⟩
    rw [loopM, h1]
    show Option.bind (body δ1) _ = _
    rw [h2]
    exact e
def celM (g : Dv → Dt → Option Dt) (c : Dt → Option Bool) (el : EM) (δ : Dt) (d : Dv) : Option (Option Dv) := match g d δ with
  | none => none
  | some δ1 => match c δ1 with
    | none => none
    | some false => some none
    | some true => match el δ1 with
      | none => none
      | some x => if x.imm = true then some (some x) else none
theorem compM_map {α : Type} {g : Dv → Dt → Option Dt} {c : Dt → Option Bool} {el : EM} {δ : Dt} (enc : α → Dv) (f : α → Option Dv) : ∀ (xs : List α), (∀ x, x ∈ xs → celM g c el δ (enc x) = some (f x)) → compM g c el δ (xs.map enc) = some (xs.filterMap f)
  | [], _ => rfl
  | x :: xs, h => by
    have h0 := h x List.mem_cons_self
    have ih := compM_map enc f xs fun y hy => h y (List.mem_cons_of_mem _ hy)
    rw [List.map_cons, compM, List.filterMap_cons]
    unfold celM at h0
    cases e1 : g (enc x) δ with
    | none => rw [e1] at h0; cases h0
    | some δ1 =>
      rw [e1] at h0
      simp only at h0
      rw [Option.bind_some]
      cases e2 : c δ1 with
      | none => rw [e2] at h0; cases h0
      | some b =>
        rw [e2] at h0
        rw [Option.bind_some]
        cases b with
        | false =>
          have e4 : none = f x := Option.some.inj h0
          rw [if_neg Bool.false_ne_true, ih, ← e4]
        | true =>
          simp only at h0
          rw [if_pos rfl]
          cases e3 : el δ1 with
          | none => rw [e3] at h0; cases h0
          | some y =>
            rw [e3] at h0
            simp only at h0
            rw [Option.bind_some]
            split at h0
            · next hi =>
              have e4 := Option.some.inj h0
              rw [if_pos hi, ih, ← e4]
              rfl
            · cases h0
def cel3 : Option Dv → Option (Option Dv)
  | some x => if x.imm = true then some (some x) else none
  | none => none
def cel2 (b : Option Bool) (el : EM) (δ : Dt) : Option (Option Dv) := match b with
  | some true => cel3 (el δ)
  | some false => some none
  | none => none
def celB (o : Option Dt) (c : Dt → Option Bool) (el : EM) : Option (Option Dv) := match o with
  | some δ => cel2 (c δ) el δ
  | none => none
theorem celM_b {g : Dv → Dt → Option Dt} {c : Dt → Option Bool} {el : EM} {δ : Dt} {d : Dv} : celM g c el δ d = celB (g d δ) c el := by
  unfold celM celB cel2 cel3
  cases g d δ with
  | none => rfl
  | some δ1 =>
    simp only
    cases c δ1 with
    | none => rfl
    | some b => cases b <;> first | rfl | (cases el δ1 <;> rfl)
theorem celB_s {δ : Dt} {c : Dt → Option Bool} {el : EM} : celB (some δ) c el = cel2 (c δ) el δ := rfl
theorem cel2_t {δ : Dt} {el : EM} : cel2 (some true) el δ = cel3 (el δ) := rfl
theorem cel2_f {δ : Dt} {el : EM} : cel2 (some false) el δ = some none := rfl
theorem cel3_s {x : Dv} (h : x.imm = true) : cel3 (some x) = some (some x) := by show (if _ then _ else _) = _; rw [if_pos h]
theorem comp_ints {g : Dv → Dt → Option Dt} {c : Dt → Option Bool} {el : EM} {δ : Dt} : ∀ (ds : List Dv), (∀ d, d ∈ ds → ∃ z : Int, celM g c el δ d = some (some (.int z))) → ∃ zs : List Int, zs.length = ds.length ∧ compM g c el δ ds = some (zs.map .int)
  | [], _ => ⟨[], rfl, rfl⟩
  | d :: ds, h => by
    obtain ⟨z, hz⟩ := h d List.mem_cons_self
    obtain ⟨zs, hl, e⟩ := comp_ints ds fun y hy => h y (List.mem_cons_of_mem _ hy)
    refine ⟨z :: zs, by rw [List.length_cons, List.length_cons, hl], ?_⟩
    have := compM_map (g := g) (c := c) (el := el) (δ := δ) (fun x : Dv => x) (fun _ => some (.int z)) [d] (by
      intro x hx
      rw [List.mem_singleton.mp hx]
      exact hz)
    unfold celM at hz
    rw [compM]
    cases e1 : g d δ with
    | none => rw [e1] at hz; cases hz
    | some δ1 =>
      rw [e1] at hz
      simp only at hz
      rw [Option.bind_some]
      cases e2 : c δ1 with
      | none => rw [e2] at hz; cases hz
      | some b =>
        rw [e2] at hz
        rw [Option.bind_some]
        cases b with
        | false => cases hz
        | true =>
          simp only at hz
          rw [if_pos rfl]
          cases e3 : el δ1 with
          | none => rw [e3] at hz; cases hz
          | some y =>
            rw [e3] at hz
            simp only at hz
            rw [Option.bind_some]
            split at hz
            · next hi =>
              have e4 := Option.some.inj (Option.some.inj hz)
              rw [if_pos hi, e, e4]
              rfl
            · cases hz
theorem mem_rangeD {lo : Int} {n : Nat} {d : Dv} (h : d ∈ rangeD lo n) : ∃ i : Nat, i < n ∧ d = .int (lo + (i : Int)) := by
  unfold rangeD at h
  obtain ⟨i, hi, e⟩ := List.mem_map.mp h
  exact ⟨i, List.mem_range.mp hi, e.symm⟩
theorem dPow_i {i j : Int} (h : 0 ≤ j ∧ j ≤ 1000 ∧ i.natAbs < 2 ^ 2048) : dPow (.int i) (.int j) = some (.int (i ^ j.toNat)) := by show (if 0 ≤ j ∧ j ≤ 1000 ∧ i.natAbs < 2 ^ 2048 then _ else _) = _; rw [if_pos h]
/-- an item of a written list of ints -/
theorem atI_some {α : Type} {xs : List α} {i : Int} (h0 : 0 ≤ i) (h1 : i < (xs.length : Int)) : ∃ x, x ∈ xs ∧ atI xs i = some x := by
  have hlt : i.toNat < xs.length := by omega
  exact ⟨xs[i.toNat], List.getElem_mem hlt, atI_of h0 (by simp [hlt])⟩
def lp2 (r : Option Fl) (g : Dv → Dt → Option Dt) (body : SM) (ds : List Dv) : Option Fl := match r with
  | some (.nx δ) => loopM g body ds δ
  | some (.ct δ) => loopM g body ds δ
  | some (.bk δ) => some (.nx δ)
  | some (.rt d) => some (.rt d)
  | none => none
def lp1 (o : Option Dt) (g : Dv → Dt → Option Dt) (body : SM) (ds : List Dv) : Option Fl := match o with
  | some δ => lp2 (body δ) g body ds
  | none => none
theorem loop_c {g : Dv → Dt → Option Dt} {body : SM} {d : Dv} {ds : List Dv} {δ : Dt} : loopM g body (d :: ds) δ = lp1 (g d δ) g body ds := by
  rw [loopM]
  cases g d δ with
  | none => rfl
  | some δ1 =>
    show Option.bind (body δ1) _ = lp2 (body δ1) g body ds
    unfold lp2
    cases body δ1 with
    | none => rfl
    | some r => cases r <;> rfl
theorem loop_n {g : Dv → Dt → Option Dt} {body : SM} {δ : Dt} : loopM g body [] δ = some (.nx δ) := rfl
theorem lp1_s {g : Dv → Dt → Option Dt} {body : SM} {ds : List Dv} {δ : Dt} : lp1 (some δ) g body ds = lp2 (body δ) g body ds := rfl
theorem lp2_n {g : Dv → Dt → Option Dt} {body : SM} {ds : List Dv} {δ : Dt} : lp2 (some (.nx δ)) g body ds = loopM g body ds δ := rfl
theorem lp2_c {g : Dv → Dt → Option Dt} {body : SM} {ds : List Dv} {δ : Dt} : lp2 (some (.ct δ)) g body ds = loopM g body ds δ := rfl
theorem lp2_b {g : Dv → Dt → Option Dt} {body : SM} {ds : List Dv} {δ : Dt} : lp2 (some (.bk δ)) g body ds = some (.nx δ) := rfl
theorem lp2_r {g : Dv → Dt → Option Dt} {body : SM} {ds : List Dv} {d : Dv} : lp2 (some (.rt d)) g body ds = some (.rt d) := rfl
theorem gT_b {n : Nat} {g : List Dv → Dt → Option Dt} {ds : List Dv} {δ : Dt} (h : ds.length = n) : gT n g (.tup ds) δ = g ds δ := by
  show (if ds.length = n then _ else _) = _
  rw [if_pos h]
def gcB (o : Option Dt) (r : List Dv → Dt → Option Dt) (ds : List Dv) : Option Dt := match o with
  | some δ => r ds δ
  | none => none
theorem gC_b {g : Dv → Dt → Option Dt} {r : List Dv → Dt → Option Dt} {d : Dv} {ds : List Dv} {δ : Dt} : gC g r (d :: ds) δ = gcB (g d δ) r ds := by
  show Option.bind (g d δ) (r ds) = _
  cases g d δ <;> rfl
theorem gcB_s {r : List Dv → Dt → Option Dt} {ds : List Dv} {δ : Dt} : gcB (some δ) r ds = r ds δ := rfl
theorem gZ_b {δ : Dt} : gZ [] δ = some δ := rfl
def ilB : Option Dv → Option (List Dv)
  | some (.lst ds) => if ds.length ≤ lim then some ds else none
  | some (.scr ns) => if ns.length ≤ lim then some (ns.map .int) else none
  | _ => none
def iliB : Option Dv → Option (List Dv)
  | some (.lst ds) => if ds.length ≤ lim ∧ imms ds = true then some ds else none
  | _ => none
def itB : Option Dv → Option (List Dv)
  | some (.tup ds) => if ds.length ≤ lim then some ds else none
  | _ => none
def itiB : Option Dv → Option (List Dv)
  | some (.tup ds) => if ds.length ≤ lim ∧ imms ds = true then some ds else none
  | _ => none
def ir1B : Option Dv → Option (List Dv)
  | some (.int j) => if -(2 ^ 60) ≤ j ∧ j ≤ lim then some (rangeD 0 j.toNat) else none
  | _ => none
def ir2B : Option Dv → Option Dv → Option (List Dv)
  | some (.int i), some (.int j) => if -(2 ^ 60) ≤ i ∧ i ≤ 2 ^ 60 ∧ j ≤ i + lim ∧ -(2 ^ 61) ≤ j then some (rangeD i (j - i).toNat) else none
  | _, _ => none
theorem iL_b {m : EM} {δ : Dt} : iL m δ = ilB (m δ) := by
  unfold iL
  cases m δ with
  | none => rfl
  | some x => cases x <;> rfl
theorem iLI_b {m : EM} {δ : Dt} : iLI m δ = iliB (m δ) := by
  unfold iLI
  cases m δ with
  | none => rfl
  | some x => cases x <;> rfl
theorem iT_b {m : EM} {δ : Dt} : iT m δ = itB (m δ) := by
  unfold iT
  cases m δ with
  | none => rfl
  | some x => cases x <;> rfl
theorem iTI_b {m : EM} {δ : Dt} : iTI m δ = itiB (m δ) := by
  unfold iTI
  cases m δ with
  | none => rfl
  | some x => cases x <;> rfl
theorem iR1_b {m : EM} {δ : Dt} : iR1 m δ = ir1B (m δ) := by
  unfold iR1
  cases m δ with
  | none => rfl
  | some x => cases x <;> rfl
theorem iR2_b {m n : EM} {δ : Dt} : iR2 m n δ = ir2B (m δ) (n δ) := by
  unfold iR2
  cases m δ with
  | none => rfl
  | some x =>
    cases n δ with
    | none => cases x <;> rfl
    | some y => cases x <;> cases y <;> rfl
theorem ilB_l {ds : List Dv} (h : ds.length ≤ lim) : ilB (some (.lst ds)) = some ds := by show (if _ then _ else _) = _; rw [if_pos h]
theorem ilB_s {ds : List Int} (h : ds.length ≤ lim) : ilB (some (.scr ds)) = some (ds.map .int) := by show (if _ then _ else _) = _; rw [if_pos h]
theorem iliB_l {ds : List Dv} (h : ds.length ≤ lim) (h' : imms ds = true) : iliB (some (.lst ds)) = some ds := by show (if ds.length ≤ lim ∧ imms ds = true then _ else _) = _; rw [if_pos ⟨h, h'⟩]
theorem itB_t {ds : List Dv} (h : ds.length ≤ lim) : itB (some (.tup ds)) = some ds := by show (if _ then _ else _) = _; rw [if_pos h]
theorem itiB_t {ds : List Dv} (h : ds.length ≤ lim) (h' : imms ds = true) : itiB (some (.tup ds)) = some ds := by show (if ds.length ≤ lim ∧ imms ds = true then _ else _) = _; rw [if_pos ⟨h, h'⟩]
theorem ir1B_i {j : Int} (h : -(2 ^ 60) ≤ j ∧ j ≤ 100000) : ir1B (some (.int j)) = some (rangeD 0 j.toNat) := by
  show (if -(2 ^ 60) ≤ j ∧ j ≤ (lim : Int) then _ else _) = _
  rw [if_pos (show -(2 ^ 60) ≤ j ∧ j ≤ (lim : Int) from h)]
theorem ir2B_i {i j : Int} (h : -(2 ^ 60) ≤ i ∧ i ≤ 2 ^ 60 ∧ j ≤ i + 100000 ∧ -(2 ^ 61) ≤ j) : ir2B (some (.int i)) (some (.int j)) = some (rangeD i (j - i).toNat) := by
  show (if -(2 ^ 60) ≤ i ∧ i ≤ 2 ^ 60 ∧ j ≤ i + (lim : Int) ∧ -(2 ^ 61) ≤ j then _ else _) = _
  rw [if_pos (show -(2 ^ 60) ≤ i ∧ i ≤ 2 ^ 60 ∧ j ≤ i + (lim : Int) ∧ -(2 ^ 61) ≤ j from h)]
end L2

set_option maxHeartbeats 4000000
namespace K10
open PySem L2
def top (i : Nat) : Stmt := PySem.Challenge.pw_deltahouse_k10_a_row_passes.main.body.getD i (.Pass ⟨0, 0, 0, 0⟩)
structure Blt (mg : Str → Option Value) : Prop where
  bool_ : mg "bool" = none
  isinstance_ : mg "isinstance" = none
  len_ : mg "len" = none
  range_ : mg "range" = none
  tuple_ : mg "tuple" = none
abbrev st_passes : Stmt := top 1
theorem sc_passes : FnScope ["row", "check", "number", "word"] ["row", "check"] (defScope st_passes) := ⟨rfl, rfl, rfl, by decide +kernel, rfl, by decide +kernel, by decide +kernel⟩
abbrev st_w_stream : Stmt := top 3
theorem sc_w_stream : FnScope ["_law_cell", "_law_many", "_law_found", "_law_number_here", "_law_k"] ["_law_cell", "_law_many"] (defScope st_w_stream) := ⟨rfl, rfl, rfl, by decide +kernel, rfl, by decide +kernel, by decide +kernel⟩
abbrev st_w_row : Stmt := top 4
theorem sc_w_row : FnScope ["_law_xs", "_law_width", "_law_span", "_law_far", "_law_row_here", "_law_at"] ["_law_xs"] (defScope st_w_row) := ⟨rfl, rfl, rfl, by decide +kernel, rfl, by decide +kernel, by decide +kernel⟩
abbrev st_w_number : Stmt := top 5
theorem sc_w_number : FnScope ["_law_xs", "_law_row_here", "_law_at", "_law_near", "_law_beside"] ["_law_xs", "_law_row_here", "_law_at"] (defScope st_w_number) := ⟨rfl, rfl, rfl, by decide +kernel, rfl, by decide +kernel, by decide +kernel⟩
abbrev st_w_alike : Stmt := top 6
theorem sc_w_alike : FnScope ["_law_found", "_law_due"] ["_law_found", "_law_due"] (defScope st_w_alike) := ⟨rfl, rfl, rfl, by decide +kernel, rfl, by decide +kernel, by decide +kernel⟩
abbrev st_law : Stmt := top 7
theorem sc_law : FnScope ["_law_script", "_law_cell", "_law_xs", "_law_row_here", "_law_at", "_law_other", "_law_number_here", "_law_here", "_law_word", "_law_due"] ["_law_script"] (defScope st_law) := ⟨rfl, rfl, rfl, by decide +kernel, rfl, by decide +kernel, by decide +kernel⟩
def b_passes : SM :=
  (sSeq (sSet 2 (eOp dIx (eVar 0) (eOp dIx (eVar 1) (eC (.int 0)))))
    (sSeq (sSet 3 (eOp dIx (eVar 1) (eC (.int 1))))
    (sSeq (sIf (tOf (eOp dEq (eVar 3) (eC (.str "is"))))
      (sRet (eOp dEq (eVar 2) (eOp dIx (eVar 1) (eC (.int 2)))))
      sSkip)
    (sSeq (sIf (tOf (eOp dEq (eVar 3) (eC (.str "below"))))
      (sRet (eOp dLt (eVar 2) (eOp dIx (eVar 1) (eC (.int 2)))))
      sSkip)
    (sSeq (sIf (tOf (eOp dEq (eVar 3) (eC (.str "above"))))
      (sRet (eOp dGt (eVar 2) (eOp dIx (eVar 1) (eC (.int 2)))))
      sSkip)
    (sRet (eOp dEq (eVar 2) (eOp dIx (eVar 0) (eOp dIx (eVar 1) (eC (.int 2)))))))))))
def M_passes : List Dv → Option Dv := callM 4 2 b_passes
def b_w_stream : SM :=
  (sSeq (sSet 2 (eLstI aNil))
    (sSeq (sSet 3 (eOp dAdd (eOp dMod (eVar 0) (eC (.int 2147483647))) (eC (.int 48271))))
    (sSeq (sFor (iR1 (eOp dAdd (eVar 1) (eC (.int 1)))) (gN 4)
      (sSeq (sSet 3 (eOp dMod (eOp dAdd (eOp dAdd (eOp dMul (eVar 3) (eVar 3)) (eOp dMul (eC (.int 48271)) (eVar 3))) (eVar 4)) (eC (.int 2147483647))))
    (sApp 2 (eVar 3))))
    (sRet (eSl (eVar 2) (oSome (eC (.int 1))) oNone)))))
def M_w_stream : List Dv → Option Dv := callM 5 2 b_w_stream
def b_w_row : SM :=
  (sSeq (sSet 1 (eOp dAdd (eC (.int 1)) (eOp dMod (eOp dIx (eVar 0) (eC (.int 0))) (eC (.int 8)))))
    (sSeq (sSet 2 (eOp dIx (eLstI (aCons (eC (.int 3)) (aCons (eC (.int 12)) (aCons (eC (.int 2000003)) aNil)))) (eOp dMod (eOp dIx (eVar 0) (eC (.int 1))) (eC (.int 3)))))
    (sSeq (sSet 3 (eOp dIx (eLstI (aCons (eC (.int 0)) (aCons (eC (.int 0)) (aCons (eOp dPow (eC (.int 10)) (eC (.int 59))) (aCons (eOp dSub (eC (.int 0)) (eOp dPow (eOp dPow (eC (.int 10)) (eC (.int 33))) (eC (.int 6)))) (aCons (eOp dPow (eOp dPow (eC (.int 7)) (eC (.int 58))) (eC (.int 4))) aNil)))))) (eOp dMod (eOp dIx (eVar 0) (eC (.int 2))) (eC (.int 5)))))
    (sSeq (sSet 4 (eComp [none, some 3, some 2, some 0] (iR1 (eVar 1)) (gN 0) tyes (eOp dAdd (eOp dSub (eOp dMod (eOp dIx (eVar 3) (eOp dAdd (eC (.int 4)) (eVar 0))) (eVar 2)) (eC (.int 1))) (eVar 1))))
    (sSeq (sIf (tOf (eOp dEq (eOp dMod (eOp dIx (eVar 0) (eC (.int 3))) (eC (.int 3))) (eC (.int 1))))
      (sSeq (sSet 5 (eOp dMod (eOp dDiv (eOp dIx (eVar 0) (eC (.int 3))) (eC (.int 3))) (eVar 1)))
    (sSet 4 (eComp [none, some 5, some 4] (iR1 (eVar 1)) (gN 0) tyes (eIf (tOf (eOp dEq (eVar 0) (eVar 1))) (eOp dIx (eVar 2) (eVar 1)) (eOp dIx (eVar 2) (eC (.int 0)))))))
      sSkip)
    (sRet (eCall fTuple (aCons (eVar 4) aNil))))))))
def M_w_row : List Dv → Option Dv := callM 6 1 b_w_row
def b_w_number : SM :=
  (sSeq (sSet 3 (eOp dSub (eOp dAdd (eOp dIx (eVar 1) (eVar 2)) (eOp dMod (eOp dIx (eVar 0) (eC (.int 14))) (eC (.int 5)))) (eC (.int 2))))
    (sSeq (sSet 4 (eOp dSub (eOp dAdd (eOp dIx (eVar 1) (eOp dMod (eOp dIx (eVar 0) (eC (.int 15))) (eCall fLen (aCons (eVar 1) aNil)))) (eOp dMod (eOp dDiv (eOp dIx (eVar 0) (eC (.int 14))) (eC (.int 5))) (eC (.int 3)))) (eC (.int 1))))
    (sRet (eOp dIx (eLstI (aCons (eVar 3) (aCons (eVar 3) (aCons (eOp dIx (eVar 1) (eVar 2)) (aCons (eOp dSub (eC (.int 0)) (eOp dIx (eVar 1) (eVar 2))) (aCons (eVar 4) aNil)))))) (eOp dMod (eOp dIx (eVar 0) (eC (.int 13))) (eC (.int 5)))))))
def M_w_number : List Dv → Option Dv := callM 5 3 b_w_number
def b_w_alike : SM :=
  (sRet (eImm (eAnd (eIsi "bool" (eVar 0)) (eOp dEq (eVar 0) (eVar 1)))))
def M_w_alike : List Dv → Option Dv := callM 2 2 b_w_alike
def b_law : SM :=
  (sSeq (sFor (iL (eOp dCatI (eSl (eVar 0) oNone (oSome (eC (.int 40)))) (eLstI (aCons (eC (.int 11)) aNil)))) (gN 1)
      (sSeq (sSet 2 (eCall M_w_stream (aCons (eVar 1) (aCons (eC (.int 16)) aNil))))
    (sSeq (sSet 3 (eCall M_w_row (aCons (eVar 2) aNil)))
    (sSeq (sSet 4 (eOp dMod (eOp dIx (eVar 2) (eC (.int 12))) (eCall fLen (aCons (eVar 3) aNil))))
    (sSeq (sSet 5 (eOp dMod (eOp dDiv (eOp dIx (eVar 2) (eC (.int 12))) (eC (.int 8))) (eCall fLen (aCons (eVar 3) aNil))))
    (sSeq (sSet 6 (eCall M_w_number (aCons (eVar 2) (aCons (eVar 3) (aCons (eVar 4) aNil)))))
    (sSeq (sSet 7 (eOp dIx (eVar 3) (eVar 4)))
    (sSeq (sFor (iL (eLstI (aCons (eTup (aCons (eC (.str "is")) (aCons (eOp dEq (eVar 7) (eVar 6)) aNil))) (aCons (eTup (aCons (eC (.str "below")) (aCons (eOp dLt (eVar 7) (eVar 6)) aNil))) (aCons (eTup (aCons (eC (.str "above")) (aCons (eOp dGt (eVar 7) (eVar 6)) aNil))) aNil))))) (gT 2 (gC (gN 8) (gC (gN 9) gZ)))
      (sIf (tnot (tOf (eCall M_w_alike (aCons (eCall M_passes (aCons (eVar 3) (aCons (eTup (aCons (eVar 4) (aCons (eVar 8) (aCons (eVar 6) aNil)))) aNil))) (aCons (eVar 9) aNil)))))
      (sRet (eC (.bl false)))
      sSkip))
    (sSeq (sIf (tnot (tOf (eCall M_w_alike (aCons (eCall M_passes (aCons (eVar 3) (aCons (eTup (aCons (eVar 4) (aCons (eC (.str "same")) (aCons (eVar 5) aNil)))) aNil))) (aCons (eOp dEq (eVar 7) (eOp dIx (eVar 3) (eVar 5))) aNil)))))
      (sRet (eC (.bl false)))
      sSkip)
    (sIf (tnot (tOf (eCall M_w_alike (aCons (eCall M_passes (aCons (eVar 3) (aCons (eTup (aCons (eVar 5) (aCons (eC (.str "same")) (aCons (eVar 4) aNil)))) aNil))) (aCons (eOp dEq (eVar 7) (eOp dIx (eVar 3) (eVar 5))) aNil)))))
      (sRet (eC (.bl false)))
      sSkip))))))))))
    (sRet (eC (.bl true))))
def M_law : List Dv → Option Dv := callM 10 1 b_law
section
variable {P : Program} {w : World} {K : PySem.W.Frag} {mg : Str → Option Value} {base : Heap}
theorem ok_passes {f : Addr} {fd : FuncData} (F : Fun K "passes" "passes" st_passes f fd) (B : Blt mg) :
    FnOk P w K mg base CX0 1 f fd ["row", "check"] (spD K .imm M_passes) :=
  def_ok (rk := .imm) (k := 0) [] F sc_passes rfl rfl fun cdv A outer s H E hr =>
      (pdss_cons (pds_set (i := 2) rfl (pd_ix (pd_var 0 rfl (pv 0)) (pd_ix (pd_var 1 rfl (pv 1)) pd_int (fun _ _ => rfl)) (fun _ _ => rfl)) (Kd.le.refl _) sc_passes.nd rfl (Or.inl rfl))
      (pdss_cons (pds_set (i := 3) rfl (pd_ix (pd_var 1 rfl (pv 1)) pd_int (fun _ _ => rfl)) (Kd.le.refl _) sc_passes.nd rfl (Or.inl rfl))
      (pdss_cons (pds_if (pdt_cmp (op_eqF hr.units) opd_eq (pd_var 3 rfl (pv 3)) pd_str (nomark _))
        (pdss_one (pds_ret (pd_cmp (op_eqF hr.units) opd_eq (pd_var 2 rfl (pv 2)) (pd_ix (pd_var 1 rfl (pv 1)) pd_int (fun _ _ => rfl)) (nomark _)) (Kd.le.refl _) ne_imm))
        pdss_nil)
      (pdss_cons (pds_if (pdt_cmp (op_eqF hr.units) opd_eq (pd_var 3 rfl (pv 3)) pd_str (nomark _))
        (pdss_one (pds_ret (pd_cmp op_lt opd_lt (pd_var 2 rfl (pv 2)) (pd_ix (pd_var 1 rfl (pv 1)) pd_int (fun _ _ => rfl)) (nomark _)) (Kd.le.refl _) ne_imm))
        pdss_nil)
      (pdss_cons (pds_if (pdt_cmp (op_eqF hr.units) opd_eq (pd_var 3 rfl (pv 3)) pd_str (nomark _))
        (pdss_one (pds_ret (pd_cmp op_gt opd_gt (pd_var 2 rfl (pv 2)) (pd_ix (pd_var 1 rfl (pv 1)) pd_int (fun _ _ => rfl)) (nomark _)) (Kd.le.refl _) ne_imm))
        pdss_nil)
      (pdss_one (pds_ret (pd_cmp (op_eqF hr.units) opd_eq (pd_var 2 rfl (pv 2)) (pd_ix (pd_var 0 rfl (pv 0)) (pd_ix (pd_var 1 rfl (pv 1)) pd_int (fun _ _ => rfl)) (fun _ _ => rfl)) (nomark _)) (Kd.le.refl _) ne_imm)))))))
theorem ok_w_stream {f : Addr} {fd : FuncData} (F : Fun K "_law_stream" "_law_stream" st_w_stream f fd) (B : Blt mg) :
    FnOk P w K mg base CX0 1 f fd ["_law_cell", "_law_many"] (spD K .one M_w_stream) :=
  def_ok (rk := .one) (k := 0) [2] F sc_w_stream rfl rfl fun cdv A outer s H E hr =>
      (pdss_cons (pds_own (i := 2) rfl (pd_lstI (k := .bor) pda_nil) sc_w_stream.nd rfl (Or.inl rfl))
      (pdss_cons (pds_set (i := 3) rfl (PD.le (pd_op op_add opd_add (pd_op op_mod opd_mod (pd_var 0 rfl (pv 0)) pd_int) pd_int) Kd.le.imm_any) (Kd.le.refl _) sc_w_stream.nd rfl (Or.inl rfl))
      (pdss_cons (pds_for PassesOwn.never rfl (pdi_range1 rfl B.range_ (pd_op op_add opd_add (pd_var 1 rfl (pv 1)) pd_int)) (pdg_name rfl (pg_name (i := 4) sc_w_stream.nd rfl (Or.inl rfl)))
      (pdss_cons (pds_set (i := 3) rfl (PD.le (pd_op op_mod opd_mod (pd_op op_add opd_add (pd_op op_add opd_add (pd_op op_mulB opd_mul (pd_var 3 rfl (pv 3)) (pd_var 3 rfl (pv 3))) (pd_op op_mulB opd_mul pd_int (pd_var 3 rfl (pv 3)))) (pd_var 4 rfl (pv 4))) pd_int) Kd.le.imm_any) (Kd.le.refl _) sc_w_stream.nd rfl (Or.inl rfl))
      (pdss_one (pds_append rfl (pv 2) (pd_var 3 rfl (pv 3))))))
      (pdss_one (pds_ret (pd_sl (pd_varB 2 (pv 2)) (pdo_some pd_int) pdo_none) (Kd.le.refl _) ne_one)))))
theorem ok_w_row {f : Addr} {fd : FuncData} (F : Fun K "_law_row" "_law_row" st_w_row f fd) (B : Blt mg) :
    FnOk P w K mg base CX0 1 f fd ["_law_xs"] (spD K .imm M_w_row) :=
  def_ok (rk := .imm) (k := 0) [] F sc_w_row rfl rfl fun cdv A outer s H E hr =>
      (pdss_cons (pds_set (i := 1) rfl (PD.le (pd_op op_add opd_add pd_int (pd_op op_mod opd_mod (pd_ix (pd_var 0 rfl (pv 0)) pd_int (fun _ _ => rfl)) pd_int)) Kd.le.imm_any) (Kd.le.refl _) sc_w_row.nd rfl (Or.inl rfl))
      (pdss_cons (pds_set (i := 2) rfl (PD.le (pd_ix (pd_lstI (k := .bor) (pda_cons (PD.le pd_int (Kd.le.bor _)) (pda_cons (PD.le pd_int (Kd.le.bor _)) (pda_cons (PD.le pd_int (Kd.le.bor _)) pda_nil)))) (pd_op op_mod opd_mod (pd_ix (pd_var 0 rfl (pv 0)) pd_int (fun _ _ => rfl)) pd_int) (fun _ _ => rfl)) Kd.le.imm_any) (Kd.le.refl _) sc_w_row.nd rfl (Or.inr rfl))
      (pdss_cons (pds_set (i := 3) rfl (PD.le (pd_ix (pd_lstI (k := .bor) (pda_cons (PD.le pd_int (Kd.le.bor _)) (pda_cons (PD.le pd_int (Kd.le.bor _)) (pda_cons (PD.le (pd_op op_powB opd_pow pd_int pd_int) (Kd.le.bor _)) (pda_cons (PD.le (pd_op op_sub opd_sub pd_int (pd_op op_powB opd_pow (pd_op op_powB opd_pow pd_int pd_int) pd_int)) (Kd.le.bor _)) (pda_cons (PD.le (pd_op op_powB opd_pow (pd_op op_powB opd_pow pd_int pd_int) pd_int) (Kd.le.bor _)) pda_nil)))))) (pd_op op_mod opd_mod (pd_ix (pd_var 0 rfl (pv 0)) pd_int (fun _ _ => rfl)) pd_int) (fun _ _ => rfl)) Kd.le.imm_any) (Kd.le.refl _) sc_w_row.nd rfl (Or.inr rfl))
      (pdss_cons (pds_set (i := 4) rfl (PD.le (pd_comp ["_law_k", "_law_far", "_law_span", "_law_xs"] [none, some 3, some 2, some 0] [] (hc := rfl) (hi := (pdi_range1 rfl B.range_ (pd_var 1 rfl (pv 1)))) (hg := fun _ _ _ _ => (pdg_name rfl (pg_name (i := 0) (show (["_law_k", "_law_far", "_law_span", "_law_xs"] : List Str).Nodup by decide +kernel) rfl (Or.inl rfl)))) (ht := fun _ _ _ _ => pdts_nil) (he := fun _ _ _ _ => (pd_op op_add opd_add (pd_op op_sub opd_sub (pd_op op_mod opd_mod (pd_ix (pd_var 3 rfl (pv 3)) (pd_op op_add opd_add pd_int (pd_var 0 rfl (pv 0))) (fun _ _ => rfl)) (pd_var 2 rfl (pv 2))) pd_int) (pd_var 1 rfl (pv 1)))) (hz := (gext_name 0)) (ck := rfl) (hp := rfl) (hz' := rfl)) Kd.le.one_any) (Kd.le.refl _) sc_w_row.nd rfl (Or.inr rfl))
      (pdss_cons (pds_if (pdt_cmp (op_eqF hr.units) opd_eq (pd_op op_mod opd_mod (pd_ix (pd_var 0 rfl (pv 0)) pd_int (fun _ _ => rfl)) pd_int) pd_int (nomark _))
        (pdss_cons (pds_set (i := 5) rfl (PD.le (pd_op op_mod opd_mod (pd_op op_fdiv opd_div (pd_ix (pd_var 0 rfl (pv 0)) pd_int (fun _ _ => rfl)) pd_int) (pd_var 1 rfl (pv 1))) Kd.le.imm_any) (Kd.le.refl _) sc_w_row.nd rfl (Or.inr rfl))
      (pdss_one (pds_set (i := 4) rfl (PD.le (pd_comp ["_law_k", "_law_at", "_law_row_here"] [none, some 5, some 4] [] (hc := rfl) (hi := (pdi_range1 rfl B.range_ (pd_var 1 rfl (pv 1)))) (hg := fun _ _ _ _ => (pdg_name rfl (pg_name (i := 0) (show (["_law_k", "_law_at", "_law_row_here"] : List Str).Nodup by decide +kernel) rfl (Or.inl rfl)))) (ht := fun _ _ _ _ => pdts_nil) (he := fun _ _ _ _ => (pd_if (pdt_cmp (op_eqF hr.units) opd_eq (pd_var 0 rfl (pv 0)) (pd_var 1 rfl (pv 1)) (nomark _)) (pd_ix (pd_var 2 rfl (pv 2)) (pd_var 1 rfl (pv 1)) (fun _ _ => rfl)) (pd_ix (pd_var 2 rfl (pv 2)) pd_int (fun _ _ => rfl)))) (hz := (gext_name 0)) (ck := rfl) (hp := rfl) (hz' := rfl)) Kd.le.one_any) (Kd.le.refl _) sc_w_row.nd rfl (Or.inr rfl))))
        pdss_nil)
      (pdss_one (pds_ret (pd_callTy (k1 := .bor) call_tuple_of cd_tuple rfl B.tuple_ bt_tuple (pda_cons (PD.le (pd_var 4 rfl (pv 4)) (Kd.le.bor _)) pda_nil)) (Kd.le.refl _) ne_imm)))))))
theorem ok_w_number {f : Addr} {fd : FuncData} (F : Fun K "_law_number" "_law_number" st_w_number f fd) (B : Blt mg) :
    FnOk P w K mg base CX0 1 f fd ["_law_xs", "_law_row_here", "_law_at"] (spD K .imm M_w_number) :=
  def_ok (rk := .imm) (k := 0) [] F sc_w_number rfl rfl fun cdv A outer s H E hr =>
      (pdss_cons (pds_set (i := 3) rfl (PD.le (pd_op op_sub opd_sub (pd_op op_add opd_add (pd_ix (pd_var 1 rfl (pv 1)) (pd_var 2 rfl (pv 2)) (fun _ _ => rfl)) (pd_op op_mod opd_mod (pd_ix (pd_var 0 rfl (pv 0)) pd_int (fun _ _ => rfl)) pd_int)) pd_int) Kd.le.imm_any) (Kd.le.refl _) sc_w_number.nd rfl (Or.inl rfl))
      (pdss_cons (pds_set (i := 4) rfl (PD.le (pd_op op_sub opd_sub (pd_op op_add opd_add (pd_ix (pd_var 1 rfl (pv 1)) (pd_op op_mod opd_mod (pd_ix (pd_var 0 rfl (pv 0)) pd_int (fun _ _ => rfl)) (pd_callB (k1 := .bor) call_len_seq cd_len rfl B.len_ bt_len (pda_cons (PD.le (pd_var 1 rfl (pv 1)) (Kd.le.bor _)) pda_nil))) (fun _ _ => rfl)) (pd_op op_mod opd_mod (pd_op op_fdiv opd_div (pd_ix (pd_var 0 rfl (pv 0)) pd_int (fun _ _ => rfl)) pd_int) pd_int)) pd_int) Kd.le.imm_any) (Kd.le.refl _) sc_w_number.nd rfl (Or.inl rfl))
      (pdss_one (pds_ret (pd_ix (pd_lstI (k := .bor) (pda_cons (PD.le (pd_var 3 rfl (pv 3)) (Kd.le.bor _)) (pda_cons (PD.le (pd_var 3 rfl (pv 3)) (Kd.le.bor _)) (pda_cons (PD.le (pd_ix (pd_var 1 rfl (pv 1)) (pd_var 2 rfl (pv 2)) (fun _ _ => rfl)) (Kd.le.bor _)) (pda_cons (PD.le (pd_op op_sub opd_sub pd_int (pd_ix (pd_var 1 rfl (pv 1)) (pd_var 2 rfl (pv 2)) (fun _ _ => rfl))) (Kd.le.bor _)) (pda_cons (PD.le (pd_var 4 rfl (pv 4)) (Kd.le.bor _)) pda_nil)))))) (pd_op op_mod opd_mod (pd_ix (pd_var 0 rfl (pv 0)) pd_int (fun _ _ => rfl)) pd_int) (fun _ _ => rfl)) (Kd.le.refl _) ne_imm))))
theorem ok_w_alike {f : Addr} {fd : FuncData} (F : Fun K "_law_alike" "_law_alike" st_w_alike f fd) (B : Blt mg) :
    FnOk P w K mg base CX0 1 f fd ["_law_found", "_law_due"] (spD K .imm M_w_alike) :=
  def_ok (rk := .imm) (k := 0) [] F sc_w_alike rfl rfl fun cdv A outer s H E hr =>
      (pdss_one (pds_ret (pd_imm (pd_and (pd_isi "bool" (pd_var 0 rfl (pv 0)) rfl B.isinstance_ rfl B.bool_ bt_bool) (pd_one (pd_cmp (op_eqF hr.units) opd_eq (pd_var 0 rfl (pv 0)) (pd_var 1 rfl (pv 1)) (nomark _))))) (Kd.le.refl _) ne_imm))
theorem ok_law {f : Addr} {fd : FuncData} (F : Fun K "law" "law" st_law f fd) (B : Blt mg) (D_w_stream : Def P w K mg base 1 "_law_stream" ["_law_cell", "_law_many"] (spD K .one M_w_stream)) (D_w_row : Def P w K mg base 1 "_law_row" ["_law_xs"] (spD K .imm M_w_row)) (D_w_number : Def P w K mg base 1 "_law_number" ["_law_xs", "_law_row_here", "_law_at"] (spD K .imm M_w_number)) (D_w_alike : Def P w K mg base 1 "_law_alike" ["_law_found", "_law_due"] (spD K .imm M_w_alike)) (D_passes : Def P w K mg base 1 "passes" ["row", "check"] (spD K .imm M_passes)) :
    FnOk P w K mg base CX0 2 f fd ["_law_script"] (spD K .imm M_law) :=
  def_ok (rk := .imm) (k := 1) [] F sc_law rfl rfl fun cdv A outer s H E hr =>
      (pdss_cons (pds_for PassesOwn.never rfl (pdi_list (PD.le (pd_cat (pd_sl (pd_var 0 rfl (pv 0)) pdo_none (pdo_some pd_int)) (pd_lstI (k := .bor) (pda_cons (PD.le pd_int (Kd.le.bor _)) pda_nil))) Kd.le.one_any)) (pdg_name rfl (pg_name (i := 1) sc_law.nd rfl (Or.inl rfl)))
      (pdss_cons (pds_set (i := 2) rfl (PD.le (pd_def (k1 := .bor) D_w_stream (hr.mono (by decide)) ne_one (pda_cons (PD.le (pd_var 1 rfl (pv 1)) (Kd.le.bor _)) (pda_cons (PD.le pd_int (Kd.le.bor _)) pda_nil))) Kd.le.one_any) (Kd.le.refl _) sc_law.nd rfl (Or.inl rfl))
      (pdss_cons (pds_set (i := 3) rfl (PD.le (pd_def (k1 := .bor) D_w_row (hr.mono (by decide)) ne_imm (pda_cons (PD.le (pd_var 2 rfl (pv 2)) (Kd.le.bor _)) pda_nil)) Kd.le.imm_any) (Kd.le.refl _) sc_law.nd rfl (Or.inl rfl))
      (pdss_cons (pds_set (i := 4) rfl (PD.le (pd_op op_mod opd_mod (pd_ix (pd_var 2 rfl (pv 2)) pd_int (fun _ _ => rfl)) (pd_callB (k1 := .bor) call_len_seq cd_len rfl B.len_ bt_len (pda_cons (PD.le (pd_var 3 rfl (pv 3)) (Kd.le.bor _)) pda_nil))) Kd.le.imm_any) (Kd.le.refl _) sc_law.nd rfl (Or.inl rfl))
      (pdss_cons (pds_set (i := 5) rfl (PD.le (pd_op op_mod opd_mod (pd_op op_fdiv opd_div (pd_ix (pd_var 2 rfl (pv 2)) pd_int (fun _ _ => rfl)) pd_int) (pd_callB (k1 := .bor) call_len_seq cd_len rfl B.len_ bt_len (pda_cons (PD.le (pd_var 3 rfl (pv 3)) (Kd.le.bor _)) pda_nil))) Kd.le.imm_any) (Kd.le.refl _) sc_law.nd rfl (Or.inl rfl))
      (pdss_cons (pds_set (i := 6) rfl (PD.le (pd_def (k1 := .bor) D_w_number (hr.mono (by decide)) ne_imm (pda_cons (PD.le (pd_var 2 rfl (pv 2)) (Kd.le.bor _)) (pda_cons (PD.le (pd_var 3 rfl (pv 3)) (Kd.le.bor _)) (pda_cons (PD.le (pd_var 4 rfl (pv 4)) (Kd.le.bor _)) pda_nil)))) Kd.le.imm_any) (Kd.le.refl _) sc_law.nd rfl (Or.inl rfl))
      (pdss_cons (pds_set (i := 7) rfl (pd_ix (pd_var 3 rfl (pv 3)) (pd_var 4 rfl (pv 4)) (fun _ _ => rfl)) (Kd.le.refl _) sc_law.nd rfl (Or.inl rfl))
      (pdss_cons (pds_for PassesOwn.never rfl (pdi_list (PD.le (pd_lstI (k := .bor) (pda_cons (PD.le (pd_tup (pda_cons pd_str (pda_cons (pd_cmp (op_eqF hr.units) opd_eq (pd_var 7 rfl (pv 7)) (pd_var 6 rfl (pv 6)) (nomark _)) pda_nil)) (.inl rfl)) (Kd.le.bor _)) (pda_cons (PD.le (pd_tup (pda_cons pd_str (pda_cons (pd_cmp op_lt opd_lt (pd_var 7 rfl (pv 7)) (pd_var 6 rfl (pv 6)) (nomark _)) pda_nil)) (.inl rfl)) (Kd.le.bor _)) (pda_cons (PD.le (pd_tup (pda_cons pd_str (pda_cons (pd_cmp op_gt opd_gt (pd_var 7 rfl (pv 7)) (pd_var 6 rfl (pv 6)) (nomark _)) pda_nil)) (.inl rfl)) (Kd.le.bor _)) pda_nil)))) Kd.le.one_any)) (pdg_tup rfl (pdgs_cons (pdg_name rfl (pg_name (i := 8) sc_law.nd rfl (Or.inl rfl))) (pdgs_cons (pdg_name rfl (pg_name (i := 9) sc_law.nd rfl (Or.inl rfl))) pdgs_nil)))
      (pdss_one (pds_if (pdt_not (pdt_val (pd_def (k1 := .bor) D_w_alike (hr.mono (by decide)) ne_imm (pda_cons (PD.le (pd_def (k1 := .bor) D_passes (hr.mono (by decide)) ne_imm (pda_cons (PD.le (pd_var 3 rfl (pv 3)) (Kd.le.bor _)) (pda_cons (PD.le (pd_tup (pda_cons (pd_var 4 rfl (pv 4)) (pda_cons (pd_var 8 rfl (pv 8)) (pda_cons (pd_var 6 rfl (pv 6)) pda_nil))) (.inr (.inr (.inl rfl)))) (Kd.le.bor _)) pda_nil))) (Kd.le.bor _)) (pda_cons (PD.le (pd_var 9 rfl (pv 9)) (Kd.le.bor _)) pda_nil)))))
        (pdss_one (pds_ret pd_bl (Kd.le.refl _) ne_imm))
        pdss_nil)))
      (pdss_cons (pds_if (pdt_not (pdt_val (pd_def (k1 := .bor) D_w_alike (hr.mono (by decide)) ne_imm (pda_cons (PD.le (pd_def (k1 := .bor) D_passes (hr.mono (by decide)) ne_imm (pda_cons (PD.le (pd_var 3 rfl (pv 3)) (Kd.le.bor _)) (pda_cons (PD.le (pd_tup (pda_cons (pd_var 4 rfl (pv 4)) (pda_cons (PD.le pd_str Kd.le.imm_any) (pda_cons (pd_var 5 rfl (pv 5)) pda_nil))) (.inr (.inr (.inl rfl)))) (Kd.le.bor _)) pda_nil))) (Kd.le.bor _)) (pda_cons (PD.le (pd_cmp (op_eqF hr.units) opd_eq (pd_var 7 rfl (pv 7)) (pd_ix (pd_var 3 rfl (pv 3)) (pd_var 5 rfl (pv 5)) (fun _ _ => rfl)) (nomark _)) (Kd.le.bor _)) pda_nil)))))
        (pdss_one (pds_ret pd_bl (Kd.le.refl _) ne_imm))
        pdss_nil)
      (pdss_one (pds_if (pdt_not (pdt_val (pd_def (k1 := .bor) D_w_alike (hr.mono (by decide)) ne_imm (pda_cons (PD.le (pd_def (k1 := .bor) D_passes (hr.mono (by decide)) ne_imm (pda_cons (PD.le (pd_var 3 rfl (pv 3)) (Kd.le.bor _)) (pda_cons (PD.le (pd_tup (pda_cons (pd_var 5 rfl (pv 5)) (pda_cons (PD.le pd_str Kd.le.imm_any) (pda_cons (pd_var 4 rfl (pv 4)) pda_nil))) (.inr (.inr (.inl rfl)))) (Kd.le.bor _)) pda_nil))) (Kd.le.bor _)) (pda_cons (PD.le (pd_cmp (op_eqF hr.units) opd_eq (pd_var 7 rfl (pv 7)) (pd_ix (pd_var 3 rfl (pv 3)) (pd_var 5 rfl (pv 5)) (fun _ _ => rfl)) (nomark _)) (Kd.le.bor _)) pda_nil)))))
        (pdss_one (pds_ret pd_bl (Kd.le.refl _) ne_imm))
        pdss_nil)))))))))))
      (pdss_one (pds_ret pd_bl (Kd.le.refl _) ne_imm)))
end
end K10

set_option maxHeartbeats 1000000
namespace K10
open PySem L2
theorem s1 : dEq (.str "is") (.str "is") = some (.bl true) := dEq_s (by decide +kernel) (by decide +kernel)
theorem s2 : dEq (.str "below") (.str "is") = some (.bl false) := dEq_s (by decide +kernel) (by decide +kernel)
theorem s3 : dEq (.str "above") (.str "is") = some (.bl false) := dEq_s (by decide +kernel) (by decide +kernel)
theorem s4 : dEq (.str "same") (.str "is") = some (.bl false) := dEq_s (by decide +kernel) (by decide +kernel)
theorem s5 : dEq (.str "below") (.str "below") = some (.bl true) := dEq_s (by decide +kernel) (by decide +kernel)
theorem s6 : dEq (.str "above") (.str "below") = some (.bl false) := dEq_s (by decide +kernel) (by decide +kernel)
theorem s7 : dEq (.str "same") (.str "below") = some (.bl false) := dEq_s (by decide +kernel) (by decide +kernel)
theorem s8 : dEq (.str "above") (.str "above") = some (.bl true) := dEq_s (by decide +kernel) (by decide +kernel)
theorem s9 : dEq (.str "same") (.str "above") = some (.bl false) := dEq_s (by decide +kernel) (by decide +kernel)
theorem at30 {a b c : Dv} : atI [a, b, c] 0 = some a := rfl
theorem at31 {a b c : Dv} : atI [a, b, c] 1 = some b := rfl
theorem at32 {a b c : Dv} : atI [a, b, c] 2 = some c := rfl
theorem m_is (row : List Int) (i z : Int) (h0 : 0 ≤ i) (h1 : i < row.length) : M_passes [.tup (row.map .int), .tup [.int i, .str "is", .int z]] = some (.bl (decide (row.getD i.toNat 0 = z))) := by
  simp only [M_passes, b_passes, at30, at31, at32, atI_int h0 h1, s1, eOp_b, eUn_b, eImm_b, eAnd_b, eOr_b, eIf_b, sIf_b, tOf_b, tand_b, tor_b, tnot_b, tyes_b, aNil_b, aCons_b, eTup_b, eLst_b, eLstI_b, eCall_b, eSl_b, oNone_b, oSome_b, sSeq_b, sSet_b, sRet_b, sDrop_b, sSkip_b, sFor_b, eComp_b, sApp_b, eC_b, eVar_z, eVar_s, opB_s, unB_s, immB_s, andB_t, andB_f, orB_t, orB_f, ifB_t, ifB_f, tofB_s, tandB_t, tandB_f, torB_t, torB_f, tnotB_s, consB_s, tupB_s, lstB_s, lstIB_s, callB_s, partB_s, slB_scr, slB_lst, seqB_n, seqB_r, setB_s, retB_s, dropB_s, forB_s, compB_s, endB_r, appB_s, gN_b, dAdd_i, dSub_i, dMod_i, dDiv_i, dLt_i, dLe_i, dGt_i, dGe_i, dNeg_i, dNot_b, dEq_i, dNe_i, dEq_b, dIx_l, dIx_t, dIx_s, imm_int, imm_bl, imm_str, imm_non, imm_tup, imms_nil, imms_cons, imms_int, fLen_l, fLen_t, fLen_s, fTuple_l, fTuple_t, fList_l, fList_t, fList_s, List.set_cons_zero, List.set_cons_succ, Option.map_some, lenc, lenn, Nat.reduceAdd, Nat.reduceLeDiff, Int.reduceLT, Int.reduceLE, List.length_map, lim_eq, Bool.and_true, Bool.and_self, Bool.not_true, Bool.not_false, pullD, List.map_cons, List.map_nil, List.getElem?_cons_zero, List.getElem?_cons_succ, Option.join_some, startD, List.cons_append, List.nil_append, List.replicate, and_self, and_true, true_and, eIsi_b, Dv.isScr, tyN, callM_b, celM_b, celB_s, cel2_t, cel2_f, cel3_s, loop_c, loop_n, lp1_s, lp2_n, lp2_c, lp2_b, lp2_r, gT_b, gC_b, gcB_s, gZ_b, iL_b, iLI_b, iT_b, iTI_b, ilB_l, ilB_s, iliB_l, itB_t, itiB_t]
theorem m_below (row : List Int) (i z : Int) (h0 : 0 ≤ i) (h1 : i < row.length) : M_passes [.tup (row.map .int), .tup [.int i, .str "below", .int z]] = some (.bl (decide (row.getD i.toNat 0 < z))) := by
  simp only [M_passes, b_passes, at30, at31, at32, atI_int h0 h1, s2, s5, eOp_b, eUn_b, eImm_b, eAnd_b, eOr_b, eIf_b, sIf_b, tOf_b, tand_b, tor_b, tnot_b, tyes_b, aNil_b, aCons_b, eTup_b, eLst_b, eLstI_b, eCall_b, eSl_b, oNone_b, oSome_b, sSeq_b, sSet_b, sRet_b, sDrop_b, sSkip_b, sFor_b, eComp_b, sApp_b, eC_b, eVar_z, eVar_s, opB_s, unB_s, immB_s, andB_t, andB_f, orB_t, orB_f, ifB_t, ifB_f, tofB_s, tandB_t, tandB_f, torB_t, torB_f, tnotB_s, consB_s, tupB_s, lstB_s, lstIB_s, callB_s, partB_s, slB_scr, slB_lst, seqB_n, seqB_r, setB_s, retB_s, dropB_s, forB_s, compB_s, endB_r, appB_s, gN_b, dAdd_i, dSub_i, dMod_i, dDiv_i, dLt_i, dLe_i, dGt_i, dGe_i, dNeg_i, dNot_b, dEq_i, dNe_i, dEq_b, dIx_l, dIx_t, dIx_s, imm_int, imm_bl, imm_str, imm_non, imm_tup, imms_nil, imms_cons, imms_int, fLen_l, fLen_t, fLen_s, fTuple_l, fTuple_t, fList_l, fList_t, fList_s, List.set_cons_zero, List.set_cons_succ, Option.map_some, lenc, lenn, Nat.reduceAdd, Nat.reduceLeDiff, Int.reduceLT, Int.reduceLE, List.length_map, lim_eq, Bool.and_true, Bool.and_self, Bool.not_true, Bool.not_false, pullD, List.map_cons, List.map_nil, List.getElem?_cons_zero, List.getElem?_cons_succ, Option.join_some, startD, List.cons_append, List.nil_append, List.replicate, and_self, and_true, true_and, eIsi_b, Dv.isScr, tyN, callM_b, celM_b, celB_s, cel2_t, cel2_f, cel3_s, loop_c, loop_n, lp1_s, lp2_n, lp2_c, lp2_b, lp2_r, gT_b, gC_b, gcB_s, gZ_b, iL_b, iLI_b, iT_b, iTI_b, ilB_l, ilB_s, iliB_l, itB_t, itiB_t]
theorem m_above (row : List Int) (i z : Int) (h0 : 0 ≤ i) (h1 : i < row.length) : M_passes [.tup (row.map .int), .tup [.int i, .str "above", .int z]] = some (.bl (decide (z < row.getD i.toNat 0))) := by
  simp only [M_passes, b_passes, at30, at31, at32, atI_int h0 h1, s3, s6, s8, eOp_b, eUn_b, eImm_b, eAnd_b, eOr_b, eIf_b, sIf_b, tOf_b, tand_b, tor_b, tnot_b, tyes_b, aNil_b, aCons_b, eTup_b, eLst_b, eLstI_b, eCall_b, eSl_b, oNone_b, oSome_b, sSeq_b, sSet_b, sRet_b, sDrop_b, sSkip_b, sFor_b, eComp_b, sApp_b, eC_b, eVar_z, eVar_s, opB_s, unB_s, immB_s, andB_t, andB_f, orB_t, orB_f, ifB_t, ifB_f, tofB_s, tandB_t, tandB_f, torB_t, torB_f, tnotB_s, consB_s, tupB_s, lstB_s, lstIB_s, callB_s, partB_s, slB_scr, slB_lst, seqB_n, seqB_r, setB_s, retB_s, dropB_s, forB_s, compB_s, endB_r, appB_s, gN_b, dAdd_i, dSub_i, dMod_i, dDiv_i, dLt_i, dLe_i, dGt_i, dGe_i, dNeg_i, dNot_b, dEq_i, dNe_i, dEq_b, dIx_l, dIx_t, dIx_s, imm_int, imm_bl, imm_str, imm_non, imm_tup, imms_nil, imms_cons, imms_int, fLen_l, fLen_t, fLen_s, fTuple_l, fTuple_t, fList_l, fList_t, fList_s, List.set_cons_zero, List.set_cons_succ, Option.map_some, lenc, lenn, Nat.reduceAdd, Nat.reduceLeDiff, Int.reduceLT, Int.reduceLE, List.length_map, lim_eq, Bool.and_true, Bool.and_self, Bool.not_true, Bool.not_false, pullD, List.map_cons, List.map_nil, List.getElem?_cons_zero, List.getElem?_cons_succ, Option.join_some, startD, List.cons_append, List.nil_append, List.replicate, and_self, and_true, true_and, eIsi_b, Dv.isScr, tyN, callM_b, celM_b, celB_s, cel2_t, cel2_f, cel3_s, loop_c, loop_n, lp1_s, lp2_n, lp2_c, lp2_b, lp2_r, gT_b, gC_b, gcB_s, gZ_b, iL_b, iLI_b, iT_b, iTI_b, ilB_l, ilB_s, iliB_l, itB_t, itiB_t]
theorem m_same (row : List Int) (i z : Int) (h0 : 0 ≤ i) (h1 : i < row.length) (z0 : 0 ≤ z) (z1 : z < row.length) : M_passes [.tup (row.map .int), .tup [.int i, .str "same", .int z]] = some (.bl (decide (row.getD i.toNat 0 = row.getD z.toNat 0))) := by
  simp only [M_passes, b_passes, at30, at31, at32, atI_int h0 h1, atI_int z0 z1, s4, s7, s9, eOp_b, eUn_b, eImm_b, eAnd_b, eOr_b, eIf_b, sIf_b, tOf_b, tand_b, tor_b, tnot_b, tyes_b, aNil_b, aCons_b, eTup_b, eLst_b, eLstI_b, eCall_b, eSl_b, oNone_b, oSome_b, sSeq_b, sSet_b, sRet_b, sDrop_b, sSkip_b, sFor_b, eComp_b, sApp_b, eC_b, eVar_z, eVar_s, opB_s, unB_s, immB_s, andB_t, andB_f, orB_t, orB_f, ifB_t, ifB_f, tofB_s, tandB_t, tandB_f, torB_t, torB_f, tnotB_s, consB_s, tupB_s, lstB_s, lstIB_s, callB_s, partB_s, slB_scr, slB_lst, seqB_n, seqB_r, setB_s, retB_s, dropB_s, forB_s, compB_s, endB_r, appB_s, gN_b, dAdd_i, dSub_i, dMod_i, dDiv_i, dLt_i, dLe_i, dGt_i, dGe_i, dNeg_i, dNot_b, dEq_i, dNe_i, dEq_b, dIx_l, dIx_t, dIx_s, imm_int, imm_bl, imm_str, imm_non, imm_tup, imms_nil, imms_cons, imms_int, fLen_l, fLen_t, fLen_s, fTuple_l, fTuple_t, fList_l, fList_t, fList_s, List.set_cons_zero, List.set_cons_succ, Option.map_some, lenc, lenn, Nat.reduceAdd, Nat.reduceLeDiff, Int.reduceLT, Int.reduceLE, List.length_map, lim_eq, Bool.and_true, Bool.and_self, Bool.not_true, Bool.not_false, pullD, List.map_cons, List.map_nil, List.getElem?_cons_zero, List.getElem?_cons_succ, Option.join_some, startD, List.cons_append, List.nil_append, List.replicate, and_self, and_true, true_and, eIsi_b, Dv.isScr, tyN, callM_b, celM_b, celB_s, cel2_t, cel2_f, cel3_s, loop_c, loop_n, lp1_s, lp2_n, lp2_c, lp2_b, lp2_r, gT_b, gC_b, gcB_s, gZ_b, iL_b, iLI_b, iT_b, iTI_b, ilB_l, ilB_s, iliB_l, itB_t, itiB_t]
theorem m_alike (b c : Bool) : M_w_alike [.bl b, .bl c] = some (.bl (b == c)) := by
  simp only [M_w_alike, b_w_alike, show isiN "bool" "bool" = true from by decide +kernel, if_true, eOp_b, eUn_b, eImm_b, eAnd_b, eOr_b, eIf_b, sIf_b, tOf_b, tand_b, tor_b, tnot_b, tyes_b, aNil_b, aCons_b, eTup_b, eLst_b, eLstI_b, eCall_b, eSl_b, oNone_b, oSome_b, sSeq_b, sSet_b, sRet_b, sDrop_b, sSkip_b, sFor_b, eComp_b, sApp_b, eC_b, eVar_z, eVar_s, opB_s, unB_s, immB_s, andB_t, andB_f, orB_t, orB_f, ifB_t, ifB_f, tofB_s, tandB_t, tandB_f, torB_t, torB_f, tnotB_s, consB_s, tupB_s, lstB_s, lstIB_s, callB_s, partB_s, slB_scr, slB_lst, seqB_n, seqB_r, setB_s, retB_s, dropB_s, forB_s, compB_s, endB_r, appB_s, gN_b, dAdd_i, dSub_i, dMod_i, dDiv_i, dLt_i, dLe_i, dGt_i, dGe_i, dNeg_i, dNot_b, dEq_i, dNe_i, dEq_b, dIx_l, dIx_t, dIx_s, imm_int, imm_bl, imm_str, imm_non, imm_tup, imms_nil, imms_cons, imms_int, fLen_l, fLen_t, fLen_s, fTuple_l, fTuple_t, fList_l, fList_t, fList_s, List.set_cons_zero, List.set_cons_succ, Option.map_some, lenc, lenn, Nat.reduceAdd, Nat.reduceLeDiff, Int.reduceLT, Int.reduceLE, List.length_map, lim_eq, Bool.and_true, Bool.and_self, Bool.not_true, Bool.not_false, pullD, List.map_cons, List.map_nil, List.getElem?_cons_zero, List.getElem?_cons_succ, Option.join_some, startD, List.cons_append, List.nil_append, List.replicate, and_self, and_true, true_and, eIsi_b, Dv.isScr, tyN, callM_b, celM_b, celB_s, cel2_t, cel2_f, cel3_s, loop_c, loop_n, lp1_s, lp2_n, lp2_c, lp2_b, lp2_r, gT_b, gC_b, gcB_s, gZ_b, iL_b, iLI_b, iT_b, iTI_b, ilB_l, ilB_s, iliB_l, itB_t, itiB_t]
/-- the law's own numbers -/
theorem m_stream (c : Int) (n : Nat) (hn : n ≤ 1000) : ∃ ys : List Int, ys.length = n ∧ M_w_stream [.int c, .int n] = some (.lst (ys.map .int)) := by
  have hm0 : 0 ≤ c % 2147483647 := Int.emod_nonneg _ (by decide)
  have hm1 : c % 2147483647 < 2147483647 := Int.emod_lt_of_pos _ (by decide)
  obtain ⟨δ', e, hI⟩ := loop_inv (g := gN 4) (body := sSeq (sSet 3 (eOp dMod (eOp dAdd (eOp dAdd (eOp dMul (eVar 3) (eVar 3)) (eOp dMul (eC (.int 48271)) (eVar 3))) (eVar 4)) (eC (.int 2147483647)))) (sApp 2 (eVar 3)))
    (ds := rangeD 0 (n + 1)) (δ := [some (.int c), some (.int n), some (.lst []), some (.int (c % 2147483647 + 48271)), none])
    (fun i δ => ∃ (ys : List Int) (x : Int) (v : Option Dv), δ = [some (.int c), some (.int n), some (.lst (ys.map .int)), some (.int x), v] ∧ ys.length = i ∧ 0 ≤ x ∧ x < 4294967296) ⟨[], _, none, rfl, rfl, by omega, by omega⟩ (by
    rintro i d δ hd ⟨ys, x, v, rfl, hy, x0, x1⟩
    have hi : i < n + 1 := by
      have := (List.getElem?_eq_some_iff.mp hd).1
      rwa [rangeD_len] at this
    rw [rangeD_get hi] at hd
    cases hd
    have hl : ys.length < 100000 := by omega
    refine ⟨_, _, rfl, ?_, ⟨ys ++ [(x * x + 48271 * x + (0 + (i : Int))) % 2147483647], (x * x + 48271 * x + (0 + (i : Int))) % 2147483647, some (.int (0 + (i : Int))), rfl, by rw [List.length_append, hy]; rfl, Int.emod_nonneg _ (by decide), Int.lt_trans (Int.emod_lt_of_pos _ (by decide)) (by decide)⟩⟩
    simp only [dMul_i (mulOk_l (i := x) (j := x) ⟨by omega, by omega⟩), dMul_i (mulOk_l (i := 48271) (j := x) ⟨by decide, by decide⟩), hl, List.map_append, eOp_b, eUn_b, eImm_b, eAnd_b, eOr_b, eIf_b, sIf_b, tOf_b, tand_b, tor_b, tnot_b, tyes_b, aNil_b, aCons_b, eTup_b, eLst_b, eLstI_b, eCall_b, eSl_b, oNone_b, oSome_b, sSeq_b, sSet_b, sRet_b, sDrop_b, sSkip_b, sFor_b, eComp_b, sApp_b, eC_b, eVar_z, eVar_s, opB_s, unB_s, immB_s, andB_t, andB_f, orB_t, orB_f, ifB_t, ifB_f, tofB_s, tandB_t, tandB_f, torB_t, torB_f, tnotB_s, consB_s, tupB_s, lstB_s, lstIB_s, callB_s, partB_s, slB_scr, slB_lst, seqB_n, seqB_r, setB_s, retB_s, dropB_s, forB_s, compB_s, endB_r, appB_s, gN_b, dAdd_i, dSub_i, dMod_i, dDiv_i, dLt_i, dLe_i, dGt_i, dGe_i, dNeg_i, dNot_b, dEq_i, dNe_i, dEq_b, dIx_l, dIx_t, dIx_s, imm_int, imm_bl, imm_str, imm_non, imm_tup, imms_nil, imms_cons, imms_int, fLen_l, fLen_t, fLen_s, fTuple_l, fTuple_t, fList_l, fList_t, fList_s, List.set_cons_zero, List.set_cons_succ, Option.map_some, lenc, lenn, Nat.reduceAdd, Nat.reduceLeDiff, Int.reduceLT, Int.reduceLE, List.length_map, lim_eq, Bool.and_true, Bool.and_self, Bool.not_true, Bool.not_false, pullD, List.map_cons, List.map_nil, List.getElem?_cons_zero, List.getElem?_cons_succ, Option.join_some, startD, List.cons_append, List.nil_append, List.replicate, and_self, and_true, true_and, eIsi_b, Dv.isScr, tyN, callM_b, celM_b, celB_s, cel2_t, cel2_f, cel3_s, loop_c, loop_n, lp1_s, lp2_n, lp2_c, lp2_b, lp2_r, gT_b, gC_b, gcB_s, gZ_b, iL_b, iLI_b, iT_b, iTI_b, ilB_l, ilB_s, iliB_l, itB_t, itiB_t])
  obtain ⟨ys, x, v, rfl, hy, _, _⟩ := hI
  rw [rangeD_len] at hy
  refine ⟨ys.drop 1, by rw [List.length_drop, hy]; rfl, ?_⟩
  have hr : iR1 (eOp dAdd (eVar 1) (eC (.int 1))) [some (.int c), some (.int n), some (.lst []), some (.int (c % 2147483647 + 48271)), none] = some (rangeD 0 (n + 1)) := by
    have := iR1_i (m := eOp dAdd (eVar 1) (eC (.int 1))) (δ := [some (.int c), some (.int n), some (.lst []), some (.int (c % 2147483647 + 48271)), none]) (j := (n : Int) + 1) (by simp only [eOp_b, eUn_b, eImm_b, eAnd_b, eOr_b, eIf_b, sIf_b, tOf_b, tand_b, tor_b, tnot_b, tyes_b, aNil_b, aCons_b, eTup_b, eLst_b, eLstI_b, eCall_b, eSl_b, oNone_b, oSome_b, sSeq_b, sSet_b, sRet_b, sDrop_b, sSkip_b, sFor_b, eComp_b, sApp_b, eC_b, eVar_z, eVar_s, opB_s, unB_s, immB_s, andB_t, andB_f, orB_t, orB_f, ifB_t, ifB_f, tofB_s, tandB_t, tandB_f, torB_t, torB_f, tnotB_s, consB_s, tupB_s, lstB_s, lstIB_s, callB_s, partB_s, slB_scr, slB_lst, seqB_n, seqB_r, setB_s, retB_s, dropB_s, forB_s, compB_s, endB_r, appB_s, gN_b, dAdd_i, dSub_i, dMod_i, dDiv_i, dLt_i, dLe_i, dGt_i, dGe_i, dNeg_i, dNot_b, dEq_i, dNe_i, dEq_b, dIx_l, dIx_t, dIx_s, imm_int, imm_bl, imm_str, imm_non, imm_tup, imms_nil, imms_cons, imms_int, fLen_l, fLen_t, fLen_s, fTuple_l, fTuple_t, fList_l, fList_t, fList_s, List.set_cons_zero, List.set_cons_succ, Option.map_some, lenc, lenn, Nat.reduceAdd, Nat.reduceLeDiff, Int.reduceLT, Int.reduceLE, List.length_map, lim_eq, Bool.and_true, Bool.and_self, Bool.not_true, Bool.not_false, pullD, List.map_cons, List.map_nil, List.getElem?_cons_zero, List.getElem?_cons_succ, Option.join_some, startD, List.cons_append, List.nil_append, List.replicate, and_self, and_true, true_and, eIsi_b, Dv.isScr, tyN, callM_b, celM_b, celB_s, cel2_t, cel2_f, cel3_s, loop_c, loop_n, lp1_s, lp2_n, lp2_c, lp2_b, lp2_r, gT_b, gC_b, gcB_s, gZ_b, iL_b, iLI_b, iT_b, iTI_b, ilB_l, ilB_s, iliB_l, itB_t, itiB_t]) (by omega)
    rw [this]
    congr 2
  have hc : cutD (ys.map Dv.int) (some 1) none = (ys.drop 1).map .int := by
    rw [cutD_map]
    exact congrArg _ (cutD_from ys 1 (by omega))
  simp only [M_w_stream, b_w_stream, hr, e, hc, eOp_b, eUn_b, eImm_b, eAnd_b, eOr_b, eIf_b, sIf_b, tOf_b, tand_b, tor_b, tnot_b, tyes_b, aNil_b, aCons_b, eTup_b, eLst_b, eLstI_b, eCall_b, eSl_b, oNone_b, oSome_b, sSeq_b, sSet_b, sRet_b, sDrop_b, sSkip_b, sFor_b, eComp_b, sApp_b, eC_b, eVar_z, eVar_s, opB_s, unB_s, immB_s, andB_t, andB_f, orB_t, orB_f, ifB_t, ifB_f, tofB_s, tandB_t, tandB_f, torB_t, torB_f, tnotB_s, consB_s, tupB_s, lstB_s, lstIB_s, callB_s, partB_s, slB_scr, slB_lst, seqB_n, seqB_r, setB_s, retB_s, dropB_s, forB_s, compB_s, endB_r, appB_s, gN_b, dAdd_i, dSub_i, dMod_i, dDiv_i, dLt_i, dLe_i, dGt_i, dGe_i, dNeg_i, dNot_b, dEq_i, dNe_i, dEq_b, dIx_l, dIx_t, dIx_s, imm_int, imm_bl, imm_str, imm_non, imm_tup, imms_nil, imms_cons, imms_int, fLen_l, fLen_t, fLen_s, fTuple_l, fTuple_t, fList_l, fList_t, fList_s, List.set_cons_zero, List.set_cons_succ, Option.map_some, lenc, lenn, Nat.reduceAdd, Nat.reduceLeDiff, Int.reduceLT, Int.reduceLE, List.length_map, lim_eq, Bool.and_true, Bool.and_self, Bool.not_true, Bool.not_false, pullD, List.map_cons, List.map_nil, List.getElem?_cons_zero, List.getElem?_cons_succ, Option.join_some, startD, List.cons_append, List.nil_append, List.replicate, and_self, and_true, true_and, eIsi_b, Dv.isScr, tyN, callM_b, celM_b, celB_s, cel2_t, cel2_f, cel3_s, loop_c, loop_n, lp1_s, lp2_n, lp2_c, lp2_b, lp2_r, gT_b, gC_b, gcB_s, gZ_b, iL_b, iLI_b, iT_b, iTI_b, ilB_l, ilB_s, iliB_l, itB_t, itiB_t]
theorem emod_lt (a b : Int) (h : 0 < b) : 0 ≤ a % b ∧ a % b < b := ⟨Int.emod_nonneg _ (by omega), Int.emod_lt_of_pos _ h⟩
theorem mem3 {d : Dv} (h : d ∈ [Dv.int 3, .int 12, .int 2000003]) : ∃ z : Int, d = .int z ∧ 0 < z := by
  simp only [List.mem_cons, List.not_mem_nil, or_false] at h
  rcases h with rfl | rfl | rfl <;> exact ⟨_, rfl, by decide⟩
theorem mem_ints {d : Dv} {zs : List Int} (h : d ∈ zs.map Dv.int) : ∃ z : Int, d = .int z := by
  obtain ⟨z, _, e⟩ := List.mem_map.mp h
  exact ⟨z, e.symm⟩
theorem m_row (xs : List Int) (hl : xs.length = 16) : ∃ row : List Int, 1 ≤ row.length ∧ row.length ≤ 8 ∧ M_w_row [.lst (xs.map .int)] = some (.tup (row.map .int)) := by
  have ax : ∀ j : Int, 0 ≤ j → j < 16 → atI (xs.map Dv.int) j = some (.int (xs.getD j.toNat 0)) := fun j h0 h1 => atI_int h0 (by rw [hl]; exact h1)
  obtain ⟨w0, w1⟩ := emod_lt (xs.getD (0 : Int).toNat 0) 8 (by decide)
  obtain ⟨s0, s1'⟩ := emod_lt (xs.getD (1 : Int).toNat 0) 3 (by decide)
  obtain ⟨f0, f1⟩ := emod_lt (xs.getD (2 : Int).toNat 0) 5 (by decide)
  obtain ⟨p1, e1⟩ : ∃ p, dPow (.int 10) (.int 59) = some (.int p) := ⟨_, dPow_i (by decide +kernel)⟩
  obtain ⟨p2, p3, e2, e3⟩ : ∃ p q, dPow (.int 10) (.int 33) = some (.int p) ∧ dPow (.int p) (.int 6) = some (.int q) := ⟨_, _, dPow_i (by decide +kernel), dPow_i (by decide +kernel)⟩
  obtain ⟨p4, p5, e4, e5⟩ : ∃ p q, dPow (.int 7) (.int 58) = some (.int p) ∧ dPow (.int p) (.int 4) = some (.int q) := ⟨_, _, dPow_i (by decide +kernel), dPow_i (by decide +kernel)⟩
  have a0 := ax 0 (by decide) (by decide)
  have a1 := ax 1 (by decide) (by decide)
  have a2 := ax 2 (by decide) (by decide)
  have a3 := ax 3 (by decide) (by decide)
  generalize xs.getD (0 : Int).toNat 0 = x0 at *
  generalize xs.getD (1 : Int).toNat 0 = x1 at *
  generalize xs.getD (2 : Int).toNat 0 = x2 at *
  generalize xs.getD (3 : Int).toNat 0 = x3 at *
  obtain ⟨d, hd, es⟩ := atI_some (xs := [Dv.int 3, .int 12, .int 2000003]) s0 s1'
  obtain ⟨span, rfl, hsp⟩ := mem3 hd
  obtain ⟨d, hd, ef⟩ := atI_some (xs := [Dv.int 0, .int 0, .int p1, .int (0 - p3), .int p5]) f0 f1
  obtain ⟨far, rfl⟩ := mem_ints (zs := [0, 0, p1, 0 - p3, p5]) hd
  obtain ⟨zs, hz, hc⟩ := comp_ints (g := gN 0) (c := tyes) (el := eOp dAdd (eOp dSub (eOp dMod (eOp dIx (eVar 3) (eOp dAdd (eC (.int 4)) (eVar 0))) (eVar 2)) (eC (.int 1))) (eVar 1)) (δ := [none, some (.int far), some (.int span), some (.lst (xs.map .int))]) (rangeD 0 (1 + x0 % 8).toNat) (by
    intro d hd
    obtain ⟨i, hi, rfl⟩ := mem_rangeD hd
    exact ⟨(xs.getD (4 + (0 + (i : Int))).toNat 0) % span - 1 + far, by simp only [ax (4 + (0 + (i : Int))) (by omega) (by omega), hsp, eOp_b, eUn_b, eImm_b, eAnd_b, eOr_b, eIf_b, sIf_b, tOf_b, tand_b, tor_b, tnot_b, tyes_b, aNil_b, aCons_b, eTup_b, eLst_b, eLstI_b, eCall_b, eSl_b, oNone_b, oSome_b, sSeq_b, sSet_b, sRet_b, sDrop_b, sSkip_b, sFor_b, eComp_b, sApp_b, eC_b, eVar_z, eVar_s, opB_s, unB_s, immB_s, andB_t, andB_f, orB_t, orB_f, ifB_t, ifB_f, tofB_s, tandB_t, tandB_f, torB_t, torB_f, tnotB_s, consB_s, tupB_s, lstB_s, lstIB_s, callB_s, partB_s, slB_scr, slB_lst, seqB_n, seqB_r, setB_s, retB_s, dropB_s, forB_s, compB_s, endB_r, appB_s, gN_b, dAdd_i, dSub_i, dMod_i, dDiv_i, dLt_i, dLe_i, dGt_i, dGe_i, dNeg_i, dNot_b, dEq_i, dNe_i, dEq_b, dIx_l, dIx_t, dIx_s, imm_int, imm_bl, imm_str, imm_non, imm_tup, imms_nil, imms_cons, imms_int, fLen_l, fLen_t, fLen_s, fTuple_l, fTuple_t, fList_l, fList_t, fList_s, List.set_cons_zero, List.set_cons_succ, Option.map_some, lenc, lenn, Nat.reduceAdd, Nat.reduceLeDiff, Int.reduceLT, Int.reduceLE, List.length_map, lim_eq, Bool.and_true, Bool.and_self, Bool.not_true, Bool.not_false, pullD, List.map_cons, List.map_nil, List.getElem?_cons_zero, List.getElem?_cons_succ, Option.join_some, startD, List.cons_append, List.nil_append, List.replicate, and_self, and_true, true_and, eIsi_b, Dv.isScr, tyN, callM_b, celM_b, celB_s, cel2_t, cel2_f, cel3_s, loop_c, loop_n, lp1_s, lp2_n, lp2_c, lp2_b, lp2_r, gT_b, gC_b, gcB_s, gZ_b, iL_b, iLI_b, iT_b, iTI_b, ilB_l, ilB_s, iliB_l, itB_t, itiB_t]⟩)
  rw [rangeD_len] at hz
  have hr : ∀ v4 v5, iR1 (eVar 1) [some (.lst (xs.map .int)), some (.int (1 + x0 % 8)), some (.int span), some (.int far), v4, v5] = some (rangeD 0 (1 + x0 % 8).toNat) := fun v4 v5 => iR1_i (by simp only [eOp_b, eUn_b, eImm_b, eAnd_b, eOr_b, eIf_b, sIf_b, tOf_b, tand_b, tor_b, tnot_b, tyes_b, aNil_b, aCons_b, eTup_b, eLst_b, eLstI_b, eCall_b, eSl_b, oNone_b, oSome_b, sSeq_b, sSet_b, sRet_b, sDrop_b, sSkip_b, sFor_b, eComp_b, sApp_b, eC_b, eVar_z, eVar_s, opB_s, unB_s, immB_s, andB_t, andB_f, orB_t, orB_f, ifB_t, ifB_f, tofB_s, tandB_t, tandB_f, torB_t, torB_f, tnotB_s, consB_s, tupB_s, lstB_s, lstIB_s, callB_s, partB_s, slB_scr, slB_lst, seqB_n, seqB_r, setB_s, retB_s, dropB_s, forB_s, compB_s, endB_r, appB_s, gN_b, dAdd_i, dSub_i, dMod_i, dDiv_i, dLt_i, dLe_i, dGt_i, dGe_i, dNeg_i, dNot_b, dEq_i, dNe_i, dEq_b, dIx_l, dIx_t, dIx_s, imm_int, imm_bl, imm_str, imm_non, imm_tup, imms_nil, imms_cons, imms_int, fLen_l, fLen_t, fLen_s, fTuple_l, fTuple_t, fList_l, fList_t, fList_s, List.set_cons_zero, List.set_cons_succ, Option.map_some, lenc, lenn, Nat.reduceAdd, Nat.reduceLeDiff, Int.reduceLT, Int.reduceLE, List.length_map, lim_eq, Bool.and_true, Bool.and_self, Bool.not_true, Bool.not_false, pullD, List.map_cons, List.map_nil, List.getElem?_cons_zero, List.getElem?_cons_succ, Option.join_some, startD, List.cons_append, List.nil_append, List.replicate, and_self, and_true, true_and, eIsi_b, Dv.isScr, tyN, callM_b, celM_b, celB_s, cel2_t, cel2_f, cel3_s, loop_c, loop_n, lp1_s, lp2_n, lp2_c, lp2_b, lp2_r, gT_b, gC_b, gcB_s, gZ_b, iL_b, iLI_b, iT_b, iTI_b, ilB_l, ilB_s, iliB_l, itB_t, itiB_t]) (by omega)
  obtain ⟨t0, t1⟩ := emod_lt (x3 / 3) (1 + x0 % 8) (by omega)
  have hlen : (zs.length : Int) = 1 + x0 % 8 := by omega
  obtain ⟨ws, hw, hc2⟩ := comp_ints (g := gN 0) (c := tyes) (el := eIf (tOf (eOp dEq (eVar 0) (eVar 1))) (eOp dIx (eVar 2) (eVar 1)) (eOp dIx (eVar 2) (eC (.int 0)))) (δ := [none, some (.int (x3 / 3 % (1 + x0 % 8))), some (.lst (zs.map .int))]) (rangeD 0 (1 + x0 % 8).toNat) (by
    intro d hd
    obtain ⟨i, hi, rfl⟩ := mem_rangeD hd
    by_cases h : (0 + (i : Int)) = x3 / 3 % (1 + x0 % 8)
    · exact ⟨zs.getD (x3 / 3 % (1 + x0 % 8)).toNat 0, by simp only [h, decide_true, atI_int (zs := zs) t0 (by omega), eOp_b, eUn_b, eImm_b, eAnd_b, eOr_b, eIf_b, sIf_b, tOf_b, tand_b, tor_b, tnot_b, tyes_b, aNil_b, aCons_b, eTup_b, eLst_b, eLstI_b, eCall_b, eSl_b, oNone_b, oSome_b, sSeq_b, sSet_b, sRet_b, sDrop_b, sSkip_b, sFor_b, eComp_b, sApp_b, eC_b, eVar_z, eVar_s, opB_s, unB_s, immB_s, andB_t, andB_f, orB_t, orB_f, ifB_t, ifB_f, tofB_s, tandB_t, tandB_f, torB_t, torB_f, tnotB_s, consB_s, tupB_s, lstB_s, lstIB_s, callB_s, partB_s, slB_scr, slB_lst, seqB_n, seqB_r, setB_s, retB_s, dropB_s, forB_s, compB_s, endB_r, appB_s, gN_b, dAdd_i, dSub_i, dMod_i, dDiv_i, dLt_i, dLe_i, dGt_i, dGe_i, dNeg_i, dNot_b, dEq_i, dNe_i, dEq_b, dIx_l, dIx_t, dIx_s, imm_int, imm_bl, imm_str, imm_non, imm_tup, imms_nil, imms_cons, imms_int, fLen_l, fLen_t, fLen_s, fTuple_l, fTuple_t, fList_l, fList_t, fList_s, List.set_cons_zero, List.set_cons_succ, Option.map_some, lenc, lenn, Nat.reduceAdd, Nat.reduceLeDiff, Int.reduceLT, Int.reduceLE, List.length_map, lim_eq, Bool.and_true, Bool.and_self, Bool.not_true, Bool.not_false, pullD, List.map_cons, List.map_nil, List.getElem?_cons_zero, List.getElem?_cons_succ, Option.join_some, startD, List.cons_append, List.nil_append, List.replicate, and_self, and_true, true_and, eIsi_b, Dv.isScr, tyN, callM_b, celM_b, celB_s, cel2_t, cel2_f, cel3_s, loop_c, loop_n, lp1_s, lp2_n, lp2_c, lp2_b, lp2_r, gT_b, gC_b, gcB_s, gZ_b, iL_b, iLI_b, iT_b, iTI_b, ilB_l, ilB_s, iliB_l, itB_t, itiB_t]⟩
    · exact ⟨zs.getD (0 : Int).toNat 0, by simp only [decide_eq_false h, atI_int (zs := zs) (i := 0) (by decide) (by omega), eOp_b, eUn_b, eImm_b, eAnd_b, eOr_b, eIf_b, sIf_b, tOf_b, tand_b, tor_b, tnot_b, tyes_b, aNil_b, aCons_b, eTup_b, eLst_b, eLstI_b, eCall_b, eSl_b, oNone_b, oSome_b, sSeq_b, sSet_b, sRet_b, sDrop_b, sSkip_b, sFor_b, eComp_b, sApp_b, eC_b, eVar_z, eVar_s, opB_s, unB_s, immB_s, andB_t, andB_f, orB_t, orB_f, ifB_t, ifB_f, tofB_s, tandB_t, tandB_f, torB_t, torB_f, tnotB_s, consB_s, tupB_s, lstB_s, lstIB_s, callB_s, partB_s, slB_scr, slB_lst, seqB_n, seqB_r, setB_s, retB_s, dropB_s, forB_s, compB_s, endB_r, appB_s, gN_b, dAdd_i, dSub_i, dMod_i, dDiv_i, dLt_i, dLe_i, dGt_i, dGe_i, dNeg_i, dNot_b, dEq_i, dNe_i, dEq_b, dIx_l, dIx_t, dIx_s, imm_int, imm_bl, imm_str, imm_non, imm_tup, imms_nil, imms_cons, imms_int, fLen_l, fLen_t, fLen_s, fTuple_l, fTuple_t, fList_l, fList_t, fList_s, List.set_cons_zero, List.set_cons_succ, Option.map_some, lenc, lenn, Nat.reduceAdd, Nat.reduceLeDiff, Int.reduceLT, Int.reduceLE, List.length_map, lim_eq, Bool.and_true, Bool.and_self, Bool.not_true, Bool.not_false, pullD, List.map_cons, List.map_nil, List.getElem?_cons_zero, List.getElem?_cons_succ, Option.join_some, startD, List.cons_append, List.nil_append, List.replicate, and_self, and_true, true_and, eIsi_b, Dv.isScr, tyN, callM_b, celM_b, celB_s, cel2_t, cel2_f, cel3_s, loop_c, loop_n, lp1_s, lp2_n, lp2_c, lp2_b, lp2_r, gT_b, gC_b, gcB_s, gZ_b, iL_b, iLI_b, iT_b, iTI_b, ilB_l, ilB_s, iliB_l, itB_t, itiB_t]⟩)
  rw [rangeD_len] at hw
  by_cases h3 : x3 % 3 = 1
  · refine ⟨ws, by omega, by omega, ?_⟩
    simp only [M_w_row, b_w_row, a0, a1, a2, a3, e1, e2, e3, e4, e5, es, ef, hr, hc, hc2, h3, decide_true, show (0 : Int) < 1 + x0 % 8 by omega, eOp_b, eUn_b, eImm_b, eAnd_b, eOr_b, eIf_b, sIf_b, tOf_b, tand_b, tor_b, tnot_b, tyes_b, aNil_b, aCons_b, eTup_b, eLst_b, eLstI_b, eCall_b, eSl_b, oNone_b, oSome_b, sSeq_b, sSet_b, sRet_b, sDrop_b, sSkip_b, sFor_b, eComp_b, sApp_b, eC_b, eVar_z, eVar_s, opB_s, unB_s, immB_s, andB_t, andB_f, orB_t, orB_f, ifB_t, ifB_f, tofB_s, tandB_t, tandB_f, torB_t, torB_f, tnotB_s, consB_s, tupB_s, lstB_s, lstIB_s, callB_s, partB_s, slB_scr, slB_lst, seqB_n, seqB_r, setB_s, retB_s, dropB_s, forB_s, compB_s, endB_r, appB_s, gN_b, dAdd_i, dSub_i, dMod_i, dDiv_i, dLt_i, dLe_i, dGt_i, dGe_i, dNeg_i, dNot_b, dEq_i, dNe_i, dEq_b, dIx_l, dIx_t, dIx_s, imm_int, imm_bl, imm_str, imm_non, imm_tup, imms_nil, imms_cons, imms_int, fLen_l, fLen_t, fLen_s, fTuple_l, fTuple_t, fList_l, fList_t, fList_s, List.set_cons_zero, List.set_cons_succ, Option.map_some, lenc, lenn, Nat.reduceAdd, Nat.reduceLeDiff, Int.reduceLT, Int.reduceLE, List.length_map, lim_eq, Bool.and_true, Bool.and_self, Bool.not_true, Bool.not_false, pullD, List.map_cons, List.map_nil, List.getElem?_cons_zero, List.getElem?_cons_succ, Option.join_some, startD, List.cons_append, List.nil_append, List.replicate, and_self, and_true, true_and, eIsi_b, Dv.isScr, tyN, callM_b, celM_b, celB_s, cel2_t, cel2_f, cel3_s, loop_c, loop_n, lp1_s, lp2_n, lp2_c, lp2_b, lp2_r, gT_b, gC_b, gcB_s, gZ_b, iL_b, iLI_b, iT_b, iTI_b, ilB_l, ilB_s, iliB_l, itB_t, itiB_t]
  · refine ⟨zs, by omega, by omega, ?_⟩
    simp only [M_w_row, b_w_row, a0, a1, a2, a3, e1, e2, e3, e4, e5, es, ef, hr, hc, decide_eq_false h3, eOp_b, eUn_b, eImm_b, eAnd_b, eOr_b, eIf_b, sIf_b, tOf_b, tand_b, tor_b, tnot_b, tyes_b, aNil_b, aCons_b, eTup_b, eLst_b, eLstI_b, eCall_b, eSl_b, oNone_b, oSome_b, sSeq_b, sSet_b, sRet_b, sDrop_b, sSkip_b, sFor_b, eComp_b, sApp_b, eC_b, eVar_z, eVar_s, opB_s, unB_s, immB_s, andB_t, andB_f, orB_t, orB_f, ifB_t, ifB_f, tofB_s, tandB_t, tandB_f, torB_t, torB_f, tnotB_s, consB_s, tupB_s, lstB_s, lstIB_s, callB_s, partB_s, slB_scr, slB_lst, seqB_n, seqB_r, setB_s, retB_s, dropB_s, forB_s, compB_s, endB_r, appB_s, gN_b, dAdd_i, dSub_i, dMod_i, dDiv_i, dLt_i, dLe_i, dGt_i, dGe_i, dNeg_i, dNot_b, dEq_i, dNe_i, dEq_b, dIx_l, dIx_t, dIx_s, imm_int, imm_bl, imm_str, imm_non, imm_tup, imms_nil, imms_cons, imms_int, fLen_l, fLen_t, fLen_s, fTuple_l, fTuple_t, fList_l, fList_t, fList_s, List.set_cons_zero, List.set_cons_succ, Option.map_some, lenc, lenn, Nat.reduceAdd, Nat.reduceLeDiff, Int.reduceLT, Int.reduceLE, List.length_map, lim_eq, Bool.and_true, Bool.and_self, Bool.not_true, Bool.not_false, pullD, List.map_cons, List.map_nil, List.getElem?_cons_zero, List.getElem?_cons_succ, Option.join_some, startD, List.cons_append, List.nil_append, List.replicate, and_self, and_true, true_and, eIsi_b, Dv.isScr, tyN, callM_b, celM_b, celB_s, cel2_t, cel2_f, cel3_s, loop_c, loop_n, lp1_s, lp2_n, lp2_c, lp2_b, lp2_r, gT_b, gC_b, gcB_s, gZ_b, iL_b, iLI_b, iT_b, iTI_b, ilB_l, ilB_s, iliB_l, itB_t, itiB_t]
theorem m_number (xs row : List Int) (i : Int) (hl : xs.length = 16) (h0 : 0 ≤ i) (h1 : i < row.length) : ∃ n : Int, M_w_number [.lst (xs.map .int), .tup (row.map .int), .int i] = some (.int n) := by
  have ax : ∀ j : Int, 0 ≤ j → j < 16 → atI (xs.map Dv.int) j = some (.int (xs.getD j.toNat 0)) := fun j h0 h1 => atI_int h0 (by rw [hl]; exact h1)
  have a13 := ax 13 (by decide) (by decide)
  have a14 := ax 14 (by decide) (by decide)
  have a15 := ax 15 (by decide) (by decide)
  generalize xs.getD (13 : Int).toNat 0 = x13 at *
  generalize xs.getD (14 : Int).toNat 0 = x14 at *
  generalize xs.getD (15 : Int).toNat 0 = x15 at *
  have hp : (0 : Int) < row.length := by omega
  obtain ⟨q0, q1⟩ := emod_lt x15 row.length hp
  obtain ⟨f0, f1⟩ := emod_lt x13 5 (by decide)
  have r1 := atI_int h0 h1
  have r2 := atI_int (zs := row) q0 q1
  generalize row.getD i.toNat 0 = u at *
  generalize row.getD (x15 % (row.length : Int)).toNat 0 = v at *
  obtain ⟨d, hd, ef⟩ := atI_some (xs := [Dv.int (u + x14 % 5 - 2), .int (u + x14 % 5 - 2), .int u, .int (0 - u), .int (v + x14 / 5 % 3 - 1)]) f0 f1
  obtain ⟨n, rfl⟩ := mem_ints (zs := [u + x14 % 5 - 2, u + x14 % 5 - 2, u, 0 - u, v + x14 / 5 % 3 - 1]) hd
  exact ⟨n, by simp only [M_w_number, b_w_number, a13, a14, a15, r1, r2, hp, ef, eOp_b, eUn_b, eImm_b, eAnd_b, eOr_b, eIf_b, sIf_b, tOf_b, tand_b, tor_b, tnot_b, tyes_b, aNil_b, aCons_b, eTup_b, eLst_b, eLstI_b, eCall_b, eSl_b, oNone_b, oSome_b, sSeq_b, sSet_b, sRet_b, sDrop_b, sSkip_b, sFor_b, eComp_b, sApp_b, eC_b, eVar_z, eVar_s, opB_s, unB_s, immB_s, andB_t, andB_f, orB_t, orB_f, ifB_t, ifB_f, tofB_s, tandB_t, tandB_f, torB_t, torB_f, tnotB_s, consB_s, tupB_s, lstB_s, lstIB_s, callB_s, partB_s, slB_scr, slB_lst, seqB_n, seqB_r, setB_s, retB_s, dropB_s, forB_s, compB_s, endB_r, appB_s, gN_b, dAdd_i, dSub_i, dMod_i, dDiv_i, dLt_i, dLe_i, dGt_i, dGe_i, dNeg_i, dNot_b, dEq_i, dNe_i, dEq_b, dIx_l, dIx_t, dIx_s, imm_int, imm_bl, imm_str, imm_non, imm_tup, imms_nil, imms_cons, imms_int, fLen_l, fLen_t, fLen_s, fTuple_l, fTuple_t, fList_l, fList_t, fList_s, List.set_cons_zero, List.set_cons_succ, Option.map_some, lenc, lenn, Nat.reduceAdd, Nat.reduceLeDiff, Int.reduceLT, Int.reduceLE, List.length_map, lim_eq, Bool.and_true, Bool.and_self, Bool.not_true, Bool.not_false, pullD, List.map_cons, List.map_nil, List.getElem?_cons_zero, List.getElem?_cons_succ, Option.join_some, startD, List.cons_append, List.nil_append, List.replicate, and_self, and_true, true_and, eIsi_b, Dv.isScr, tyN, callM_b, celM_b, celB_s, cel2_t, cel2_f, cel3_s, loop_c, loop_n, lp1_s, lp2_n, lp2_c, lp2_b, lp2_r, gT_b, gC_b, gcB_s, gZ_b, iL_b, iLI_b, iT_b, iTI_b, ilB_l, ilB_s, iliB_l, itB_t, itiB_t]⟩
theorem law_true (ns : List Int) (hl : ns.length ≤ 63) : M_law [.scr ns] = some (.bl true) := by
  have hc : cutD (ns.map Dv.int) none (some 40) = (ns.take 40).map .int := by
    rw [cutD_map]
    exact congrArg _ (cutD_to ns 40)
  have hcat : dCatI (.lst ((ns.take 40).map .int)) (.lst [.int 11]) = some (.lst ((ns.take 40 ++ [11]).map .int)) := by
    rw [dCatI_l (by rw [List.length_map, List.length_take]; show _ ≤ 100000; simp; omega) (by rw [imms_append, imms_int]; rfl), List.map_append]
    rfl
  have hit : iL (eOp dCatI (eSl (eVar 0) oNone (oSome (eC (.int 40)))) (eLstI (aCons (eC (.int 11)) aNil))) [some (.scr ns), none, none, none, none, none, none, none, none, none] = some ((ns.take 40 ++ [11]).map .int) :=
    iL_l (by simp only [hc, hcat, eOp_b, eUn_b, eImm_b, eAnd_b, eOr_b, eIf_b, sIf_b, tOf_b, tand_b, tor_b, tnot_b, tyes_b, aNil_b, aCons_b, eTup_b, eLst_b, eLstI_b, eCall_b, eSl_b, oNone_b, oSome_b, sSeq_b, sSet_b, sRet_b, sDrop_b, sSkip_b, sFor_b, eComp_b, sApp_b, eC_b, eVar_z, eVar_s, opB_s, unB_s, immB_s, andB_t, andB_f, orB_t, orB_f, ifB_t, ifB_f, tofB_s, tandB_t, tandB_f, torB_t, torB_f, tnotB_s, consB_s, tupB_s, lstB_s, lstIB_s, callB_s, partB_s, slB_scr, slB_lst, seqB_n, seqB_r, setB_s, retB_s, dropB_s, forB_s, compB_s, endB_r, appB_s, gN_b, dAdd_i, dSub_i, dMod_i, dDiv_i, dLt_i, dLe_i, dGt_i, dGe_i, dNeg_i, dNot_b, dEq_i, dNe_i, dEq_b, dIx_l, dIx_t, dIx_s, imm_int, imm_bl, imm_str, imm_non, imm_tup, imms_nil, imms_cons, imms_int, fLen_l, fLen_t, fLen_s, fTuple_l, fTuple_t, fList_l, fList_t, fList_s, List.set_cons_zero, List.set_cons_succ, Option.map_some, lenc, lenn, Nat.reduceAdd, Nat.reduceLeDiff, Int.reduceLT, Int.reduceLE, List.length_map, lim_eq, Bool.and_true, Bool.and_self, Bool.not_true, Bool.not_false, pullD, List.map_cons, List.map_nil, List.getElem?_cons_zero, List.getElem?_cons_succ, Option.join_some, startD, List.cons_append, List.nil_append, List.replicate, and_self, and_true, true_and, eIsi_b, Dv.isScr, tyN, callM_b, celM_b, celB_s, cel2_t, cel2_f, cel3_s, loop_c, loop_n, lp1_s, lp2_n, lp2_c, lp2_b, lp2_r, gT_b, gC_b, gcB_s, gZ_b, iL_b, iLI_b, iT_b, iTI_b, ilB_l, ilB_s, iliB_l, itB_t, itiB_t]) (by rw [List.length_map, List.length_append, List.length_take]; show _ ≤ 100000; simp; omega)
  obtain ⟨δ', e, v1, v2, v3, v4, v5, v6, v7, v8, v9, rfl⟩ := loop_inv (g := gN 1) (body := (sSeq (sSet 2 (eCall M_w_stream (aCons (eVar 1) (aCons (eC (.int 16)) aNil))))
    (sSeq (sSet 3 (eCall M_w_row (aCons (eVar 2) aNil)))
    (sSeq (sSet 4 (eOp dMod (eOp dIx (eVar 2) (eC (.int 12))) (eCall fLen (aCons (eVar 3) aNil))))
    (sSeq (sSet 5 (eOp dMod (eOp dDiv (eOp dIx (eVar 2) (eC (.int 12))) (eC (.int 8))) (eCall fLen (aCons (eVar 3) aNil))))
    (sSeq (sSet 6 (eCall M_w_number (aCons (eVar 2) (aCons (eVar 3) (aCons (eVar 4) aNil)))))
    (sSeq (sSet 7 (eOp dIx (eVar 3) (eVar 4)))
    (sSeq (sFor (iL (eLstI (aCons (eTup (aCons (eC (.str "is")) (aCons (eOp dEq (eVar 7) (eVar 6)) aNil))) (aCons (eTup (aCons (eC (.str "below")) (aCons (eOp dLt (eVar 7) (eVar 6)) aNil))) (aCons (eTup (aCons (eC (.str "above")) (aCons (eOp dGt (eVar 7) (eVar 6)) aNil))) aNil))))) (gT 2 (gC (gN 8) (gC (gN 9) gZ)))
      (sIf (tnot (tOf (eCall M_w_alike (aCons (eCall M_passes (aCons (eVar 3) (aCons (eTup (aCons (eVar 4) (aCons (eVar 8) (aCons (eVar 6) aNil)))) aNil))) (aCons (eVar 9) aNil)))))
      (sRet (eC (.bl false)))
      sSkip))
    (sSeq (sIf (tnot (tOf (eCall M_w_alike (aCons (eCall M_passes (aCons (eVar 3) (aCons (eTup (aCons (eVar 4) (aCons (eC (.str "same")) (aCons (eVar 5) aNil)))) aNil))) (aCons (eOp dEq (eVar 7) (eOp dIx (eVar 3) (eVar 5))) aNil)))))
      (sRet (eC (.bl false)))
      sSkip)
    (sIf (tnot (tOf (eCall M_w_alike (aCons (eCall M_passes (aCons (eVar 3) (aCons (eTup (aCons (eVar 5) (aCons (eC (.str "same")) (aCons (eVar 4) aNil)))) aNil))) (aCons (eOp dEq (eVar 7) (eOp dIx (eVar 3) (eVar 5))) aNil)))))
      (sRet (eC (.bl false)))
      sSkip)))))))))) (ds := (ns.take 40 ++ [11]).map .int) (δ := [some (.scr ns), none, none, none, none, none, none, none, none, none])
    (fun i δ => ∃ v1 v2 v3 v4 v5 v6 v7 v8 v9 : Option Dv, δ = [some (.scr ns), v1, v2, v3, v4, v5, v6, v7, v8, v9]) ⟨_, _, _, _, _, _, _, _, _, rfl⟩ (by
    rintro i d δ hd ⟨v1, v2, v3, v4, v5, v6, v7, v8, v9, rfl⟩
    obtain ⟨z, rfl⟩ := mem_ints (List.mem_of_getElem? hd)
    obtain ⟨xs, hx, es⟩ := m_stream z 16 (by decide)
    replace es : M_w_stream [.int z, .int 16] = some (.lst (xs.map .int)) := es
    obtain ⟨row, r1, r2, er⟩ := m_row xs hx
    have a12 : atI (xs.map Dv.int) 12 = some (.int (xs.getD (12 : Int).toNat 0)) := atI_int (by decide) (by rw [hx]; decide)
    generalize xs.getD (12 : Int).toNat 0 = x12 at *
    have hp : (0 : Int) < row.length := by omega
    obtain ⟨t0, t1⟩ := emod_lt x12 row.length hp
    obtain ⟨o0, o1⟩ := emod_lt (x12 / 8) row.length hp
    generalize ht : x12 % (row.length : Int) = t at *
    generalize ho : x12 / 8 % (row.length : Int) = o at *
    obtain ⟨n, en⟩ := m_number xs row t hx t0 t1
    have at_ := atI_int (zs := row) t0 t1
    have ao := atI_int (zs := row) o0 o1
    have k1 := m_is row t n t0 t1
    have k2 := m_below row t n t0 t1
    have k3 := m_above row t n t0 t1
    have k4 := m_same row t o t0 t1 o0 o1
    have k5 := m_same row o t o0 o1 t0 t1
    have ec : decide (row.getD o.toNat 0 = row.getD t.toNat 0) = decide (row.getD t.toNat 0 = row.getD o.toNat 0) := decide_eq_decide.mpr eq_comm
    rw [ec] at k5
    exact ⟨_, _, rfl, by simp only [es, er, a12, hp, ht, ho, en, at_, ao, k1, k2, k3, k4, k5, m_alike, beq_self_eq_true, eOp_b, eUn_b, eImm_b, eAnd_b, eOr_b, eIf_b, sIf_b, tOf_b, tand_b, tor_b, tnot_b, tyes_b, aNil_b, aCons_b, eTup_b, eLst_b, eLstI_b, eCall_b, eSl_b, oNone_b, oSome_b, sSeq_b, sSet_b, sRet_b, sDrop_b, sSkip_b, sFor_b, eComp_b, sApp_b, eC_b, eVar_z, eVar_s, opB_s, unB_s, immB_s, andB_t, andB_f, orB_t, orB_f, ifB_t, ifB_f, tofB_s, tandB_t, tandB_f, torB_t, torB_f, tnotB_s, consB_s, tupB_s, lstB_s, lstIB_s, callB_s, partB_s, slB_scr, slB_lst, seqB_n, seqB_r, setB_s, retB_s, dropB_s, forB_s, compB_s, endB_r, appB_s, gN_b, dAdd_i, dSub_i, dMod_i, dDiv_i, dLt_i, dLe_i, dGt_i, dGe_i, dNeg_i, dNot_b, dEq_i, dNe_i, dEq_b, dIx_l, dIx_t, dIx_s, imm_int, imm_bl, imm_str, imm_non, imm_tup, imms_nil, imms_cons, imms_int, fLen_l, fLen_t, fLen_s, fTuple_l, fTuple_t, fList_l, fList_t, fList_s, List.set_cons_zero, List.set_cons_succ, Option.map_some, lenc, lenn, Nat.reduceAdd, Nat.reduceLeDiff, Int.reduceLT, Int.reduceLE, List.length_map, lim_eq, Bool.and_true, Bool.and_self, Bool.not_true, Bool.not_false, pullD, List.map_cons, List.map_nil, List.getElem?_cons_zero, List.getElem?_cons_succ, Option.join_some, startD, List.cons_append, List.nil_append, List.replicate, and_self, and_true, true_and, eIsi_b, Dv.isScr, tyN, callM_b, celM_b, celB_s, cel2_t, cel2_f, cel3_s, loop_c, loop_n, lp1_s, lp2_n, lp2_c, lp2_b, lp2_r, gT_b, gC_b, gcB_s, gZ_b, iL_b, iLI_b, iT_b, iTI_b, ilB_l, ilB_s, iliB_l, itB_t, itiB_t]; rfl, ⟨_, _, _, _, _, _, _, _, _, rfl⟩⟩)
  simp only [M_law, b_law, hit, e, eOp_b, eUn_b, eImm_b, eAnd_b, eOr_b, eIf_b, sIf_b, tOf_b, tand_b, tor_b, tnot_b, tyes_b, aNil_b, aCons_b, eTup_b, eLst_b, eLstI_b, eCall_b, eSl_b, oNone_b, oSome_b, sSeq_b, sSet_b, sRet_b, sDrop_b, sSkip_b, sFor_b, eComp_b, sApp_b, eC_b, eVar_z, eVar_s, opB_s, unB_s, immB_s, andB_t, andB_f, orB_t, orB_f, ifB_t, ifB_f, tofB_s, tandB_t, tandB_f, torB_t, torB_f, tnotB_s, consB_s, tupB_s, lstB_s, lstIB_s, callB_s, partB_s, slB_scr, slB_lst, seqB_n, seqB_r, setB_s, retB_s, dropB_s, forB_s, compB_s, endB_r, appB_s, gN_b, dAdd_i, dSub_i, dMod_i, dDiv_i, dLt_i, dLe_i, dGt_i, dGe_i, dNeg_i, dNot_b, dEq_i, dNe_i, dEq_b, dIx_l, dIx_t, dIx_s, imm_int, imm_bl, imm_str, imm_non, imm_tup, imms_nil, imms_cons, imms_int, fLen_l, fLen_t, fLen_s, fTuple_l, fTuple_t, fList_l, fList_t, fList_s, List.set_cons_zero, List.set_cons_succ, Option.map_some, lenc, lenn, Nat.reduceAdd, Nat.reduceLeDiff, Int.reduceLT, Int.reduceLE, List.length_map, lim_eq, Bool.and_true, Bool.and_self, Bool.not_true, Bool.not_false, pullD, List.map_cons, List.map_nil, List.getElem?_cons_zero, List.getElem?_cons_succ, Option.join_some, startD, List.cons_append, List.nil_append, List.replicate, and_self, and_true, true_and, eIsi_b, Dv.isScr, tyN, callM_b, celM_b, celB_s, cel2_t, cel2_f, cel3_s, loop_c, loop_n, lp1_s, lp2_n, lp2_c, lp2_b, lp2_r, gT_b, gC_b, gcB_s, gZ_b, iL_b, iLI_b, iT_b, iTI_b, ilB_l, ilB_s, iliB_l, itB_t, itiB_t]
end K10

set_option maxHeartbeats 4000000
namespace K10
open PySem L2
theorem all_mk {l : PySem.W.OpenLaw} {w : World} {K : PySem.W.Frag} {h : Heap} {mg : Str → Option Value} {fa f1 f2 f3 f4 f5 f6 : Addr} (X : K.In h) (G : h.Ns mainGlobals mg) (hfa : mg "law" = some (.ref fa))
    {od1 an1 od2 an2 od3 an3 od4 an4 od5 an5 od6 an6 : Option Addr} {sl1 sl2 sl3 sl4 sl5 sl6 : Array (Option Value)} {oc1 kV1 dc1 pm1 cd1 ct1 oc2 kV2 dc2 pm2 cd2 ct2 oc3 kV3 dc3 pm3 cd3 ct3 oc4 kV4 dc4 pm4 cd4 ct4 oc5 kV5 dc5 pm5 cd5 ct5 oc6 kV6 dc6 pm6 cd6 ct6 : Value}
    (a1 : PySem.W.nsIn K mainGlobals "passes" = some (some (.ref f1))) (l1 : K.lookup f1 = some ⟨oc1, od1, .func (PySem.W.fnOf "passes" "passes" (defArgs st_passes) (defBody st_passes) (defScope st_passes) .none kV1 dc1 pm1 an1 cd1 ct1), sl1⟩) (c1 : PySem.W.codeIn K cd1 "passes" = true) (k1 : PySem.W.keepIn K (.ref f1) = true)
    (a2 : PySem.W.nsIn K mainGlobals "_law_stream" = some (some (.ref f2))) (l2 : K.lookup f2 = some ⟨oc2, od2, .func (PySem.W.fnOf "_law_stream" "_law_stream" (defArgs st_w_stream) (defBody st_w_stream) (defScope st_w_stream) .none kV2 dc2 pm2 an2 cd2 ct2), sl2⟩) (c2 : PySem.W.codeIn K cd2 "_law_stream" = true) (k2 : PySem.W.keepIn K (.ref f2) = true)
    (a3 : PySem.W.nsIn K mainGlobals "_law_row" = some (some (.ref f3))) (l3 : K.lookup f3 = some ⟨oc3, od3, .func (PySem.W.fnOf "_law_row" "_law_row" (defArgs st_w_row) (defBody st_w_row) (defScope st_w_row) .none kV3 dc3 pm3 an3 cd3 ct3), sl3⟩) (c3 : PySem.W.codeIn K cd3 "_law_row" = true) (k3 : PySem.W.keepIn K (.ref f3) = true)
    (a4 : PySem.W.nsIn K mainGlobals "_law_number" = some (some (.ref f4))) (l4 : K.lookup f4 = some ⟨oc4, od4, .func (PySem.W.fnOf "_law_number" "_law_number" (defArgs st_w_number) (defBody st_w_number) (defScope st_w_number) .none kV4 dc4 pm4 an4 cd4 ct4), sl4⟩) (c4 : PySem.W.codeIn K cd4 "_law_number" = true) (k4 : PySem.W.keepIn K (.ref f4) = true)
    (a5 : PySem.W.nsIn K mainGlobals "_law_alike" = some (some (.ref f5))) (l5 : K.lookup f5 = some ⟨oc5, od5, .func (PySem.W.fnOf "_law_alike" "_law_alike" (defArgs st_w_alike) (defBody st_w_alike) (defScope st_w_alike) .none kV5 dc5 pm5 an5 cd5 ct5), sl5⟩) (c5 : PySem.W.codeIn K cd5 "_law_alike" = true) (k5 : PySem.W.keepIn K (.ref f5) = true)
    (a6 : PySem.W.nsIn K mainGlobals "law" = some (some (.ref f6))) (l6 : K.lookup f6 = some ⟨oc6, od6, .func (PySem.W.fnOf "law" "law" (defArgs st_law) (defBody st_law) (defScope st_law) .none kV6 dc6 pm6 an6 cd6 ct6), sl6⟩) (c6 : PySem.W.codeIn K cd6 "law" = true) (k6 : PySem.W.keepIn K (.ref f6) = true)
    (z1 : PySem.W.nsIn K mainGlobals "bool" = some none)
    (z2 : PySem.W.nsIn K mainGlobals "isinstance" = some none)
    (z3 : PySem.W.nsIn K mainGlobals "len" = some none)
    (z4 : PySem.W.nsIn K mainGlobals "range" = some none)
    (z5 : PySem.W.nsIn K mainGlobals "tuple" = some none)
    : ∃ fd : FuncData, (∀ (s : Shared) (v : Value), BindsTo s fd ⟨[v], []⟩ [("_law_script", v)]) ∧ ∀ base : Heap, K.In base → base.Ns mainGlobals mg → FnOk l.prog w K mg base CX0 2 fa fd ["_law_script"] (spD K .imm M_law) := by
  have e := hfa.symm.trans (PySem.W.mg_of X G a6)
  cases e
  have B : Blt mg := ⟨PySem.W.mg_none_of X G z1, PySem.W.mg_none_of X G z2, PySem.W.mg_none_of X G z3, PySem.W.mg_none_of X G z4, PySem.W.mg_none_of X G z5⟩
  have F1 := fun_mk (st := st_passes) l1 c1 k1
  have b1 := F1.binds (ps := ["row", "check"]) fun _ _ _ _ _ _ us hl => match us, hl with | [_, _], _ => rfl
  have F2 := fun_mk (st := st_w_stream) l2 c2 k2
  have b2 := F2.binds (ps := ["_law_cell", "_law_many"]) fun _ _ _ _ _ _ us hl => match us, hl with | [_, _], _ => rfl
  have F3 := fun_mk (st := st_w_row) l3 c3 k3
  have b3 := F3.binds (ps := ["_law_xs"]) fun _ _ _ _ _ _ us hl => match us, hl with | [_], _ => rfl
  have F4 := fun_mk (st := st_w_number) l4 c4 k4
  have b4 := F4.binds (ps := ["_law_xs", "_law_row_here", "_law_at"]) fun _ _ _ _ _ _ us hl => match us, hl with | [_, _, _], _ => rfl
  have F5 := fun_mk (st := st_w_alike) l5 c5 k5
  have b5 := F5.binds (ps := ["_law_found", "_law_due"]) fun _ _ _ _ _ _ us hl => match us, hl with | [_, _], _ => rfl
  have F6 := fun_mk (st := st_law) l6 c6 k6
  refine ⟨PySem.W.fnOf "law" "law" (defArgs st_law) (defBody st_law) (defScope st_law) .none kV6 dc6 pm6 an6 cd6 ct6, fun s v => .of_eq rfl, fun base _ _ => ?_⟩
  have D_passes := def_mk (P := l.prog) (w := w) (base := base) F1 (PySem.W.mg_of X G a1) (ok_passes F1 B) b1
  have D_w_stream := def_mk (P := l.prog) (w := w) (base := base) F2 (PySem.W.mg_of X G a2) (ok_w_stream F2 B) b2
  have D_w_row := def_mk (P := l.prog) (w := w) (base := base) F3 (PySem.W.mg_of X G a3) (ok_w_row F3 B) b3
  have D_w_number := def_mk (P := l.prog) (w := w) (base := base) F4 (PySem.W.mg_of X G a4) (ok_w_number F4 B) b4
  have D_w_alike := def_mk (P := l.prog) (w := w) (base := base) F5 (PySem.W.mg_of X G a5) (ok_w_alike F5 B) b5
  exact ok_law F6 B D_w_stream D_w_row D_w_number D_w_alike D_passes
theorem walk {l : PySem.W.OpenLaw} {q : Program} {loose : List Str} {XP : (Str → Option Value) → Heap → Prop} {YP : World → Heap → Prop} {d : DefRec} {K : Params → PySem.W.Frag} (hn : l.most = some 63) (hdf : d.params.defaults = [])
    (hY : ∀ (w : World) (h : Heap), YP w h → (K w.params).In h)
    (F : ∀ (w : World) (mg : Str → Option Value) (fa : Addr) (h : Heap), (K w.params).In h → h.Ns mainGlobals mg → mg d.name = some (.ref fa) →
      ∃ fd : FuncData, (∀ (s : Shared) (u : Value), BindsTo s fd ⟨[u], []⟩ [("_law_script", u)]) ∧ ∀ base : Heap, (K w.params).In base → base.Ns mainGlobals mg → FnOk l.prog w (K w.params) mg base CX0 2 fa fd ["_law_script"] (spD (K w.params) .imm M_law)) :
    PySem.W.WalkO q loose XP YP l.row.toRowW d [] (fun f vs => PySem.call f vs) :=
  L2.walk_of (n := 63) (k := 2) (x := "_law_script") (CX := fun _ => CX0) (sp := fun w => spD (K w.params) .imm M_law) hn (by decide) hdf ⟨rfl, by decide, by decide⟩ hY F (fun _ _ a ns hl hO hS => law_sp hO hS (law_true ns hl)) fun _ _ _ _ _ z => z
end K10
open PySem PySem.W PyProof.Rows
set_option maxRecDepth 100000 in
set_option maxHeartbeats 0 in
theorem PySem.Challenge.cw_deltahouse_k10_a_row_passes_holds : PySem.Challenge.rw_deltahouse_k10_a_row_passes.Holds := by
  w_on; o_law; k_head; (case hw => w_witness2)
  k_fill
  refine K10.walk (l := PySem.Challenge.rw_deltahouse_k10_a_row_passes) rfl rfl (fun w h Y => PySem.W.kIn_of Y) ?F
  case F =>
    intro w mg fa h KX G hmg
    refine' K10.all_mk KX G hmg ?a1 ?l1 ?c1 ?k1 ?a2 ?l2 ?c2 ?k2 ?a3 ?l3 ?c3 ?k3 ?a4 ?l4 ?c4 ?k4 ?a5 ?l5 ?c5 ?k5 ?a6 ?l6 ?c6 ?k6 ?z1 ?z2 ?z3 ?z4 ?z5
    (case a1 => k_is); (case l1 => k_is); (case c1 => k_is); (case k1 => k_is)
    (case a2 => k_is); (case l2 => k_is); (case c2 => k_is); (case k2 => k_is)
    (case a3 => k_is); (case l3 => k_is); (case c3 => k_is); (case k3 => k_is)
    (case a4 => k_is); (case l4 => k_is); (case c4 => k_is); (case k4 => k_is)
    (case a5 => k_is); (case l5 => k_is); (case c5 => k_is); (case k5 => k_is)
    (case a6 => k_is); (case l6 => k_is); (case c6 => k_is); (case k6 => k_is)
    (case z1 => k_is); (case z2 => k_is); (case z3 => k_is); (case z4 => k_is)
    (case z5 => k_is)
