import PyProof.Rows.All
import Wide.All
import OpenK.AllK
import Wide.FinOn
import Lean
import PyProof.EqAt
import PyProof.EqKinds
import PyProof.TupleCall
import PyProof.NeKinds
import PySem.Challenge.RW_rowpipes_k15_cells_of_sets
set_option Elab.async false
set_option linter.all false
set_option maxRecDepth 100000

/-! THE HAND LAYER, for ints, bools, texts, own classes, LISTS and tuples (index, slices, in, append, pop ..), calls, loops. Paste it whole ahead of your own text; what your proof does not reach may be deleted. -/
namespace L2
open PySem PySem.Spec PyProof.Rows

/-- a key: an int or a str -/
abbrev Key := Sum Int Str
def keyIs : Key → Value → Bool
  | .inl k, v => Value.isInt k v
  | .inr x, v => Value.isStrOf x v
def keyH (w : World) : Key → Int
  | .inl k => hashInt k
  | .inr x => hashStr w x
theorem keyIs_shape : ∀ {k : Key} {v : Value}, keyIs k v = true → (∃ i t, k = Sum.inl i ∧ v = Value.int i t) ∨ (∃ x t, k = Sum.inr x ∧ v = Value.str x t)
  | .inl i, v, h => by
    obtain ⟨t, e⟩ := Value.isInt_shape (k := i) (v := v) h
    exact .inl ⟨i, t, rfl, e⟩
  | .inr x, v, h => by
    obtain ⟨t, e⟩ := Value.isStrOf_shape (x := x) (v := v) h
    exact .inr ⟨x, t, rfl, e⟩
theorem keyIs_int (i : Int) (t : Tok) : keyIs (.inl i) (.int i t) = true := by simp [keyIs, Value.isInt]
theorem keyIs_str (x : Str) (t : Tok) : keyIs (.inr x) (.str x t) = true := by simp [keyIs, Value.isStrOf]
theorem key_ll (a b : Int) : decide ((Sum.inl a : Key) = Sum.inl b) = (a == b) := by
  by_cases e : a = b
  · subst e; simp
  · have h : ¬ (Sum.inl a : Key) = Sum.inl b := fun q => e (Sum.inl.inj q)
    rw [decide_eq_false h]
    exact (beq_eq_false_iff_ne.mpr e).symm
theorem key_rr (a b : Str) : decide ((Sum.inr a : Key) = Sum.inr b) = decide (a = b) := by
  by_cases e : a = b
  · subst e; simp
  · have h : ¬ (Sum.inr a : Key) = Sum.inr b := fun q => e (Sum.inr.inj q)
    rw [decide_eq_false h, decide_eq_false e]
theorem key_lr (a : Int) (b : Str) : decide ((Sum.inl a : Key) = Sum.inr b) = false := decide_eq_false (fun q => nomatch q)
theorem key_rl (a : Str) (b : Int) : decide ((Sum.inr a : Key) = Sum.inl b) = false := decide_eq_false (fun q => nomatch q)

def mixKind (prog : Program) (w : World) : PySem.KeyKind prog w Key where
  is := keyIs
  hash := keyH w
  inj := fun v a b ha hb => by
    rcases keyIs_shape ha with ⟨i, t, rfl, rfl⟩ | ⟨x, t, rfl, rfl⟩
    · rcases keyIs_shape hb with ⟨j, u, rfl, e⟩ | ⟨y, u, rfl, e⟩
      · injection e with e1 _; rw [e1]
      · exact nomatch e
    · rcases keyIs_shape hb with ⟨j, u, rfl, e⟩ | ⟨y, u, rfl, e⟩
      · exact nomatch e
      · injection e with e1 _; rw [e1]
  byValue := fun k v h => by
    rcases keyIs_shape h with ⟨i, t, rfl, rfl⟩ | ⟨x, t, rfl, rfl⟩ <;> rfl
  pyHash := fun hv h => by
    rcases keyIs_shape hv with ⟨i, t, rfl, rfl⟩ | ⟨x, t, rfl, rfl⟩
    · exact wpAny_pyHash_int h
    · exact wpAny_pyHash_str h
  eqBool := fun hu hv h => by
    rcases keyIs_shape hu with ⟨i, t, rfl, rfl⟩ | ⟨x, t, rfl, rfl⟩
    · rcases keyIs_shape hv with ⟨j, u, rfl, rfl⟩ | ⟨y, u, rfl, rfl⟩
      · rw [key_ll] at h; exact wpAny_eqBool_int h
      · rw [key_lr] at h; exact SeqAt.EqAt.int_str i t y u _ _ _ _ h
    · rcases keyIs_shape hv with ⟨j, u, rfl, rfl⟩ | ⟨y, u, rfl, rfl⟩
      · rw [key_rl] at h; exact SeqAt.EqAt.str_int x t j u _ _ _ _ h
      · rw [key_rr] at h; exact wpAny_eqBool_str h
  «strs» := fun k x t v h => by
    rcases keyIs_shape h with ⟨i, u, rfl, e⟩ | ⟨y, u, rfl, e⟩
    · exact nomatch e
    · injection e with e1 _
      subst e1
      cases v <;> rfl

theorem mixKind_is (prog : Program) (w : World) (k : Key) (v : Value) : (mixKind prog w).is k v = keyIs k v := rfl
theorem mixKind_int (prog : Program) (w : World) (i : Int) (t : Tok) : (mixKind prog w).is (.inl i) (.int i t) = true := keyIs_int i t
theorem mixKind_str (prog : Program) (w : World) (x : Str) (t : Tok) : (mixKind prog w).is (.inr x) (.str x t) = true := keyIs_str x t
end L2

namespace L2
open PySem PySem.Spec PyProof.Rows

/-- a value, without the heap -/
inductive V where
  | non | bl (b : Bool) | int (i : Int) | str (x : Str) | byt (b : Array UInt8) | flt (b : UInt64) | ref (a : Addr) | ty (n : String)
  deriving DecidableEq

def RelV : V → Value → Prop
  | .non, u => u = Value.none
  | .bl b, u => u = Value.bool b
  | .int i, u => ∃ t, u = Value.int i t
  | .str x, u => ∃ t, u = Value.str x t
  | .byt b, u => ∃ t, u = Value.bytes b t
  | .flt b, u => ∃ t, u = Value.float b t
  | .ref a, u => u = Value.ref a
  | .ty n, u => u = Value.type n

abbrev Vals : List V → List Value → Prop := Paired RelV
theorem Vals.length {xs : List V} {us : List Value} (r : Vals xs us) : xs.length = us.length := Paired.length r
theorem Vals.get : ∀ {xs : List V} {us : List Value} {i : Nat} {x : V}, Vals xs us → xs[i]? = some x → ∃ u, us[i]? = some u ∧ RelV x u
  | _, _, _, _, .nil, e => by simp at e
  | _, _, 0, _, .cons r _, e => by simp at e; subst e; exact ⟨_, rfl, r⟩
  | _, _, i + 1, x, .cons _ t, e => by
    obtain ⟨u, h1, h2⟩ := Vals.get (i := i) (x := x) t (by simpa using e)
    exact ⟨u, by simpa using h1, h2⟩
theorem Vals.set {x : V} {u : Value} (r : RelV x u) : ∀ {xs : List V} {us : List Value} (i : Nat), Vals xs us → Vals (xs.set i x) (us.set i u)
  | _, _, _, .nil => .nil
  | _, _, 0, .cons _ t => .cons r t
  | _, _, i + 1, .cons q t => .cons q (Vals.set r i t)
theorem Vals.append : ∀ {xs ys : List V} {us ws : List Value}, Vals xs us → Vals ys ws → Vals (xs ++ ys) (us ++ ws)
  | _, _, _, _, .nil, s => s
  | _, _, _, _, .cons r t, s => .cons r (Vals.append t s)
theorem Vals.take : ∀ {xs : List V} {us : List Value} (n : Nat), Vals xs us → Vals (xs.take n) (us.take n)
  | _, _, 0, _ => .nil
  | _, _, _ + 1, .nil => .nil
  | _, _, n + 1, .cons r t => .cons r (Vals.take n t)
theorem Vals.drop : ∀ {xs : List V} {us : List Value} (n : Nat), Vals xs us → Vals (xs.drop n) (us.drop n)
  | _, _, 0, r => r
  | _, _, _ + 1, .nil => .nil
  | _, _, n + 1, .cons _ t => Vals.drop n t
theorem Vals.none_of : ∀ {xs : List V} {us : List Value} {i : Nat}, Vals xs us → xs[i]? = none → us[i]? = none := fun {xs us i} r e => by
  have h1 := r.length
  have h2 : xs.length ≤ i := List.getElem?_eq_none_iff.mp e
  exact List.getElem?_eq_none_iff.mpr (by omega)

def RelO : Option V → Option Value → Prop
  | some v, some u => RelV v u
  | none, none => True
  | _, _ => False
def KV {κ : Type} : List (κ × V) → List (κ × Value) → Prop := Paired fun (p : κ × V) (q : κ × Value) => p.1 = q.1 ∧ RelV p.2 q.2

/-- a key of a dict (00_mix): an int or a text -/
def kV : Key → V
  | .inl i => .int i
  | .inr x => .str x

/-- what stands at a tracked address -/
inductive HO where
  /-- a list -/
  | lst (xs : List V)
  /-- a tuple (never changes) -/
  | tup (xs : List V)
  /-- a dict whose keys are ints and texts; one whose keys are tuples of ints and texts (the empty one is both) -/
  | dK (kvs : List (Key × V)) | dT (kvs : List (List Key × V))
  /-- a set of ints: its members, its size -/
  | set (S : Int → Bool) (n : Nat)
  /-- an instance of the class at C, its dict at dx, its attributes -/
  | ins (C dx : Addr) (fs : List (Str × V))
  /-- the dict of the instance at x -/
  | own (x : Addr)
  /-- the dict of an exception -/
  | xd (fs : List (Str × V))
  /-- a bound method, f of x -/
  | met (f x : Addr)
  /-- a range object lo, lo + 1, .. below hi -/
  | rng (lo hi : Int)
  /-- a thing that is known to the object (the script; a dict while a loop walks it): read, never written while it is so -/
  | frz (o : Obj) (u : HO)
  /-- a code object's table -/
  | tbl (ps : Array Value)
  /-- any other thing, by what is true of its one object (a def of one's own: SetO a S n := HO.ext fun h => ..) -/
  | ext (φ : Heap → Prop)

abbrev Hp := Addr → Option HO
def upd (H : Hp) (a : Addr) (o : HO) : Hp := fun b => if b = a then some o else H b
theorem upd_same {H : Hp} {a : Addr} {o : HO} : upd H a o a = some o := by unfold upd; rw [if_pos rfl]
theorem upd_ne {H : Hp} {a b : Addr} {o : HO} (h : b ≠ a) : upd H a o b = H b := by unfold upd; rw [if_neg h]
theorem upd_upd {H : Hp} {a : Addr} {o u : HO} : upd (upd H a o) a u = upd H a u := by
  funext b; unfold upd; split <;> rfl
/-- two objects of different content stand apart -/
theorem ne_of {H : Hp} {a b : Addr} {o u : HO} (h : H a = some o) (h' : H b = some u) (d : o ≠ u) : a ≠ b := by
  intro e; subst e; rw [h] at h'; exact d (Option.some.inj h')
theorem ne_of_none {H : Hp} {a b : Addr} {o : HO} (h : H a = some o) (h' : H b = none) : a ≠ b := by
  intro e; subst e; rw [h] at h'; cases h'

section
variable (P : Program) (w : World)
def ObjOk (H : Hp) (h : Heap) (a : Addr) : HO → Prop
  | .lst xs => xs.length ≤ sizeLine ∧ ∃ (its : List Value) (n : Nat), Vals xs its ∧ h.get? a = some { cls := .type "list", data := .seq its.toArray n }
  | .tup xs => xs.length ≤ sizeLine ∧ ∃ its : List Value, Vals xs its ∧ IsTup h a its.toArray
  | .dK kvs => kvs.length ≤ sizeLine ∧ (a == sysModules) = false ∧ ∃ vs, KV kvs vs ∧ h.DictOf (mixKind P w) a vs
  | .dT kvs => kvs.length ≤ sizeLine ∧ (a == sysModules) = false ∧ ∃ xs : List (List Key × Addr × Value),
      Paired (fun (p : List Key × V) (q : List Key × Addr × Value) => p.1 = q.1 ∧ H q.2.1 = some (.tup (p.1.map kV)) ∧ RelV p.2 q.2.2) kvs xs ∧
      ∃ o es ep, h.get? a = some o ∧ o.ExactDict ∧ o.data = .dict es ep ∧ es.toList = xs.map (entryOfKey (tupleKind (mixKind P w))) ∧ (xs.map (·.1)).Nodup
  | .set S n => h.SetOf (intKind P w) a S n
  | .ins C dx fs => H dx = some (.own a) ∧ fs.length ≤ 1000 ∧ dx ≠ a ∧ h.get? a = some (PySem.W.instObj C dx) ∧
      ∃ mA, h.Ns1 dx mA ∧ (∀ f, RelO (fs.lookup f) (mA f)) ∧ PySem.Within mA (fs.map (·.1))
  | .own _ => ∃ o, h.get? a = some o
  | .xd fs => ∃ mA, h.Ns1 a mA ∧ ∀ f, RelO (fs.lookup f) (mA f)
  | .rng lo hi => ∃ t u v, h.get? a = some { cls := .type "range", data := .fields #[.int lo t, .int hi u, .int 1 v] }
  | .frz o u => h.get? a = some o ∧ ObjOk H h a u
  | .tbl ps => h.get? a = some { cls := .none, data := .fields ps }
  | .met f x => h.get? a = some (PySem.W.methodObj (.ref f) (.ref x))
  | .ext φ => φ h ∧ (∃ o, h.get? a = some o) ∧ ∀ h1 h2 : Heap, φ h1 → (∀ o, h1.get? a = some o → h2.get? a = some o) → φ h2
/-- the abstract heap is held -/
def HOk (H : Hp) (h : Heap) : Prop := ∀ a o, H a = some o → ObjOk P w H h a o
end

section
variable {P : Program} {w : World} {H H' : Hp} {h h' : Heap} {a : Addr} {o : HO}
theorem ObjOk.lt (x : ObjOk P w H h a o) : a < h.objs.size := by
  cases o with
  | lst xs => obtain ⟨_, _, _, _, e⟩ := x; exact Heap.lt_size e
  | tup xs => obtain ⟨_, _, _, p⟩ := x; exact p.lt
  | dK kvs => obtain ⟨_, _, _, _, o, _, _, e, _⟩ := x; exact Heap.lt_size e
  | dT kvs => obtain ⟨_, _, _, _, o, _, _, e, _⟩ := x; exact Heap.lt_size e
  | set S n => obtain ⟨o, _, _, _, e, _⟩ := x; exact Heap.lt_size e
  | ins C dx fs => obtain ⟨_, _, _, e, _⟩ := x; exact Heap.lt_size e
  | own y => obtain ⟨_, e⟩ := x; exact Heap.lt_size e
  | xd fs => obtain ⟨_, ⟨_, _, _, e, _⟩, _⟩ := x; exact Heap.lt_size e
  | rng lo hi => obtain ⟨_, _, _, e⟩ := x; exact Heap.lt_size e
  | frz ob u => obtain ⟨e, _⟩ := x; exact Heap.lt_size e
  | tbl ps => exact Heap.lt_size (show h.get? a = some _ from x)
  | met f y => exact Heap.lt_size (show h.get? a = some _ from x)
  | ext φ => obtain ⟨_, ⟨_, e⟩, _⟩ := x; exact Heap.lt_size e
theorem Paired.mapP {α β : Type} {F G : α → β → Prop} : ∀ {l₁ : List α} {l₂ : List β}, Paired F l₁ l₂ → (∀ a b, F a b → G a b) → Paired G l₁ l₂
  | _, _, .nil, _ => .nil
  | _, _, .cons r t, f => .cons (f _ _ r) (Paired.mapP t f)
theorem Paired.imp' {α β : Type} {F G : α → β → Prop} (f : ∀ a b, F a b → G a b) {l₁ : List α} {l₂ : List β} (r : Paired F l₁ l₂) : Paired G l₁ l₂ := Paired.mapP r f
/-- what an object's description leans on: its own object, its own dict, the tuples -/
theorem ObjOk.stay (x : ObjOk P w H h a o) (k : ∀ b u, (b = a ∨ H b = some (.own a)) → h.get? b = some u → h'.get? b = some u)
    (ho : ∀ b, H b = some (.own a) → H' b = some (.own a)) (ht : ∀ b xs, H b = some (.tup xs) → H' b = some (.tup xs)) : ObjOk P w H' h' a o := by
  induction o with
  | lst xs => obtain ⟨z, its, n, r, e⟩ := x; exact ⟨z, its, n, r, k _ _ (.inl rfl) e⟩
  | tup xs => obtain ⟨z, its, r, ob, e, c⟩ := x; exact ⟨z, its, r, ob, k _ _ (.inl rfl) e, c⟩
  | dK kvs => obtain ⟨z, y, vs, r, ob, es, ep, e, c⟩ := x; exact ⟨z, y, vs, r, ob, es, ep, k _ _ (.inl rfl) e, c⟩
  | dT kvs =>
    obtain ⟨z, y, xs, r, ob, es, ep, e, c⟩ := x
    exact ⟨z, y, xs, Paired.mapP r fun p q z => ⟨z.1, ht _ _ z.2.1, z.2.2⟩, ob, es, ep, k _ _ (.inl rfl) e, c⟩
  | set S n => obtain ⟨ob, es, ep, t, e, c⟩ := x; exact ⟨ob, es, ep, t, k _ _ (.inl rfl) e, c⟩
  | ins C dx fs =>
    obtain ⟨d, z, ne, e, mA, ⟨od, es, ep, e2, c⟩, r⟩ := x
    exact ⟨ho _ d, z, ne, k _ _ (.inl rfl) e, mA, ⟨od, es, ep, k _ _ (.inr d) e2, c⟩, r⟩
  | own y => obtain ⟨ob, e⟩ := x; exact ⟨ob, k _ _ (.inl rfl) e⟩
  | xd fs => obtain ⟨mA, ⟨od, es, ep, e, c⟩, r⟩ := x; exact ⟨mA, ⟨od, es, ep, k _ _ (.inl rfl) e, c⟩, r⟩
  | rng lo hi => obtain ⟨t, u, v, e⟩ := x; exact ⟨t, u, v, k _ _ (.inl rfl) e⟩
  | frz ob u ih => obtain ⟨e, q⟩ := x; exact ⟨k _ _ (.inl rfl) e, ih q⟩
  | tbl ps =>
    have e : h.get? a = some { cls := .none, data := .fields ps } := x
    show h'.get? a = some { cls := .none, data := .fields ps }
    exact k a _ (.inl rfl) e
  | met f y =>
    have e : h.get? a = some (PySem.W.methodObj (.ref f) (.ref y)) := x
    show h'.get? a = some (PySem.W.methodObj (.ref f) (.ref y))
    exact k a _ (.inl rfl) e
  | ext φ => obtain ⟨p, ⟨o, e⟩, st⟩ := x; exact ⟨st _ _ p fun o q => k _ _ (.inl rfl) q, ⟨o, k _ _ (.inl rfl) e⟩, st⟩
theorem HOk.lt (x : HOk P w H h) (e : H a = some o) : a < h.objs.size := (x a o e).lt
theorem HOk.fresh (x : HOk P w H h) (e : h.objs.size ≤ a) : H a = none := by
  cases q : H a with
  | none => rfl
  | some u => exact absurd (Nat.lt_of_lt_of_le (x.lt q) e) (Nat.lt_irrefl _)
/-- every object of the heap is kept -/
theorem HOk.kept (x : HOk P w H h) (k : ∀ b u, h.get? b = some u → h'.get? b = some u) : HOk P w H h' := fun a o e =>
  (x a o e).stay (fun b u _ q => k b u q) (fun _ q => q) fun _ _ q => q
/-- a new object is laid and tracked -/
theorem HOk.laid (x : HOk P w H h) (k : ∀ b u, h.get? b = some u → h'.get? b = some u) (hp : h.objs.size ≤ a) (new : ObjOk P w (upd H a o) h' a o) : HOk P w (upd H a o) h' := fun b u e => by
  have hn := x.fresh hp
  by_cases hb : b = a
  · subst hb; rw [upd_same] at e; cases e; exact new
  · rw [upd_ne hb] at e
    exact (x b u e).stay (fun c v _ q => k c v q) (fun c q => by rw [upd_ne (ne_of_none q hn)]; exact q) fun c xs q => by rw [upd_ne (ne_of_none q hn)]; exact q
end

/-- what may be read as u: it is u, or a known u -/
def Rd (H : Hp) (a : Addr) (u : HO) : Prop := H a = some u ∨ ∃ o, H a = some (.frz o u)
theorem Rd.of {H : Hp} {a : Addr} {u : HO} (h : H a = some u) : Rd H a u := .inl h
theorem Rd.ok {P : Program} {w : World} {H : Hp} {h : Heap} {a : Addr} {u : HO} (r : Rd H a u) (x : HOk P w H h) : ObjOk P w H h a u := by
  rcases r with r | ⟨o, r⟩
  · exact x a u r
  · obtain ⟨_, q⟩ := x a _ r
    exact q
/-- what may be written -/
def Mut : Option HO → Prop
  | some (.lst _) => True
  | some (.dK _) => True
  | some (.dT _) => True
  | some (.set _ _) => True
  | some (.ins _ _ _) => True
  | some (.ext _) => True
  | _ => False
section
variable {P : Program} {w : World} {H : Hp} {h h' : Heap} {x e : Addr} {o' : HO}
/-- the object at e is changed: x itself, or the dict of the instance x -/
theorem HOk.write (ok : HOk P w H h) (mu : Mut (H x)) (he : e = x ∨ H e = some (.own x)) (k : ∀ b u, b ≠ e → h.get? b = some u → h'.get? b = some u) (heo : ∃ u, h'.get? e = some u)
    (new : ObjOk P w (upd H x o') h' x o') : HOk P w (upd H x o') h' := fun b u q => by
  have nown : ∀ c y, H c = some (.own y) → c ≠ x := fun c y r z => by subst z; rw [r] at mu; exact mu
  have ntup : ∀ c xs, H c = some (.tup xs) → c ≠ x := fun c xs r z => by subst z; rw [r] at mu; exact mu
  by_cases hb : b = x
  · subst hb; rw [upd_same] at q; cases q; exact new
  · rw [upd_ne hb] at q
    by_cases hbe : b = e
    · have q' : H b = some (.own x) := by
        rcases he with z | z
        · exact absurd (hbe.trans z) hb
        · rw [hbe]; exact z
      rw [q] at q'; cases q'
      obtain ⟨v, hv⟩ := heo
      exact ⟨v, by rw [hbe]; exact hv⟩
    · refine (ok b u q).stay (fun c v hc r => k c v ?_ r) (fun c r => by rw [upd_ne (nown c b r)]; exact r) fun c xs r => by rw [upd_ne (ntup c xs r)]; exact r
      rcases hc with rfl | hc
      · exact hbe
      · rintro rfl
        rcases he with z | z
        · exact nown c b hc z
        · rw [hc] at z; cases z; exact hb rfl
end

/-! ### kept unless tracked; of the frames at fs (the callers') the slots may change (an exception that passes writes there); of the records at ex (iterators) nothing is said -/
structure Un (fs ex : List Addr) (H H' : Hp) (h h' : Heap) : Prop where
  keep : ∀ b o, h.get? b = some o → H b = none → b ∉ fs → b ∉ ex → h'.get? b = some o
  slot : ∀ b o, h.get? b = some o → H b = none → b ∈ fs → b ∉ ex → ∃ sl, h'.get? b = some { o with slots := sl }
  free : ∀ b o, h.get? b = some o → H b = none → b ∉ ex → H' b = none
  there : ∀ b o, h.get? b = some o → b ∉ ex → ∃ o', h'.get? b = some o'
  tups : ∀ b xs, H b = some (.tup xs) → H' b = some (.tup xs)
  frzs : ∀ b o u, H b = some (.frz o u) → H' b = some (.frz o u)
  tbls : ∀ b ps, H b = some (.tbl ps) → ∃ more, H' b = some (.tbl (ps ++ more))
section
variable {fs fs' ex ex' : List Addr} {H H1 H2 : Hp} {h h1 h2 h' : Heap} {a x e : Addr} {o : HO}
theorem Un.any (u : Un fs ex H H1 h h1) {b : Addr} {ob : Obj} (q : h.get? b = some ob) (n : H b = none) (hx : b ∉ ex) : ∃ sl, h1.get? b = some { ob with slots := sl } := by
  by_cases hb : b ∈ fs
  · exact u.slot b ob q n hb hx
  · exact ⟨ob.slots, u.keep b ob q n hb hx⟩
theorem Un.trans (a : Un fs ex H H1 h h1) (b : Un fs ex H1 H2 h1 h2) : Un fs ex H H2 h h2 where
  keep := fun c ob q n hc hx => b.keep c ob (a.keep c ob q n hc hx) (a.free c ob q n hx) hc hx
  slot := fun c ob q n hc hx => by
    obtain ⟨sl, e1⟩ := a.slot c ob q n hc hx
    obtain ⟨sl', e2⟩ := b.slot c _ e1 (a.free c ob q n hx) hc hx
    exact ⟨sl', e2⟩
  free := fun c ob q n hx => by
    obtain ⟨o', e1⟩ := a.there c ob q hx
    exact b.free c o' e1 (a.free c ob q n hx) hx
  there := fun c ob q hx => by
    obtain ⟨o', e1⟩ := a.there c ob q hx
    exact b.there c o' e1 hx
  tups := fun c xs q => b.tups c xs (a.tups c xs q)
  frzs := fun c ob xs q => b.frzs c ob xs (a.frzs c ob xs q)
  tbls := fun c ps q => by
    obtain ⟨m1, e1⟩ := a.tbls c ps q
    obtain ⟨m2, e2⟩ := b.tbls c _ e1
    exact ⟨m1 ++ m2, by rw [e2, Array.append_assoc]⟩
theorem Un.kept (k : ∀ b u, h.get? b = some u → h'.get? b = some u) : Un fs ex H H h h' :=
  ⟨fun b ob q _ _ _ => k b ob q, fun b ob q _ _ _ => ⟨ob.slots, k b ob q⟩, fun _ _ _ n _ => n, fun b ob q _ => ⟨ob, k b ob q⟩, fun _ _ q => q, fun _ _ _ q => q, fun _ ps q => ⟨#[], by rw [q]; simp⟩⟩
theorem Un.refl : Un fs ex H H h h := Un.kept fun _ _ q => q
theorem Un.laid (k : ∀ b u, h.get? b = some u → h'.get? b = some u) (hp : h.objs.size ≤ a) (hn : H a = none) : Un fs ex H (upd H a o) h h' where
  keep := fun b u q _ _ _ => k b u q
  slot := fun b u q _ _ _ => ⟨u.slots, k b u q⟩
  free := fun b u q n _ => by rw [upd_ne (Nat.ne_of_lt (Nat.lt_of_lt_of_le (Heap.lt_size q) hp))]; exact n
  there := fun b u q _ => ⟨u, k b u q⟩
  tups := fun b xs q => by rw [upd_ne (ne_of_none q hn)]; exact q
  frzs := fun b u xs q => by rw [upd_ne (ne_of_none q hn)]; exact q
  tbls := fun b ps q => ⟨#[], by rw [upd_ne (ne_of_none q hn), q]; simp⟩
theorem Un.write (mu : Mut (H x)) (he : e = x ∨ H e = some (.own x)) (k : ∀ b u, b ≠ e → h.get? b = some u → h'.get? b = some u) (heo : ∃ u, h'.get? e = some u) : Un fs ex H (upd H x o) h h' := by
  have hx : ∀ b, H b = none → b ≠ x := fun b n z => by subst z; rw [n] at mu; exact mu
  have hb : ∀ b, H b = none → b ≠ e := fun b n z => by
    subst z
    rcases he with r | r
    · exact hx b n r
    · rw [n] at r; cases r
  have hm : ∀ b u, H b = some u → ¬ Mut (some u) → b ≠ x := fun b u q nm z => by subst z; rw [q] at mu; exact nm mu
  refine ⟨fun b u q n _ _ => k b u (hb b n) q, fun b u q n _ _ => ⟨u.slots, k b u (hb b n) q⟩, fun b u q n _ => by rw [upd_ne (hx b n)]; exact n, fun b u q _ => ?_,
    fun b xs q => by rw [upd_ne (hm b _ q fun z => z)]; exact q, fun b u xs q => by rw [upd_ne (hm b _ q fun z => z)]; exact q, fun b ps q => ⟨#[], by rw [upd_ne (hm b _ q fun z => z), q]; simp⟩⟩
  by_cases hbe : b = e
  · subst hbe; exact heo
  · exact ⟨u, k b u hbe q⟩
theorem Un.mono (u : Un fs ex H H1 h h1) (hs : ∀ b ∈ fs, b ∈ fs') (hx : ∀ b ∈ ex, b ∈ ex') : Un fs' ex' H H1 h h1 :=
  ⟨fun b ob q n hb he => u.keep b ob q n (fun z => hb (hs b z)) fun z => he (hx b z), fun _ _ q n _ he => u.any q n fun z => he (hx _ z), fun b ob q n he => u.free b ob q n fun z => he (hx b z), fun b ob q he => u.there b ob q fun z => he (hx b z), u.tups, u.frzs, u.tbls⟩
end

/-! ### the heap without what is tracked -/
def trk (h : Heap) (H : Hp) : List Addr := (List.range h.objs.size).filter fun a => (H a).isSome
def hidT (h : Heap) (H : Hp) : Heap := PySem.W.hideAll h (trk h H)
theorem hidT_size (h : Heap) (H : Hp) : (hidT h H).objs.size = h.objs.size := PySem.W.hideAll_size _ _
theorem hidT_get {h : Heap} {H : Hp} {b : Addr} {o : Obj} (e : h.get? b = some o) (n : H b = none) : (hidT h H).get? b = some o :=
  PySem.W.hideAll_get _ e fun hm => by
    have q : (H b).isSome = true := (List.mem_filter.mp hm).2
    rw [n] at q; simp at q
theorem of_hidT {h : Heap} {H : Hp} {b : Addr} {o : Obj} (e : (hidT h H).get? b = some o) : h.get? b = some o ∧ H b = none := by
  have e' : h.get? b = some o := PySem.W.of_hideAll (trk h H) e
  refine ⟨e', ?_⟩
  cases q : H b with
  | none => rfl
  | some x =>
    have hm : b ∈ trk h H := List.mem_filter.mpr ⟨List.mem_range.mpr (Heap.lt_size e'), by simp [q]⟩
    have z : (hidT h H).get? b = none := PySem.W.hideAll_none (trk h H) hm
    rw [z] at e; cases e

/-! ### OpenK's ledger, filled with every new object but one -/
def allNews (g h : Heap) (L : Addr) : List (Addr × Obj) := (List.range h.objs.size).filterMap fun a => if a = L ∨ (g.get? a).isSome = true then none else (h.get? a).map fun o => (a, o)
theorem mem_allNews {g h : Heap} {L a : Addr} {o : Obj} (h1 : a ≠ L) (h2 : g.get? a = none) (h3 : h.get? a = some o) : (a, o) ∈ allNews g h L :=
  List.mem_filterMap.mpr ⟨a, List.mem_range.mpr (Heap.lt_size h3), by simp [h1, h2, h3]⟩
theorem of_mem_allNews {g h : Heap} {L : Addr} {p : Addr × Obj} (hp : p ∈ allNews g h L) : p.1 ≠ L ∧ g.get? p.1 = none ∧ h.get? p.1 = some p.2 := by
  obtain ⟨b, _, e⟩ := List.mem_filterMap.mp hp
  split at e
  · cases e
  · rename_i hn
    cases q : h.get? b with
    | none => rw [q] at e; simp at e
    | some u =>
      rw [q] at e
      simp only [Option.map_some, Option.some.injEq] at e
      subst e
      refine ⟨fun z => hn (.inl z), ?_, q⟩
      show g.get? b = none
      cases r : g.get? b with
      | none => rfl
      | some v => exact (hn (.inr (by simp [r]))).elim
def rest (g h : Heap) (L d : Addr) : List (Addr × Obj) := (allNews g h L).filter fun p => decide (p.1 ≠ d)
theorem rest_ne {g h : Heap} {L d : Addr} : ∀ p ∈ rest g h L d, p.1 ≠ d := fun p hp => of_decide_eq_true (List.mem_filter.mp hp).2
theorem mem_rest {g h : Heap} {L d a : Addr} {o : Obj} (h1 : a ≠ L) (h2 : g.get? a = none) (h3 : h.get? a = some o) (h4 : a ≠ d) : (a, o) ∈ rest g h L d :=
  List.mem_filter.mpr ⟨mem_allNews h1 h2 h3, decide_eq_true h4⟩
theorem news_all {g h : Heap} {L : Addr} : News g L h (allNews g h L) := fun p hp => let ⟨a, b, c⟩ := of_mem_allNews hp; ⟨c, a, b⟩
theorem news_at {g h : Heap} {L d : Addr} {o : Obj} (h1 : d ≠ L) (h2 : g.get? d = none) (h3 : h.get? d = some o) : News g L h ((d, o) :: rest g h L d) := fun p hp => by
  rcases List.mem_cons.mp hp with rfl | hp
  · exact ⟨h3, h1, h2⟩
  · exact news_all p (List.mem_filter.mp hp).1
/-- behind a rule that changed d alone: all else but the frame is kept -/
theorem kept_of_news {g h h' : Heap} {L d : Addr} {m : Str → Option Value} (k : ∀ b o, g.get? b = some o → h.get? b = some o) (F : Fr g L h' m) (N : News g L h' (rest g h L d)) :
    ∀ b o, b ≠ L → b ≠ d → h.get? b = some o → h'.get? b = some o := fun b o h1 h2 e => by
  cases q : g.get? b with
  | some u =>
    have := k b u q
    rw [e] at this; cases this
    exact F.keep b _ q
  | none => exact (N (b, o) (mem_rest h1 q e h2)).1
end L2

namespace L2
open PySem PySem.Spec PyProof.Rows

/-- the module's facts, over the base: the heap at the law's entry without what is tracked there -/
structure Mod (K : PySem.W.Frag) (mg : Str → Option Value) (base : Heap) : Prop where
  kin : K.In base
  glob : base.Ns mainGlobals mg
  blt : ∃ mb, base.Ns builtinsNs mb ∧ ∀ x : Str, x ≠ "__name__" → mb x = bootBuiltins x
  nolimit : base.NoLimit

/-- the context: a def's body (or a comprehension's block) running. base: fixed through the whole law; s₀, H₀: the entry; outer: the frames whose slots others may change (a def's callers); stack: all frames that run;
   ex: iterators that were made ahead of the entry and are walked here (a comprehension's); fn: the names whose cells were made at the entry (a def: all; a comprehension's block: its own); calm: not within an except suite; pn: pins that every state bears; xe: what is wanted of an exception that leaves the code -/
structure Cx where
  prog : Program
  w : World
  K : PySem.W.Frag
  mg : Str → Option Value
  base : Heap
  A : Around
  N : List Str
  s₀ : Shared
  H₀ : Hp
  env : Env
  outer : List Env
  stack : List Env
  ex : List Addr
  fn : Str → Bool
  calm : Bool
  pn : List (Addr × Obj)
  xe : Value → Shared → Prop
/-- the callers' frames -/
def frs (l : List Env) : List Addr := l.filterMap (·.frame)
abbrev Cx.fs (X : Cx) : List Addr := frs X.outer

def Vis (sc : Scope) (x : Str) : Prop := sc.names.lookup x = some .local ∨ sc.names.lookup x = some .cell ∨ sc.names.lookup x = some .free
def Loc (sc : Scope) (x : Str) : Prop := sc.names.lookup x = some .local ∨ sc.names.lookup x = some .cell
def Look (env : Env) (h : Heap) (m : Str → Option Value) (x : Str) (u : Value) : Prop :=
  (env.kindOf x = some .local ∧ m x = some u) ∨ ((env.kindOf x = some .cell ∨ env.kindOf x = some .free) ∧ ∃ c, env.cells.lookup x = some c ∧ h.IsCell c (some u))

structure Cx.Ok (X : Cx) : Prop where
  mod : Mod X.K X.mg X.base
  kind : X.env.scope.kind = .function
  glob : X.env.globals = mainGlobals
  blt : X.env.builtins = builtinsNs
  above : X.s₀.heap.objs.size ≤ X.env.locals
  inj : ∀ x y c, X.env.cells.lookup x = some c → X.env.cells.lookup y = some c → x = y
  has : ∀ x, (X.env.kindOf x = some .cell ∨ X.env.kindOf x = some .free) → ∃ c, X.env.cells.lookup x = some c
  cab : ∀ x c, X.fn x = true → X.env.cells.lookup x = some c → X.s₀.heap.objs.size ≤ c
  hd : X.calm = true → X.A.handled = none
  frames : X.A.frames = some X.stack
  stk : X.stack = X.outer ∨ (X.stack = X.env :: X.outer ∧ X.env.frame = some X.env.locals)
  exf : ∀ b ∈ X.ex, b ≠ X.env.locals ∧ ∀ x c, X.env.cells.lookup x = some c → c ≠ b
  bs : ∀ b o, X.base.get? b = some o → X.s₀.heap.get? b = some o ∧ X.H₀ b = none
  bsz : X.base.objs.size ≤ X.s₀.heap.objs.size
  noex : ∀ b o, X.base.get? b = some o → b ∉ X.ex
  exfs : ∀ b ∈ X.ex, b ∉ X.fs
  funs : X.s₀.heap.FunFrames X.base X.outer
  frf : ∀ b ∈ X.fs, X.H₀ b = none

structure Inv (X : Cx) (pins : List (Addr × Obj)) (σ : List (Option V)) (H : Hp) (s : Shared) : Prop where
  ok : X.Ok
  os : s.os = X.s₀.os
  bare : AllBare s.gens
  base : Un X.fs X.ex X.H₀ H X.s₀.heap s.heap
  loc : ∃ m, s.heap.Ns X.env.locals m ∧ ∀ (i : Nat) (x : Str) (v : V), X.N[i]? = some x → σ[i]? = some (some v) → Vis X.env.scope x → ∃ u, RelV v u ∧ Look X.env s.heap m x u
  cell : ∀ x c, X.env.cells.lookup x = some c → ∃ v, s.heap.IsCell c v
  free : H X.env.locals = none
  freeC : ∀ x c, X.env.cells.lookup x = some c → H c = none
  pin : ∀ p ∈ X.pn ++ pins, s.heap.get? p.1 = some p.2 ∧ H p.1 = none ∧ p.1 ≠ X.env.locals ∧ p.1 ∉ X.fs ∧ ∀ v, p.2.data ≠ .cell v
  hok : HOk X.prog X.w H s.heap
  len : σ.length = X.N.length

section
variable {X : Cx} {pins : List (Addr × Obj)} {σ : List (Option V)} {H H' : Hp} {s : Shared} {h' : Heap}

theorem Cx.Ok.nofr (ok : X.Ok) {b : Addr} {o : Obj} (e : X.base.get? b = some o) : b ∉ X.fs := fun hb => by
  have := (ok.funs.mem hb).1
  rw [e] at this; cases this
theorem Inv.bs (I : Inv X pins σ H s) : ∀ b o, X.base.get? b = some o → s.heap.get? b = some o ∧ H b = none := fun b o e =>
  ⟨I.base.keep b o (I.ok.bs b o e).1 (I.ok.bs b o e).2 (I.ok.nofr e) (I.ok.noex b o e), I.base.free b o (I.ok.bs b o e).1 (I.ok.bs b o e).2 (I.ok.noex b o e)⟩
theorem Inv.bk (I : Inv X pins σ H s) : ∀ b o, X.base.get? b = some o → s.heap.get? b = some o := fun b o e => (I.bs b o e).1
theorem Inv.mod (I : Inv X pins σ H s) : Mod X.K X.mg X.base := I.ok.mod
theorem Inv.kIn (I : Inv X pins σ H s) : X.K.In s.heap := I.ok.mod.kin.keeps I.bk
theorem Inv.nolimit (I : Inv X pins σ H s) : s.heap.NoLimit := I.ok.mod.nolimit.keeps I.bk
/-- the frame over the base: for OpenK's rules (K.In X.base is I.mod.kin) -/
theorem Inv.fr (I : Inv X pins σ H s) : ∃ m, Fr X.base X.env.locals s.heap m :=
  let ⟨m, hn, _⟩ := I.loc
  ⟨m, hn, I.bk, Nat.le_trans I.ok.bsz I.ok.above⟩
theorem Inv.lt (I : Inv X pins σ H s) : X.env.locals < s.heap.objs.size := let ⟨_, hn, _⟩ := I.loc; hn.lt
theorem Inv.sz (I : Inv X pins σ H s) : X.s₀.heap.objs.size ≤ s.heap.objs.size := Nat.le_trans I.ok.above (Nat.le_of_lt I.lt)
theorem Inv.nofs (I : Inv X pins σ H s) {a : Addr} (h : s.heap.objs.size ≤ a) : a ∉ X.fs := fun hb => by
  obtain ⟨_, o, ho, _⟩ := I.ok.funs.mem hb
  exact absurd (Nat.lt_of_lt_of_le (Heap.lt_size ho) (Nat.le_trans I.sz h)) (Nat.lt_irrefl _)
theorem Inv.cne (I : Inv X pins σ H s) : ∀ x c, X.env.cells.lookup x = some c → c ≠ X.env.locals := fun x c e z => by
  obtain ⟨v, o, ho, hd⟩ := I.cell x c e
  obtain ⟨m, ⟨o', es, ep, ho', hd', _⟩, _⟩ := I.loc
  rw [z, ho'] at ho; cases ho; rw [hd'] at hd; cases hd
theorem Inv.funs (I : Inv X pins σ H s) : s.heap.FunFrames X.base X.outer := by
  have all : ∀ (l : List Env), (∀ b ∈ frs l, b ∈ X.fs) → X.s₀.heap.FunFrames X.base l → s.heap.FunFrames X.base l := by
    intro l
    induction l with
    | nil => intro _ _; trivial
    | cons env r ih =>
      intro hs hl
      obtain ⟨hk, ⟨L, o, hf, hn, ho, hd⟩, hr⟩ := hl
      have hL : L ∈ X.fs := hs L (by unfold frs; rw [List.filterMap_cons, hf]; exact List.mem_cons_self)
      obtain ⟨sl, e⟩ := I.base.slot L o ho (I.ok.frf L hL) hL fun z => I.ok.exfs L z hL
      exact ⟨hk, ⟨L, _, hf, hn, e, hd⟩, ih (fun b hb => hs b (by unfold frs; rw [List.filterMap_cons, hf]; exact List.mem_cons_of_mem _ hb)) hr⟩
  exact all X.outer (fun _ hb => hb) I.ok.funs

/-- the frames that run, for a call -/
theorem Inv.stack (I : Inv X pins σ H s) : s.heap.FunFrames X.base X.stack := by
  rcases I.ok.stk with e | ⟨e, hf⟩
  · rw [e]; exact I.funs
  · rw [e]
    obtain ⟨m, hn, _⟩ := I.loc
    refine .cons (by rw [I.ok.kind]; decide) hf hn ?_ I.funs
    exact Heap.get?_none_of_le (Nat.le_trans I.ok.bsz I.ok.above)
theorem Inv.stkSub (I : Inv X pins σ H s) : ∀ b ∈ frs X.stack, b ∈ X.env.locals :: X.fs := fun b hb => by
  rcases I.ok.stk with e | ⟨e, hf⟩
  · rw [e] at hb; exact List.mem_cons_of_mem _ hb
  · rw [e] at hb
    unfold frs at hb
    rw [List.filterMap_cons, hf] at hb
    exact hb
theorem Inv.stkFree (I : Inv X pins σ H s) : ∀ b ∈ frs X.stack, H b = none := fun b hb => by
  rcases List.mem_cons.mp (I.stkSub b hb) with e | hb
  · rw [e]; exact I.free
  · obtain ⟨_, o, ho, _⟩ := I.ok.funs.mem hb
    exact I.base.free b o ho (I.ok.frf b hb) fun z => I.ok.exfs b z hb

/-- THE STEP: the untracked objects but the frame and the records at ch are kept (the callers' frames up to slots), the frame's map is kept, the new abstract heap is held -/
theorem Inv.step {g' : Array GenState} {t' : Nat} {d' : Drawn} {ch : List Addr} (I : Inv X pins σ H s)
    (hch : ∀ b ∈ ch, (b ∈ X.ex ∨ X.s₀.heap.objs.size ≤ b) ∧ b ≠ X.env.locals ∧ (∀ x c, X.env.cells.lookup x = some c → c ≠ b) ∧ ∀ p ∈ X.pn ++ pins, p.1 ≠ b)
    (keep : ∀ b o, b ≠ X.env.locals → b ∉ X.fs → b ∉ ch → s.heap.get? b = some o → H b = none → h'.get? b = some o)
    (slot : ∀ b o, b ≠ X.env.locals → b ∈ X.fs → b ∉ ch → s.heap.get? b = some o → H b = none → ∃ sl, h'.get? b = some { o with slots := sl }) (free : ∀ b o, b ∉ ch → s.heap.get? b = some o → H b = none → H' b = none)
    (there : ∀ b o, b ∉ ch → s.heap.get? b = some o → ∃ o', h'.get? b = some o')
    (tups : ∀ b xs, H b = some (.tup xs) → H' b = some (.tup xs)) (frzs : ∀ b o u, H b = some (.frz o u) → H' b = some (.frz o u)) (tbls : ∀ b ps, H b = some (.tbl ps) → ∃ more, H' b = some (.tbl (ps ++ more)))
    (ns : ∀ m, s.heap.Ns X.env.locals m → h'.Ns X.env.locals m) (hok : HOk X.prog X.w H' h') (hg : AllBare g') :
    Inv X pins σ H' { s with heap := h', gens := g', drawn := d', toks := t' } := by
  have neL : ∀ b o, X.s₀.heap.get? b = some o → b ≠ X.env.locals := fun b o e => Nat.ne_of_lt (Nat.lt_of_lt_of_le (Heap.lt_size e) I.ok.above)
  have neC : ∀ b o, X.s₀.heap.get? b = some o → b ∉ X.ex → b ∉ ch := fun b o e hx hb => by
    rcases (hch b hb).1 with z | z
    · exact hx z
    · exact absurd (Nat.lt_of_lt_of_le (Heap.lt_size e) z) (Nat.lt_irrefl _)
  have cellK : ∀ x c, X.env.cells.lookup x = some c → ∀ v, s.heap.IsCell c v → h'.IsCell c v := fun x c e v ⟨o, ho, hd⟩ => by
    have nch : c ∉ ch := fun z => (hch c z).2.2.1 x c e rfl
    by_cases hc : c ∈ X.fs
    · obtain ⟨sl, q⟩ := slot c o (I.cne x c e) hc nch ho (I.freeC x c e)
      exact ⟨_, q, hd⟩
    · exact ⟨o, keep c o (I.cne x c e) hc nch ho (I.freeC x c e), hd⟩
  refine ⟨I.ok, I.os, hg, ⟨fun b o e n hb hx => ?_, fun b o e n hb hx => ?_, fun b o e n hx => ?_, fun b o e hx => ?_, fun b xs e => tups b xs (I.base.tups b xs e), fun b o xs e => frzs b o xs (I.base.frzs b o xs e), fun b ps e => ?_⟩, ?_, fun x c e => ?_, ?_, fun x c e => ?_, fun p hp => ?_, hok, I.len⟩
  · exact keep b o (neL b o e) hb (neC b o e hx) (I.base.keep b o e n hb hx) (I.base.free b o e n hx)
  · obtain ⟨sl, e1⟩ := I.base.slot b o e n hb hx
    obtain ⟨sl', e2⟩ := slot b _ (neL b o e) hb (neC b o e hx) e1 (I.base.free b o e n hx)
    exact ⟨sl', e2⟩
  · obtain ⟨o', e1⟩ := I.base.there b o e hx
    exact free b o' (neC b o e hx) e1 (I.base.free b o e n hx)
  · obtain ⟨o', e1⟩ := I.base.there b o e hx
    exact there b o' (neC b o e hx) e1
  · obtain ⟨m1, e1⟩ := I.base.tbls b ps e
    obtain ⟨m2, e2⟩ := tbls b _ e1
    exact ⟨m1 ++ m2, by rw [e2, Array.append_assoc]⟩
  · obtain ⟨m, hn, hl⟩ := I.loc
    refine ⟨m, ns m hn, fun i x v e1 e2 e3 => ?_⟩
    obtain ⟨u, r, l⟩ := hl i x v e1 e2 e3
    refine ⟨u, r, ?_⟩
    rcases l with l | ⟨k, c, e, z⟩
    · exact .inl l
    · exact .inr ⟨k, c, e, cellK x c e _ z⟩
  · obtain ⟨v, z⟩ := I.cell x c e
    exact ⟨v, cellK x c e v z⟩
  · obtain ⟨m, ⟨o, _, _, ho, _⟩, _⟩ := I.loc
    exact free _ o (fun z => (hch _ z).2.1 rfl) ho I.free
  · obtain ⟨v, o, ho, hd⟩ := I.cell x c e
    exact free c o (fun z => (hch c z).2.2.1 x c e rfl) ho (I.freeC x c e)
  · obtain ⟨e, n, ne, nf, d⟩ := I.pin p hp
    have nch : p.1 ∉ ch := fun z => (hch p.1 z).2.2.2 p hp rfl
    exact ⟨keep p.1 p.2 ne nf nch e n, free p.1 p.2 nch e n, ne, nf, d⟩
/-- .. where the frame's own object is kept too -/
theorem Inv.un {t' : Nat} (I : Inv X pins σ H s) (u : Un X.fs [] H H' s.heap h') (hok : HOk X.prog X.w H' h') : Inv X pins σ H' { s with heap := h', toks := t' } := by
  obtain ⟨m, ⟨o, es, ep, ho, r⟩, _⟩ := id I.loc
  obtain ⟨sl, hL⟩ := u.any ho I.free (by simp)
  exact I.step (g' := s.gens) (d' := s.drawn) (ch := []) (fun _ z => nomatch z) (fun b o _ hb _ e n => u.keep b o e n hb (by simp)) (fun b o _ hb _ e n => u.slot b o e n hb (by simp)) (fun b o _ e n => u.free b o e n (by simp)) (fun b o _ e => u.there b o e (by simp)) u.tups u.frzs u.tbls (fun m' hm => by
    obtain ⟨o', es', ep', ho', r'⟩ := hm
    rw [ho] at ho'; cases ho'
    exact ⟨_, es', ep', hL, r'⟩) hok I.bare
/-- behind a call (or a comprehension's block): the slots of this frame may have changed too, the records at ch may have turned -/
theorem Inv.call {g' : Array GenState} {t' : Nat} {d' : Drawn} {ch : List Addr} (I : Inv X pins σ H s) (u : Un (frs X.stack) ch H H' s.heap h') (hok : HOk X.prog X.w H' h') (hg : AllBare g')
    (hch : ∀ b ∈ ch, (b ∈ X.ex ∨ X.s₀.heap.objs.size ≤ b) ∧ b ≠ X.env.locals ∧ (∀ x c, X.env.cells.lookup x = some c → c ≠ b) ∧ ∀ p ∈ X.pn ++ pins, p.1 ≠ b) :
    Inv X pins σ H' { s with heap := h', gens := g', drawn := d', toks := t' } := by
  obtain ⟨m, ⟨o, es, ep, ho, r⟩, _⟩ := id I.loc
  obtain ⟨sl, hL⟩ := u.any ho I.free fun z => (hch _ z).2.1 rfl
  exact I.step (ch := ch) hch (fun b o hL hb hc e n => u.keep b o e n (fun z => (List.mem_cons.mp (I.stkSub b z)).elim hL hb) hc) (fun b o _ _ hc e n => u.any e n hc) (fun b o hc e n => u.free b o e n hc) (fun b o hc e => u.there b o e hc) u.tups u.frzs u.tbls (fun m' hm => by
    obtain ⟨o', es', ep', ho', r'⟩ := hm
    rw [ho] at ho'; cases ho'
    exact ⟨_, es', ep', hL, r'⟩) hok hg
/-- an untracked record of ours (an iterator) has turned -/
theorem Inv.turned {t' : Nat} {it : Addr} (I : Inv X pins σ H s) (k : ∀ b o, b ≠ it → s.heap.get? b = some o → h'.get? b = some o) (hn : H it = none) (hL : it ≠ X.env.locals)
    (h1 : it ∈ X.ex ∨ X.s₀.heap.objs.size ≤ it) (h2 : ∀ x c, X.env.cells.lookup x = some c → c ≠ it) (h3 : ∀ p ∈ X.pn ++ pins, p.1 ≠ it) : Inv X pins σ H { s with heap := h', toks := t' } := by
  have nit : ∀ b u, H b = some u → b ≠ it := fun b u e z => by rw [z, hn] at e; cases e
  refine I.step (g' := s.gens) (d' := s.drawn) (ch := [it]) (fun b hb => ?_) (fun b o _ _ hc e _ => k b o (fun z => hc (by simp [z])) e) (fun b o _ _ hc e _ => ⟨o.slots, k b o (fun z => hc (by simp [z])) e⟩) (fun _ _ _ _ n => n)
    (fun b o hc e => ⟨o, k b o (fun z => hc (by simp [z])) e⟩) (fun _ _ e => e) (fun _ _ _ e => e) (fun b ps e => ⟨#[], by rw [e]; simp⟩) (fun m hm => ?_) (fun b u e => ?_) I.bare
  · have e : b = it := by simpa using hb
    subst e
    exact ⟨h1, hL, h2, h3⟩
  · obtain ⟨o, es, ep, ho, r⟩ := hm
    exact ⟨o, es, ep, k _ o (Ne.symm hL) ho, r⟩
  · refine (I.hok b u e).stay (fun c v hc q => k c v ?_ q) (fun _ q => q) fun _ _ q => q
    rcases hc with z | z
    · rw [z]; exact nit b u e
    · exact nit c _ z
theorem Inv.tok (I : Inv X pins σ H s) (t : Nat) : Inv X pins σ H { s with toks := t } := I.un (h' := s.heap) (t' := t) Un.refl I.hok
/-- all objects kept -/
theorem Inv.kept {t' : Nat} (I : Inv X pins σ H s) (k : ∀ b u, s.heap.get? b = some u → h'.get? b = some u) : Inv X pins σ H { s with heap := h', toks := t' } := I.un (Un.kept k) (I.hok.kept k)
/-- a new object laid and tracked -/
theorem Inv.laid {a : Addr} {o : HO} {t' : Nat} (I : Inv X pins σ H s) (k : ∀ b u, s.heap.get? b = some u → h'.get? b = some u) (hp : s.heap.objs.size ≤ a) (new : ObjOk X.prog X.w (upd H a o) h' a o) :
    Inv X pins σ (upd H a o) { s with heap := h', toks := t' } := I.un (Un.laid k hp (I.hok.fresh hp)) (I.hok.laid k hp new)
/-- an object written -/
theorem Inv.write {x e : Addr} {o : HO} {t' : Nat} (I : Inv X pins σ H s) (mu : Mut (H x)) (he : e = x ∨ H e = some (.own x)) (k : ∀ b u, b ≠ e → s.heap.get? b = some u → h'.get? b = some u) (heo : ∃ u, h'.get? e = some u)
    (new : ObjOk X.prog X.w (upd H x o) h' x o) : Inv X pins σ (upd H x o) { s with heap := h', toks := t' } := I.un (Un.write mu he k heo) (I.hok.write mu he k heo new)
/-- forgetting slots, pins -/
theorem Inv.weak {σ' : List (Option V)} (I : Inv X pins σ H s) (hl : σ'.length = σ.length) (w : ∀ (i : Nat) v, σ'[i]? = some (some v) → σ[i]? = some (some v)) : Inv X pins σ' H s :=
  ⟨I.ok, I.os, I.bare, I.base, let ⟨m, hn, hl'⟩ := I.loc; ⟨m, hn, fun i x v e1 e2 e3 => hl' i x v e1 (w i v e2) e3⟩, I.cell, I.free, I.freeC, I.pin, I.hok, hl.trans I.len⟩
theorem Inv.pins_of {pins' : List (Addr × Obj)} (I : Inv X pins σ H s) (h : ∀ p ∈ pins', s.heap.get? p.1 = some p.2 ∧ H p.1 = none ∧ p.1 ≠ X.env.locals ∧ p.1 ∉ X.fs ∧ ∀ v, p.2.data ≠ .cell v) : Inv X pins' σ H s :=
  ⟨I.ok, I.os, I.bare, I.base, I.loc, I.cell, I.free, I.freeC, fun p hp => (List.mem_append.mp hp).elim (fun z => I.pin p (List.mem_append_left _ z)) (h p), I.hok, I.len⟩

theorem nodup_ix {N : List Str} (hN : N.Nodup) {i j : Nat} {x : Str} (a : N[i]? = some x) (b : N[j]? = some x) : i = j := by
  obtain ⟨h1, e1⟩ := List.getElem?_eq_some_iff.mp a
  obtain ⟨h2, e2⟩ := List.getElem?_eq_some_iff.mp b
  exact (List.getElem_inj hN).mp (e1.trans e2.symm)

/-- a name is stored; what changed -/
theorem store_ok2 {M : Model} {A : Around} {E : Value → Shared → Prop} {i : Nat} {x : Str} {v : V} {u : Value} {Q : Unit → Shared → Prop} (I : Inv X pins σ H s) (hN : X.N.Nodup) (hi : X.N[i]? = some x) (hx : Loc X.env.scope x) (r : RelV v u)
    (h : ∀ s', Inv X pins (σ.set i (some v)) H s' → (∃ a, Heap.SameBut a s.heap s'.heap ∧ (a = X.env.locals ∨ X.env.cells.lookup x = some a)) → Q () s') (hf : X.fn x = true ∨ X.env.scope.names.lookup x = some .local := by first | exact .inl rfl | exact .inr rfl | assumption) : wpAny M A (storeName X.env x u) Q E s := by
  obtain ⟨m, hn, hl⟩ := id I.loc
  have hcls : (X.env.scope.kind == .class || (X.env.scope.kind == .module && X.env.locals != X.env.globals)) = false := by rw [I.ok.kind]; rfl
  have hiσ : i < σ.length := by rw [I.len]; exact (List.getElem?_eq_some_iff.mp hi).1
  have cne := I.cne
  have tracked : ∀ {a : Addr} {h' : Heap}, (∃ o, s.heap.get? a = some o ∧ H a = none) → Heap.SameBut a s.heap h' → HOk X.prog X.w H h' := fun {a h'} ha hs b ob e => by
    obtain ⟨_, _, hfree⟩ := ha
    refine (I.hok b ob e).stay (fun c w' hc q => (hs.2 c ?_).trans q) (fun _ q => q) fun _ _ q => q
    rintro rfl
    rcases hc with rfl | hc
    · rw [hfree] at e; cases e
    · rw [hfree] at hc; cases hc
  rcases hx with hk | hk
  · refine wpAny_storeName_local hk hn (fun h' hn' hs => ?_) hcls
    obtain ⟨oL, _, _, hoL, _⟩ := id hn
    refine h _ ⟨I.ok, I.os, I.bare, ⟨fun b o e n hb hx => ?_, fun b o e n hb hx => ?_, I.base.free, fun b o e hx => ?_, I.base.tups, I.base.frzs, I.base.tbls⟩, ⟨_, hn', fun j y v' e1 e2 e3 => ?_⟩, fun y c e => ?_, I.free, I.freeC, fun p hp => ?_, tracked ⟨oL, hoL, I.free⟩ hs, by simpa using I.len⟩ ⟨_, hs, .inl rfl⟩
    · exact (hs.2 b (Nat.ne_of_lt (Nat.lt_of_lt_of_le (Heap.lt_size e) I.ok.above))).trans (I.base.keep b o e n hb hx)
    · obtain ⟨sl, e1⟩ := I.base.slot b o e n hb hx
      exact ⟨sl, (hs.2 b (Nat.ne_of_lt (Nat.lt_of_lt_of_le (Heap.lt_size e) I.ok.above))).trans e1⟩
    · obtain ⟨o', e1⟩ := I.base.there b o e hx
      exact ⟨o', (hs.2 b (Nat.ne_of_lt (Nat.lt_of_lt_of_le (Heap.lt_size e) I.ok.above))).trans e1⟩
    · by_cases hj : j = i
      · subst hj
        rw [hi] at e1; cases e1
        rw [List.getElem?_set_self hiσ] at e2
        cases e2
        exact ⟨u, r, .inl ⟨hk, by simp⟩⟩
      · rw [List.getElem?_set_ne (Ne.symm hj)] at e2
        obtain ⟨u', r', q⟩ := hl j y v' e1 e2 e3
        refine ⟨u', r', ?_⟩
        rcases q with ⟨k, e⟩ | ⟨k, c, e, z⟩
        · refine .inl ⟨k, ?_⟩
          have : y ≠ x := fun e => hj (nodup_ix hN e1 (e ▸ hi))
          simp [this, e]
        · exact .inr ⟨k, c, e, z.sameBut hs (cne y c e)⟩
    · obtain ⟨w', z⟩ := I.cell y c e
      exact ⟨w', z.sameBut hs (cne y c e)⟩
    · obtain ⟨e, n, ne, nf, d⟩ := I.pin p hp
      exact ⟨(hs.2 p.1 ne).trans e, n, ne, nf, d⟩
  · have hfn : X.fn x = true := by
      rcases hf with z | z
      · exact z
      · rw [z] at hk; cases hk
    obtain ⟨c, hc⟩ := I.ok.has x (.inl hk)
    obtain ⟨w', z⟩ := I.cell x c hc
    refine wpAny_storeName_cell I.ok.kind hk hc z (fun h' hc' hs => ?_)
    obtain ⟨oc, hoc, hocd⟩ := id z
    refine h { s with heap := h' } ⟨I.ok, I.os, I.bare, ⟨fun b o e n hb hx => ?_, fun b o e n hb hx => ?_, I.base.free, fun b o e hx => ?_, I.base.tups, I.base.frzs, I.base.tbls⟩, ⟨m, hn.sameBut hs (Ne.symm (cne x c hc)), fun j y v' e1 e2 e3 => ?_⟩, fun y c' e => ?_, I.free, I.freeC, fun p hp => ?_, tracked ⟨oc, hoc, I.freeC x c hc⟩ hs, by simpa using I.len⟩ ⟨c, hs, .inr hc⟩
    · exact (hs.2 b (Nat.ne_of_lt (Nat.lt_of_lt_of_le (Heap.lt_size e) (I.ok.cab x c hfn hc)))).trans (I.base.keep b o e n hb hx)
    · obtain ⟨sl, e1⟩ := I.base.slot b o e n hb hx
      exact ⟨sl, (hs.2 b (Nat.ne_of_lt (Nat.lt_of_lt_of_le (Heap.lt_size e) (I.ok.cab x c hfn hc)))).trans e1⟩
    · obtain ⟨o', e1⟩ := I.base.there b o e hx
      exact ⟨o', (hs.2 b (Nat.ne_of_lt (Nat.lt_of_lt_of_le (Heap.lt_size e) (I.ok.cab x c hfn hc)))).trans e1⟩
    · by_cases hj : j = i
      · subst hj
        rw [hi] at e1; cases e1
        rw [List.getElem?_set_self hiσ] at e2
        cases e2
        exact ⟨u, r, .inr ⟨.inl hk, c, hc, hc'⟩⟩
      · rw [List.getElem?_set_ne (Ne.symm hj)] at e2
        obtain ⟨u', r', q⟩ := hl j y v' e1 e2 e3
        refine ⟨u', r', ?_⟩
        rcases q with q | ⟨k, c', e, z'⟩
        · exact .inl q
        · refine .inr ⟨k, c', e, z'.sameBut hs ?_⟩
          rintro rfl
          exact hj (nodup_ix hN e1 (I.ok.inj _ _ _ e hc ▸ hi))
    · by_cases hcc : c' = c
      · subst hcc; exact ⟨_, hc'⟩
      · obtain ⟨w2, z2⟩ := I.cell y c' e
        exact ⟨w2, z2.sameBut hs hcc⟩
    · obtain ⟨e, n, ne, nf, d⟩ := I.pin p hp
      refine ⟨(hs.2 p.1 ?_).trans e, n, ne, nf, d⟩
      intro q
      rw [q, hoc] at e
      have q' : oc = p.2 := Option.some.inj e
      exact d w' (by rw [← q']; exact hocd)
theorem store_ok {M : Model} {A : Around} {E : Value → Shared → Prop} {i : Nat} {x : Str} {v : V} {u : Value} {Q : Unit → Shared → Prop} (I : Inv X pins σ H s) (hN : X.N.Nodup) (hi : X.N[i]? = some x) (hx : Loc X.env.scope x) (r : RelV v u)
    (h : ∀ s', Inv X pins (σ.set i (some v)) H s' → Q () s') (hf : X.fn x = true ∨ X.env.scope.names.lookup x = some .local := by first | exact .inl rfl | exact .inr rfl | assumption) : wpAny M A (storeName X.env x u) Q E s :=
  store_ok2 I hN hi hx r (fun s' I' _ => h s' I') hf
/-- behind a call or a block, the state as it is -/
theorem Inv.call' {s' : Shared} {ch : List Addr} (I : Inv X pins σ H s) (ho : s'.os = s.os) (u : Un (frs X.stack) ch H H' s.heap s'.heap) (hok : HOk X.prog X.w H' s'.heap) (hg : AllBare s'.gens)
    (hch : ∀ b ∈ ch, (b ∈ X.ex ∨ X.s₀.heap.objs.size ≤ b) ∧ b ≠ X.env.locals ∧ (∀ x c, X.env.cells.lookup x = some c → c ≠ b) ∧ ∀ p ∈ X.pn ++ pins, p.1 ≠ b) : Inv X pins σ H' s' := by
  obtain ⟨h', g', d', t', o'⟩ := s'
  have e : o' = s.os := ho
  subst e
  exact I.call (g' := g') (t' := t') (d' := d') u hok hg hch
end

/-! ### the judgements -/
/-- an exception: its class, its own dict's address (where it has one), the abstract heap behind it -/
abbrev XK := Value → Option Addr → Hp → Prop
abbrev St := List (Option V)
abbrev VK := V → Hp → Prop
/-- an expression's reading; a test's; an argument list's -/
abbrev TE := St → Hp → VK → Prop
abbrev TT := St → Hp → (Bool → Hp → Prop) → Prop
abbrev TA := St → Hp → (List V → Hp → Prop) → Prop
/-- what is wanted behind a statement -/
structure Ends where
  nx : St → Hp → Prop
  rt : VK
  bk : St → Hp → Prop := fun _ _ => False
  ct : St → Hp → Prop := fun _ _ => False
abbrev TS := Ends → St → Hp → Prop

def EP (X : Cx) (pins : List (Addr × Obj)) (σ : St) (Q : VK) (u : Value) (s' : Shared) : Prop := ∃ v H', Inv X pins σ H' s' ∧ RelV v u ∧ Q v H'
def TP (X : Cx) (pins : List (Addr × Obj)) (σ : St) (Q : Bool → Hp → Prop) (b : Bool) (s' : Shared) : Prop := ∃ H', Inv X pins σ H' s' ∧ Q b H'
def AP (X : Cx) (pins : List (Addr × Obj)) (σ : St) (Q : List V → Hp → Prop) (us : List Value) (s' : Shared) : Prop := ∃ vs H', Inv X pins σ H' s' ∧ Vals vs us ∧ Q vs H'
def SP (X : Cx) (pins : List (Addr × Obj)) (D : Ends) (f : Flow) (s' : Shared) : Prop :=
  match f with
  | .next => ∃ σ' H', Inv X pins σ' H' s' ∧ D.nx σ' H'
  | .brk => ∃ σ' H', Inv X pins σ' H' s' ∧ D.bk σ' H'
  | .cont => ∃ σ' H', Inv X pins σ' H' s' ∧ D.ct σ' H'
  | .ret u => ∃ v σ' H', Inv X pins σ' H' s' ∧ RelV v u ∧ D.rt v H'

def PE (X : Cx) (e : Expr) (t : TE) : Prop :=
  ∀ (pins : List (Addr × Obj)) (s : Shared) (σ : St) (H : Hp) (Q : VK), Inv X pins σ H s → t σ H Q → wpAny (model X.prog X.w) X.A (eval e X.env) (EP X pins σ Q) X.xe s
def PT (X : Cx) (e : Expr) (t : TT) : Prop :=
  ∀ (pins : List (Addr × Obj)) (s : Shared) (σ : St) (H : Hp) (Q : Bool → Hp → Prop), Inv X pins σ H s → t σ H Q → wpAny (model X.prog X.w) X.A (isTrue e X.env (eval e X.env)) (TP X pins σ Q) X.xe s
/-- a test whatever its 'whole' is (and, or) -/
def PW (X : Cx) (e : Expr) (t : TT) : Prop :=
  ∀ (whole : Sem Value) (pins : List (Addr × Obj)) (s : Shared) (σ : St) (H : Hp) (Q : Bool → Hp → Prop), Inv X pins σ H s → t σ H Q → wpAny (model X.prog X.w) X.A (isTrue e X.env whole) (TP X pins σ Q) X.xe s
theorem PW.pt {X : Cx} {e : Expr} {t : TT} (h : PW X e t) : PT X e t := h _
/-- an argument list (no star), from the left -/
def PA (X : Cx) (es : List Expr) (t : TA) : Prop :=
  ∀ (pos : Pos) (pins : List (Addr × Obj)) (s : Shared) (σ : St) (H : Hp) (Q : List V → Hp → Prop), Inv X pins σ H s → t σ H Q → wpAny (model X.prog X.w) X.A (spliced (backTo pos (starEach es X.env))) (AP X pins σ Q) X.xe s
def PS (X : Cx) (st : Stmt) (t : TS) : Prop :=
  ∀ (pins : List (Addr × Obj)) (s : Shared) (σ : St) (H : Hp) (D : Ends), Inv X pins σ H s → t D σ H → wpAny (model X.prog X.w) X.A (exec st X.env) (SP X pins D) X.xe s
def PSs (X : Cx) (st : List Stmt) (t : TS) : Prop :=
  ∀ (pins : List (Addr × Obj)) (s : Shared) (σ : St) (H : Hp) (D : Ends), Inv X pins σ H s → t D σ H → wpAny (model X.prog X.w) X.A (execs st X.env) (SP X pins D) X.xe s
/-- weaken the end -/
theorem thn {α : Type} {t : Sem α} {Q Q' : α → Shared → Prop} {M : Model} {A : Around} {E : Value → Shared → Prop} {s : Shared} (h : wpAny M A t Q E s) (hQ : ∀ a s, Q a s → Q' a s) : wpAny M A t Q' E s := wpAny_mono h hQ fun _ _ x => x
end L2

namespace L2
open PySem PySem.Spec PyProof.Rows
section
variable {X : Cx}

/-- two expressions in a row -/
theorem bin {a b : Expr} {ta tb : TE} (ha : PE X a ta) (hb : PE X b tb) {pins : List (Addr × Obj)} {s : Shared} {σ : St} {H : Hp} {R : V → V → Hp → Prop} (I : Inv X pins σ H s) (h : ta σ H fun x H1 => tb σ H1 fun y H2 => R x y H2)
    {α : Type} {Q : α → Shared → Prop} {f : Value → Value → Sem α}
    (hf : ∀ v u s2 x y H2, Inv X pins σ H2 s2 → RelV x v → RelV y u → R x y H2 → wpAny (model X.prog X.w) X.A (f v u) Q X.xe s2) :
    wpAny (model X.prog X.w) X.A (eval a X.env) (fun v s₁ => wpAny (model X.prog X.w) X.A (eval b X.env) (fun u s₂ => wpAny (model X.prog X.w) X.A (f v u) Q X.xe s₂) X.xe s₁) X.xe s := by
  refine thn (ha pins s σ H _ I h) fun v s1 ⟨x, H1, I1, r1, q1⟩ => ?_
  refine thn (hb pins s1 σ H1 _ I1 q1) fun u s2 ⟨y, H2, I2, r2, q2⟩ => ?_
  exact hf v u s2 x y H2 I2 r1 r2 q2

/-! ### names and constants -/
def tVar (i : Nat) : TE := fun σ H Q => ∃ v, σ[i]? = some (some v) ∧ Q v H
def tC (v : V) : TE := fun _ H Q => Q v H
theorem pe_var {i : Nat} {x : Str} {pos : Pos} (hN : X.N[i]? = some x) (hv : Vis X.env.scope x) (hd : (x == ("__debug__" : Str)) = false := by decide) (hcd : (x == ("__classdict__" : Str)) = false := by decide) : PE X (.Name x pos) (tVar i) := by
  intro pins s σ H Q I h
  obtain ⟨v, e, h⟩ := h
  obtain ⟨m, hn, hl⟩ := I.loc
  obtain ⟨u, r, l⟩ := hl i x v hN e hv
  have fin : EP X pins σ Q u s := ⟨v, H, I, r, h⟩
  rcases l with ⟨hk, hm⟩ | ⟨hk, c, hc, hcell⟩
  · exact wpAny_Name (wpAny_loadName_local I.ok.kind hk hn hm fin) hd
  · rcases hk with hk | hk
    · exact wpAny_Name (wpAny_loadName_cell I.ok.kind hk hc hcell fin) hd
    · exact wpAny_Name (wpAny_loadName_free I.ok.kind hk hc hcell fin hcd) hd
theorem pe_int {i j pos} : PE X (.Constant (.int i) j pos) (tC (.int i)) := fun _ _ _ H _ I h => wpAny_Constant_int ⟨.int i, H, I.tok _, ⟨_, rfl⟩, h⟩
theorem pe_bl {b j pos} : PE X (.Constant (.bool b) j pos) (tC (.bl b)) := fun _ _ _ H _ I h => Constant_bool ⟨.bl b, H, I, rfl, h⟩
theorem pe_non {j pos} : PE X (.Constant .none j pos) (tC .non) := fun _ _ _ H _ I h => Constant_none ⟨.non, H, I, rfl, h⟩
theorem pe_str {x j pos} : PE X (.Constant (.str x) j pos) (tC (.str x)) := fun _ _ _ H _ I h => Calls.Constant_str ⟨.str x, H, I.tok _, ⟨_, rfl⟩, h⟩

/-- a global name of the def -/
def Gl (X : Cx) (x : Str) : Prop := X.env.kindOf x = some .globalImplicit
theorem ld_glob {E : Value → Shared → Prop} {pins : List (Addr × Obj)} {s : Shared} {σ : St} {H : Hp} {x : Str} {u : Value} {pos : Pos} {Q : Value → Shared → Prop} (I : Inv X pins σ H s) (hg : Gl X x) (hm : X.mg x = some u) (h : Q u s)
    (hd : (x == ("__debug__" : Str)) = false := by decide) : wpAny (model X.prog X.w) X.A (eval (.Name x pos) X.env) Q E s :=
  Calls.Name_function_global I.ok.kind hg (Calls.loadGlobal_global (by rw [I.ok.glob]; exact I.mod.glob.keeps I.bk) hm h) hd
theorem ld_blt {E : Value → Shared → Prop} {pins : List (Addr × Obj)} {s : Shared} {σ : St} {H : Hp} {x : Str} {u : Value} {pos : Pos} {Q : Value → Shared → Prop} (I : Inv X pins σ H s) (hg : Gl X x) (hm : X.mg x = none) (hv : bootBuiltins x = some u) (h : Q u s)
    (hn : x ≠ "__name__" := by decide) (hd : (x == ("__debug__" : Str)) = false := by decide) : wpAny (model X.prog X.w) X.A (eval (.Name x pos) X.env) Q E s := by
  obtain ⟨mb, h1, h2⟩ := I.mod.blt
  exact Calls.Name_function_global I.ok.kind hg (Calls.loadGlobal_builtin (by rw [I.ok.glob]; exact I.mod.glob.keeps I.bk) hm (by rw [I.ok.blt]; exact h1.keeps I.bk) ((h2 x hn).trans hv) h) hd
/-- a module's constant, a class, a function, as a value -/
theorem pe_glob {x : Str} {v : V} {u : Value} {pos : Pos} (hg : Gl X x) (hm : X.mg x = some u) (r : RelV v u) (hd : (x == ("__debug__" : Str)) = false := by decide) : PE X (.Name x pos) (tC v) :=
  fun _ _ _ H _ I h => ld_glob I hg hm ⟨v, H, I, r, h⟩ hd
theorem pe_bltn {x : Str} {v : V} {u : Value} {pos : Pos} (hg : Gl X x) (hm : X.mg x = none) (hv : bootBuiltins x = some u) (r : RelV v u) (hn : x ≠ "__name__" := by decide) (hd : (x == ("__debug__" : Str)) = false := by decide) : PE X (.Name x pos) (tC v) :=
  fun _ _ _ H _ I h => ld_blt I hg hm hv ⟨v, H, I, r, h⟩ hn hd

/-! ### arithmetic -/
/-- two ints -/
def t2I (ta tb : TE) (k : Int → Int → Hp → Prop) : St → Hp → Prop := fun σ H => ta σ H fun x H1 => tb σ H1 fun y H2 => ∃ i j, x = .int i ∧ y = .int j ∧ k i j H2
def tAdd (ta tb : TE) : TE := fun σ H Q => t2I ta tb (fun i j H2 => Q (.int (i + j)) H2) σ H
def tSub (ta tb : TE) : TE := fun σ H Q => t2I ta tb (fun i j H2 => Q (.int (i - j)) H2) σ H
/-- the left factor below 2^64 -/
def tMul (ta tb : TE) : TE := fun σ H Q => t2I ta tb (fun i j H2 => (-(2 ^ 64) < i ∧ i < 2 ^ 64) ∧ Q (.int (i * j)) H2) σ H
variable {a b : Expr} {ta tb : TE} {pos : Pos}
theorem pe_add (ha : PE X a ta) (hb : PE X b tb) : PE X (.BinOp a .Add b pos) (tAdd ta tb) := by
  intro pins s σ H Q I h
  refine wpAny_BinOp (bin ha hb I h fun v u s2 x y H2 I2 rx ry q => ?_)
  obtain ⟨i, j, rfl, rfl, q⟩ := q
  obtain ⟨t, rfl⟩ := rx
  obtain ⟨t', rfl⟩ := ry
  exact add_int ⟨.int _, H2, I2.tok _, ⟨_, rfl⟩, q⟩
theorem pe_sub (ha : PE X a ta) (hb : PE X b tb) : PE X (.BinOp a .Sub b pos) (tSub ta tb) := by
  intro pins s σ H Q I h
  refine wpAny_BinOp (bin ha hb I h fun v u s2 x y H2 I2 rx ry q => ?_)
  obtain ⟨i, j, rfl, rfl, q⟩ := q
  obtain ⟨t, rfl⟩ := rx
  obtain ⟨t', rfl⟩ := ry
  exact sub_int ⟨.int _, H2, I2.tok _, ⟨_, rfl⟩, q⟩
theorem pe_mul (ha : PE X a ta) (hb : PE X b tb) : PE X (.BinOp a .Mult b pos) (tMul ta tb) := by
  intro pins s σ H Q I h
  refine wpAny_BinOp (bin ha hb I h fun v u s2 x y H2 I2 rx ry q => ?_)
  obtain ⟨i, j, rfl, rfl, ⟨q1, q2⟩, q⟩ := q
  obtain ⟨t, rfl⟩ := rx
  obtain ⟨t', rfl⟩ := ry
  exact mul_int ⟨.int _, H2, I2.tok _, ⟨_, rfl⟩, q⟩ (.of_left (intBits_le_64 q1 q2))

/-! ### comparisons -/
def PC (X : Cx) (op : CmpOp) (a b : Expr) (t : TE) : Prop :=
  ∀ (pins : List (Addr × Obj)) (s : Shared) (σ : St) (H : Hp) (Q : VK), Inv X pins σ H s → t σ H Q →
    wpAny (model X.prog X.w) X.A (eval a X.env) (fun v s₁ => wpAny (model X.prog X.w) X.A (eval b X.env) (fun u s₂ => wpAny (model X.prog X.w) X.A (compareOp op v u) (EP X pins σ Q) X.xe s₂) X.xe s₁) X.xe s
theorem nobehind (b : Expr) {op : CmpOp} (h : op ≠ .In) (h2 : op ≠ .NotIn) : behindInMarks op b = false := by
  have e1 : (op == CmpOp.In) = false := by cases op <;> first | rfl | exact absurd rfl h
  have e2 : (op == CmpOp.NotIn) = false := by cases op <;> first | rfl | exact absurd rfl h2
  cases b <;> simp [behindInMarks, e1, e2]
def tCmp (p : Int → Int → Bool) (ta tb : TE) : TE := fun σ H Q => t2I ta tb (fun i j H2 => Q (.bl (p i j)) H2) σ H
abbrev tLt : TE → TE → TE := tCmp fun i j => decide (i < j)
abbrev tLe : TE → TE → TE := tCmp fun i j => decide (i ≤ j)
abbrev tGt : TE → TE → TE := tCmp fun i j => decide (j < i)
abbrev tGe : TE → TE → TE := tCmp fun i j => decide (j ≤ i)
abbrev tEqI : TE → TE → TE := tCmp fun i j => decide (i = j)
abbrev tNeI : TE → TE → TE := tCmp fun i j => !decide (i = j)
/-- a comparison of two ints, by its rule -/
theorem pc_int {op : CmpOp} {p : Int → Int → Bool} (ha : PE X a ta) (hb : PE X b tb)
    (rule : ∀ (i j : Int) (t u : Tok) (Q : Value → Shared → Prop) (s : Shared), Q (.bool (p i j)) s → wpAny (model X.prog X.w) X.A (compareOp op (.int i t) (.int j u)) Q X.xe s) : PC X op a b (tCmp p ta tb) := by
  intro pins s σ H Q I h
  refine bin ha hb I h fun v u s2 x y H2 I2 rx ry q => ?_
  obtain ⟨i, j, rfl, rfl, q⟩ := q
  obtain ⟨t, rfl⟩ := rx
  obtain ⟨t', rfl⟩ := ry
  exact rule i j t t' _ s2 ⟨.bl _, H2, I2, rfl, q⟩
theorem pc_lt (ha : PE X a ta) (hb : PE X b tb) : PC X .Lt a b (tLt ta tb) := pc_int ha hb fun _ _ _ _ _ _ h => lt_int h
theorem pc_le (ha : PE X a ta) (hb : PE X b tb) : PC X .LtE a b (tLe ta tb) := pc_int ha hb fun _ _ _ _ _ _ h => le_int h
theorem pc_gt (ha : PE X a ta) (hb : PE X b tb) : PC X .Gt a b (tGt ta tb) := pc_int ha hb fun _ _ _ _ _ _ h => gt_int h
theorem pc_ge (ha : PE X a ta) (hb : PE X b tb) : PC X .GtE a b (tGe ta tb) := pc_int ha hb fun _ _ _ _ _ _ h => ge_int h
theorem pc_eqI (ha : PE X a ta) (hb : PE X b tb) : PC X .Eq a b (tEqI ta tb) := pc_int ha hb fun _ _ _ _ _ _ h => eq_int (by rw [Bool.beq_eq_decide_eq]; exact h)
theorem pc_neI (ha : PE X a ta) (hb : PE X b tb) : PC X .NotEq a b (tNeI ta tb) := pc_int ha hb fun _ _ _ _ _ _ h => ne_int (by rw [bne, Bool.beq_eq_decide_eq]; exact h)
/-- is None -/
def tIsN (ta : TE) : TE := fun σ H Q => ta σ H fun x H1 => Q (.bl (decide (x = .non))) H1
def tNotN (ta : TE) : TE := fun σ H Q => ta σ H fun x H1 => Q (.bl (!decide (x = .non))) H1
theorem RelV.none_iff {x : V} {v : Value} (r : RelV x v) : (v == Value.none) = decide (x = .non) := by
  cases x with
  | non => cases r; rfl
  | bl _ => cases r; rfl
  | int _ => obtain ⟨t, rfl⟩ := r; rfl
  | str _ => obtain ⟨t, rfl⟩ := r; rfl
  | byt _ => obtain ⟨t, rfl⟩ := r; rfl
  | flt _ => obtain ⟨t, rfl⟩ := r; rfl
  | ref _ => cases r; rfl
  | ty _ => cases r; rfl
theorem pc_isN {j pos'} (ha : PE X a ta) : PC X .Is a (.Constant .none j pos') (tIsN ta) := by
  intro pins s σ H Q I h
  refine thn (ha pins s σ H _ I h) fun v s1 ⟨x, H1, I1, r1, q1⟩ => ?_
  exact Constant_none (is_none_gen ⟨.bl _, H1, I1, by rw [r1.none_iff]; rfl, q1⟩)
theorem pc_notN {j pos'} (ha : PE X a ta) : PC X .IsNot a (.Constant .none j pos') (tNotN ta) := by
  intro pins s σ H Q I h
  refine thn (ha pins s σ H _ I h) fun v s1 ⟨x, H1, I1, r1, q1⟩ => ?_
  exact Constant_none (isnot_none_gen ⟨.bl _, H1, I1, by rw [r1.none_iff]; rfl, q1⟩)
/-- a comparison as a value, as a test -/
def tB (t : TE) : TT := fun σ H Q => t σ H fun x H1 => ∃ c, x = .bl c ∧ Q c H1
theorem pe_cmp {op : CmpOp} {t : TE} (h : PC X op a b t) (h1 : behindInMarks op b = false := by first | exact nobehind _ (by decide) (by decide) | rfl) : PE X (.Compare a [op] [b] pos) t := fun pins s σ H Q I hw => wpAny_Compare1 (h pins s σ H Q I hw) h1
theorem pt_cmp {op : CmpOp} {t : TE} (h : PC X op a b t) (h1 : behindInMarks op b = false := by first | exact nobehind _ (by decide) (by decide) | rfl) : PT X (.Compare a [op] [b] pos) (tB t) := by
  intro pins s σ H Q I hw
  refine wpAny_isTrue_Compare1 (thn (h pins s σ H _ I hw) fun v s1 h1 => thn h1 fun u s2 h2 => thn h2 fun c s3 ⟨x, H1, I1, r1, q1⟩ => ?_) h1
  obtain ⟨d, rfl, q⟩ := q1
  cases r1
  exact wpAny_truthy_bool ⟨H1, I1, q⟩
/-- an expression whose value is a bool, as a test -/
theorem pt_val {e : Expr} {t : TE} (h : PE X e t) (he : ∀ whole, isTrue e X.env whole = (do let v ← whole; standAt e.pos; holding [v] (truthy v)) := by intro _; rfl) : PT X e (tB t) := by
  intro pins s σ H Q I hw
  refine isTrue_plain (thn (h pins s σ H _ I hw) fun v s1 ⟨x, H1, I1, r1, q1⟩ => ?_) (he _)
  obtain ⟨d, rfl, q⟩ := q1
  cases r1
  exact wpAny_truthy_bool ⟨H1, I1, q⟩

/-! ### and, or, not -/
variable {tA tB' : TT} {rest : List Expr}
def tAnd (t u : TT) : TT := fun σ H Q => t σ H fun c H1 => if c = true then u σ H1 Q else Q false H1
def tOr (t u : TT) : TT := fun σ H Q => t σ H fun c H1 => if c = true then Q true H1 else u σ H1 Q
def tNot (t : TT) : TT := fun σ H Q => t σ H fun c H1 => Q (!c) H1
theorem pw_and1 (ha : PT X a tA) : PW X (.BoolOp .And [a] pos) tA := by
  intro wh pins s σ H Q I h
  refine isTrue_and (thn (ha pins s σ H Q I h) fun c s1 e => ?_)
  cases c with
  | true => exact isTrue_and_nil e
  | false => exact e
theorem pw_or1 (ha : PT X a tA) : PW X (.BoolOp .Or [a] pos) tA := by
  intro wh pins s σ H Q I h
  refine isTrue_or (thn (ha pins s σ H Q I h) fun c s1 e => ?_)
  cases c with
  | false => exact isTrue_or_nil e
  | true => exact e
theorem pw_and (ha : PT X a tA) (hb : PW X (.BoolOp .And (b :: rest) pos) tB') : PW X (.BoolOp .And (a :: b :: rest) pos) (tAnd tA tB') := by
  intro wh pins s σ H Q I h
  refine isTrue_and (thn (ha pins s σ H _ I h) fun c s1 ⟨H1, I1, q1⟩ => ?_)
  cases c with
  | true => exact hb wh pins s1 σ H1 Q I1 q1
  | false => exact ⟨H1, I1, q1⟩
theorem pw_or (ha : PT X a tA) (hb : PW X (.BoolOp .Or (b :: rest) pos) tB') : PW X (.BoolOp .Or (a :: b :: rest) pos) (tOr tA tB') := by
  intro wh pins s σ H Q I h
  refine isTrue_or (thn (ha pins s σ H _ I h) fun c s1 ⟨H1, I1, q1⟩ => ?_)
  cases c with
  | true => exact ⟨H1, I1, q1⟩
  | false => exact hb wh pins s1 σ H1 Q I1 q1
theorem pt_not (ha : PT X a tA) : PT X (.UnaryOp .Not a pos) (tNot tA) := by
  intro pins s σ H Q I h
  exact isTrue_not (ha pins s σ H (fun c H1 => Q (!c) H1) I h)
/-- .. as values (bools) -/
def tAndV (ta tb : TE) : TE := fun σ H Q => ta σ H fun x H1 => ∃ c, x = .bl c ∧ if c = true then tb σ H1 Q else Q (.bl false) H1
def tOrV (ta tb : TE) : TE := fun σ H Q => ta σ H fun x H1 => ∃ c, x = .bl c ∧ if c = true then Q (.bl true) H1 else tb σ H1 Q
def tNotV (ta : TE) : TE := fun σ H Q => ta σ H fun x H1 => ∃ c, x = .bl c ∧ Q (.bl (!c)) H1
theorem pe_one {op} {t : TE} (h : PE X a t) : PE X (.BoolOp op [a] pos) t := fun pins s σ H Q I hw => BoolOp_one (h pins s σ H Q I hw)
theorem pe_and (ha : PE X a ta) (hb : PE X (.BoolOp .And (b :: rest) pos) tb) : PE X (.BoolOp .And (a :: b :: rest) pos) (tAndV ta tb) := by
  intro pins s σ H Q I h
  refine BoolOp_and (thn (ha pins s σ H _ I h) fun v s1 ⟨x, H1, I1, r1, q1⟩ => ?_)
  obtain ⟨c, rfl, q1⟩ := q1
  cases r1
  refine wpAny_truthy_bool ?_
  cases c with
  | true => exact hb pins s1 σ H1 Q I1 q1
  | false => exact ⟨.bl false, H1, I1, rfl, q1⟩
theorem pe_or (ha : PE X a ta) (hb : PE X (.BoolOp .Or (b :: rest) pos) tb) : PE X (.BoolOp .Or (a :: b :: rest) pos) (tOrV ta tb) := by
  intro pins s σ H Q I h
  refine BoolOp_or (thn (ha pins s σ H _ I h) fun v s1 ⟨x, H1, I1, r1, q1⟩ => ?_)
  obtain ⟨c, rfl, q1⟩ := q1
  cases r1
  refine wpAny_truthy_bool ?_
  cases c with
  | false => exact hb pins s1 σ H1 Q I1 q1
  | true => exact ⟨.bl true, H1, I1, rfl, q1⟩
theorem pe_not (ha : PE X a ta) : PE X (.UnaryOp .Not a pos) (tNotV ta) := by
  intro pins s σ H Q I h
  refine UnaryOp_ (thn (ha pins s σ H _ I h) fun v s1 ⟨x, H1, I1, r1, q1⟩ => ?_)
  obtain ⟨c, rfl, q1⟩ := q1
  cases r1
  exact not_of (wpAny_truthy_bool ⟨.bl (!c), H1, I1, rfl, q1⟩)
/-- a if t else b -/
def tIf (t : TT) (ta tb : TE) : TE := fun σ H Q => t σ H fun c H1 => if c = true then ta σ H1 Q else tb σ H1 Q
theorem pe_ifExp {c : Expr} (hc : PT X c tA) (ha : PE X a ta) (hb : PE X b tb) : PE X (.IfExp c a b pos) (tIf tA ta tb) := by
  intro pins s σ H Q I h
  refine wpAny_IfExp (thn (hc pins s σ H _ I h) fun d s1 ⟨H1, I1, q1⟩ => ?_)
  cases d with
  | true => exact ha pins s1 σ H1 Q I1 q1
  | false => exact hb pins s1 σ H1 Q I1 q1
end
end L2

namespace L2
open PySem PySem.Spec PyProof.Rows

/-! ### a list, a tuple that is read: tracked, frozen, or an object of the module -/
def SqL (K : PySem.W.Frag) (H : Hp) (a : Addr) (xs : List V) : Prop :=
  Rd H a (.lst xs) ∨
    ∃ (o : Obj) (its : Array Value) (n : Nat), K.lookup a = some o ∧ o.cls = .type "list" ∧ o.dict = none ∧ o.data = .seq its n ∧ its.size ≤ sizeLine ∧ Vals xs its.toList
def SqT (K : PySem.W.Frag) (H : Hp) (a : Addr) (xs : List V) : Prop :=
  Rd H a (.tup xs) ∨
    ∃ (o : Obj) (its : Array Value) (n : Nat), K.lookup a = some o ∧ o.cls = .type "tuple" ∧ o.data = .seq its n ∧ its.size ≤ sizeLine ∧ Vals xs its.toList
def absV : Value → Option V
  | .none => some .non
  | .bool b => some (.bl b)
  | .int i _ => some (.int i)
  | .str x _ => some (.str x)
  | .bytes b _ => some (.byt b)
  | .float b _ => some (.flt b)
  | .ref a => some (.ref a)
  | .type n => some (.ty n)
  | _ => none
theorem RelV.abs {x : V} {u : Value} (r : RelV x u) : absV u = some x := by
  cases x with
  | non => cases r; rfl
  | bl _ => cases r; rfl
  | int _ => obtain ⟨t, rfl⟩ := r; rfl
  | str _ => obtain ⟨t, rfl⟩ := r; rfl
  | byt _ => obtain ⟨t, rfl⟩ := r; rfl
  | flt _ => obtain ⟨t, rfl⟩ := r; rfl
  | ref _ => cases r; rfl
  | ty _ => cases r; rfl
theorem RelV.inj {x y : V} {u : Value} (r : RelV x u) (q : RelV y u) : x = y := Option.some.inj (r.abs.symm.trans q.abs)
theorem Vals.inj : ∀ {xs ys : List V} {us : List Value}, Vals xs us → Vals ys us → xs = ys
  | _, _, _, .nil, .nil => rfl
  | _, _, _, .cons r t, .cons r' t' => by rw [r.inj r', Vals.inj t t']
section
variable {X : Cx} {pins : List (Addr × Obj)} {σ : St} {H : Hp} {s : Shared} {a : Addr} {xs ys : List V}
theorem SqL.of {K : PySem.W.Frag} (h : H a = some (.lst xs)) : SqL K H a xs := .inl (.inl h)
theorem SqT.of {K : PySem.W.Frag} (h : H a = some (.tup xs)) : SqT K H a xs := .inl (.inl h)
theorem Inv.list (I : Inv X pins σ H s) (h : SqL X.K H a xs) : ∃ its : List Value, Vals xs its ∧ PlainL s.heap a its.toArray ∧ xs.length ≤ sizeLine := by
  rcases h with h | ⟨o, its, n, hk, hc, hd, hs, hz, r⟩
  · obtain ⟨z, its, n, r, e⟩ := h.ok I.hok
    exact ⟨its, r, ⟨_, n, e, rfl, rfl, rfl⟩, z⟩
  · refine ⟨its.toList, r, ⟨o, n, I.kIn a o hk, hc, hd, by simpa using hs⟩, ?_⟩
    have e := r.length
    simp only [Array.length_toList] at e
    omega
theorem Inv.tuple (I : Inv X pins σ H s) (h : SqT X.K H a xs) : ∃ its : List Value, Vals xs its ∧ IsTup s.heap a its.toArray ∧ xs.length ≤ sizeLine := by
  rcases h with h | ⟨o, its, n, hk, hc, hs, hz, r⟩
  · obtain ⟨z, its, r, p⟩ := h.ok I.hok
    exact ⟨its, r, p, z⟩
  · refine ⟨its.toList, r, ⟨o, I.kIn a o hk, hc, n, by simpa using hs⟩, ?_⟩
    have e := r.length
    simp only [Array.length_toList] at e
    omega
theorem Inv.list_inj (I : Inv X pins σ H s) (h : SqL X.K H a xs) (h' : SqL X.K H a ys) : xs = ys := by
  obtain ⟨its, r, ⟨o, n, e, _, _, d⟩, _⟩ := I.list h
  obtain ⟨its', r', ⟨o', n', e', _, _, d'⟩, _⟩ := I.list h'
  rw [e] at e'; cases e'
  rw [d] at d'
  injection d' with d1 _
  have : its = its' := by simpa using congrArg Array.toList d1
  subst this
  exact r.inj r'
theorem Inv.tuple_inj (I : Inv X pins σ H s) (h : SqT X.K H a xs) (h' : SqT X.K H a ys) : xs = ys := by
  obtain ⟨its, r, ⟨o, e, _, n, d⟩, _⟩ := I.tuple h
  obtain ⟨its', r', ⟨o', e', _, n', d'⟩, _⟩ := I.tuple h'
  rw [e] at e'; cases e'
  rw [d] at d'
  injection d' with d1 _
  have : its = its' := by simpa using congrArg Array.toList d1
  subst this
  exact r.inj r'
end

/-! ### another wish about exceptions -/
abbrev Cx.wish (X : Cx) (E : Value → Shared → Prop) : Cx := { X with xe := E }
/-- no exception leaves -/
abbrev Cx.nox (X : Cx) : Cx := X.wish fun _ _ => False
theorem Cx.Ok.wish {X : Cx} (ok : X.Ok) (E : Value → Shared → Prop) : (X.wish E).Ok :=
  ⟨ok.mod, ok.kind, ok.glob, ok.blt, ok.above, ok.inj, ok.has, ok.cab, ok.hd, ok.frames, ok.stk, ok.exf, ok.bs, ok.bsz, ok.noex, ok.exfs, ok.funs, ok.frf⟩
theorem Cx.Ok.unwish {X : Cx} {E : Value → Shared → Prop} (ok : (X.wish E).Ok) : X.Ok :=
  ⟨ok.mod, ok.kind, ok.glob, ok.blt, ok.above, ok.inj, ok.has, ok.cab, ok.hd, ok.frames, ok.stk, ok.exf, ok.bs, ok.bsz, ok.noex, ok.exfs, ok.funs, ok.frf⟩
section
variable {X : Cx} {pins : List (Addr × Obj)} {σ : St} {H : Hp} {s : Shared} {E : Value → Shared → Prop}
theorem Inv.wish (I : Inv X pins σ H s) (E : Value → Shared → Prop) : Inv (X.wish E) pins σ H s := ⟨I.ok.wish E, I.os, I.bare, I.base, I.loc, I.cell, I.free, I.freeC, I.pin, I.hok, I.len⟩
theorem Inv.unwish (I : Inv (X.wish E) pins σ H s) : Inv X pins σ H s := ⟨I.ok.unwish, I.os, I.bare, I.base, I.loc, I.cell, I.free, I.freeC, I.pin, I.hok, I.len⟩
theorem SP.unwish {D : Ends} {f : Flow} {s' : Shared} (h : SP (X.wish E) pins D f s') : SP X pins D f s' := by
  cases f with
  | next => obtain ⟨σ', H', I, q⟩ := h; exact ⟨σ', H', I.unwish, q⟩
  | brk => obtain ⟨σ', H', I, q⟩ := h; exact ⟨σ', H', I.unwish, q⟩
  | cont => obtain ⟨σ', H', I, q⟩ := h; exact ⟨σ', H', I.unwish, q⟩
  | ret u => obtain ⟨v, σ', H', I, r, q⟩ := h; exact ⟨v, σ', H', I.unwish, r, q⟩
theorem PE.nox {e : Expr} {t : TE} (h : PE X.nox e t) : PE X e t := fun pins s σ H Q I hw =>
  wpAny_mono (h pins s σ H Q (I.wish _) hw) (fun _ _ ⟨v, H', I', r, q⟩ => ⟨v, H', I'.unwish, r, q⟩) fun _ _ z => False.elim z
theorem PT.nox {e : Expr} {t : TT} (h : PT X.nox e t) : PT X e t := fun pins s σ H Q I hw =>
  wpAny_mono (h pins s σ H Q (I.wish _) hw) (fun _ _ ⟨H', I', q⟩ => ⟨H', I'.unwish, q⟩) fun _ _ z => False.elim z
theorem PSs.nox {st : List Stmt} {t : TS} (h : PSs X.nox st t) : PSs X st t := fun pins s σ H D I hw =>
  wpAny_mono (h pins s σ H D (I.wish _) hw) (fun _ _ q => q.unwish) fun _ _ z => False.elim z
end

/-! ### blocks and small statements -/
section
variable {X : Cx} {st : Stmt} {rest : List Stmt} {t u : TS} {e : Expr} {te : TE} {pos : Pos}
def tNext : TS := fun D σ H => D.nx σ H
def tSeq (t u : TS) : TS := fun D σ H => t { D with nx := u D } σ H
theorem pss_nil : PSs X [] tNext := fun _ _ σ H _ I h => wpAny_execs_nil ⟨σ, H, I, h⟩
theorem pss_cons (h1 : PS X st t) (h2 : PSs X rest u) : PSs X (st :: rest) (tSeq t u) := by
  intro pins s σ H D I h
  refine wpAny_execs_cons (thn (h1 pins s σ H { D with nx := u D } I h) fun f s1 q => ?_)
  cases f with
  | next =>
    obtain ⟨σ', H', I', q⟩ := q
    exact h2 pins s1 σ' H' D I' q
  | ret v => exact q
  | brk => exact q
  | cont => exact q
theorem pss_one (h1 : PS X st t) : PSs X [st] t := by
  intro pins s σ H D I h
  refine wpAny_execs_cons (thn (h1 pins s σ H D I h) fun f s1 q => ?_)
  cases f with
  | next => exact wpAny_execs_nil q
  | ret v => exact q
  | brk => exact q
  | cont => exact q
def tBreak : TS := fun D σ H => D.bk σ H
def tCont : TS := fun D σ H => D.ct σ H
theorem ps_pass : PS X (.Pass pos) tNext := fun _ _ σ H _ I h => wpAny_Pass ⟨σ, H, I, h⟩
theorem ps_break : PS X (.Break pos) tBreak := fun _ _ σ H _ I h => wpAny_Break ⟨σ, H, I, h⟩
theorem ps_continue : PS X (.Continue pos) tCont := fun _ _ σ H _ I h => wpAny_Continue ⟨σ, H, I, h⟩
/-- in a def's body nothing is shown -/
theorem Inv.quiet {pins : List (Addr × Obj)} {σ : St} {H : Hp} {s : Shared} (I : Inv X pins σ H s) : interactive X.env = false := by simp [interactive, I.ok.kind]
/-- a docstring -/
theorem ps_doc {x j pos pos'} : PS X (.Expr (.Constant (.str x) j pos) pos') tNext := fun _ s σ H _ I h => wpAny_Expr (Calls.Constant_str (show SP X _ _ .next { s with toks := s.toks + 1 } from ⟨σ, H, I.tok _, h⟩)) I.quiet
/-- an expression whose value is dropped -/
def tDrop (te : TE) : TS := fun D σ H => te σ H fun _ H1 => D.nx σ H1
theorem ps_expr (he : PE X e te) (hs : swapsWith e none pos.line X.env = pure false := by rfl) : PS X (.Expr e pos) (tDrop te) := by
  intro pins s σ H D I h
  exact wpAny_Expr_any (thn (he pins s σ H _ I h) fun v s1 ⟨x, H1, I1, r1, q1⟩ => ⟨σ, H1, I1, q1⟩) I.quiet hs
def tRet (te : TE) : TS := fun D σ H => te σ H D.rt
theorem ps_ret (he : PE X e te) : PS X (.Return (some e) pos) (tRet te) := by
  intro pins s σ H D I h
  exact wpAny_Return_some (thn (he pins s σ H _ I h) fun v s1 ⟨x, H1, I1, r1, q1⟩ => ⟨x, σ, H1, I1, r1, q1⟩)
def tRetN : TS := fun D _ H => D.rt .non H
theorem ps_retN : PS X (.Return none pos) tRetN := fun _ _ σ H _ I h => wpAny_Return_none ⟨.non, σ, H, I, rfl, h⟩
def tIfS (c : TT) (t u : TS) : TS := fun D σ H => c σ H fun b H1 => if b = true then t D σ H1 else u D σ H1
theorem ps_if {c : Expr} {a b : List Stmt} {tc : TT} (hc : PT X c tc) (ha : PSs X a t) (hb : PSs X b u) : PS X (.If c a b pos) (tIfS tc t u) := by
  intro pins s σ H D I h
  refine wpAny_If (thn (hc pins s σ H _ I h) fun d s1 ⟨H1, I1, q1⟩ => ?_)
  cases d with
  | true => exact ha pins s1 σ H1 D I1 q1
  | false => exact hb pins s1 σ H1 D I1 q1
/-- code that the proof never comes to -/
def tNever : TS := fun _ _ _ => False
theorem ps_never : PS X st tNever := fun _ _ _ _ _ _ h => h.elim
theorem pss_never {sts : List Stmt} : PSs X sts tNever := fun _ _ _ _ _ _ h => h.elim
end

/-! ### targets -/
abbrev TG := V → St → Hp → (St → Hp → Prop) → Prop
abbrev TGs := List V → St → Hp → (St → Hp → Prop) → Prop
def PG (X : Cx) (target : Expr) (t : TG) : Prop :=
  ∀ (pins : List (Addr × Obj)) (s : Shared) (σ : St) (H : Hp) (v : V) (u : Value) (Q : St → Hp → Prop), Inv X pins σ H s → RelV v u → t v σ H Q →
    wpAny (model X.prog X.w) X.A (assign target X.env u) (fun _ s' => ∃ σ' H', Inv X pins σ' H' s' ∧ Q σ' H') X.xe s
/-- several targets, one after another -/
def PGs (X : Cx) (ts : List Expr) (t : TGs) : Prop :=
  ∀ (pins : List (Addr × Obj)) (s : Shared) (σ : St) (H : Hp) (vs : List V) (us : List Value) (Q : St → Hp → Prop), Inv X pins σ H s → Vals vs us → t vs σ H Q →
    wpAny (model X.prog X.w) X.A (assignInOrder ((assignEach ts X.env).map (·.2)) us) (fun _ s' => ∃ σ' H', Inv X pins σ' H' s' ∧ Q σ' H') X.xe s
/-- o[i] = v, by values -/
abbrev TSet := V → V → V → Hp → (Hp → Prop) → Prop
def PSet (X : Cx) (t : TSet) : Prop :=
  ∀ (pins : List (Addr × Obj)) (s : Shared) (σ : St) (H : Hp) (o i v : V) (ov iv u : Value) (Q : Hp → Prop), Inv X pins σ H s → RelV o ov → RelV i iv → RelV v u → t o i v H Q →
    wpAny (model X.prog X.w) X.A (setItem ov iv u) (fun _ s' => ∃ H', Inv X pins σ H' s' ∧ Q H') X.xe s
/-- a op= b, by values -/
abbrev TIp := V → V → Hp → VK → Prop
def PIp (X : Cx) (op : Operator) (t : TIp) : Prop :=
  ∀ (pins : List (Addr × Obj)) (s : Shared) (σ : St) (H : Hp) (x y : V) (v u : Value) (Q : VK), Inv X pins σ H s → RelV x v → RelV y u → t x y H Q →
    wpAny (model X.prog X.w) X.A (inplaceOp op v u) (EP X pins σ Q) X.xe s
section
variable {X : Cx} {pos : Pos}
def gName (i : Nat) : TG := fun v σ H Q => Q (σ.set i (some v)) H
theorem pg_name {i : Nat} {x : Str} (hN : X.N.Nodup) (hi : X.N[i]? = some x) (hx : Loc X.env.scope x) (hf : X.fn x = true ∨ X.env.scope.names.lookup x = some .local := by first | exact .inl rfl | exact .inr rfl | assumption) : PG X (.Name x pos) (gName i) := by
  intro pins s σ H v u Q I r h
  exact wpAny_assign_Name (store_ok I hN hi hx r (fun s' I' => ⟨_, H, I', h⟩) hf)
def gNil : TGs := fun vs σ H Q => vs = [] ∧ Q σ H
def gCons (t : TG) (u : TGs) : TGs := fun vs σ H Q => ∃ v r, vs = v :: r ∧ t v σ H fun σ' H' => u r σ' H' Q
theorem pgs_nil : PGs X [] gNil := by
  intro pins s σ H vs us Q I r h
  obtain ⟨e, h⟩ := h
  subst e
  cases r
  exact assignInOrder_nil ⟨σ, H, I, h⟩
theorem pgs_cons {e : Expr} {es : List Expr} {t : TG} {u : TGs} (h1 : PG X e t) (h2 : PGs X es u)
    (hs : (assignEach (e :: es) X.env).map (·.2) = assign e X.env :: (assignEach es X.env).map (·.2) := by rfl) : PGs X (e :: es) (gCons t u) := by
  intro pins s σ H vs us Q I r h
  obtain ⟨v, vr, e1, h⟩ := h
  subst e1
  cases r with
  | cons r rr =>
    rw [hs]
    refine assignInOrder_cons (thn (h1 pins s σ H _ _ _ I r h) fun _ s1 ⟨σ1, H1, I1, q1⟩ => ?_)
    exact h2 pins s1 σ1 H1 _ _ Q I1 rr q1
/-- (a, b, ..) = a tuple of that length -/
def gTup (K : PySem.W.Frag) (n : Nat) (t : TGs) : TG := fun v σ H Q => ∃ a xs, v = .ref a ∧ SqT K H a xs ∧ xs.length = n ∧ t xs σ H Q
theorem pg_tup {es : List Expr} {k : Nat} {t : TGs} {n : Nat} (hc : X.calm = true) (h : PGs X es t)
    (hn : (assignEach es X.env).length = n := by rfl) (hst : (assignEach es X.env).findIdx? (·.1) = none := by rfl) : PG X (.Tuple es k pos) (gTup X.K n t) := by
  intro pins s σ H v u Q I r hw
  obtain ⟨a, xs, e1, hq, hl, hw⟩ := hw
  subst e1
  cases r
  obtain ⟨its, rv, ht, hz⟩ := I.tuple hq
  refine assign_Tuple_tuple (I.ok.hd hc) ht (by simp [hn, ← hl, rv.length]) hst fun h' hx => ?_
  have I1 : Inv X pins σ H { s with heap := h' } := I.kept (t' := s.toks) fun b o e => hx b o (Nat.ne_of_lt (Heap.lt_size e)) e
  exact h pins _ σ H xs _ Q I1 (by simpa using rv) hw
/-- o[i] = .. -/
def gSub (to ti : TE) (t : TSet) : TG := fun v σ H Q => to σ H fun o H1 => ti σ H1 fun i H2 => t o i v H2 fun H3 => Q σ H3
theorem pg_sub {o i : Expr} {to ti : TE} {t : TSet} (ho : PE X o to) (hi : PE X i ti) (hs : PSet X t)
    (ha : ∀ v, assign (.Subscript o i pos) X.env v = (do
      let ov ← holding [v] (eval o X.env)
      let iv ← holding [v, ov] (eval i X.env)
      standAt pos
      holding [v, ov, iv] (setItem ov iv v)
      release [v, ov, iv] []) := by intro _; rfl) : PG X (.Subscript o i pos) (gSub to ti t) := by
  intro pins s σ H v u Q I r h
  rw [ha]
  refine wpAny_bind (wpAny_holding (thn (ho pins s σ H _ I h) fun ov s1 ⟨x, H1, I1, r1, q1⟩ => ?_))
  refine wpAny_bind (wpAny_holding (thn (hi pins s1 σ H1 _ I1 q1) fun iv s2 ⟨y, H2, I2, r2, q2⟩ => ?_))
  refine wpAny_bind (wpAny_standAt (wpAny_bind (wpAny_holding (thn (hs pins s2 σ H2 x y v ov iv u _ I2 r1 r2 r q2) fun _ s3 ⟨H3, I3, q3⟩ => ?_))))
  exact wpAny_release ⟨σ, H3, I3, q3⟩
/-- target = value -/
def tAsg (te : TE) (g : TG) : TS := fun D σ H => te σ H fun x H1 => g x σ H1 D.nx
theorem ps_asg {tg e : Expr} {te : TE} {g : TG} (he : PE X e te) (hg : PG X tg g) (hs : swapsWithSole [tg] e pos.line X.env = pure false := by rfl) (hw : swappedStores [tg] e X.env = pure none := by rfl)
    (h1 : (assignEach [tg] X.env).map (·.2) = [assign tg X.env] := by rfl) : PS X (.Assign [tg] e pos) (tAsg te g) := by
  intro pins s σ H D I h
  refine wpAny_Assign_stores (thn (he pins s σ H _ I h) fun v s1 ⟨x, H1, I1, r1, q1⟩ => ?_) hs hw
  rw [h1]
  exact thn (hg pins s1 σ H1 x v _ I1 r1 q1) fun _ s2 q => q
/-- name = value -/
theorem ps_set {i : Nat} {x : Str} {e : Expr} {te : TE} {pos' : Pos} (hN : X.N.Nodup) (hi : X.N[i]? = some x) (hx : Loc X.env.scope x) (he : PE X e te) (hs : swapsWith e (some (.Name x pos')) pos.line X.env = pure false := by rfl) (hf : X.fn x = true ∨ X.env.scope.names.lookup x = some .local := by first | exact .inl rfl | exact .inr rfl | assumption) :
    PS X (.Assign [.Name x pos'] e pos) (tAsg te (gName i)) := by
  intro pins s σ H D I h
  refine wpAny_Assign_Name (thn (he pins s σ H _ I h) fun v s1 ⟨y, H1, I1, r1, q1⟩ => ?_) hs
  exact store_ok I1 hN hi hx r1 (fun s2 I2 => ⟨_, H1, I2, q1⟩) hf
/-- a, b = x, y with plain local names: stored from the right; the pair itself is not tracked (the opening rows as in PyProof/Rows/TupAssign.lean:23) -/
def tPar (i j : Nat) (ta : TA) : TS := fun D σ H => ta σ H fun vs H1 => ∃ v w, vs = [v, w] ∧ D.nx ((σ.set i (some v)).set j (some w)) H1
theorem ps_par {i j : Nat} {x y : Str} {a b : Expr} {ta : TA} {px py pt : Pos} {kt k2 pt2} (hc : X.calm = true) (hN : X.N.Nodup) (hi : X.N[i]? = some x) (hj : X.N[j]? = some y) (hij : i ≠ j)
    (hx : X.env.scope.names.lookup x = some .local) (hy : X.env.scope.names.lookup y = some .local) (ha : PA X [a, b] ta)
    (hw : swappedStores [.Tuple [.Name x px, .Name y py] kt pt] (.Tuple [a, b] k2 pt2) X.env = pure (some [x, y]))
    (hs : swapsWithSole [.Tuple [.Name x px, .Name y py] kt pt] (.Tuple [a, b] k2 pt2) pos.line X.env = pure false := by rfl) :
    PS X (.Assign [.Tuple [.Name x px, .Name y py] kt pt] (.Tuple [a, b] k2 pt2) pos) (tPar i j ta) := by
  intro pins s σ H D I h
  rw [exec_Assign_arm]
  refine wpAny_bind (wpAny_standAt ?_)
  rw [hs]
  refine wpAny_bind (wpAny_pure ?_)
  rw [if_neg (by decide)]
  refine wpAny_bind (Tuple_ (thn (ha _ pins s σ H _ I h) fun us s1 ⟨vs, H1, I1, r1, q1⟩ => ?_))
  obtain ⟨v, w, e1, q1⟩ := q1
  subst e1
  obtain ⟨u1, u2, rfl, rv, rw'⟩ : ∃ u1 u2, us = [u1, u2] ∧ RelV v u1 ∧ RelV w u2 := by
    cases r1 with
    | cons p q =>
      cases q with
      | cons p' q' =>
        cases q'
        exact ⟨_, _, rfl, p, p'⟩
  refine wpAny_newObj_type ?_ (by show 2 ≤ sizeLine; decide)
  have I2 : Inv X pins σ H1 { s1 with heap := s1.heap.push { cls := .type "tuple", data := .seq [u1, u2].toArray } } := I1.kept (t' := s1.toks) fun b o e => Heap.get?_push_of_some _ e
  rw [hw]
  refine wpAny_bind (wpAny_pure ?_)
  show wpAny (model X.prog X.w) X.A (do rule "assign.swapped-stores"; let items ← unpackItems (.ref s1.heap.objs.size) 2 none; assignInOrder [fun v => bindName X.env y v, fun v => bindName X.env x v] items.reverse; pure Flow.next) _ _ _
  refine wpAny_bind (wpAny_rule (wpAny_bind (unpackItems_tuple (items := #[u1, u2]) (I.ok.hd hc) (IsTup.new s1.heap _) fun h' hx' => ?_)))
  have I3 := I2.kept (h' := h') (t' := s1.toks) fun b o e => hx' b o (Nat.ne_of_lt (Heap.lt_size e)) e
  show wpAny _ _ (assignInOrder [fun v => bindName X.env y v, fun v => bindName X.env x v] [u2, u1] >>= fun _ => pure Flow.next) _ _ _
  refine wpAny_bind (assignInOrder_cons (wpAny_bindName (store_ok I3 hN hj (.inl hy) rw' (fun s2 I4 => ?_) (.inr hy))))
  refine assignInOrder_cons (wpAny_bindName (store_ok I4 hN hi (.inl hx) rv (fun s3 I5 => assignInOrder_nil (wpAny_pure ?_)) (.inr hx)))
  rw [List.set_comm _ _ (Ne.symm hij)] at I5
  exact ⟨_, H1, I5, q1⟩
/-- name op= e -/
def tAug (i : Nat) (te : TE) (ti : TIp) : TS := fun D σ H => ∃ x, σ[i]? = some (some x) ∧ te σ H fun y H1 => ti x y H1 fun z H2 => D.nx (σ.set i (some z)) H2
theorem ps_aug {i : Nat} {x : Str} {e : Expr} {te : TE} {op : Operator} {ti : TIp} {pos' : Pos} (hN : X.N.Nodup) (hi : X.N[i]? = some x) (hx : Loc X.env.scope x) (he : PE X e te) (ho : PIp X op ti) (hf : X.fn x = true ∨ X.env.scope.names.lookup x = some .local := by first | exact .inl rfl | exact .inr rfl | assumption) :
    PS X (.AugAssign (.Name x pos') op e pos) (tAug i te ti) := by
  intro pins s σ H D I h
  obtain ⟨v, e1, h⟩ := h
  obtain ⟨m, hn, hl⟩ := I.loc
  have vis : Vis X.env.scope x := by rcases hx with k | k; exact .inl k; exact .inr (.inl k)
  obtain ⟨u, r, l⟩ := hl i x v hi e1 vis
  refine wpAny_AugAssign_Name ?_
  have go : wpAny (model X.prog X.w) X.A (eval e X.env) (fun w s₂ => wpAny (model X.prog X.w) X.A (inplaceOp op u w) (fun r s₃ => wpAny (model X.prog X.w) X.A (storeName X.env x r) (fun _ => SP X pins D .next) X.xe s₃) X.xe s₂) X.xe s := by
    refine thn (he pins s σ H _ I h) fun w s1 ⟨y, H1, I1, r1, q1⟩ => ?_
    refine thn (ho pins s1 σ H1 v y u w _ I1 r r1 q1) fun z s2 ⟨zv, H2, I2, r2, q2⟩ => ?_
    exact store_ok I2 hN hi hx r2 (fun s3 I3 => ⟨_, H2, I3, q2⟩) hf
  rcases l with ⟨hk, hm⟩ | ⟨hk, c, hc, hcell⟩
  · exact wpAny_loadName_local I.ok.kind hk hn hm go
  · rcases hk with hk | hk
    · exact wpAny_loadName_cell I.ok.kind hk hc hcell go
    · rcases hx with k | k
      · have : X.env.scope.names.lookup x = some .free := hk
        rw [k] at this; cases this
      · have : X.env.scope.names.lookup x = some .free := hk
        rw [k] at this; cases this
/-- o[i] op= e -/
def tAugS (to ti te : TE) (tget : V → V → Hp → VK → Prop) (tip : TIp) (tset : TSet) : TS := fun D σ H => to σ H fun o H1 => ti σ H1 fun i H2 => tget o i H2 fun x H3 => te σ H3 fun y H4 => tip x y H4 fun z H5 => tset o i z H5 fun H6 => D.nx σ H6
/-- o[i], by values -/
def PGet (X : Cx) (t : V → V → Hp → VK → Prop) : Prop :=
  ∀ (pins : List (Addr × Obj)) (s : Shared) (σ : St) (H : Hp) (o i : V) (ov iv : Value) (Q : VK), Inv X pins σ H s → RelV o ov → RelV i iv → t o i H Q →
    wpAny (model X.prog X.w) X.A (getItem ov iv) (EP X pins σ Q) X.xe s
theorem ps_augS {o i e : Expr} {to ti te : TE} {tget : V → V → Hp → VK → Prop} {tip : TIp} {tset : TSet} {op : Operator} {tpos : Pos} (ho : PE X o to) (hi : PE X i ti) (hg : PGet X tget) (he : PE X e te) (hp : PIp X op tip) (hs : PSet X tset)
    (ha : ∀ ov iv new, augStore i ov iv new = (do holding [new, ov, iv] (setItem ov iv new); release [new, ov, iv] []; pure .next) := by intros; rfl) : PS X (.AugAssign (.Subscript o i tpos) op e pos) (tAugS to ti te tget tip tset) := by
  intro pins s σ H D I h
  refine wpAny_AugAssign_SubscriptAny (thn (ho pins s σ H _ I h) fun ov s1 ⟨x1, H1, I1, r1, q1⟩ => ?_) ha
  refine thn (hi pins s1 σ H1 _ I1 q1) fun iv s2 ⟨x2, H2, I2, r2, q2⟩ => ?_
  refine thn (hg pins s2 σ H2 x1 x2 ov iv _ I2 r1 r2 q2) fun old s3 ⟨x3, H3, I3, r3, q3⟩ => ?_
  refine thn (he pins s3 σ H3 _ I3 q3) fun v s4 ⟨x4, H4, I4, r4, q4⟩ => ?_
  refine thn (hp pins s4 σ H4 x3 x4 old v _ I4 r3 r4 q4) fun new s5 ⟨x5, H5, I5, r5, q5⟩ => ?_
  exact thn (hs pins s5 σ H5 x1 x2 x5 ov iv new _ I5 r1 r2 r5 q5) fun _ s6 ⟨H6, I6, q6⟩ => ⟨σ, H6, I6, q6⟩
/-- ints -/
def ipI (f : Int → Int → Int) : TIp := fun x y H Q => ∃ i j, x = .int i ∧ y = .int j ∧ Q (.int (f i j)) H
theorem ip_add : PIp X .Add (ipI fun i j => i + j) := by
  intro pins s σ H x y v u Q I r1 r2 h
  obtain ⟨i, j, e1, e2, q⟩ := h
  subst e1; subst e2
  obtain ⟨t, rfl⟩ := r1
  obtain ⟨t', rfl⟩ := r2
  exact iadd_int ⟨.int _, H, I.tok _, ⟨_, rfl⟩, q⟩
theorem ip_sub : PIp X .Sub (ipI fun i j => i - j) := by
  intro pins s σ H x y v u Q I r1 r2 h
  obtain ⟨i, j, e1, e2, q⟩ := h
  subst e1; subst e2
  obtain ⟨t, rfl⟩ := r1
  obtain ⟨t', rfl⟩ := r2
  exact isub_int ⟨.int _, H, I.tok _, ⟨_, rfl⟩, q⟩
end

/-! ### while -/
section
variable {X : Cx} {pos : Pos}
/-- the invariant W with its measure -/
def tWhile (c : TT) (tb : TS) : TS := fun D σ H => ∃ W : Nat → St → Hp → Prop, (∃ m, W m σ H) ∧ ∀ m σ H, W m σ H →
  c σ H fun b H1 => if b = true then ∃ N : St → Hp → Prop, (∀ σ' H', N σ' H' → ∃ m', m' < m ∧ W m' σ' H') ∧ tb { D with nx := N, ct := N, bk := D.nx } σ H1 else D.nx σ H1
theorem ps_while {c : Expr} {body : List Stmt} {tc : TT} {tb : TS} (hp : PassesOwn (model X.prog X.w) X.A X.env X.xe) (hc : PT X c tc) (hb : PSs X body tb) : PS X (.While c body [] pos) (tWhile tc tb) := by
  intro pins s σ H D I h
  obtain ⟨W, ⟨m0, w0⟩, turn⟩ := h
  refine wpAny_While (codeAny_whileLoop (fun n s' => ∃ σ' H', Inv X pins σ' H' s' ∧ W n σ' H') ?_ m0 ⟨σ, H, I, w0⟩)
  rintro n s1 ⟨σ1, H1, I1, w1⟩
  refine wpAny_passesOwn hp (thn (hc pins s1 σ1 H1 _ I1 (turn n σ1 H1 w1)) fun b s2 ⟨H2, I2, q2⟩ => ?_)
  cases b with
  | true =>
    obtain ⟨N, hN, q2⟩ := q2
    rw [if_pos rfl]
    refine wpAny_passesOwn hp (thn (hb pins s2 σ1 H2 _ I2 q2) fun f s3 q3 => ?_)
    cases f with
    | next =>
      obtain ⟨σ3, H3, I3, n3⟩ := q3
      obtain ⟨m', hm, w3⟩ := hN σ3 H3 n3
      exact ⟨m', hm, σ3, H3, I3, w3⟩
    | cont =>
      obtain ⟨σ3, H3, I3, n3⟩ := q3
      obtain ⟨m', hm, w3⟩ := hN σ3 H3 n3
      exact ⟨m', hm, σ3, H3, I3, w3⟩
    | brk => exact q3
    | ret v => exact q3
  | false =>
    rw [if_neg Bool.false_ne_true]
    exact wpAny_execs_nil ⟨σ1, H2, I2, q2⟩
end

/-! ### what a loop or a comprehension walks -/
/-- at turn i: it yields x (the heap may grow), or it stops -/
structure It where
  go : Nat → Hp → Prop
  yld : Nat → Hp → V → Hp → Prop
  stop : Nat → Hp → Prop
/-- the iterator's own objects may turn: they are not the frame's, not pinned, younger than the entry (or a comprehension's own) -/
def FpOk (X : Cx) (pins : List (Addr × Obj)) (H : Hp) (b : Addr) : Prop :=
  H b = none ∧ b ≠ X.env.locals ∧ b ∉ X.fs ∧ (b ∈ X.ex ∨ X.s₀.heap.objs.size ≤ b) ∧ (∀ x c, X.env.cells.lookup x = some c → c ≠ b) ∧ ∀ p ∈ X.pn ++ pins, p.1 ≠ b
theorem Inv.fpOk {X : Cx} {pins : List (Addr × Obj)} {σ : St} {H H' : Hp} {s : Shared} {b : Addr} (I : Inv X pins σ H s) (hb : s.heap.objs.size ≤ b) (hn : H' b = none) : FpOk X pins H' b := by
  refine ⟨hn, Nat.ne_of_gt (Nat.lt_of_lt_of_le I.lt hb), I.nofs hb, .inr (Nat.le_trans I.sz hb), fun x c e z => ?_, fun p hp z => ?_⟩
  · obtain ⟨v, q⟩ := I.cell x c e
    exact absurd (Nat.lt_of_lt_of_le q.lt (by rw [z]; exact hb)) (Nat.lt_irrefl _)
  · exact absurd (Nat.lt_of_lt_of_le (Heap.lt_size (I.pin p hp).1) (by rw [z]; exact hb)) (Nat.lt_irrefl _)
structure Turn (P : Program) (w : World) (K : PySem.W.Frag) (tg : Expr) (J : It) (fp : List Addr) (it : Addr) (tn : Nat → Heap → Prop) : Prop where
  mem : it ∈ fp
  obj : ∀ i h, tn i h → ∀ b ∈ fp, ∃ o, h.get? b = some o ∧ ∀ v, o.data ≠ .cell v
  keep : ∀ i h h', tn i h → (∀ b ∈ fp, ∀ o, h.get? b = some o → h'.get? b = some o) → tn i h'
  item : ∀ (X : Cx), X.prog = P → X.w = w → X.K = K → X.calm = true → ∀ (i : Nat) (pins : List (Addr × Obj)) (s : Shared) (σ : St) (H : Hp) (E : Value → Shared → Prop), Inv X pins σ H s → (∀ b ∈ fp, FpOk X pins H b) → tn i s.heap → J.go i H →
    wpAny (model P w) X.A (pyNext (.ref it)) (fun r s1 => ∃ u, r = some u ∧
      wpAny (model P w) X.A (letOwnedTupleGo tg (.ref it) u) (fun _ s2 => ∃ x H', Inv X pins σ H' s2 ∧ RelV x u ∧ J.yld i H x H' ∧ tn (i + 1) s2.heap ∧ ∀ b ∈ fp, H' b = none) E s1) E s
  done : ∀ (X : Cx), X.prog = P → X.w = w → X.K = K → X.calm = true → ∀ (i : Nat) (pins : List (Addr × Obj)) (s : Shared) (σ : St) (H : Hp) (E : Value → Shared → Prop), Inv X pins σ H s → (∀ b ∈ fp, FpOk X pins H b) → tn i s.heap → J.stop i H →
    wpAny (model P w) X.A (pyNext (.ref it)) (fun r s1 => r = none ∧ Inv X pins σ H s1) E s
  self : ∀ (A : Around) (i : Nat) (s : Shared) (Q : Value → Shared → Prop) (E : Value → Shared → Prop), tn i s.heap → Q (.ref it) s → wpAny (model P w) A (pyIter (.ref it)) Q E s
abbrev TI := St → Hp → (It → Hp → Prop) → Prop
/-- an iterator has come -/
def PIE (X : Cx) (pins : List (Addr × Obj)) (σ : St) (tg : Expr) (R : It → Hp → Prop) (itv : Value) (s2 : Shared) : Prop :=
  ∃ (it : Addr) (fp : List Addr) (tn : Nat → Heap → Prop) (J : It) (H' : Hp), itv = .ref it ∧ Inv X pins σ H' s2 ∧ Turn X.prog X.w X.K tg J fp it tn ∧ tn 0 s2.heap ∧ (∀ b ∈ fp, FpOk X pins H' b) ∧ R J H'
def PI (X : Cx) (tg iter : Expr) (wi : TI) : Prop :=
  ∀ (pins : List (Addr × Obj)) (s : Shared) (σ : St) (H : Hp) (R : It → Hp → Prop), Inv X pins σ H s → wi σ H R →
    wpAny (model X.prog X.w) X.A (eval iter X.env) (fun v s1 => wpAny (model X.prog X.w) X.A (pyIter v) (PIE X pins σ tg R) X.xe s1) X.xe s

/-- the step ahead of the store is nothing for an iterator that keeps no tuple -/
theorem go_of {M : Model} {A : Around} {E : Value → Shared → Prop} {s : Shared} {tg : Expr} {it : Addr} {u : Value} {o : Obj} {n : String} {vs : Array Value} {Q : Unit → Shared → Prop} (ho : s.heap.get? it = some o) (hc : o.cls = .type n) (hd : o.data = .fields vs)
    (hn : ["enumerate", "zip", "dict_itemiterator", "dict_reverseitemiterator", "odict_iterator", "itertools.zip_longest", "itertools.pairwise"].contains n = false) (hQ : Q () s) : wpAny M A (letOwnedTupleGo tg (.ref it) u) Q E s := by
  unfold letOwnedTupleGo
  cases tg <;> first
    | exact wpAny_pure hQ
    | (cases u <;> first
        | exact wpAny_pure hQ
        | (refine wpAny_bind (wpAny_load ho ?_)
           rw [hc, hd]
           show wpAny M A (if (["enumerate", "zip", "dict_itemiterator", "dict_reverseitemiterator", "odict_iterator", "itertools.zip_longest", "itertools.pairwise"].contains n && vs[0]? == some (rawInt _)) = true then _ else _) Q E s
           rw [if_neg (by intro h; rw [hn, Bool.false_and] at h; cases h)]
           exact wpAny_pure hQ))

/-- the list at a, as it stands at each turn (a loop may append to it) -/
def Itl (K : PySem.W.Frag) (a : Addr) : It :=
  ⟨fun i H => ∃ xs x, SqL K H a xs ∧ xs[i]? = some x, fun i H x H' => H' = H ∧ ∀ xs, SqL K H a xs → xs[i]? = some x, fun i H => ∃ xs, SqL K H a xs ∧ xs.length ≤ i⟩
def Itt (K : PySem.W.Frag) (a : Addr) : It :=
  ⟨fun i H => ∃ xs x, SqT K H a xs ∧ xs[i]? = some x, fun i H x H' => H' = H ∧ ∀ xs, SqT K H a xs → xs[i]? = some x, fun i H => ∃ xs, SqT K H a xs ∧ xs.length ≤ i⟩
/-- lo, lo + 1, .. (n of them) -/
def Itr (lo : Int) (n : Nat) : It := ⟨fun i _ => i < n, fun i H x H' => H' = H ∧ x = .int (lo + i), fun i _ => n ≤ i⟩
theorem turn_list {P : Program} {w : World} {K : PySem.W.Frag} {tg : Expr} (a it : Addr) : Turn P w K tg (Itl K a) [it] it (fun i h => h.IsListIter it a i) where
  mem := by simp
  obj := fun i h st b hb => by
    have e : b = it := by simpa using hb
    subst e
    obtain ⟨o, e, c, d⟩ := st
    exact ⟨o, e, fun v z => by rw [d] at z; cases z⟩
  keep := fun i h h' st k => st.at fun o e => k it (by simp) o e
  item := by
    intro X hP hw hK hc i pins s σ H E I hf st hg
    subst hP hw hK
    obtain ⟨xs, x, hq, hx⟩ := hg
    obtain ⟨its, rv, p, hz⟩ := I.list hq
    obtain ⟨u, hu, ru⟩ := rv.get hx
    obtain ⟨f0, f1, f2, f3, f4, f5⟩ := hf it (by simp)
    refine wpAny_pyNext_list_item st p.isList (x := u) (by simpa using hu) fun h' st' sb => ?_
    have I1 : Inv X pins σ H { s with heap := h' } := I.turned (t' := s.toks) (fun b o hb e => (sb.2 b hb).trans e) f0 f1 f3 f4 f5
    obtain ⟨o, e, c, d⟩ := id st'
    exact ⟨u, rfl, go_of (s := { s with heap := h' }) e c d (by decide) ⟨x, H, I1, ru, ⟨rfl, fun ys hy => by rw [I.list_inj hy hq]; exact hx⟩, st', fun b hb => (hf b hb).1⟩⟩
  done := by
    intro X hP hw hK hc i pins s σ H E I hf st hg
    subst hP hw hK
    obtain ⟨xs, hq, hx⟩ := hg
    obtain ⟨its, rv, p, hz⟩ := I.list hq
    obtain ⟨f0, f1, f2, f3, f4, f5⟩ := hf it (by simp)
    have hl := rv.length
    exact wpAny_pyNext_list_end (I.ok.hd hc) st p.isList (by simp; omega) fun h' eb => ⟨rfl, I.turned (t' := s.toks) (fun b o hb e => eb b o hb e) f0 f1 f3 f4 f5⟩
  self := fun _ _ _ _ _ st h => wpAny_pyIter_listiter st h
theorem turn_tuple {P : Program} {w : World} {K : PySem.W.Frag} {tg : Expr} (a it : Addr) : Turn P w K tg (Itt K a) [it] it (fun i h => h.IsTupleIter it a i) where
  mem := by simp
  obj := fun i h st b hb => by
    have e : b = it := by simpa using hb
    subst e
    obtain ⟨o, e, c, d⟩ := st
    exact ⟨o, e, fun v z => by rw [d] at z; cases z⟩
  keep := fun i h h' st k => st.at fun o e => k it (by simp) o e
  item := by
    intro X hP hw hK hc i pins s σ H E I hf st hg
    subst hP hw hK
    obtain ⟨xs, x, hq, hx⟩ := hg
    obtain ⟨its, rv, p, hz⟩ := I.tuple hq
    obtain ⟨u, hu, ru⟩ := rv.get hx
    obtain ⟨f0, f1, f2, f3, f4, f5⟩ := hf it (by simp)
    refine wpAny_pyNext_tuple_item st (show s.heap.IsTuple a its.toArray from p) (x := u) (by simpa using hu) fun h' st' sb => ?_
    have I1 : Inv X pins σ H { s with heap := h' } := I.turned (t' := s.toks) (fun b o hb e => (sb.2 b hb).trans e) f0 f1 f3 f4 f5
    obtain ⟨o, e, c, d⟩ := id st'
    exact ⟨u, rfl, go_of (s := { s with heap := h' }) e c d (by decide) ⟨x, H, I1, ru, ⟨rfl, fun ys hy => by rw [I.tuple_inj hy hq]; exact hx⟩, st', fun b hb => (hf b hb).1⟩⟩
  done := by
    intro X hP hw hK hc i pins s σ H E I hf st hg
    subst hP hw hK
    obtain ⟨xs, hq, hx⟩ := hg
    obtain ⟨its, rv, p, hz⟩ := I.tuple hq
    obtain ⟨f0, f1, f2, f3, f4, f5⟩ := hf it (by simp)
    have hl := rv.length
    exact wpAny_pyNext_tuple_end (I.ok.hd hc) st (show s.heap.IsTuple a its.toArray from p) (by simp; omega) fun h' eb => ⟨rfl, I.turned (t' := s.toks) (fun b o hb e => eb b o hb e) f0 f1 f3 f4 f5⟩
  self := fun _ _ _ _ _ st h => wpAny_pyIter_tupleiter st h
theorem turn_range {P : Program} {w : World} {K : PySem.W.Frag} {tg : Expr} (it : Addr) (lo : Int) (n : Nat) : Turn P w K tg (Itr lo n) [it] it (fun i h => IsRangeIter h it (lo + (i : Nat) * 1) ((n : Int) - (i : Nat)) 1) where
  mem := by simp
  obj := fun i h st b hb => by
    have e : b = it := by simpa using hb
    subst e
    exact ⟨_, st, fun v z => by
      have z' : Data.fields _ = Data.cell v := z
      cases z'⟩
  keep := fun i h h' st k => k it (by simp) _ st
  item := by
    intro X hP hw hK hc i pins s σ H E I hf st hg
    subst hP hw hK
    obtain ⟨f0, f1, f2, f3, f4, f5⟩ := hf it (by simp)
    have W := Walks.range (prog := X.prog) (w := X.w) (I.ok.hd hc) it lo 1 n
    refine W.item i s _ _ hg st fun v h' tk hv st' kk => ?_
    obtain ⟨t, rfl⟩ := hv
    have I1 : Inv X pins σ H { s with heap := h', toks := tk } := I.turned (fun b o hb e => kk b o (by simpa using hb) e) f0 f1 f3 f4 f5
    refine ⟨_, rfl, go_of (s := { s with heap := h', toks := tk }) (n := "range_iterator") st' rfl rfl (by decide) ⟨.int (lo + i), H, I1, ⟨t, ?_⟩, ⟨rfl, rfl⟩, st', fun b hb => (hf b hb).1⟩⟩
    rw [Int.mul_one]
  done := by
    intro X hP hw hK hc i pins s σ H E I hf st hg
    subst hP hw hK
    obtain ⟨f0, f1, f2, f3, f4, f5⟩ := hf it (by simp)
    exact wpAny_pyNext_range_end (I.ok.hd hc) st (by have : n ≤ i := hg; omega) fun h' eb => ⟨rfl, I.turned (t' := s.toks) (fun b o hb e => eb b o hb e) f0 f1 f3 f4 f5⟩
  self := fun _ _ _ _ _ st h => wpAny_pyIter_rangeiter st h
end L2

namespace L2
open PySem PySem.Spec PyProof.Rows
section
variable {X : Cx} {tg : Expr}
def iList (K : PySem.W.Frag) (tl : TE) : TI := fun σ H R => tl σ H fun x H1 => ∃ a, x = .ref a ∧ (∃ xs, SqL K H1 a xs) ∧ R (Itl K a) H1
def iTup (K : PySem.W.Frag) (tl : TE) : TI := fun σ H R => tl σ H fun x H1 => ∃ a, x = .ref a ∧ (∃ xs, SqT K H1 a xs) ∧ R (Itt K a) H1
theorem pi_list {l : Expr} {tl : TE} (hl : PE X l tl) : PI X tg l (iList X.K tl) := by
  intro pins s σ H R I h
  refine thn (hl pins s σ H _ I h) fun v s1 ⟨x, H1, I1, r1, q1⟩ => ?_
  obtain ⟨a, e, ⟨xs, hq⟩, q⟩ := q1
  subst e
  cases r1
  obtain ⟨its, rv, p, hz⟩ := I1.list hq
  refine wpAny_pyIter_list p.isList ?_
  refine ⟨s1.heap.objs.size, [s1.heap.objs.size], _, _, H1, rfl, I1.kept (t' := s1.toks) fun b o e => Heap.get?_push_of_some _ e, turn_list a _, ⟨_, Heap.get?_push_size _ rfl, rfl, rfl⟩, fun b hb => ?_, q⟩
  have e : b = s1.heap.objs.size := by simpa using hb
  subst e
  exact I1.fpOk (Nat.le_refl _) (I1.hok.fresh (Nat.le_refl _))
theorem pi_tup {l : Expr} {tl : TE} (hl : PE X l tl) : PI X tg l (iTup X.K tl) := by
  intro pins s σ H R I h
  refine thn (hl pins s σ H _ I h) fun v s1 ⟨x, H1, I1, r1, q1⟩ => ?_
  obtain ⟨a, e, ⟨xs, hq⟩, q⟩ := q1
  subst e
  cases r1
  obtain ⟨its, rv, p, hz⟩ := I1.tuple hq
  refine wpAny_pyIter_tuple (show s1.heap.IsTuple a its.toArray from p) ?_
  refine ⟨s1.heap.objs.size, [s1.heap.objs.size], _, _, H1, rfl, I1.kept (t' := s1.toks) fun b o e => Heap.get?_push_of_some _ e, turn_tuple a _, ⟨_, Heap.get?_push_size _ rfl, rfl, rfl⟩, fun b hb => ?_, q⟩
  have e : b = s1.heap.objs.size := by simpa using hb
  subst e
  exact I1.fpOk (Nat.le_refl _) (I1.hok.fresh (Nat.le_refl _))
/-- a range object just made, walked -/
theorem range_it {pins : List (Addr × Obj)} {σ : St} {H : Hp} {s : Shared} {R : It → Hp → Prop} {E : Value → Shared → Prop} {lo hi : Int} {t u v : Tok} {tk : Nat} (I : Inv X pins σ H s) (h1 : -(2 ^ 62) ≤ lo) (h2 : lo < 2 ^ 62) (h3 : -(2 ^ 62) ≤ hi) (h4 : hi < 2 ^ 62)
    (q : R (Itr lo (hi - lo).toNat) H) : wpAny (model X.prog X.w) X.A (pyIter (.ref s.heap.objs.size)) (PIE X pins σ tg R) E { s with heap := s.heap.push { cls := .type "range", data := .fields #[.int lo t, .int hi u, .int 1 v] }, toks := tk } := by
  refine wpAny_pyIter_range (IsRange.new ..) (small_one h1 h2 h3 h4) ?_
  have I1 : Inv X pins σ H { s with heap := s.heap.push { cls := .type "range", data := .fields #[.int lo t, .int hi u, .int 1 v] }, toks := tk } := I.kept fun b o e => Heap.get?_push_of_some _ e
  refine ⟨(s.heap.push { cls := .type "range", data := .fields #[.int lo t, .int hi u, .int 1 v] }).objs.size, [(s.heap.push { cls := .type "range", data := .fields #[.int lo t, .int hi u, .int 1 v] }).objs.size], _, _, H, rfl,
    I1.kept (t' := tk) fun b o e => Heap.get?_push_of_some _ e, turn_range _ lo (hi - lo).toNat, ?_, fun b hb => ?_, q⟩
  · have e1 : lo + ((0 : Nat) : Int) * 1 = lo := by simp
    have e2 : (((hi - lo).toNat : Nat) : Int) - ((0 : Nat) : Int) = Builtin.Range.rangeSize lo hi 1 := by rw [rangeSize_one]; split <;> omega
    show IsRangeIter _ _ (lo + ((0 : Nat) : Int) * 1) ((((hi - lo).toNat : Nat) : Int) - ((0 : Nat) : Int)) 1
    rw [e1, e2]
    exact Heap.get?_push_size _ rfl
  · have e : b = (s.heap.push { cls := .type "range", data := .fields #[.int lo t, .int hi u, .int 1 v] }).objs.size := by simpa using hb
    subst e
    exact I1.fpOk (Nat.le_refl _) (I1.hok.fresh (Nat.le_refl _))
def iRng1 (ta : TA) : TI := fun σ H R => ta σ H fun vs H1 => ∃ j : Int, vs = [.int j] ∧ -(2 ^ 62) ≤ j ∧ j < 2 ^ 62 ∧ R (Itr 0 j.toNat) H1
def iRng2 (ta : TA) : TI := fun σ H R => ta σ H fun vs H1 => ∃ i j : Int, vs = [.int i, .int j] ∧ (-(2 ^ 62) ≤ i ∧ i < 2 ^ 62 ∧ -(2 ^ 62) ≤ j ∧ j < 2 ^ 62) ∧ R (Itr i (j - i).toNat) H1
theorem pi_range1 {a : Expr} {ta : TA} {p pos : Pos} (hg : Gl X "range") (hm : X.mg "range" = none) (ha : PA X [a] ta) (hs : starEach [a] X.env = [(false, eval a X.env)] := by rfl) : PI X tg (.Call (.Name "range" p) [a] [] pos) (iRng1 ta) := by
  intro pins s σ H R I h
  refine Call_ (ld_blt I hg hm boot_range (PyProof.Rows.callWith_type1 (thn (ha pos pins s σ H _ I h) fun us s1 ⟨vs, H1, I1, r1, q1⟩ => ?_) hs rfl))
  obtain ⟨j, e, q1, q2, q⟩ := q1
  subst e
  cases r1 with
  | cons r rr =>
    cases rr
    obtain ⟨t, rfl⟩ := r
    exact call_range_1 (range_it I1 (by omega) (by omega) q1 q2 (by simpa using q))
theorem pi_range2 {a b : Expr} {ta : TA} {p pos : Pos} (hg : Gl X "range") (hm : X.mg "range" = none) (ha : PA X [a, b] ta) (hs : starEach [a, b] X.env = [(false, eval a X.env), (false, eval b X.env)] := by rfl) (hs2 : starEach [b] X.env = [(false, eval b X.env)] := by rfl) :
    PI X tg (.Call (.Name "range" p) [a, b] [] pos) (iRng2 ta) := by
  intro pins s σ H R I h
  refine Call_ (ld_blt I hg hm boot_range (PyProof.Rows.callWith_type1 (thn (ha pos pins s σ H _ I h) fun us s1 ⟨vs, H1, I1, r1, q1⟩ => ?_) (by rw [hs, hs2]) (by rw [hs2]; rfl)))
  obtain ⟨i, j, e, ⟨q1, q2, q3, q4⟩, q⟩ := q1
  subst e
  cases r1 with
  | cons r rr =>
    cases rr with
    | cons r' rr =>
      cases rr
      obtain ⟨t, rfl⟩ := r
      obtain ⟨t', rfl⟩ := r'
      exact call_range_2 (range_it I1 q1 q2 q3 q4 q)

/-! ### for -/
/-- W: the invariant by the turn and a measure; N: what the body is to reach -/
def tFor (wi : TI) (g : TG) (tb : TS) : TS := fun D σ H => wi σ H fun J H1 => ∃ W : Nat → Nat → St → Hp → Prop, (∃ m, W 0 m σ H1) ∧ ∀ i m σ H, W i m σ H →
  (J.stop i H ∧ D.nx σ H) ∨ (J.go i H ∧ ∃ N : St → Hp → Prop, (∀ σ' H', N σ' H' → ∃ m', m' < m ∧ W (i + 1) m' σ' H') ∧ ∀ x H', J.yld i H x H' → g x σ H' fun σ2 H2 => tb { D with nx := N, ct := N, bk := D.nx } σ2 H2)
/-- the records at fp as they stand -/
def pinsAt (fp : List Addr) (h : Heap) : List (Addr × Obj) := fp.filterMap fun b => (h.get? b).map fun o => (b, o)
theorem mem_pinsAt {fp : List Addr} {h : Heap} {b : Addr} {o : Obj} (hb : b ∈ fp) (e : h.get? b = some o) : (b, o) ∈ pinsAt fp h := List.mem_filterMap.mpr ⟨b, hb, by rw [e]; rfl⟩
theorem of_pinsAt {fp : List Addr} {h : Heap} {p : Addr × Obj} (hp : p ∈ pinsAt fp h) : p.1 ∈ fp ∧ h.get? p.1 = some p.2 := by
  obtain ⟨b, hb, e⟩ := List.mem_filterMap.mp hp
  cases q : h.get? b with
  | none => rw [q] at e; cases e
  | some o =>
    rw [q] at e
    have e' : (b, o) = p := Option.some.inj e
    subst e'
    exact ⟨hb, q⟩
theorem Inv.pinned {pins : List (Addr × Obj)} {σ : St} {H : Hp} {s : Shared} {fp : List Addr} (I : Inv X pins σ H s) (hf : ∀ b ∈ fp, FpOk X pins H b) (ho : ∀ b ∈ fp, ∃ o, s.heap.get? b = some o ∧ ∀ v, o.data ≠ .cell v) : Inv X (pins ++ pinsAt fp s.heap) σ H s :=
  I.pins_of fun p hp => (List.mem_append.mp hp).elim (fun z => I.pin p (List.mem_append_right _ z)) fun z => by
    obtain ⟨hb, e⟩ := of_pinsAt z
    obtain ⟨f0, f1, f2, _⟩ := hf p.1 hb
    obtain ⟨o, e', d⟩ := ho p.1 hb
    rw [e] at e'; cases e'
    exact ⟨e, f0, f1, f2, d⟩
theorem Inv.unpinned {pins pl : List (Addr × Obj)} {σ : St} {H : Hp} {s : Shared} (I : Inv X (pins ++ pl) σ H s) : Inv X pins σ H s := I.pins_of fun p hp => I.pin p (List.mem_append_right _ (List.mem_append_left _ hp))
theorem ps_for {iter : Expr} {body : List Stmt} {wi : TI} {g : TG} {tb : TS} {pos : Pos} (hp : PassesOwn (model X.prog X.w) X.A X.env X.xe) (hc : X.calm = true) (hi : PI X tg iter wi) (hg : PG X tg g) (hb : PSs X body tb)
    (hs : ∀ x, foldedSetIterable iter X.env x = pure x := by intro _; rfl) : PS X (.For tg iter body [] pos) (tFor wi g tb) := by
  intro pins s σ H D I h
  refine wpAny_For (thn (hi pins s σ H _ I h) fun v s1 h1 => thn h1 fun itv s2 h2 => ?_) hs
  obtain ⟨it, fp, tn, J, H2, e, I2, T, st2, f2, W, ⟨m0, w0⟩, turn⟩ := h2
  subst e
  -- what stays true of the iterator's objects through the loop
  have stat : ∀ {H' : Hp}, (∀ b ∈ fp, H' b = none) → ∀ b ∈ fp, FpOk X pins H' b := fun hn b hb => ⟨hn b hb, (f2 b hb).2⟩
  refine codeAny_forLoop_any (fun n s' => ∃ i σ' H', Inv X pins σ' H' s' ∧ tn i s'.heap ∧ (∀ b ∈ fp, H' b = none) ∧ W i n σ' H') ?_ m0 ⟨0, σ, H2, I2, st2, fun b hb => (f2 b hb).1, w0⟩
  rintro n s3 ⟨i, σ3, H3, I3, st3, fr3, w3⟩
  rcases turn i n σ3 H3 w3 with ⟨stop, qn⟩ | ⟨go, N, hN, step⟩
  · refine wpAny_passesOwn hp (thn (T.done X rfl rfl rfl hc i pins s3 σ3 H3 X.xe I3 (stat fr3) st3 stop) fun r s4 ⟨hr, I4⟩ => ?_)
    subst hr
    exact wpAny_execs_nil ⟨σ3, H3, I4, qn⟩
  · refine wpAny_passesOwn hp (thn (T.item X rfl rfl rfl hc i pins s3 σ3 H3 X.xe I3 (stat fr3) st3 go) fun r s4 ⟨u, hr, h4⟩ => ?_)
    subst hr
    refine wpAny_passesOwn hp (thn h4 fun _ s5 ⟨x, H5, I5, r5, y5, st5, fr5⟩ => ?_)
    have I5' := I5.pinned (stat fr5) (T.obj _ _ st5)
    refine wpAny_passesOwn hp (thn (hg _ s5 σ3 H5 x u _ I5' r5 (step x H5 y5)) fun _ s6 ⟨σ6, H6, I6, q6⟩ => ?_)
    refine wpAny_passesOwn hp (thn (hb _ s6 σ6 H6 _ I6 q6) fun f s7 q7 => ?_)
    have again : ∀ {σ7 : St} {H7 : Hp}, Inv X (pins ++ pinsAt fp s5.heap) σ7 H7 s7 → N σ7 H7 → ∃ m, m < n ∧ ∃ i σ' H', Inv X pins σ' H' s7 ∧ tn i s7.heap ∧ (∀ b ∈ fp, H' b = none) ∧ W i m σ' H' := fun {σ7 H7} I7 n7 => by
      obtain ⟨m', hm, w7⟩ := hN σ7 H7 n7
      refine ⟨m', hm, i + 1, σ7, H7, I7.unpinned, T.keep _ _ _ st5 fun b hb o e => (I7.pin (b, o) (List.mem_append_right _ (List.mem_append_right _ (mem_pinsAt hb e)))).1, fun b hb => ?_, w7⟩
      obtain ⟨o, e, d⟩ := T.obj _ _ st5 b hb
      exact (I7.pin (b, o) (List.mem_append_right _ (List.mem_append_right _ (mem_pinsAt hb e)))).2.1
    cases f with
    | next => obtain ⟨σ7, H7, I7, n7⟩ := q7; exact again I7 n7
    | cont => obtain ⟨σ7, H7, I7, n7⟩ := q7; exact again I7 n7
    | brk => obtain ⟨σ7, H7, I7, q7⟩ := q7; exact ⟨σ7, H7, I7.unpinned, q7⟩
    | ret v => obtain ⟨x7, σ7, H7, I7, r7, q7⟩ := q7; exact ⟨x7, σ7, H7, I7.unpinned, r7, q7⟩
end

/-! ### the forms one uses -/
/-- over a list that the body leaves as it is -/
theorem for_list {K : PySem.W.Frag} {a : Addr} {xs : List V} {g : TG} {tb : TS} {D : Ends} {σ : St} {H : Hp} (Pv : Nat → St → Hp → Prop) (h0 : Pv 0 σ H) (hl : ∀ i σ H, i ≤ xs.length → Pv i σ H → SqL K H a xs)
    (hs : ∀ i x σ H, xs[i]? = some x → Pv i σ H → g x σ H fun σ2 H2 => tb { D with nx := Pv (i + 1), ct := Pv (i + 1), bk := D.nx } σ2 H2) (hd : ∀ σ H, Pv xs.length σ H → D.nx σ H) :
    ∃ W : Nat → Nat → St → Hp → Prop, (∃ m, W 0 m σ H) ∧ ∀ i m σ H, W i m σ H →
      ((Itl K a).stop i H ∧ D.nx σ H) ∨ ((Itl K a).go i H ∧ ∃ N : St → Hp → Prop, (∀ σ' H', N σ' H' → ∃ m', m' < m ∧ W (i + 1) m' σ' H') ∧ ∀ x H', (Itl K a).yld i H x H' → g x σ H' fun σ2 H2 => tb { D with nx := N, ct := N, bk := D.nx } σ2 H2) := by
  refine ⟨fun i m σ H => m = xs.length - i ∧ i ≤ xs.length ∧ Pv i σ H, ⟨xs.length, by simp, Nat.zero_le _, h0⟩, ?_⟩
  rintro i m σ H ⟨rfl, hi, p⟩
  have q := hl i σ H hi p
  by_cases hlt : i < xs.length
  · refine .inr ⟨⟨xs, xs[i], q, by simp [hlt]⟩, Pv (i + 1), fun σ' H' p' => ⟨xs.length - (i + 1), by omega, rfl, hlt, p'⟩, fun x H' y => ?_⟩
    obtain ⟨e, y⟩ := y
    subst e
    exact hs i x σ _ (y xs q) p
  · have e : i = xs.length := by omega
    subst e
    exact .inl ⟨⟨xs, q, Nat.le_refl _⟩, hd σ H p⟩
theorem for_tup {K : PySem.W.Frag} {a : Addr} {xs : List V} {g : TG} {tb : TS} {D : Ends} {σ : St} {H : Hp} (Pv : Nat → St → Hp → Prop) (h0 : Pv 0 σ H) (hl : ∀ i σ H, i ≤ xs.length → Pv i σ H → SqT K H a xs)
    (hs : ∀ i x σ H, xs[i]? = some x → Pv i σ H → g x σ H fun σ2 H2 => tb { D with nx := Pv (i + 1), ct := Pv (i + 1), bk := D.nx } σ2 H2) (hd : ∀ σ H, Pv xs.length σ H → D.nx σ H) :
    ∃ W : Nat → Nat → St → Hp → Prop, (∃ m, W 0 m σ H) ∧ ∀ i m σ H, W i m σ H →
      ((Itt K a).stop i H ∧ D.nx σ H) ∨ ((Itt K a).go i H ∧ ∃ N : St → Hp → Prop, (∀ σ' H', N σ' H' → ∃ m', m' < m ∧ W (i + 1) m' σ' H') ∧ ∀ x H', (Itt K a).yld i H x H' → g x σ H' fun σ2 H2 => tb { D with nx := N, ct := N, bk := D.nx } σ2 H2) := by
  refine ⟨fun i m σ H => m = xs.length - i ∧ i ≤ xs.length ∧ Pv i σ H, ⟨xs.length, by simp, Nat.zero_le _, h0⟩, ?_⟩
  rintro i m σ H ⟨rfl, hi, p⟩
  have q := hl i σ H hi p
  by_cases hlt : i < xs.length
  · refine .inr ⟨⟨xs, xs[i], q, by simp [hlt]⟩, Pv (i + 1), fun σ' H' p' => ⟨xs.length - (i + 1), by omega, rfl, hlt, p'⟩, fun x H' y => ?_⟩
    obtain ⟨e, y⟩ := y
    subst e
    exact hs i x σ _ (y xs q) p
  · have e : i = xs.length := by omega
    subst e
    exact .inl ⟨⟨xs, q, Nat.le_refl _⟩, hd σ H p⟩
theorem for_range {lo : Int} {n : Nat} {g : TG} {tb : TS} {D : Ends} {σ : St} {H : Hp} (Pv : Nat → St → Hp → Prop) (h0 : Pv 0 σ H)
    (hs : ∀ i σ H, i < n → Pv i σ H → g (.int (lo + i)) σ H fun σ2 H2 => tb { D with nx := Pv (i + 1), ct := Pv (i + 1), bk := D.nx } σ2 H2) (hd : ∀ σ H, Pv n σ H → D.nx σ H) :
    ∃ W : Nat → Nat → St → Hp → Prop, (∃ m, W 0 m σ H) ∧ ∀ i m σ H, W i m σ H →
      ((Itr lo n).stop i H ∧ D.nx σ H) ∨ ((Itr lo n).go i H ∧ ∃ N : St → Hp → Prop, (∀ σ' H', N σ' H' → ∃ m', m' < m ∧ W (i + 1) m' σ' H') ∧ ∀ x H', (Itr lo n).yld i H x H' → g x σ H' fun σ2 H2 => tb { D with nx := N, ct := N, bk := D.nx } σ2 H2) := by
  refine ⟨fun i m σ H => m = n - i ∧ i ≤ n ∧ Pv i σ H, ⟨n, by simp, Nat.zero_le _, h0⟩, ?_⟩
  rintro i m σ H ⟨rfl, hi, p⟩
  by_cases hlt : i < n
  · refine .inr ⟨hlt, Pv (i + 1), fun σ' H' p' => ⟨n - (i + 1), by omega, rfl, hlt, p'⟩, fun x H' y => ?_⟩
    obtain ⟨e, y⟩ := y
    subst e y
    exact hs i σ _ hlt p
  · have e : i = n := by omega
    subst e
    exact .inl ⟨Nat.le_refl _, hd σ H p⟩
/-- while, by a word and a measure of the state -/
theorem while_by {c : TT} {tb : TS} {D : Ends} {σ : St} {H : Hp} (Pv : St → Hp → Prop) (μ : St → Hp → Nat) (h0 : Pv σ H)
    (hs : ∀ σ H, Pv σ H → c σ H fun b H1 => if b = true then tb { D with nx := fun σ' H' => Pv σ' H' ∧ μ σ' H' < μ σ H, ct := fun σ' H' => Pv σ' H' ∧ μ σ' H' < μ σ H, bk := D.nx } σ H1 else D.nx σ H1)
    (mono : ∀ σ H Q Q', (∀ b H1, Q b H1 → Q' b H1) → c σ H Q → c σ H Q') : tWhile c tb D σ H := by
  refine ⟨fun m σ H => m = μ σ H ∧ Pv σ H, ⟨_, rfl, h0⟩, ?_⟩
  rintro m σ H ⟨rfl, p⟩
  refine mono σ H _ _ (fun b H1 q => ?_) (hs σ H p)
  cases b with
  | true => exact ⟨_, fun σ' H' ⟨p', l⟩ => ⟨_, l, rfl, p'⟩, q⟩
  | false => exact q
end L2

namespace L2
open PySem PySem.Spec PyProof.Rows

abbrev R2 := V → V → Hp → VK → Prop
/-- a two-place operation on values: f is binaryOp op, inplaceOp op or compareOp op -/
def OpR (X : Cx) (f : Value → Value → Sem Value) (r : R2) : Prop :=
  ∀ (pins : List (Addr × Obj)) (s : Shared) (σ : St) (H : Hp) (x y : V) (v u : Value) (Q : VK), Inv X pins σ H s → RelV x v → RelV y u → r x y H Q →
    wpAny (model X.prog X.w) X.A (f v u) (EP X pins σ Q) X.xe s
/-- a one-place operation -/
def UnR (X : Cx) (f : Value → Sem Value) (r : V → Hp → VK → Prop) : Prop :=
  ∀ (pins : List (Addr × Obj)) (s : Shared) (σ : St) (H : Hp) (x : V) (v : Value) (Q : VK), Inv X pins σ H s → RelV x v → r x H Q →
    wpAny (model X.prog X.w) X.A (f v) (EP X pins σ Q) X.xe s
/-- a call of a value that is known (a builtin, a type) with values -/
def CallR (X : Cx) (f : Value) (r : List V → Hp → VK → Prop) : Prop :=
  ∀ (pins : List (Addr × Obj)) (s : Shared) (σ : St) (H : Hp) (xs : List V) (us : List Value) (Q : VK), Inv X pins σ H s → Vals xs us → r xs H Q →
    wpAny (model X.prog X.w) X.A (call f us) (EP X pins σ Q) X.xe s
/-- a value's truth -/
def TruR (X : Cx) (r : V → Hp → (Bool → Hp → Prop) → Prop) : Prop :=
  ∀ (pins : List (Addr × Obj)) (s : Shared) (σ : St) (H : Hp) (x : V) (v : Value) (Q : Bool → Hp → Prop), Inv X pins σ H s → RelV x v → r x H Q →
    wpAny (model X.prog X.w) X.A (truthy v) (TP X pins σ Q) X.xe s

def tOp (r : R2) (ta tb : TE) : TE := fun σ H Q => ta σ H fun x H1 => tb σ H1 fun y H2 => r x y H2 Q
def tUn (r : V → Hp → VK → Prop) (ta : TE) : TE := fun σ H Q => ta σ H fun x H1 => r x H1 Q
/-- ints in, under C, and a value out -/
def rI (C : Int → Int → Prop) (g : Int → Int → V) : R2 := fun x y H Q => ∃ i j, x = .int i ∧ y = .int j ∧ C i j ∧ Q (g i j) H
def rI0 (g : Int → Int → V) : R2 := fun x y H Q => ∃ i j, x = .int i ∧ y = .int j ∧ Q (g i j) H
def rU (g : Int → V) : V → Hp → VK → Prop := fun x H Q => ∃ i, x = .int i ∧ Q (g i) H

section
variable {X : Cx} {a b c : Expr} {ta tb tc : TE} {pos : Pos}

theorem binT (ha : PE X a ta) (hb : PE X b tb) {pins : List (Addr × Obj)} {s : Shared} {σ : St} {H : Hp} {R : V → V → Hp → Prop} (I : Inv X pins σ H s)
    (h : ta σ H fun x H1 => tb σ H1 fun y H2 => R x y H2) {Q : Value → Shared → Prop} {f : Value → Value → Sem Value}
    (hf : ∀ v u s2 x y H2, Inv X pins σ H2 s2 → RelV x v → RelV y u → R x y H2 → wpAny (model X.prog X.w) X.A (f v u) Q X.xe s2) :
    wpAny (model X.prog X.w) X.A (eval a X.env) (fun v s₁ => wpAny (model X.prog X.w) X.A (eval b X.env) (fun u s₂ => wpAny (model X.prog X.w) X.A (f v u) Q X.xe s₂) X.xe s₁) X.xe s := by
  refine thn (ha pins s σ H _ I h) fun v s1 ⟨x, H1, I1, r1, q1⟩ => ?_
  refine thn (hb pins s1 σ H1 _ I1 q1) fun u s2 ⟨y, H2, I2, r2, q2⟩ => ?_
  exact hf v u s2 x y H2 I2 r1 r2 q2

theorem pe_op {op : Operator} {r : R2} (ho : OpR X (binaryOp op) r) (ha : PE X a ta) (hb : PE X b tb) : PE X (.BinOp a op b pos) (tOp r ta tb) := by
  intro pins s σ H Q I h
  exact wpAny_BinOp (binT ha hb I h fun v u s2 x y H2 I2 rx ry q => ho pins s2 σ H2 x y v u Q I2 rx ry q)
theorem pe_un {op : UnaryOp} {r : V → Hp → VK → Prop} (ho : UnR X (unaryOp op) r) (ha : PE X a ta) : PE X (.UnaryOp op a pos) (tUn r ta) := by
  intro pins s σ H Q I h
  exact UnaryOp_ (thn (ha pins s σ H _ I h) fun v s1 ⟨x, H1, I1, r1, q1⟩ => ho pins s1 σ H1 x v Q I1 r1 q1)
/-- a op= e at a name: the name's slot i -/
theorem augR {op : Operator} {r : R2} (ho : OpR X (inplaceOp op) r) {pins : List (Addr × Obj)} {s : Shared} {σ : St} {H : Hp} {x y : V} {v u : Value} {Q : VK} (I : Inv X pins σ H s)
    (rx : RelV x v) (ry : RelV y u) (q : r x y H Q) : wpAny (model X.prog X.w) X.A (inplaceOp op v u) (EP X pins σ Q) X.xe s := ho pins s σ H x y v u Q I rx ry q

/-! ### ints -/
theorem opI {f : Value → Value → Sem Value} {C : Int → Int → Prop} {g : Int → Int → Int}
    (rule : ∀ (i j : Int) (t u : Tok) (s : Shared) (Q : Value → Shared → Prop) (E : Value → Shared → Prop), C i j → Q (.int (g i j) s.toks) { s with toks := s.toks + 1 } → wpAny (model X.prog X.w) X.A (f (.int i t) (.int j u)) Q E s) :
    OpR X f (rI C fun i j => .int (g i j)) := by
  intro pins s σ H x y v u Q I rx ry h
  obtain ⟨i, j, rfl, rfl, hc, q⟩ := h
  obtain ⟨t, rfl⟩ := rx
  obtain ⟨t', rfl⟩ := ry
  exact rule i j t t' s _ _ hc ⟨.int (g i j), H, I.tok _, ⟨_, rfl⟩, q⟩
theorem opI0 {f : Value → Value → Sem Value} {g : Int → Int → Int}
    (rule : ∀ (i j : Int) (t u : Tok) (s : Shared) (Q : Value → Shared → Prop) (E : Value → Shared → Prop), Q (.int (g i j) s.toks) { s with toks := s.toks + 1 } → wpAny (model X.prog X.w) X.A (f (.int i t) (.int j u)) Q E s) :
    OpR X f (rI0 fun i j => .int (g i j)) := by
  intro pins s σ H x y v u Q I rx ry h
  obtain ⟨i, j, rfl, rfl, q⟩ := h
  obtain ⟨t, rfl⟩ := rx
  obtain ⟨t', rfl⟩ := ry
  exact rule i j t t' s _ _ ⟨.int (g i j), H, I.tok _, ⟨_, rfl⟩, q⟩
theorem opB0 {f : Value → Value → Sem Value} {g : Int → Int → Bool}
    (rule : ∀ (i j : Int) (t u : Tok) (s : Shared) (Q : Value → Shared → Prop) (E : Value → Shared → Prop), Q (.bool (g i j)) s → wpAny (model X.prog X.w) X.A (f (.int i t) (.int j u)) Q E s) :
    OpR X f (rI0 fun i j => .bl (g i j)) := by
  intro pins s σ H x y v u Q I rx ry h
  obtain ⟨i, j, rfl, rfl, q⟩ := h
  obtain ⟨t, rfl⟩ := rx
  obtain ⟨t', rfl⟩ := ry
  exact rule i j t t' s _ _ ⟨.bl (g i j), H, I, rfl, q⟩

def CDiv (i j : Int) : Prop := 0 < j ∧ j < 1073741824
def CDivN (i j : Int) : Prop := j ≠ 0 ∧ j.natAbs < 1073741824
def CPow (i j : Int) : Prop := 0 ≤ j ∧ j ≤ 1000000 ∧ i.natAbs < 2 ^ 64
def CMul (i j : Int) : Prop := (-(2 ^ 64) < i ∧ i < 2 ^ 64) ∨ (-(2 ^ 64) < j ∧ j < 2 ^ 64)
theorem CMul.ok {i j : Int} (h : CMul i j) : IntMulOk i j := by
  rcases h with ⟨h1, h2⟩ | ⟨h1, h2⟩
  · exact .of_left (intBits_le_64 h1 h2)
  · exact .of_right (intBits_le_64 h1 h2)
theorem two_pow_nn (k : Nat) : (0 : Int) ≤ 2 ^ k := by
  rw [two_pow_cast]
  exact Int.natCast_nonneg _

theorem op_add : OpR X (binaryOp .Add) (rI0 fun i j => .int (i + j)) := opI0 fun _ _ _ _ _ _ _ q => add_int q
theorem op_sub : OpR X (binaryOp .Sub) (rI0 fun i j => .int (i - j)) := opI0 fun _ _ _ _ _ _ _ q => sub_int q
theorem op_mul : OpR X (binaryOp .Mult) (rI CMul fun i j => .int (i * j)) := opI fun _ _ _ _ _ _ _ hc q => mul_int q hc.ok
/-- // by a positive divisor -/
theorem op_fdiv : OpR X (binaryOp .FloorDiv) (rI CDiv fun i j => .int (i / j)) := opI fun i j _ _ _ _ _ hc q => by
  have h1 : (0 : Int) < j := hc.1
  have h2 : j < 1073741824 := hc.2
  exact floordiv_int (by omega) (by rw [Int.fdiv_eq_ediv_of_nonneg i (by omega)]; exact q) (.inl (PyProof.noPylong_small (by omega)))
theorem op_fdivN : OpR X (binaryOp .FloorDiv) (rI CDivN fun i j => .int (i.fdiv j)) := opI fun _ _ _ _ _ _ _ hc q => floordiv_int hc.1 q (.inl (PyProof.noPylong_small hc.2))
/-- % by a positive divisor of any size -/
theorem op_mod : OpR X (binaryOp .Mod) (rI (fun _ j => 0 < j) fun i j => .int (i % j)) := opI fun i j _ _ _ _ _ hc q => by
  have h1 : (0 : Int) < j := hc
  exact mod_int' (by omega) (by rw [Int.fmod_eq_emod_of_nonneg i (by omega)]; exact q)
theorem op_modN : OpR X (binaryOp .Mod) (rI (fun _ j => j ≠ 0) fun i j => .int (i.fmod j)) := opI fun _ _ _ _ _ _ _ hc q => mod_int' hc q
theorem op_pow : OpR X (binaryOp .Pow) (rI CPow fun i j => .int (i ^ j.toNat)) := opI fun _ _ _ _ _ _ _ hc q => pow_int_small hc.1 hc.2.1 hc.2.2 q
theorem op_shl : OpR X (binaryOp .LShift) (rI CPow fun i j => .int (i * 2 ^ j.toNat)) := opI fun _ _ _ _ _ _ _ hc q => lshift_int_small hc.1 hc.2.1 hc.2.2 q
theorem op_shr : OpR X (binaryOp .RShift) (rI (fun _ j => 0 ≤ j) fun i j => .int (i / 2 ^ j.toNat)) := opI fun i j _ _ _ _ _ hc q =>
  rshift_int hc (by rw [Int.fdiv_eq_ediv_of_nonneg i (two_pow_nn _)]; exact q)
theorem op_and : OpR X (binaryOp .BitAnd) (rI0 fun i j => .int (Builtin.bitAnd i j)) := opI0 fun _ _ _ _ _ _ _ q => and_int q
theorem op_or : OpR X (binaryOp .BitOr) (rI0 fun i j => .int (Builtin.bitOr i j)) := opI0 fun _ _ _ _ _ _ _ q => or_int q
theorem op_xor : OpR X (binaryOp .BitXor) (rI0 fun i j => .int (Builtin.bitXor i j)) := opI0 fun _ _ _ _ _ _ _ q => xor_int q

theorem iop_add : OpR X (inplaceOp .Add) (rI0 fun i j => .int (i + j)) := opI0 fun _ _ _ _ _ _ _ q => iadd_int q
theorem iop_sub : OpR X (inplaceOp .Sub) (rI0 fun i j => .int (i - j)) := opI0 fun _ _ _ _ _ _ _ q => isub_int q
theorem iop_mul : OpR X (inplaceOp .Mult) (rI CMul fun i j => .int (i * j)) := opI fun _ _ _ _ _ _ _ hc q => imul_int q hc.ok
theorem iop_fdiv : OpR X (inplaceOp .FloorDiv) (rI CDiv fun i j => .int (i / j)) := opI fun i j _ _ _ _ _ hc q => by
  have h1 : (0 : Int) < j := hc.1
  have h2 : j < 1073741824 := hc.2
  exact ifloordiv_int (by omega) (by rw [Int.fdiv_eq_ediv_of_nonneg i (by omega)]; exact q) (.inl (PyProof.noPylong_small (by omega)))
theorem iop_mod : OpR X (inplaceOp .Mod) (rI (fun _ j => 0 < j) fun i j => .int (i % j)) := opI fun i j _ _ _ _ _ hc q => by
  have h1 : (0 : Int) < j := hc
  exact imod_int (by omega) (by rw [Int.fmod_eq_emod_of_nonneg i (by omega)]; exact q)
theorem iop_shl : OpR X (inplaceOp .LShift) (rI CPow fun i j => .int (i * 2 ^ j.toNat)) := opI fun _ _ _ _ _ _ _ hc q => ilshift_int_small hc.1 hc.2.1 hc.2.2 q
theorem iop_shr : OpR X (inplaceOp .RShift) (rI (fun _ j => 0 ≤ j) fun i j => .int (i / 2 ^ j.toNat)) := opI fun i j _ _ _ _ _ hc q =>
  irshift_int hc (by rw [Int.fdiv_eq_ediv_of_nonneg i (two_pow_nn _)]; exact q)
theorem iop_and : OpR X (inplaceOp .BitAnd) (rI0 fun i j => .int (Builtin.bitAnd i j)) := opI0 fun _ _ _ _ _ _ _ q => iand_int q
theorem iop_or : OpR X (inplaceOp .BitOr) (rI0 fun i j => .int (Builtin.bitOr i j)) := opI0 fun _ _ _ _ _ _ _ q => ior_int q
theorem iop_xor : OpR X (inplaceOp .BitXor) (rI0 fun i j => .int (Builtin.bitXor i j)) := opI0 fun _ _ _ _ _ _ _ q => ixor_int q

theorem unI {f : Value → Sem Value} {g : Int → Int}
    (rule : ∀ (i : Int) (t : Tok) (s : Shared) (Q : Value → Shared → Prop) (E : Value → Shared → Prop), Q (.int (g i) s.toks) { s with toks := s.toks + 1 } → wpAny (model X.prog X.w) X.A (f (.int i t)) Q E s) :
    UnR X f (rU fun i => .int (g i)) := by
  intro pins s σ H x v Q I rx h
  obtain ⟨i, rfl, q⟩ := h
  obtain ⟨t, rfl⟩ := rx
  exact rule i t s _ _ ⟨.int (g i), H, I.tok _, ⟨_, rfl⟩, q⟩
theorem un_neg : UnR X (unaryOp .USub) (rU fun i => .int (-i)) := unI fun _ _ _ _ _ q => neg_int q
theorem un_inv : UnR X (unaryOp .Invert) (rU fun i => .int (Builtin.bitNot i)) := unI fun _ _ _ _ _ q => invert_int q

/-! ### bools among ints: n += (a < b) -/
theorem op_add_ib : OpR X (binaryOp .Add) (fun x y H Q => ∃ i k, x = .int i ∧ y = .bl k ∧ Q (.int (i + b2i k)) H) := by
  intro pins s σ H x y v u Q I rx ry h
  obtain ⟨i, k, rfl, rfl, q⟩ := h
  obtain ⟨t, rfl⟩ := rx
  cases ry
  exact add_int_bool ⟨.int (i + b2i k), H, I.tok _, ⟨_, rfl⟩, q⟩
end

/-! ### comparisons -/
/-- the scalars that == tells apart as data does -/
def scal : V → V → Bool
  | .non, .non => true | .non, .int _ => true | .int _, .non => true | .non, .bl _ => true | .bl _, .non => true | .non, .str _ => true | .str _, .non => true
  | .int _, .int _ => true | .bl _, .bl _ => true | .str _, .str _ => true | .byt _, .byt _ => true
  | .int _, .str _ => true | .str _, .int _ => true | .bl _, .str _ => true | .str _, .bl _ => true
  | _, _ => false
def rEq : R2 := fun x y H Q => scal x y = true ∧ Q (.bl (decide (x = y))) H
def rNe : R2 := fun x y H Q => scal x y = true ∧ Q (.bl (!decide (x = y))) H

theorem dec_int {i j : Int} : decide (V.int i = V.int j) = (i == j) := by
  rw [Bool.eq_iff_iff]
  simp
theorem dec_bl {i j : Bool} : decide (V.bl i = V.bl j) = (i == j) := by
  rw [Bool.eq_iff_iff]
  simp
theorem dec_str {i j : Str} : decide (V.str i = V.str j) = (i == j) := by
  rw [Bool.eq_iff_iff]
  simp
theorem dec_byt {i j : Array UInt8} : decide (V.byt i = V.byt j) = (i.toList == j.toList) := by
  rw [Bool.eq_iff_iff]
  cases i
  cases j
  simp

section
variable {X : Cx} {a b c : Expr} {ta tb tc : TE} {pos : Pos}
theorem fin_bl {pins : List (Addr × Obj)} {σ : St} {H : Hp} {s : Shared} {Q : VK} {k k' : Bool} (I : Inv X pins σ H s) (q : Q (.bl k) H) (e : k = k') : EP X pins σ Q (.bool k') s := by
  subst e
  exact ⟨.bl k, H, I, rfl, q⟩
theorem op_eq : OpR X (compareOp .Eq) rEq := by
  intro pins s σ H x y v u Q I rx ry h
  obtain ⟨hs, q⟩ := h
  cases x with
  | non =>
    cases rx
    cases y with
    | non => cases ry; exact PySem.EqNone.eq_none_none (fin_bl I q (by simp))
    | bl j => cases ry; exact PySem.EqNone.eq_none_bool (fin_bl I q (by simp))
    | int j => obtain ⟨t', rfl⟩ := ry; exact PySem.EqNone.eq_none_int (fin_bl I q (by simp))
    | str j => obtain ⟨t', rfl⟩ := ry; exact PySem.EqNone.eq_none_str (fin_bl I q (by simp))
    | _ => exact absurd (show false = true from hs) Bool.false_ne_true
  | bl i =>
    cases rx
    cases y with
    | non => cases ry; exact PySem.EqNone.eq_bool_none (fin_bl I q (by simp))
    | bl j => cases ry; exact eq_bool (fin_bl I q dec_bl)
    | str j => obtain ⟨t', rfl⟩ := ry; exact PySem.EqMixed.eq_bool_str (fin_bl I q (by simp))
    | _ => exact absurd (show false = true from hs) Bool.false_ne_true
  | int i =>
    obtain ⟨t, rfl⟩ := rx
    cases y with
    | non => cases ry; exact PySem.EqNone.eq_int_none (fin_bl I q (by simp))
    | int j => obtain ⟨t', rfl⟩ := ry; exact eq_int (fin_bl I q dec_int)
    | str j => obtain ⟨t', rfl⟩ := ry; exact PySem.EqMixed.eq_int_str (fin_bl I q (by simp))
    | _ => exact absurd (show false = true from hs) Bool.false_ne_true
  | str i =>
    obtain ⟨t, rfl⟩ := rx
    cases y with
    | non => cases ry; exact PySem.EqNone.eq_str_none (fin_bl I q (by simp))
    | bl j => cases ry; exact PySem.EqMixed.eq_str_bool (fin_bl I q (by simp))
    | int j => obtain ⟨t', rfl⟩ := ry; exact PySem.EqMixed.eq_str_int (fin_bl I q (by simp))
    | str j => obtain ⟨t', rfl⟩ := ry; exact eq_str (fin_bl I q dec_str)
    | _ => exact absurd (show false = true from hs) Bool.false_ne_true
  | byt i =>
    obtain ⟨t, rfl⟩ := rx
    cases y with
    | byt j => obtain ⟨t', rfl⟩ := ry; exact PySem.W.eq_bytes (fin_bl I q dec_byt)
    | _ => exact absurd (show false = true from hs) Bool.false_ne_true
  | _ => cases y <;> exact absurd (show false = true from hs) Bool.false_ne_true
theorem op_ne : OpR X (compareOp .NotEq) rNe := by
  intro pins s σ H x y v u Q I rx ry h
  obtain ⟨hs, q⟩ := h
  cases x with
  | non =>
    cases rx
    cases y with
    | non => cases ry; exact PySem.EqNone.ne_none_none (fin_bl I q (by simp))
    | bl j => cases ry; exact PySem.EqNone.ne_none_bool (fin_bl I q (by simp))
    | int j => obtain ⟨t', rfl⟩ := ry; exact PySem.EqNone.ne_none_int (fin_bl I q (by simp))
    | str j => obtain ⟨t', rfl⟩ := ry; exact PySem.EqNone.ne_none_str (fin_bl I q (by simp))
    | _ => exact absurd (show false = true from hs) Bool.false_ne_true
  | bl i =>
    cases rx
    cases y with
    | non => cases ry; exact PySem.EqNone.ne_bool_none (fin_bl I q (by simp))
    | bl j => cases ry; exact ne_bool (fin_bl I q (congrArg not dec_bl))
    | str j => obtain ⟨t', rfl⟩ := ry; exact PySem.EqMixed.ne_bool_str (fin_bl I q (by simp))
    | _ => exact absurd (show false = true from hs) Bool.false_ne_true
  | int i =>
    obtain ⟨t, rfl⟩ := rx
    cases y with
    | non => cases ry; exact PySem.EqNone.ne_int_none (fin_bl I q (by simp))
    | int j => obtain ⟨t', rfl⟩ := ry; exact ne_int (fin_bl I q (congrArg not dec_int))
    | str j => obtain ⟨t', rfl⟩ := ry; exact PySem.EqMixed.ne_int_str (fin_bl I q (by simp))
    | _ => exact absurd (show false = true from hs) Bool.false_ne_true
  | str i =>
    obtain ⟨t, rfl⟩ := rx
    cases y with
    | non => cases ry; exact PySem.EqNone.ne_str_none (fin_bl I q (by simp))
    | bl j => cases ry; exact PySem.EqMixed.ne_str_bool (fin_bl I q (by simp))
    | int j => obtain ⟨t', rfl⟩ := ry; exact PySem.EqMixed.ne_str_int (fin_bl I q (by simp))
    | str j => obtain ⟨t', rfl⟩ := ry; exact ne_str (fin_bl I q (congrArg not dec_str))
    | _ => exact absurd (show false = true from hs) Bool.false_ne_true
  | byt i =>
    obtain ⟨t, rfl⟩ := rx
    cases y with
    | byt j => obtain ⟨t', rfl⟩ := ry; exact PySem.W.ne_bytes (fin_bl I q (congrArg not dec_byt))
    | _ => exact absurd (show false = true from hs) Bool.false_ne_true
  | _ => cases y <;> exact absurd (show false = true from hs) Bool.false_ne_true

theorem op_lt : OpR X (compareOp .Lt) (rI0 fun i j => .bl (decide (i < j))) := opB0 fun _ _ _ _ _ _ _ q => lt_int q
theorem op_le : OpR X (compareOp .LtE) (rI0 fun i j => .bl (decide (i ≤ j))) := opB0 fun _ _ _ _ _ _ _ q => le_int q
theorem op_gt : OpR X (compareOp .Gt) (rI0 fun i j => .bl (decide (j < i))) := opB0 fun _ _ _ _ _ _ _ q => gt_int q
theorem op_ge : OpR X (compareOp .GtE) (rI0 fun i j => .bl (decide (j ≤ i))) := opB0 fun _ _ _ _ _ _ _ q => ge_int q
theorem op_lt_str : OpR X (compareOp .Lt) (fun x y H Q => ∃ i j, x = .str i ∧ y = .str j ∧ Q (.bl (decide (i.cps.toList < j.cps.toList))) H) := by
  intro pins s σ H x y v u Q I rx ry h
  obtain ⟨i, j, rfl, rfl, q⟩ := h
  obtain ⟨t, rfl⟩ := rx
  obtain ⟨t', rfl⟩ := ry
  exact lt_str (fin_bl I q rfl)
/-- the one string within the other -/
theorem op_in_str : OpR X (compareOp .In) (fun x y H Q => ∃ i j, x = .str i ∧ y = .str j ∧ Q (.bl (!(Builtin.Str.occurrences j i 0 j.length 1).isEmpty)) H) := by
  intro pins s σ H x y v u Q I rx ry h
  obtain ⟨i, j, rfl, rfl, q⟩ := h
  obtain ⟨t, rfl⟩ := rx
  obtain ⟨t', rfl⟩ := ry
  exact in_str (fin_bl I q rfl)

/-- is None, is not None: the right side a value none -/
theorem op_isN : OpR X (compareOp .Is) (fun x y H Q => y = .non ∧ Q (.bl (decide (x = .non))) H) := by
  intro pins s σ H x y v u Q I rx ry h
  obtain ⟨rfl, q⟩ := h
  cases ry
  refine is_none_gen (fin_bl I q ?_)
  cases x <;> first
    | (cases rx; rfl)
    | (obtain ⟨t, rfl⟩ := rx; rfl)
theorem op_notN : OpR X (compareOp .IsNot) (fun x y H Q => y = .non ∧ Q (.bl (!decide (x = .non))) H) := by
  intro pins s σ H x y v u Q I rx ry h
  obtain ⟨rfl, q⟩ := h
  cases ry
  refine isnot_none_gen (fin_bl I q ?_)
  cases x <;> first
    | (cases rx; rfl)
    | (obtain ⟨t, rfl⟩ := rx; rfl)

theorem op_notin_str : OpR X (compareOp .NotIn) (fun x y H Q => ∃ i j, x = .str i ∧ y = .str j ∧ Q (.bl (!(!(Builtin.Str.occurrences j i 0 j.length 1).isEmpty))) H) := by
  intro pins s σ H x y v u Q I rx ry h
  obtain ⟨i, j, rfl, rfl, q⟩ := h
  obtain ⟨t, rfl⟩ := rx
  obtain ⟨t', rfl⟩ := ry
  exact notIn_str (fin_bl I q rfl)
/-- is, is not of two objects that are tracked lists or instances -/
def isObj : HO → Bool
  | .lst _ => true
  | .ins _ _ _ => true
  | _ => false
theorem obj_there {pins : List (Addr × Obj)} {s : Shared} {σ : St} {H : Hp} {a : Addr} {o : HO} (I : Inv X pins σ H s) (h : H a = some o) (p : isObj o = true) : ∃ ob, s.heap.get? a = some ob ∧ ob.cls ≠ .type "tuple" := by
  cases o with
  | lst xs =>
    obtain ⟨_, its, n, _, e⟩ : xs.length ≤ sizeLine ∧ ∃ (its : List Value) (n : Nat), Vals xs its ∧ s.heap.get? a = some { cls := .type "list", data := .seq its.toArray n } := I.hok a _ h
    exact ⟨_, e, (by show Value.type "list" ≠ .type "tuple"; decide +kernel)⟩
  | ins C dx fs =>
    have x := I.hok a _ h
    obtain ⟨_, _, _, e, _⟩ := x
    exact ⟨_, e, (by show Value.ref C ≠ .type "tuple"; exact fun z => by cases z)⟩
  | _ => exact absurd (show false = true from p) Bool.false_ne_true
theorem op_is_ref : OpR X (compareOp .Is) (fun x y H Q => ∃ a b oa ob, x = .ref a ∧ y = .ref b ∧ H a = some oa ∧ isObj oa = true ∧ H b = some ob ∧ isObj ob = true ∧ Q (.bl (decide (a = b))) H) := by
  intro pins s σ H x y v u Q I rx ry h
  obtain ⟨a, b, oa, ob, rfl, rfl, ha, pa, hb, pb, q⟩ := h
  cases rx
  cases ry
  obtain ⟨o1, e1, n1⟩ := obj_there I ha pa
  obtain ⟨o2, e2, _⟩ := obj_there I hb pb
  by_cases z : a = b
  · subst z
    exact wpAny_is_ref_self (fin_bl I q (by simp))
  · exact wpAny_is_ref_other z e1 e2 n1 (fin_bl I q (by simp [z]))
theorem op_isnot_ref : OpR X (compareOp .IsNot) (fun x y H Q => ∃ a b oa ob, x = .ref a ∧ y = .ref b ∧ H a = some oa ∧ isObj oa = true ∧ H b = some ob ∧ isObj ob = true ∧ Q (.bl (!decide (a = b))) H) := by
  intro pins s σ H x y v u Q I rx ry h
  obtain ⟨a, b, oa, ob, rfl, rfl, ha, pa, hb, pb, q⟩ := h
  cases rx
  cases ry
  obtain ⟨o1, e1, n1⟩ := obj_there I ha pa
  obtain ⟨o2, e2, _⟩ := obj_there I hb pb
  by_cases z : a = b
  · subst z
    exact wpAny_isNot_ref_self (fin_bl I q (by simp))
  · exact wpAny_isNot_ref_other z e1 e2 n1 (fin_bl I q (by simp [z]))

/-- two rules for one operation: by cases -/
theorem OpR.or {f : Value → Value → Sem Value} {r r' : R2} (h : OpR X f r) (h' : OpR X f r') : OpR X f (fun x y H Q => r x y H Q ∨ r' x y H Q) := by
  intro pins s σ H x y v u Q I rx ry q
  rcases q with q | q
  · exact h pins s σ H x y v u Q I rx ry q
  · exact h' pins s σ H x y v u Q I rx ry q

theorem nomark (b : Expr) {op : CmpOp} (h : op ≠ .In := by decide) (h2 : op ≠ .NotIn := by decide) : behindInMarks op b = false := by
  have e1 : (op == CmpOp.In) = false := by cases op <;> first | rfl | exact absurd rfl h
  have e2 : (op == CmpOp.NotIn) = false := by cases op <;> first | rfl | exact absurd rfl h2
  cases b <;> simp [behindInMarks, e1, e2]
/-- a comparison as a value; hm: nomark b, or (for in, not in) by with_unfolding_all rfl -/
theorem pe_cmpR {op : CmpOp} {r : R2} (ho : OpR X (compareOp op) r) (ha : PE X a ta) (hb : PE X b tb) (hm : behindInMarks op b = false) : PE X (.Compare a [op] [b] pos) (tOp r ta tb) := by
  intro pins s σ H Q I h
  exact wpAny_Compare1 (binT ha hb I h fun v u s2 x y H2 I2 rx ry q => ho pins s2 σ H2 x y v u Q I2 rx ry q) hm
/-- a reading of a value as a test -/
def tTest (t : TE) : TT := fun σ H Q => t σ H fun x H' => ∃ k, x = .bl k ∧ Q k H'
theorem pt_cmpR {op : CmpOp} {r : R2} (ho : OpR X (compareOp op) r) (ha : PE X a ta) (hb : PE X b tb) (hm : behindInMarks op b = false) : PT X (.Compare a [op] [b] pos) (tTest (tOp r ta tb)) := by
  intro pins s σ H Q I h
  refine wpAny_isTrue_Compare1 (thn (ha pins s σ H _ I h) fun v s1 ⟨x, H1, I1, r1, q1⟩ => thn (hb pins s1 σ H1 _ I1 q1) fun u s2 ⟨y, H2, I2, r2, q2⟩ =>
    thn (ho pins s2 σ H2 x y v u _ I2 r1 r2 q2) fun c s3 ⟨z, H3, I3, r3, k, e, q3⟩ => ?_) hm
  subst e
  cases r3
  exact wpAny_truthy_bool ⟨H3, I3, q3⟩
/-- a op1 b op2 c -/
def tChain (r r' : R2) (ta tb tc : TE) : TE := fun σ H Q => ta σ H fun x H1 => tb σ H1 fun y H2 => r x y H2 fun z H3 => ∃ k, z = .bl k ∧
  (if k = true then tc σ H3 fun w' H4 => r' y w' H4 Q else Q (.bl false) H3)
theorem pe_chain {op op' : CmpOp} {r r' : R2} (ho : OpR X (compareOp op) r) (ho' : OpR X (compareOp op') r') (ha : PE X a ta) (hb : PE X b tb) (hc : PE X c tc)
    (hm : lastMarks [op, op'] [b, c] = false := by with_unfolding_all rfl) : PE X (.Compare a [op, op'] [b, c] pos) (tChain r r' ta tb tc) := by
  intro pins s σ H Q I h
  refine Compare_chain (thn (ha pins s σ H _ I h) fun v s1 ⟨x, H1, I1, r1, q1⟩ => chain_link (thn (hb pins s1 σ H1 _ I1 q1) fun u s2 ⟨y, H2, I2, r2, q2⟩ =>
    thn (ho pins s2 σ H2 x y v u _ I2 r1 r2 q2) fun d s3 ⟨z, H3, I3, r3, k, e, q3⟩ => ?_)) hm
  subst e
  cases r3
  refine wpAny_truthy_bool ?_
  cases k with
  | false => exact ite_ff ⟨.bl false, H3, I3, rfl, q3⟩
  | true => exact ite_tt (chain_last (thn (hc pins s3 σ H3 _ I3 q3) fun w' s4 ⟨z', H4, I4, r4, q4⟩ => ho' pins s4 σ H4 y z' u w' Q I4 r2 r4 q4))
theorem pt_chain {op op' : CmpOp} {r r' : R2} (ho : OpR X (compareOp op) r) (ho' : OpR X (compareOp op') r') (ha : PE X a ta) (hb : PE X b tb) (hc : PE X c tc)
    (hm : lastMarks [op, op'] [b, c] = false := by with_unfolding_all rfl) : PT X (.Compare a [op, op'] [b, c] pos) (tTest (tChain r r' ta tb tc)) := by
  intro pins s σ H Q I h
  refine isTrue_chain (thn (ha pins s σ H _ I h) fun v s1 ⟨x, H1, I1, r1, q1⟩ => test_link (thn (hb pins s1 σ H1 _ I1 q1) fun u s2 ⟨y, H2, I2, r2, q2⟩ =>
    thn (ho pins s2 σ H2 x y v u _ I2 r1 r2 q2) fun d s3 ⟨z, H3, I3, r3, k, e, q3⟩ => ?_)) hm
  subst e
  cases r3
  refine wpAny_truthy_bool ?_
  cases k with
  | false =>
    obtain ⟨k', e', q'⟩ := q3
    cases e'
    exact ite_ff ⟨H3, I3, q'⟩
  | true =>
    refine ite_tt (test_last (thn (hc pins s3 σ H3 _ I3 q3) fun w' s4 ⟨z', H4, I4, r4, q4⟩ => thn (ho' pins s4 σ H4 y z' u w' _ I4 r2 r4 q4) fun d' s5 ⟨z2, H5, I5, r5, k2, e2, q5⟩ => ?_))
    subst e2
    cases r5
    exact wpAny_truthy_bool ⟨H5, I5, q5⟩

/-! ### truth -/
/-- a value's truth by the abstract heap -/
def TruV (K : PySem.W.Frag) (x : V) (H : Hp) (k : Bool) : Prop :=
  match x with
  | .non => k = false
  | .bl b => k = b
  | .int i => k = (i != 0)
  | .str y => y.length ≤ sizeLine ∧ k = ((y.length : Int) != 0)
  | .byt y => y.size ≤ sizeLine ∧ k = ((y.size : Int) != 0)
  | .ref p => (∃ xs, SqL K H p xs ∧ k = !xs.isEmpty) ∨ (∃ xs, SqT K H p xs ∧ k = !xs.isEmpty) ∨ ∃ kvs, H p = some (.dK kvs) ∧ k = !kvs.isEmpty
  | _ => False
theorem isEmpty_kv {κ : Type} {kvs : List (κ × V)} {vs : List (κ × Value)} (r : KV kvs vs) : (!vs.isEmpty) = !kvs.isEmpty := by
  cases r <;> rfl
theorem isEmpty_of {xs : List V} {its : List Value} (r : Vals xs its) : (!its.toArray.isEmpty) = !xs.isEmpty := by
  cases r <;> simp
theorem line63 : (sizeLine : Nat) < 2 ^ 63 := by rw [sizeLine_eq]; decide
theorem tru_ok : TruR X (fun x H Q => ∃ k, TruV X.K x H k ∧ Q k H) := by
  intro pins s σ H x v Q I rx h
  obtain ⟨k, e, q⟩ := h
  have hl := line63
  have hs : sizeLine = 16777216 := sizeLine_eq
  cases x with
  | non =>
    cases rx
    have e' : k = false := e
    subst e'
    exact truthy_none ⟨H, I, q⟩
  | bl b =>
    cases rx
    have e' : k = b := e
    subst e'
    exact wpAny_truthy_bool ⟨H, I, q⟩
  | int i =>
    obtain ⟨t, rfl⟩ := rx
    have e' : k = (i != 0) := e
    subst e'
    exact PySem.P.truthy_int ⟨H, I, q⟩
  | str y =>
    obtain ⟨t, rfl⟩ := rx
    obtain ⟨hy, e'⟩ : y.length ≤ sizeLine ∧ k = ((y.length : Int) != 0) := e
    subst e'
    exact PySem.P.truthy_str (by omega) ⟨H, I.tok _, q⟩
  | byt y =>
    obtain ⟨t, rfl⟩ := rx
    obtain ⟨hy, e'⟩ : y.size ≤ sizeLine ∧ k = ((y.size : Int) != 0) := e
    subst e'
    exact PySem.W.truthy_bytes (by omega) ⟨H, I.tok _, q⟩
  | ref p =>
    cases rx
    have e' : (∃ xs, SqL X.K H p xs ∧ k = !xs.isEmpty) ∨ (∃ xs, SqT X.K H p xs ∧ k = !xs.isEmpty) ∨ ∃ kvs, H p = some (.dK kvs) ∧ k = !kvs.isEmpty := e
    rcases e' with ⟨xs, hx, e'⟩ | ⟨xs, hx, e'⟩ | ⟨kvs, hx, e'⟩
    · subst e'
      obtain ⟨its, r, pl, hz⟩ := I.list hx
      have hlen := r.length
      exact wpAny_truthy_list pl.isList (by simp only [List.size_toArray]; omega) ⟨H, I.tok _, by rw [isEmpty_of r]; exact q⟩
    · subst e'
      obtain ⟨its, r, pl, hz⟩ := I.tuple hx
      have hlen := r.length
      exact truthy_tuple pl (by simp only [List.size_toArray]; omega) ⟨H, I.tok _, by rw [isEmpty_of r]; exact q⟩
    · subst e'
      obtain ⟨hz, hS, vs, r, m⟩ : kvs.length ≤ sizeLine ∧ (p == sysModules) = false ∧ ∃ vs, KV kvs vs ∧ s.heap.DictOf (mixKind X.prog X.w) p vs := I.hok p _ hx
      have hlen : kvs.length = vs.length := Paired.length r
      exact wpAny_truthy_dict hS m (by omega) ⟨H, I.tok _, by rw [isEmpty_kv r]; exact q⟩
  | _ => exact (show False from e).elim
/-- any expression whose test is its value's truth (a name, a call, a subscript, a field ..: he by fun _ => rfl) -/
theorem pt_truth (ha : PE X a ta) (he : ∀ whole, isTrue a X.env whole = (do let v ← whole; standAt a.pos; holding [v] (truthy v))) :
    PT X a (fun σ H Q => ta σ H fun x H' => ∃ k, TruV X.K x H' k ∧ Q k H') := by
  intro pins s σ H Q I h
  exact isTrue_plain (thn (ha pins s σ H _ I h) fun v s1 ⟨x, H1, I1, r1, q1⟩ => tru_ok pins s1 σ H1 x v Q I1 r1 q1) (he _)

/-! ### strs and bytes -/
theorem pe_byt {x : List UInt8} {k : Nat} : PE X (.Constant (.bytes x) k pos) (fun _ H Q => Q (.byt x.toArray) H) := fun _ _ _ H _ I h => PySem.W.Constant_bytes ⟨.byt x.toArray, H, I.tok _, ⟨_, rfl⟩, h⟩
theorem op_add_str : OpR X (binaryOp .Add) (fun x y H Q => ∃ i j, x = .str i ∧ y = .str j ∧ i.length + j.length ≤ sizeLine ∧ Q (.str (i ++ j)) H) := by
  intro pins s σ H x y v u Q I rx ry h
  obtain ⟨i, j, rfl, rfl, hz, q⟩ := h
  obtain ⟨t, rfl⟩ := rx
  obtain ⟨t', rfl⟩ := ry
  exact add_str (fun t' tk => ⟨.str (i ++ j), H, I.tok _, ⟨_, rfl⟩, q⟩) hz
theorem iop_add_str : OpR X (inplaceOp .Add) (fun x y H Q => ∃ i j, x = .str i ∧ y = .str j ∧ i.length + j.length ≤ sizeLine ∧ Q (.str (i ++ j)) H) := by
  intro pins s σ H x y v u Q I rx ry h
  obtain ⟨i, j, rfl, rfl, hz, q⟩ := h
  obtain ⟨t, rfl⟩ := rx
  obtain ⟨t', rfl⟩ := ry
  exact iadd_str (fun t' tk => ⟨.str (i ++ j), H, I.tok _, ⟨_, rfl⟩, q⟩) hz
theorem op_add_byt : OpR X (binaryOp .Add) (fun x y H Q => ∃ i j, x = .byt i ∧ y = .byt j ∧ i.size + j.size ≤ 16777216 ∧ Q (.byt (i ++ j)) H) := by
  intro pins s σ H x y v u Q I rx ry h
  obtain ⟨i, j, rfl, rfl, hz, q⟩ := h
  obtain ⟨t, rfl⟩ := rx
  obtain ⟨t', rfl⟩ := ry
  exact PySem.W.KBy.add_bytes hz (fun t' tk => ⟨.byt (i ++ j), H, I.tok _, ⟨_, rfl⟩, q⟩)

def PlainIxT (b : Expr) : Prop := ∀ o i, subscripted b false o i = operate [o, i] (getItem o i)
/-- s[i], 0 ≤ i < len -/
theorem pe_item_str (ha : PE X a ta) (hb : PE X b tb) (hs : PlainIxT b) :
    PE X (.Subscript a b pos) (tOp (fun x y H Q => ∃ z i c, x = .str z ∧ y = .int i ∧ 0 ≤ i ∧ i < 2 ^ 63 ∧ i < z.length ∧ z.cps[i.toNat]? = some c ∧ Q (.str ⟨#[c]⟩) H) ta tb) := by
  intro pins s σ H Q I h
  refine Subscript_ (binT ha hb I h fun v u s2 x y H2 I2 rx ry q => ?_)
  obtain ⟨z, i, c, rfl, rfl, h0, h63, h1, hc, q⟩ := q
  obtain ⟨t, rfl⟩ := rx
  obtain ⟨t', rfl⟩ := ry
  have e : seqIndex? i z.length = some i.toNat := PySem.StrLaws.seqIndex_nonneg h0 h1
  exact tail_any (typeIs_str s2 z t) slot_str_getitem.lookup (getItem_str (c := c) (by
    have e1 : decide (i < -(2 ^ 63 : Int)) = false := decide_eq_false (by omega)
    have e2 : decide (i ≥ 2 ^ 63) = false := decide_eq_false (by omega)
    rw [e1, e2] <;> rfl) (by rw [e]; exact hc) ⟨.str ⟨#[c]⟩, H2, I2.tok _, ⟨_, rfl⟩, q⟩) (hs _ _)
/-- b[i], 0 ≤ i < len -/
theorem pe_item_byt (ha : PE X a ta) (hb : PE X b tb) (hs : PlainIxT b) :
    PE X (.Subscript a b pos) (tOp (fun x y H Q => ∃ (z : List UInt8) (i : Int), x = .byt z.toArray ∧ y = .int i ∧ z.length ≤ sizeLine ∧ 0 ≤ i ∧ i < z.length ∧ Q (.int ((z.getD i.toNat 0).toNat : Nat)) H) ta tb) := by
  intro pins s σ H Q I h
  refine Subscript_ (binT ha hb I h fun v u s2 x y H2 I2 rx ry q => ?_)
  obtain ⟨z, i, rfl, rfl, hz, h0, h1, q⟩ := q
  obtain ⟨t, rfl⟩ := rx
  obtain ⟨t', rfl⟩ := ry
  have hl : sizeLine = 16777216 := sizeLine_eq
  exact tail_any (PySem.W.typeIs_bytes s2 z.toArray t) PySem.W.FB.slot_bytes_getitem.lookup (PySem.W.getItem_bytes (by omega) h0 h1 ⟨.int ((z.getD i.toNat 0).toNat : Nat), H2, I2.tok _, ⟨_, rfl⟩, q⟩) (hs _ _)

/-! ### scalar builtins, by CallR -/
theorem vals1 {x : V} {us : List Value} (r : Vals [x] us) : ∃ u, us = [u] ∧ RelV x u := by
  cases r with
  | cons r1 r2 => cases r2; exact ⟨_, rfl, r1⟩
theorem vals2 {x y : V} {us : List Value} (r : Vals [x, y] us) : ∃ u w', us = [u, w'] ∧ RelV x u ∧ RelV y w' := by
  cases r with
  | cons r1 r2 =>
    cases r2 with
    | cons r3 r4 => cases r4; exact ⟨_, _, rfl, r1, r3⟩
theorem call_abs : CallR X (.builtin "abs") (fun xs H Q => ∃ i, xs = [.int i] ∧ Q (.int (if i < 0 then -i else i)) H) := by
  intro pins s σ H xs us Q I r h
  obtain ⟨i, rfl, q⟩ := h
  obtain ⟨u, rfl, t, rfl⟩ := vals1 r
  exact call_abs_int fun u tk => ⟨.int (if i < 0 then -i else i), H, I.tok _, ⟨_, rfl⟩, q⟩
theorem call_max2 (hc : X.calm = true) : CallR X (.builtin "max") (fun xs H Q => ∃ i j, xs = [.int i, .int j] ∧ Q (.int (if j > i then j else i)) H) := by
  intro pins s σ H xs us Q I r h
  obtain ⟨i, j, rfl, q⟩ := h
  obtain ⟨u, w', rfl, ⟨t, rfl⟩, ⟨t', rfl⟩⟩ := vals2 r
  refine max_two_ints (I.ok.hd hc) fun h' tk k => ⟨_, H, I.kept k, ?_, q⟩
  by_cases hj : j > i
  · rw [if_pos hj, if_pos hj]; exact ⟨_, rfl⟩
  · rw [if_neg hj, if_neg hj]; exact ⟨_, rfl⟩
theorem call_min2 (hc : X.calm = true) : CallR X (.builtin "min") (fun xs H Q => ∃ i j, xs = [.int i, .int j] ∧ Q (.int (if j < i then j else i)) H) := by
  intro pins s σ H xs us Q I r h
  obtain ⟨i, j, rfl, q⟩ := h
  obtain ⟨u, w', rfl, ⟨t, rfl⟩, ⟨t', rfl⟩⟩ := vals2 r
  refine min_two_ints (I.ok.hd hc) fun h' tk k => ⟨_, H, I.kept k, ?_, q⟩
  by_cases hj : j < i
  · rw [if_pos hj, if_pos hj]; exact ⟨_, rfl⟩
  · rw [if_neg hj, if_neg hj]; exact ⟨_, rfl⟩
theorem call_int1 : CallR X (.type "int") (fun xs H Q => (∃ i, xs = [.int i] ∧ Q (.int i) H) ∨ ∃ k, xs = [.bl k] ∧ Q (.int (if k then 1 else 0)) H) := by
  intro pins s σ H xs us Q I r h
  rcases h with ⟨i, rfl, q⟩ | ⟨k, rfl, q⟩
  · obtain ⟨u, rfl, t, rfl⟩ := vals1 r
    exact call_int_int ⟨.int i, H, I, ⟨_, rfl⟩, q⟩
  · obtain ⟨u, rfl, r1⟩ := vals1 r
    cases r1
    exact call_int_bool ⟨.int (if k then 1 else 0), H, I.tok _, ⟨_, rfl⟩, q⟩
theorem call_bool1 : CallR X (.type "bool") (fun xs H Q => (∃ i, xs = [.int i] ∧ Q (.bl (i != 0)) H) ∨ ∃ k, xs = [.bl k] ∧ Q (.bl k) H) := by
  intro pins s σ H xs us Q I r h
  rcases h with ⟨i, rfl, q⟩ | ⟨k, rfl, q⟩
  · obtain ⟨u, rfl, t, rfl⟩ := vals1 r
    exact call_bool_int ⟨.bl (i != 0), H, I, rfl, q⟩
  · obtain ⟨u, rfl, r1⟩ := vals1 r
    cases r1
    exact call_bool_bool ⟨.bl k, H, I, rfl, q⟩
theorem call_str_int : CallR X (.type "str") (fun xs H Q => ∃ i, xs = [.int i] ∧ i.natAbs.log2 < 1920 ∧ Q (.str (toString i)) H) := by
  intro pins s σ H xs us Q I r h
  obtain ⟨i, rfl, hz, q⟩ := h
  obtain ⟨u, rfl, t, rfl⟩ := vals1 r
  exact PySem.P.str_of_int hz ⟨.str _, H, I.tok _, ⟨_, rfl⟩, q⟩
theorem call_ord : CallR X (.builtin "ord") (fun xs H Q => ∃ x, xs = [.str x] ∧ x.length = 1 ∧ Q (.int (x.cps.getD 0 0 : Nat)) H) := by
  intro pins s σ H xs us Q I r h
  obtain ⟨x, rfl, hz, q⟩ := h
  obtain ⟨u, rfl, t, rfl⟩ := vals1 r
  exact ord_of_one hz ⟨.int _, H, I.tok _, ⟨_, rfl⟩, q⟩
theorem call_chr : CallR X (.builtin "chr") (fun xs H Q => ∃ i, xs = [.int i] ∧ 0 ≤ i ∧ i ≤ 1114111 ∧ Q (.str ⟨#[i.toNat]⟩) H) := by
  intro pins s σ H xs us Q I r h
  obtain ⟨i, rfl, h0, h1, q⟩ := h
  obtain ⟨u, rfl, t, rfl⟩ := vals1 r
  exact chr_of_range h0 h1 ⟨.str _, H, I.tok _, ⟨_, rfl⟩, q⟩
/-- len of a str, a bytes, a list, a tuple -/
def LenV (K : PySem.W.Frag) (x : V) (H : Hp) (n : Nat) : Prop :=
  match x with
  | .str y => y.length ≤ sizeLine ∧ n = y.length
  | .byt y => y.size ≤ sizeLine ∧ n = y.size
  | .ref p => (∃ xs, SqL K H p xs ∧ n = xs.length) ∨ ∃ xs, SqT K H p xs ∧ n = xs.length
  | _ => False
theorem call_len : CallR X (.builtin "len") (fun xs H Q => ∃ x n, xs = [x] ∧ LenV X.K x H n ∧ Q (.int n) H) := by
  intro pins s σ H xs us Q I r h
  obtain ⟨x, n, rfl, e, q⟩ := h
  obtain ⟨u, rfl, rx⟩ := vals1 r
  have hl := line63
  have hs : sizeLine = 16777216 := sizeLine_eq
  cases x with
  | str y =>
    obtain ⟨t, rfl⟩ := rx
    obtain ⟨hy, e'⟩ : y.length ≤ sizeLine ∧ n = y.length := e
    subst e'
    exact len_str (by omega) ⟨.int _, H, I.tok _, ⟨_, rfl⟩, q⟩
  | byt y =>
    obtain ⟨t, rfl⟩ := rx
    obtain ⟨hy, e'⟩ : y.size ≤ sizeLine ∧ n = y.size := e
    subst e'
    exact PySem.W.len_bytes (by omega) ⟨.int _, H, I.tok _, ⟨_, rfl⟩, q⟩
  | ref p =>
    cases rx
    have e' : (∃ xs, SqL X.K H p xs ∧ n = xs.length) ∨ ∃ xs, SqT X.K H p xs ∧ n = xs.length := e
    rcases e' with ⟨xs, hx, e'⟩ | ⟨xs, hx, e'⟩
    · subst e'
      obtain ⟨its, r', pl, hz⟩ := I.list hx
      have hlen := r'.length
      exact Calls.call_len_list pl.isList (by simp only [List.size_toArray]; omega) ⟨.int xs.length, H, I.tok _, ⟨_, by simp only [List.size_toArray]; rw [hlen]⟩, q⟩
    · subst e'
      obtain ⟨its, r', pl, hz⟩ := I.tuple hx
      have hlen := r'.length
      exact len_tuple pl (by simp only [List.size_toArray]; omega) ⟨.int xs.length, H, I.tok _, ⟨_, by simp only [List.size_toArray]; rw [hlen]⟩, q⟩
  | _ => exact (show False from e).elim
/-- divmod: a new tuple -/
theorem call_divmod : CallR X (.builtin "divmod") (fun xs H Q => ∃ i j, xs = [.int i, .int j] ∧ CDiv i j ∧ ∀ p, H p = none → Q (.ref p) (upd H p (.tup [.int (i / j), .int (i % j)]))) := by
  intro pins s σ H xs us Q I r h
  obtain ⟨i, j, rfl, ⟨h1, h2⟩, q⟩ := h
  obtain ⟨u, w', rfl, ⟨t, rfl⟩, ⟨t', rfl⟩⟩ := vals2 r
  refine divmod_int (by omega) ?_ (.inl (PyProof.noPylong_small (by omega)))
  rw [Int.fdiv_eq_ediv_of_nonneg i (by omega), Int.fmod_eq_emod_of_nonneg i (by omega)]
  have hn : H s.heap.objs.size = none := I.hok.fresh (Nat.le_refl _)
  refine ⟨.ref s.heap.objs.size, _, ?_, rfl, q _ hn⟩
  refine I.laid (fun b o e => Heap.get?_push_of_some _ e) (Nat.le_refl _) ⟨by simp only [List.length_cons, List.length_nil]; rw [sizeLine_eq]; decide, [.int (i / j) s.toks, .int (i % j) (s.toks + 1)], .cons ⟨_, rfl⟩ (.cons ⟨_, rfl⟩ .nil), ?_⟩
  exact ⟨_, Heap.get?_push_size s.heap rfl, rfl, 0, rfl⟩
end
end L2

namespace L2
open PySem PySem.Spec PyProof.Rows

/-! ### an instance, its attributes a map -/
structure ObjM (h : Heap) (x dx C : Addr) (mA : Str → Option Value) : Prop where
  obj : h.get? x = some (PySem.W.instObj C dx)
  ns : h.Ns1 dx mA
  ne : dx ≠ x

theorem lookIn_ns {h : Heap} {dx : Addr} {mA : Str → Option Value} (n : h.Ns1 dx mA) : ∃ od, h.get? dx = some od ∧ ∀ name, PySem.W.lookIn name od = some (mA name) := by
  obtain ⟨o, es, ep, ho, hd, hk, _, hm⟩ := n
  refine ⟨o, ho, fun name => ?_⟩
  have e := hm name
  unfold nsFind findBy at e
  rw [← Array.find?_toList] at e
  unfold PySem.W.lookIn
  rw [hd]
  dsimp only
  split
  · rename_i y q
    rw [q] at e
    exact congrArg some e
  · rename_i q
    rw [q] at e
    have a : es.toList.any (·.refKey) = false := by
      rw [List.any_eq_false]
      intro y hy
      obtain ⟨z, t, hkey⟩ := hk y (Array.mem_toList_iff.mp hy)
      simp [DictEntry.refKey, hkey]
    have a' : ¬ es.toList.any (·.refKey) = true := by rw [a]; exact Bool.false_ne_true
    rw [if_neg a']
    exact congrArg some e

theorem ObjM.look {h : Heap} {x dx C : Addr} {mA : Str → Option Value} (I : ObjM h x dx C mA) : ∃ od, PySem.W.InstAt h x (PySem.W.instObj C dx) C (some od) ∧ ∀ name, PySem.W.lookIn name od = some (mA name) :=
  let ⟨od, ho, hl⟩ := lookIn_ns I.ns
  ⟨od, ⟨I.obj, rfl, rfl, ho⟩, hl⟩

section
variable {prog : Program} {w : World} {A : Around} {E : Value → Shared → Prop} {s : Shared} {K : PySem.W.Frag} {x dx C f : Addr} {mA : Str → Option Value} {name : Str} {v : Value}

theorem get_map {expr : Bool} {Q : Value → Shared → Prop} (X : K.In s.heap) (I : ObjM s.heap x dx C mA) (hg : PySem.W.plainGet K C name = true) (hh : PySem.W.hasDictIn K C = true)
    (ha : PySem.W.findIn K (.ref C) name = some none) (hv : mA name = some v) (hv' : PySem.W.handedIn v = true) (h : Q v { s with toks := s.toks + 1 }) :
    wpAny (model prog w) A (getAttr (.ref x) name expr) Q E s := by
  obtain ⟨od, J, hl⟩ := I.look
  exact PySem.W.get_value X J (PySem.W.plainGet_of hg).1 (PySem.W.findObj_own hh ha rfl (by rw [hl, hv])) hv' h

theorem get_const {expr : Bool} {a : Value} {Q : Value → Shared → Prop} (X : K.In s.heap) (I : ObjM s.heap x dx C mA) (hg : PySem.W.plainGet K C name = true) (hh : PySem.W.hasDictIn K C = true)
    (ha : PySem.W.findIn K (.ref C) name = some (some a)) (hn : PySem.W.specialIn K a "__get__" = some none) (hc : PySem.W.copiedNames.contains name = false) (hv : mA name = none) (hv' : PySem.W.handedIn a = true)
    (h : Q a { s with toks := s.toks + 1 }) : wpAny (model prog w) A (getAttr (.ref x) name expr) Q E s := by
  obtain ⟨od, J, hl⟩ := I.look
  exact PySem.W.get_value X J (PySem.W.plainGet_of hg).1 (PySem.W.findObj_cls hh ha hn hv' hc (by rw [hl, hv])) hv' h

theorem get_meth {pl : Sem Bool} {Q : Value × List Value → Shared → Prop} (X : K.In s.heap) (I : ObjM s.heap x dx C mA) (hg : PySem.W.plainGet K C name = true)
    (hf : PySem.W.findIn K (.ref C) name = some (some (.ref f))) (ht : PySem.W.isFn K (.ref f) = true) (hv : mA name = none) (h : Q (.ref f, [.ref x]) s) :
    wpAny (model prog w) A (getMethod (.ref x) name pl) Q E s := by
  obtain ⟨od, J, hl⟩ := I.look
  exact PySem.W.method_fn X J (PySem.W.plainGet_of hg).1 (PySem.W.plainGet_of hg).2 hf (beq_iff_eq.mp ht) (by show (PySem.W.lookIn name od).map (·.isSome) = some false; rw [hl, hv]; rfl) h

theorem set_map {ns : List Str} {Q : Unit → Shared → Prop} (X : K.In s.heap) (I : ObjM s.heap x dx C mA)
    (hs : PySem.W.findIn K (.ref C) "__setattr__" = some (some (.builtin "object.__setattr__"))) (hp : PySem.W.plainOver K C = true) (ht : PySem.W.takerIn K C name = some none) (hh : PySem.W.hasDictIn K C = true)
    (hw : PySem.Within mA ns) (hsz : ns.length ≤ sizeLine)
    (h : ∀ h', ObjM h' x dx C (fun y => if y = name then some v else mA y) → Heap.SameBut dx s.heap h' → Q () { s with heap := h', toks := s.toks + 2 }) :
    wpAny (model prog w) A (setAttr (.ref x) name v) Q E s := by
  obtain ⟨od, J, hl⟩ := I.look
  refine PySem.W.set_plain X J hs (PySem.W.osa_open (s := { s with toks := s.toks + 1 }) (r := none) X J hp ht fun b => ?_)
  obtain ⟨cd, hc, hd'⟩ := PySem.W.any_some hh
  have hx : s.heap.get? x = some ⟨.ref C, some dx, .plain, #[]⟩ := I.obj
  refine wpAny_bind (wpAny_pure (wpAny_bind (wpAny_bind (wpAny_loadPart hx (wpAny_bind (PySem.W.Looks.here (s := { s with toks := s.toks + 1 }) (PySem.W.looks_clsIn X hc) ?_))))))
  rw [hd']
  refine wpAny_pure (a := some dx) (wpAny_bind (wpAny_pure (wpAny_bind ?_)))
  refine wpAny_nsSet1 (s := { s with toks := s.toks + 1 }) I.ns fun h' hn2 hs2 => ?_
  obtain ⟨oD, esD, epD, hoD, hdD, hcD⟩ := hn2.count (PySem.Within.cons name v hw)
  refine wpAny_bind (wpAny_lookBehind hoD (by rw [hdD]; exact pastItsLine_dict (Nat.le_trans hcD (by rw [List.length_cons]; omega))) ?_)
  exact wpAny_pure (h _ ⟨(hs2.2 _ (Ne.symm I.ne)).trans I.obj, hn2, I.ne⟩ hs2)

/-- C(..): the dict at the heap's end, the instance behind it; then its __init__ -/
theorem make_map {R : Result → Shared → Prop} {vs : List Value} {kw : List (Str × Value)} (X : K.In s.heap) (hm : PySem.W.makesIn K C = true)
    (hi : PySem.W.findIn K (.ref C) "__init__" = some (some (.ref f))) (hf : PySem.W.typeIn K (.ref f) = some (.type "function"))
    (h : codeAny (model prog w) (A.under (.builtin "type.__call__" ⟨.ref C :: vs, kw⟩)) (.call (.ref f) ⟨.ref (s.heap.objs.size + 1) :: vs, kw⟩) (PySem.W.InitBack (s.heap.objs.size + 1) R)
      { s with heap := (s.heap.push PySem.W.emptyDict).push (PySem.W.instObj C s.heap.objs.size) }) :
    codeAny (model prog w) A (.call (.ref C) ⟨vs, kw⟩) R s := by
  obtain ⟨hh, g, d, t, os⟩ := s
  exact PySem.W.make_core (PySem.W.makes_of X hm) (PySem.W.looks_findIn X hi) (fun self => PySem.W.bind_fn X self hf) (.inl rfl) h
/-- C() where there is no __init__ but object's -/
theorem make_map0 {R : Result → Shared → Prop} (X : K.In s.heap) (hm : PySem.W.makesIn K C = true)
    (hi : PySem.W.findIn K (.ref C) "__init__" = some (some (.builtin "object.__init__")))
    (hb : ∀ self, PySem.W.Looks (model prog w) s.heap (bindSpecial (.builtin "object.__init__") self) (.builtin "object.__init__", [self]))
    (h : codeAny (model prog w) (A.under (.builtin "type.__call__" ⟨[.ref C], []⟩)) (.call (.builtin "object.__init__") ⟨[.ref (s.heap.objs.size + 1)], []⟩) (PySem.W.InitBack (s.heap.objs.size + 1) R)
      { s with heap := (s.heap.push PySem.W.emptyDict).push (PySem.W.instObj C s.heap.objs.size) }) :
    codeAny (model prog w) A (.call (.ref C) ⟨[], []⟩) R s := by
  obtain ⟨hh, g, d, t, os⟩ := s
  exact PySem.W.make_core (PySem.W.makes_of X hm) (PySem.W.looks_findIn X hi) hb (.inr ⟨rfl, rfl⟩) h
end

/-! ### the attributes as a list of pairs -/
def putF (f : Str) (v : V) : List (Str × V) → List (Str × V)
  | [] => [(f, v)]
  | (g, x) :: r => if g = f then (g, v) :: r else (g, x) :: putF f v r
theorem lookup_putF (f g : Str) (v : V) : ∀ fs : List (Str × V), (putF f v fs).lookup g = if g = f then some v else fs.lookup g
  | [] => by
    show List.lookup g [(f, v)] = _
    by_cases h : g = f
    · have hb : (g == f) = true := beq_iff_eq.mpr h
      simp only [List.lookup, hb, if_pos h]
    · have hb : (g == f) = false := beq_eq_false_iff_ne.mpr h
      simp only [List.lookup, hb, if_neg h]
  | (k, x) :: r => by
    have ih := lookup_putF f g v r
    rw [show putF f v ((k, x) :: r) = (if k = f then (k, v) :: r else (k, x) :: putF f v r) from rfl]
    by_cases hk : k = f
    · rw [if_pos hk]
      by_cases h : g = k
      · have hb : (g == k) = true := beq_iff_eq.mpr h
        simp only [List.lookup, hb, if_pos (h.trans hk)]
      · have hb : (g == k) = false := beq_eq_false_iff_ne.mpr h
        simp only [List.lookup, hb, if_neg (fun e : g = f => h (e.trans hk.symm))]
    · rw [if_neg hk]
      by_cases h : g = k
      · have hb : (g == k) = true := beq_iff_eq.mpr h
        simp only [List.lookup, hb, if_neg (fun e : g = f => hk (h.symm.trans e))]
      · have hb : (g == k) = false := beq_eq_false_iff_ne.mpr h
        simp only [List.lookup, hb]
        exact ih
theorem keys_putF (f : Str) (v : V) : ∀ fs : List (Str × V), f ∈ (putF f v fs).map (·.1) ∧ ∀ g, g ∈ fs.map (·.1) → g ∈ (putF f v fs).map (·.1)
  | [] => ⟨by simp [putF], fun g h => by simp at h⟩
  | (k, x) :: r => by
    obtain ⟨i1, i2⟩ := keys_putF f v r
    rw [show putF f v ((k, x) :: r) = (if k = f then (k, v) :: r else (k, x) :: putF f v r) from rfl]
    by_cases hk : k = f
    · rw [if_pos hk]
      subst hk
      exact ⟨by simp, fun g h => by simpa using h⟩
    · rw [if_neg hk]
      refine ⟨?_, fun g h => ?_⟩
      · rw [List.map_cons]
        exact List.mem_cons_of_mem _ i1
      · rw [List.map_cons] at h ⊢
        rcases List.mem_cons.mp h with e | e
        · exact List.mem_cons.mpr (.inl e)
        · exact List.mem_cons_of_mem _ (i2 g e)
theorem length_putF (f : Str) (v : V) : ∀ fs : List (Str × V), (putF f v fs).length ≤ fs.length + 1
  | [] => by simp [putF]
  | (k, x) :: r => by
    have ih := length_putF f v r
    rw [show putF f v ((k, x) :: r) = (if k = f then (k, v) :: r else (k, x) :: putF f v r) from rfl]
    by_cases hk : k = f
    · rw [if_pos hk, List.length_cons, List.length_cons]; omega
    · rw [if_neg hk, List.length_cons, List.length_cons]; omega

theorem RelO.some_of {v : V} {o : Option Value} (r : RelO (some v) o) : ∃ u, o = some u ∧ RelV v u := by
  cases o with
  | none => exact (show False from r).elim
  | some u => exact ⟨u, rfl, r⟩
theorem RelO.none_of {o : Option Value} (r : RelO none o) : o = none := by
  cases o with
  | none => rfl
  | some u => exact (show False from r).elim
theorem handed_of {v : V} {u : Value} (r : RelV v u) : PySem.W.handedIn u = true := by
  cases v with
  | non => cases (show u = Value.none from r); rfl
  | bl b => cases (show u = Value.bool b from r); rfl
  | int i => obtain ⟨t, e⟩ := (show ∃ t, u = Value.int i t from r); cases e; rfl
  | str x => obtain ⟨t, e⟩ := (show ∃ t, u = Value.str x t from r); cases e; rfl
  | byt b => obtain ⟨t, e⟩ := (show ∃ t, u = Value.bytes b t from r); cases e; rfl
  | flt b => obtain ⟨t, e⟩ := (show ∃ t, u = Value.float b t from r); cases e; rfl
  | ref a => cases (show u = Value.ref a from r); rfl
  | ty n => cases (show u = Value.type n from r); rfl

section
variable {P : Program} {w : World} {H H' : Hp} {h h' : Heap} {a C dx : Addr} {fs fs' : List (Str × V)}
theorem ins_get (hok : HOk P w H h) (e : H a = some (.ins C dx fs)) : ∃ mA, ObjM h a dx C mA ∧ (∀ f, RelO (fs.lookup f) (mA f)) ∧ PySem.Within mA (fs.map (·.1)) ∧ fs.length ≤ 1000 ∧ H dx = some (.own a) := by
  obtain ⟨d, z, ne, ob, mA, n, r, q⟩ := (show ObjOk P w H h a (.ins C dx fs) from hok a _ e)
  exact ⟨mA, ⟨ob, n, ne⟩, r, q, z, d⟩
end

/-! ### what of the text a class must have -/
structure Cls (K : PySem.W.Frag) (C : Addr) : Prop where
  pg : PySem.W.plainGet K C Str.empty = true
  hd : PySem.W.hasDictIn K C = true
  po : PySem.W.plainOver K C = true
  sa : PySem.W.findIn K (.ref C) "__setattr__" = some (some (.builtin "object.__setattr__"))
theorem Cls.get {K : PySem.W.Frag} {C : Addr} (c : Cls K C) (f : Str) : PySem.W.plainGet K C f = true := c.pg
/-- no class of it has the name -/
def NoAttr (K : PySem.W.Frag) (C : Addr) (f : Str) : Prop := PySem.W.findIn K (.ref C) f = some none
theorem NoAttr.taker {K : PySem.W.Frag} {C : Addr} {f : Str} (n : NoAttr K C f) : PySem.W.takerIn K C f = some none := by
  unfold PySem.W.takerIn
  rw [show PySem.W.findIn K (.ref C) f = some none from n]
  rfl
/-- a constant of the class -/
structure Con (K : PySem.W.Frag) (C : Addr) (f : Str) (v : V) (u : Value) : Prop where
  at_ : PySem.W.findIn K (.ref C) f = some (some u)
  rel : RelV v u
  get : PySem.W.specialIn K u "__get__" = some none
  cp : PySem.W.copiedNames.contains f = false
/-- a method: a plain def of the class or of one above it -/
structure Meth (K : PySem.W.Frag) (C : Addr) (m : Str) (f : Addr) : Prop where
  at_ : PySem.W.findIn K (.ref C) m = some (some (.ref f))
  fn : PySem.W.isFn K (.ref f) = true
  kp : PySem.W.keepIn K (.ref f) = true

section
variable {X : Cx} {pins : List (Addr × Obj)} {σ : St} {H : Hp} {s : Shared} {a C dx : Addr} {fs : List (Str × V)} {f : Str} {v : V} {A : Around} {E : Value → Shared → Prop}

theorem getattr_ok {b : Bool} {Q : Value → Shared → Prop} (I : Inv X pins σ H s) (e : H a = some (.ins C dx fs)) (c : Cls X.K C) (n : NoAttr X.K C f) (l : fs.lookup f = some v)
    (h : ∀ u s', Inv X pins σ H s' → RelV v u → Q u s') : wpAny (model X.prog X.w) A (getAttr (.ref a) f b) Q E s := by
  obtain ⟨mA, O, r, _, _, _⟩ := ins_get I.hok e
  obtain ⟨u, hu, ru⟩ := RelO.some_of (v := v) (o := mA f) (by rw [← l]; exact r f)
  exact get_map I.kIn O (c.get f) c.hd n hu (handed_of ru) (h u _ (I.tok _) ru)

theorem getcon_ok {b : Bool} {u : Value} {Q : Value → Shared → Prop} (I : Inv X pins σ H s) (e : H a = some (.ins C dx fs)) (c : Cls X.K C) (k : Con X.K C f v u) (l : fs.lookup f = none)
    (h : ∀ s', Inv X pins σ H s' → Q u s') : wpAny (model X.prog X.w) A (getAttr (.ref a) f b) Q E s := by
  obtain ⟨mA, O, r, _, _, _⟩ := ins_get I.hok e
  have hn : mA f = none := RelO.none_of (by rw [← l]; exact r f)
  exact get_const I.kIn O (c.get f) c.hd k.at_ k.get k.cp hn (handed_of k.rel) (h _ (I.tok _))

theorem getmeth_ok {m : Str} {g : Addr} {pl : Sem Bool} {Q : Value × List Value → Shared → Prop} (I : Inv X pins σ H s) (e : H a = some (.ins C dx fs)) (c : Cls X.K C) (k : Meth X.K C m g) (l : fs.lookup m = none)
    (h : Q (.ref g, [.ref a]) s) : wpAny (model X.prog X.w) A (getMethod (.ref a) m pl) Q E s := by
  obtain ⟨mA, O, r, _, _, _⟩ := ins_get I.hok e
  have hn : mA m = none := RelO.none_of (by rw [← l]; exact r m)
  exact get_meth I.kIn O (c.get m) k.at_ k.fn hn h

theorem setattr_ok {y : V} {u : Value} {Q : Unit → Shared → Prop} (I : Inv X pins σ H s) (e : H a = some (.ins C dx fs)) (c : Cls X.K C) (n : NoAttr X.K C f) (hl : fs.length < 1000) (ry : RelV y u)
    (h : ∀ s', Inv X pins σ (upd H a (.ins C dx (putF f y fs))) s' → Q () s') : wpAny (model X.prog X.w) A (setAttr (.ref a) f u) Q E s := by
  obtain ⟨mA, O, r, wi, _, ho⟩ := ins_get I.hok e
  have hz : (fs.map (·.1)).length ≤ sizeLine := by rw [List.length_map, sizeLine_eq]; omega
  refine set_map I.kIn O c.sa c.po n.taker c.hd wi hz fun h' O' sb => h _ ?_
  have hd : ∃ o, h'.get? dx = some o := let ⟨o, _, _, e', _⟩ := O'.ns; ⟨o, e'⟩
  refine I.write (x := a) (e := dx) (by rw [e]; exact True.intro) (.inr ho) (fun b q hb z => (sb.2 b hb).trans z) hd ?_
  refine ⟨by rw [upd_ne O.ne]; exact ho, ?_, O.ne, O'.obj, _, O'.ns, fun g => ?_, fun g hg => ?_⟩
  · have := length_putF f y fs; omega
  · show RelO ((putF f y fs).lookup g) (if g = f then some u else mA g)
    rw [lookup_putF]
    by_cases q : g = f
    · rw [if_pos q, if_pos q]; exact ry
    · rw [if_neg q, if_neg q]; exact r g
  · by_cases q : g = f
    · rw [q]; exact (keys_putF f y fs).1
    · refine (keys_putF f y fs).2 g (wi g fun z => hg ?_)
      show (if g = f then some u else mA g) = none
      rw [if_neg q]; exact z

/-- a new instance, tracked, without attributes -/
theorem Inv.made (I : Inv X pins σ H s) : Inv X pins σ (upd (upd H s.heap.objs.size (.own (s.heap.objs.size + 1))) (s.heap.objs.size + 1) (.ins C s.heap.objs.size []))
    { s with heap := (s.heap.push PySem.W.emptyDict).push (PySem.W.instObj C s.heap.objs.size) } := by
  have e1 : (s.heap.push PySem.W.emptyDict).get? s.heap.objs.size = some PySem.W.emptyDict := Heap.get?_push_size s.heap rfl
  have e2 : ((s.heap.push PySem.W.emptyDict).push (PySem.W.instObj C s.heap.objs.size)).get? (s.heap.objs.size + 1) = some (PySem.W.instObj C s.heap.objs.size) := by
    have := Heap.get?_push_size (s.heap.push PySem.W.emptyDict) (o := PySem.W.instObj C s.heap.objs.size) rfl
    rwa [Heap.size_push] at this
  have e3 : (s.heap.push PySem.W.emptyDict).Ns s.heap.objs.size (fun _ => none) := ⟨PySem.W.emptyDict, #[], _, e1, rfl, (fun e he => absurd he (by simp)), fun _ => rfl⟩
  have I1 := I.laid (a := s.heap.objs.size) (o := .own (s.heap.objs.size + 1)) (h' := s.heap.push PySem.W.emptyDict) (t' := s.toks) (fun b u q => Heap.get?_push_of_some _ q) (Nat.le_refl _) ⟨_, e1⟩
  refine I1.laid (a := s.heap.objs.size + 1) (o := .ins C s.heap.objs.size []) (t' := s.toks) (fun b u q => Heap.get?_push_of_some _ q) (Nat.le_of_eq (Heap.size_push _ _)) ?_
  have ne : s.heap.objs.size ≠ s.heap.objs.size + 1 := Nat.ne_of_lt (Nat.lt_succ_self _)
  refine ⟨by rw [upd_ne ne, upd_same], Nat.zero_le _, ne, e2, fun _ => none, (Heap.Ns1.of_empty e3).at fun o q => Heap.get?_push_of_some _ q, fun _ => True.intro, fun y hy => absurd rfl hy⟩

/-- e.f where nothing but the object is asked: through attributeBase (super) and the last hold -/
theorem attr_of {prog : Program} {w : World} {env : Env} {e : Expr} {f : Str} {pos : Pos} {s : Shared} {Q : Value → Shared → Prop} (hb : attributeBase e f env (eval e env) = eval e env)
    (h : wpAny (model prog w) A (eval e env) (fun o s₁ => wpAny (model prog w) A (getAttr o f true) Q E s₁) E s) : wpAny (model prog w) A (eval (.Attribute e f pos) env) Q E s :=
  Attribute_any_ h (by rw [arm_eval_Attribute, hb])
end

/-! ### readings and rules -/
/-- e.f, an attribute of the instance -/
def tFld (K : PySem.W.Frag) (ta : TE) (f : Str) : TE := fun σ H Q => ta σ H fun x H1 => ∃ a C dx fs v, x = .ref a ∧ H1 a = some (.ins C dx fs) ∧ Cls K C ∧ NoAttr K C f ∧ fs.lookup f = some v ∧ Q v H1
/-- e.f, a constant of the class -/
def tCon (K : PySem.W.Frag) (ta : TE) (f : Str) : TE := fun σ H Q => ta σ H fun x H1 => ∃ a C dx fs v u, x = .ref a ∧ H1 a = some (.ins C dx fs) ∧ Cls K C ∧ Con K C f v u ∧ fs.lookup f = none ∧ Q v H1
/-- e.f = value -/
def sFld (K : PySem.W.Frag) (ta tv : TE) (f : Str) : TS := fun D σ H => tv σ H fun y H1 => ta σ H1 fun x H2 => ∃ a C dx fs, x = .ref a ∧ H2 a = some (.ins C dx fs) ∧ Cls K C ∧ NoAttr K C f ∧ fs.length < 1000 ∧
  D.nx σ (upd H2 a (.ins C dx (putF f y fs)))
/-- an augmented operator on two values -/
def InOp (X : Cx) (op : Operator) (rd : V → V → Hp → VK → Prop) : Prop :=
  ∀ (pins : List (Addr × Obj)) (s : Shared) (σ : St) (H : Hp) (x y : V) (u v : Value) (Q : VK), Inv X pins σ H s → RelV x u → RelV y v → rd x y H Q → wpAny (model X.prog X.w) X.A (inplaceOp op u v) (EP X pins σ Q) X.xe s
/-- e.f op= value -/
def sFldAug (K : PySem.W.Frag) (ta tv : TE) (rd : V → V → Hp → VK → Prop) (f : Str) : TS := fun D σ H => ta σ H fun x H1 => ∃ a C dx fs v, x = .ref a ∧ H1 a = some (.ins C dx fs) ∧ Cls K C ∧ NoAttr K C f ∧ fs.lookup f = some v ∧
  tv σ H1 fun y H2 => rd v y H2 fun z H3 => ∃ dx' fs', H3 a = some (.ins C dx' fs') ∧ fs'.length < 1000 ∧ D.nx σ (upd H3 a (.ins C dx' (putF f z fs')))

section
variable {X : Cx} {o e value : Expr} {f : Str} {pos pos' tpos : Pos} {ta tv : TE}
theorem pe_fld (he : PE X e ta) (hb : attributeBase e f X.env (eval e X.env) = eval e X.env) : PE X (.Attribute e f pos) (tFld X.K ta f) := by
  intro pins s σ H Q I h
  refine attr_of hb (thn (he pins s σ H _ I h) fun u s1 ⟨x, H1, I1, rx, a, C, dx, fs, v, ex, ea, c, n, l, q⟩ => ?_)
  subst ex
  obtain rfl : u = Value.ref a := rx
  exact getattr_ok I1 ea c n l fun u' s2 I2 ru => ⟨v, H1, I2, ru, q⟩
theorem pe_con (he : PE X e ta) (hb : attributeBase e f X.env (eval e X.env) = eval e X.env) : PE X (.Attribute e f pos) (tCon X.K ta f) := by
  intro pins s σ H Q I h
  refine attr_of hb (thn (he pins s σ H _ I h) fun u s1 ⟨x, H1, I1, rx, a, C, dx, fs, v, u0, ex, ea, c, k, l, q⟩ => ?_)
  subst ex
  obtain rfl : u = Value.ref a := rx
  exact getcon_ok I1 ea c k l fun s2 I2 => ⟨v, H1, I2, k.rel, q⟩
theorem ps_fld (ha : PE X o ta) (hv : PE X value tv) (hs : swapsWith value (some (.Attribute o f pos')) pos.line X.env = pure false) : PS X (.Assign [.Attribute o f pos'] value pos) (sFld X.K ta tv f) := by
  intro pins s σ H D I h
  refine plainObj_wpAny_Assign_Attribute (thn (hv pins s σ H _ I h) fun u s1 ⟨y, H1, I1, ry, q⟩ => thn (ha pins s1 σ H1 _ I1 q) fun ov s2 ⟨x, H2, I2, rx, a, C, dx, fs, ex, ea, c, n, l, q2⟩ => ?_) hs
  subst ex
  obtain rfl : ov = Value.ref a := rx
  exact setattr_ok I2 ea c n l ry fun s3 I3 => ⟨σ, _, I3, q2⟩
theorem ps_fldaug {op : Operator} {rd : V → V → Hp → VK → Prop} (ha : PE X o ta) (hv : PE X value tv) (hop : InOp X op rd) : PS X (.AugAssign (.Attribute o f tpos) op value pos) (sFldAug X.K ta tv rd f) := by
  intro pins s σ H D I h
  refine wpAny_AugAssign_AttributeAny (thn (ha pins s σ H _ I h) fun ov s1 ⟨x, H1, I1, rx, a, C, dx, fs, v, ex, ea, c, n, l, q⟩ => ?_)
  subst ex
  obtain rfl : ov = Value.ref a := rx
  refine getattr_ok I1 ea c n l fun u s2 I2 ru => thn (hv pins s2 σ H1 _ I2 q) fun w3 s3 ⟨y, H2, I3, ry, q3⟩ => thn (hop pins s3 σ H2 v y u w3 _ I3 ru ry q3) fun w4 s4 ⟨z, H3, I4, rz, dx', fs', ea', l', q4⟩ => ?_
  exact setattr_ok I4 ea' c n l' rz fun s5 I5 => ⟨σ, _, I5, q4⟩
def rAdd : V → V → Hp → VK → Prop := fun x y H Q => ∃ i j, x = .int i ∧ y = .int j ∧ Q (.int (i + j)) H
def rSub : V → V → Hp → VK → Prop := fun x y H Q => ∃ i j, x = .int i ∧ y = .int j ∧ Q (.int (i - j)) H
theorem in_add : InOp X .Add rAdd := by
  rintro pins s σ H x y u v Q I rx ry ⟨i, j, rfl, rfl, q⟩
  obtain ⟨t, rfl⟩ := (show ∃ t, u = Value.int i t from rx)
  obtain ⟨t', rfl⟩ := (show ∃ t', v = Value.int j t' from ry)
  exact PyProof.Rows.iadd_int ⟨.int (i + j), H, I.tok _, ⟨_, rfl⟩, q⟩
theorem in_sub : InOp X .Sub rSub := by
  rintro pins s σ H x y u v Q I rx ry ⟨i, j, rfl, rfl, q⟩
  obtain ⟨t, rfl⟩ := (show ∃ t, u = Value.int i t from rx)
  obtain ⟨t', rfl⟩ := (show ∃ t', v = Value.int j t' from ry)
  exact PyProof.Rows.isub_int ⟨.int (i - j), H, I.tok _, ⟨_, rfl⟩, q⟩

/-- what is between an instance and its method: the tree of a method call -/
theorem methcall_of {pl : Sem Bool} {m : Str} {apos : Pos} {args : List Expr} {pins : List (Addr × Obj)} {s : Shared} {σ : St} {H : Hp} {Q : Value → Shared → Prop} {te : TE} (he : PE X e te) (I : Inv X pins σ H s)
    (h : te σ H fun x H1 => ∃ a C dx fs g, x = .ref a ∧ H1 a = some (.ins C dx fs) ∧ Cls X.K C ∧ Meth X.K C m g ∧ fs.lookup m = none ∧
      ∀ s1, Inv X pins σ H1 s1 → wpAny (model X.prog X.w) X.A (callWith pos (.ref g) [.ref a] (backTo pos (starEach args X.env)) (backToKw pos (keywordEach [] X.env))) Q X.xe s1)
    (ht : eval (.Call (.Attribute e m apos) args [] pos) X.env = (do
      let ov ← eval e X.env
      standAt apos.atName
      let (f, first) ← holding [ov] (getMethod ov m pl)
      callWith pos f first (backTo pos (starEach args X.env)) (backToKw pos (keywordEach [] X.env)))) :
    wpAny (model X.prog X.w) X.A (eval (.Call (.Attribute e m apos) args [] pos) X.env) Q X.xe s := by
  refine PySem.W.methodCall_KW (pl := pl) (thn (he pins s σ H _ I h) fun u s1 ⟨x, H1, I1, rx, a, C, dx, fs, g, ex, ea, c, k, l, q⟩ => ?_) ht
  subst ex
  obtain rfl : u = Value.ref a := rx
  exact getmeth_ok I1 ea c k l (q s1 I1)
end

/-! ### isinstance -/
section
variable {X : Cx} {pins : List (Addr × Obj)} {σ : St} {H : Hp} {s : Shared} {A : Around} {E : Value → Shared → Prop} {Q : Value → Shared → Prop} {c : Value} {b : Bool}
/-- the type of a value, as the fragment's deciders take it; for an instance its class -/
inductive TyOf (K : PySem.W.Frag) (H : Hp) : V → Value → Prop where
  | non : TyOf K H .non (.type "NoneType")
  | bl (x : Bool) : TyOf K H (.bl x) (.type "bool")
  | int (i : Int) : TyOf K H (.int i) (.type "int")
  | str (x : Str) : TyOf K H (.str x) (.type "str")
  | flt (x : UInt64) : TyOf K H (.flt x) (.type "float")
  | lst {a : Addr} {xs : List V} (e : H a = some (.lst xs)) : TyOf K H (.ref a) (.type "list")
  | frz {a : Addr} {o : Obj} {xs : List V} (e : H a = some (.frz o (.lst xs))) : TyOf K H (.ref a) (.type "list")
  | tup {a : Addr} {xs : List V} (e : H a = some (.tup xs)) : TyOf K H (.ref a) (.type "tuple")
  | dK {a : Addr} {kvs : List (Key × V)} (e : H a = some (.dK kvs)) : TyOf K H (.ref a) (.type "dict")
  | dT {a : Addr} {kvs : List (List Key × V)} (e : H a = some (.dT kvs)) : TyOf K H (.ref a) (.type "dict")
  | ins {a C dx : Addr} {fs : List (Str × V)} (e : H a = some (.ins C dx fs)) (cl : Cls K C) (ha : PySem.W.findIn K (.ref C) "__class__" = some (some (.builtin "object.__class__")))
      (hn : PySem.W.specialIn K (.builtin "object.__class__") "__get__" = some (some (.builtin "getset_descriptor.__get__"))) (htk : PySem.W.takesIn K (.builtin "object.__class__") = some true)
      (hm : PySem.W.mroIn K C (.type "object") = some true) : TyOf K H (.ref a) (.ref C)
/-- isinstance(x, c) for one class c, a built-in or an own one: kitOne's answer -/
theorem isinst_ok {x : V} {u t : Value} (I : Inv X pins σ H s) (rx : RelV x u) (ty : TyOf X.K H x t) (e : PySem.W.kitOne X.K t c = some b) (h : ∀ tk, Q (.bool b) { s with toks := tk }) :
    wpAny (model X.prog X.w) A (call (.builtin "isinstance") [u, c]) Q E s := by
  cases ty with
  | non => cases (show u = Value.none from rx); exact PySem.W.kia_one PySem.W.kitx_none I.kIn True.intro e (fun z => nomatch z) h
  | bl y => cases (show u = Value.bool y from rx); exact PySem.W.kia_one PySem.W.kitx_bool I.kIn True.intro e (fun z => nomatch z) h
  | int i => obtain ⟨t, q⟩ := (show ∃ t, u = Value.int i t from rx); cases q; exact PySem.W.kia_one PySem.W.kitx_int I.kIn True.intro e (fun z => nomatch z) h
  | str y => obtain ⟨t, q⟩ := (show ∃ t, u = Value.str y t from rx); cases q; exact PySem.W.kia_one PySem.W.kitx_str I.kIn True.intro e (fun z => nomatch z) h
  | flt y => obtain ⟨t, q⟩ := (show ∃ t, u = Value.float y t from rx); cases q; exact PySem.W.kia_one PySem.W.kitx_float I.kIn True.intro e (fun z => nomatch z) h
  | @lst a xs ea =>
    cases (show u = Value.ref a from rx)
    obtain ⟨_, _, n, _, h1⟩ := (show ObjOk X.prog X.w H s.heap a (.lst xs) from I.hok a _ ea)
    exact PySem.W.kia_one PySem.W.kitx_list I.kIn ⟨_, h1, rfl⟩ e (fun z => nomatch z) h
  | @frz a ob xs ea =>
    cases (show u = Value.ref a from rx)
    obtain ⟨_, _, _, n, _, h1⟩ := (show ObjOk X.prog X.w H s.heap a (.frz ob (.lst xs)) from I.hok a _ ea)
    exact PySem.W.kia_one PySem.W.kitx_list I.kIn ⟨_, h1, rfl⟩ e (fun z => nomatch z) h
  | @tup a xs ea =>
    cases (show u = Value.ref a from rx)
    obtain ⟨_, _, _, p⟩ := (show ObjOk X.prog X.w H s.heap a (.tup xs) from I.hok a _ ea)
    obtain ⟨o, h1, h2, _⟩ := p
    exact PySem.W.kia_one PySem.W.kitx_tuple I.kIn ⟨o, h1, h2⟩ e (fun z => nomatch z) h
  | @dK a kvs ea =>
    cases (show u = Value.ref a from rx)
    obtain ⟨_, _, vs, _, p⟩ := (show ObjOk X.prog X.w H s.heap a (.dK kvs) from I.hok a _ ea)
    obtain ⟨o, es, ep, h1, h2, _⟩ := p
    exact PySem.W.kia_one PySem.W.kitx_dict I.kIn ⟨o, h1, h2.1⟩ e (fun z => nomatch z) h
  | @dT a kvs ea =>
    cases (show u = Value.ref a from rx)
    obtain ⟨_, _, xs, _, o, es, ep, h1, h2, _⟩ := (show ObjOk X.prog X.w H s.heap a (.dT kvs) from I.hok a _ ea)
    exact PySem.W.kia_one PySem.W.kitx_dict I.kIn ⟨o, h1, h2.1⟩ e (fun z => nomatch z) h
  | @ins a C dx fs ea cl ha hn htk hm =>
    cases (show u = Value.ref a from rx)
    obtain ⟨mA, O, _⟩ := ins_get I.hok ea
    obtain ⟨od, J, _⟩ := O.look
    exact PySem.W.kia_one (PySem.W.kitx_own (cl.get _) cl.hd ha hn htk hm) I.kIn J e (fun z => nomatch z) h
end
end L2

namespace L2
open PySem PySem.Spec PyProof.Rows

/-! ### room -/
structure Room (k : Nat) (A : Around) : Prop where
  hd : A.handled = none
  dp : A.depth + 3 * k + 5 < recursionLimit
  un : A.units + 16 * k + 200 < cLine
theorem Room.mono {j k : Nat} {A : Around} (r : Room k A) (h : j ≤ k) : Room j A := ⟨r.hd, by have := r.dp; omega, by have := r.un; omega⟩
theorem Room.deeper {k : Nat} {A : Around} (r : Room (k + 1) A) (env : Env) : Room k (A.deeper env) :=
  ⟨r.hd, by have := r.dp; show A.depth + 1 + 3 * k + 5 < _; omega, by have := r.un; show A.units + 3 + 16 * k + 200 < _; omega⟩
theorem Room.in1 {k : Nat} {A : Around} (r : Room (k + 1) A) : Room k A.in1 :=
  ⟨r.hd, by have := r.dp; show A.depth + 3 * k + 5 < _; omega, by have := r.un; show A.units + 1 + 16 * k + 200 < _; omega⟩
theorem make_depth {A : Around} {C : Addr} {us : List Value} {kw : List (Str × Value)} : (A.under (.builtin "type.__call__" ⟨.ref C :: us, kw⟩)).depth = A.depth + 1 := by
  first | rfl | simp [Around.under, Code.weight, Code.isCreation, Code.isGuard, Code.isCaller, Code.frames, Code.isFrame, guardIds]
theorem make_units {A : Around} {C : Addr} {us : List Value} {kw : List (Str × Value)} : (A.under (.builtin "type.__call__" ⟨.ref C :: us, kw⟩)).units = A.units + 1 := by
  first | rfl | simp [Around.under, Code.cUnits, Code.frames, Code.isFrame]
theorem Room.make {k : Nat} {A : Around} (r : Room (k + 1) A) (C : Addr) (us : List Value) (kw : List (Str × Value)) : Room k (A.under (.builtin "type.__call__" ⟨.ref C :: us, kw⟩)) :=
  ⟨r.hd, by have := r.dp; rw [make_depth]; omega, by have := r.un; rw [make_units]; omega⟩
theorem Room.depth {k : Nat} {A : Around} (r : Room k A) : A.depth < recursionLimit := by have := r.dp; omega
theorem Room.units {k : Nat} {A : Around} (r : Room k A) : A.units + 64 < cLine := by have := r.un; omega
theorem Room.units0 {k : Nat} {A : Around} (r : Room k A) : A.units < cLine := by have := r.un; omega

/-! ### argument lists and displays -/
def tNil : TA := fun _ H Q => Q [] H
def tCons (ta : TE) (tr : TA) : TA := fun σ H Q => ta σ H fun x H1 => tr σ H1 fun xs H2 => Q (x :: xs) H2
section
variable {X : Cx} {e : Expr} {es : List Expr} {te : TE} {t : TA} {pos : Pos}
theorem pa_nil : PA X [] tNil := fun _ _ _ _ H Q I h => Calls.spliced_nil ⟨[], H, I, .nil, h⟩
theorem pa_cons (ha : PE X e te) (hr : PA X es t) (hs : starEach (e :: es) X.env = (false, eval e X.env) :: starEach es X.env := by rfl) : PA X (e :: es) (tCons te t) := by
  intro pos pins s σ H Q I h
  rw [hs]
  show wpAny _ _ (spliced ((false, eval e X.env) :: backTo pos (starEach es X.env))) _ _ s
  refine Calls.spliced_cons (thn (ha pins s σ H _ I h) fun u s1 ⟨x, H1, I1, r1, q1⟩ => ?_)
  exact thn (hr pos pins s1 σ H1 _ I1 q1) fun us s2 ⟨xs, H2, I2, r2, q2⟩ => ⟨x :: xs, H2, I2, .cons r1 r2, q2⟩

/-- a tuple, a list of written items -/
def tTup (t : TA) : TE := fun σ H Q => t σ H fun xs H1 => xs.length ≤ sizeLine ∧ ∀ p, H1 p = none → Q (.ref p) (upd H1 p (.tup xs))
def tLst (t : TA) : TE := fun σ H Q => t σ H fun xs H1 => xs.length ≤ sizeLine ∧ ∀ p, H1 p = none → Q (.ref p) (upd H1 p (.lst xs))
theorem pe_tup {x1} (h : PA X es t) : PE X (.Tuple es x1 pos) (tTup t) := by
  intro pins s σ H Q I hq
  refine wpAny_Tuple_spliced (thn (h pos pins s σ H _ I hq) fun us s1 ⟨xs, H1, I1, r, z, q⟩ => ⟨by rw [← r.length]; exact z, ?_⟩)
  have hf : H1 s1.heap.objs.size = none := I1.hok.fresh (Nat.le_refl _)
  refine ⟨.ref s1.heap.objs.size, upd H1 s1.heap.objs.size (.tup xs), I1.laid (t' := s1.toks) (fun b u e => Heap.get?_push_of_some _ e) (Nat.le_refl _) ?_, rfl, q _ hf⟩
  exact ⟨z, us, r, ⟨_, Heap.get?_push_size _ rfl, rfl, _, rfl⟩⟩
theorem pe_lst (h : PA X es t) : PE X (.List es pos) (tLst t) := by
  intro pins s σ H Q I hq
  refine wpAny_List_spliced (thn (h pos pins s σ H _ I hq) fun us s1 ⟨xs, H1, I1, r, z, q⟩ => ⟨by rw [← r.length]; exact z, ?_⟩)
  have hf : H1 s1.heap.objs.size = none := I1.hok.fresh (Nat.le_refl _)
  refine ⟨.ref s1.heap.objs.size, upd H1 s1.heap.objs.size (.lst xs), I1.laid (t' := s1.toks) (fun b u e => Heap.get?_push_of_some _ e) (Nat.le_refl _) ?_, rfl, q _ hf⟩
  exact ⟨z, us, 0, r, Heap.get?_push_size _ rfl⟩
end

/-! ### what a def promises -/
/-- a def's promise: the bound arguments in the parameters' order, the heap, the wanted end, the wanted exception -/
abbrev Sp := List V → Hp → VK → XK → Prop
/-- how an exception lies behind a call (file 08 gives it): the callers' frames, abstract heap and state ahead of the call, the wish, the exception, the state -/
abbrev CXT := List Env → Hp → Shared → XK → Value → Shared → Prop

/-- the state at a call -/
structure Env0 (P : Program) (w : World) (K : PySem.W.Frag) (mg : Str → Option Value) (base : Heap) (A : Around) (outer : List Env) (s : Shared) (H : Hp) : Prop where
  frames : A.frames = some outer
  mod : Mod K mg base
  bs : ∀ b o, base.get? b = some o → s.heap.get? b = some o ∧ H b = none
  bsz : base.objs.size ≤ s.heap.objs.size
  funs : s.heap.FunFrames base outer
  frf : ∀ b ∈ frs outer, H b = none
  hok : HOk P w H s.heap
  bare : AllBare s.gens
/-- a call's end -/
def CE (outer : List Env) (P : Program) (w : World) (H : Hp) (s : Shared) (Q : VK) (u : Value) (s' : Shared) : Prop :=
  ∃ v H', s'.os = s.os ∧ AllBare s'.gens ∧ Un (frs outer) [] H H' s.heap s'.heap ∧ HOk P w H' s'.heap ∧ RelV v u ∧ Q v H'
def CR (CX : CXT) (outer : List Env) (P : Program) (w : World) (H : Hp) (s : Shared) (Q : VK) (E : XK) (r : Result) (s' : Shared) : Prop :=
  match r with
  | .ok (.ret u) => CE outer P w H s Q u s'
  | .ok _ => False
  | .error e => CX outer H s E e s'
structure FnOk (P : Program) (w : World) (K : PySem.W.Frag) (mg : Str → Option Value) (base : Heap) (CX : CXT) (k : Nat) (f : Addr) (fd : FuncData) (ps : List Str) (sp : Sp) : Prop where
  len : ∀ vs H Q E, sp vs H Q E → vs.length = ps.length
  run : ∀ (A : Around) (outer : List Env) (s : Shared) (H : Hp) (args : Args) (us : List Value) (vs : List V) (Q : VK) (E : XK), Room k A → Env0 P w K mg base A outer s H → BindsTo s fd args (ps.zip us) → Vals vs us → sp vs H Q E →
    codeAny (model P w) A (.call (.ref f) args) (CR CX outer P w H s Q E) s
theorem FnOk.mono {P : Program} {w : World} {K : PySem.W.Frag} {mg : Str → Option Value} {base : Heap} {CX : CXT} {j k : Nat} {f : Addr} {fd : FuncData} {ps : List Str} {sp : Sp} (F : FnOk P w K mg base CX j f fd ps sp) (h : j ≤ k) :
    FnOk P w K mg base CX k f fd ps sp := ⟨F.len, fun A outer s H args us vs Q E hr => F.run A outer s H args us vs Q E (hr.mono h)⟩
/-- a weaker promise -/
theorem FnOk.imp {P : Program} {w : World} {K : PySem.W.Frag} {mg : Str → Option Value} {base : Heap} {CX : CXT} {k : Nat} {f : Addr} {fd : FuncData} {ps : List Str} {sp sp' : Sp} (F : FnOk P w K mg base CX k f fd ps sp)
    (h : ∀ vs H Q E, sp' vs H Q E → sp vs H Q E) : FnOk P w K mg base CX k f fd ps sp' :=
  ⟨fun vs H Q E q => F.len vs H Q E (h _ _ _ _ q), fun A outer s H args us vs Q E hr he hb hv hs => F.run A outer s H args us vs Q E hr he hb hv (h _ _ _ _ hs)⟩

theorem Env0.make {P : Program} {w : World} {K : PySem.W.Frag} {mg : Str → Option Value} {base : Heap} {A : Around} {outer : List Env} {s : Shared} {H : Hp} (e : Env0 P w K mg base A outer s H) (C : Addr) (us : List Value) (kw : List (Str × Value)) :
    Env0 P w K mg base (A.under (.builtin "type.__call__" ⟨.ref C :: us, kw⟩)) outer s H := ⟨by first | exact e.frames | (simpa [Around.under, Code.envs, Code.isFrame, pushEnvs] using e.frames), e.mod, e.bs, e.bsz, e.funs, e.frf, e.hok, e.bare⟩
theorem Env0.in1 {P : Program} {w : World} {K : PySem.W.Frag} {mg : Str → Option Value} {base : Heap} {A : Around} {outer : List Env} {s : Shared} {H : Hp} (e : Env0 P w K mg base A outer s H) :
    Env0 P w K mg base A.in1 outer s H := ⟨e.frames, e.mod, e.bs, e.bsz, e.funs, e.frf, e.hok, e.bare⟩

section
variable {X : Cx} {pins : List (Addr × Obj)} {σ : St} {H : Hp} {s s' : Shared}
/-- from a body: what a callee wants -/
theorem Inv.env0 (I : Inv X pins σ H s) : Env0 X.prog X.w X.K X.mg X.base X.A X.stack s H :=
  ⟨I.ok.frames, I.ok.mod, I.bs, Nat.le_trans I.ok.bsz I.sz, I.stack, I.stkFree, I.hok, I.bare⟩
/-- behind a call -/
theorem Inv.after {Q : VK} {u : Value} (I : Inv X pins σ H s) (h : CE X.stack X.prog X.w H s Q u s') : EP X pins σ Q u s' := by
  obtain ⟨v, H', os, bare, un, hok, r, q⟩ := h
  obtain ⟨hh, g, d, t, os'⟩ := s'
  obtain rfl : os' = s.os := os
  exact ⟨v, H', I.call (h' := hh) (g' := g) (d' := d) (t' := t) (ch := []) un hok bare (fun b z => absurd z (by simp)), r, q⟩
end

/-! ### calls -/
/-- f(..): the written arguments, then the defaults dvs; E: what is wanted of an exception -/
def tCall (sp : Sp) (dvs : List V) (E : XK) (t : TA) : TE := fun σ H Q => t σ H fun vs H1 => sp (vs ++ dvs) H1 Q E
/-- o.m(..) of an instance of the class at C -/
def tMeth (C : Addr) (m : Str) (sp : Sp) (dvs : List V) (E : XK) (ta : TE) (t : TA) : TE := fun σ H Q => ta σ H fun x H1 => ∃ a dx fs, x = .ref a ∧ H1 a = some (.ins C dx fs) ∧ fs.lookup m = none ∧
  t σ H1 fun vs H2 => sp (x :: (vs ++ dvs)) H2 Q E
/-- C(..): a new instance and its dict, then __init__ -/
def tMake (C : Addr) (sp : Sp) (dvs : List V) (E : XK) (t : TA) : TE := fun σ H Q => t σ H fun vs H1 => ∀ x dx, H1 x = none → H1 dx = none → dx ≠ x →
  sp (.ref x :: (vs ++ dvs)) (upd (upd H1 dx (.own x)) x (.ins C dx [])) (fun v H2 => v = .non ∧ Q (.ref x) H2) E

/-- how the parameters are bound: us the positional arguments, kw the keywords' values by name, ds the defaults that fill up -/
def Binds (K : PySem.W.Frag) (fd : FuncData) (ps : List Str) (ds : List Value) : Prop :=
  ∀ (s : Shared) (us : List Value), K.In s.heap → (us ++ ds).length = ps.length → BindsTo s fd ⟨us, []⟩ (ps.zip (us ++ ds))
/-- every parameter is given -/
theorem Binds.all {K : PySem.W.Frag} {fd : FuncData} {ps : List Str} (h : ∀ us : List Value, us.length = ps.length → bindArgs fd ⟨us, []⟩ = pure (ps.zip us)) : Binds K fd ps [] := fun s us _ hl => by
  rw [List.append_nil] at hl ⊢
  exact .of_eq (h us hl)

/-- an exception of a callee reaches what this body wants of exceptions -/
def Passes (CX : CXT) (X : Cx) (E : XK) : Prop := ∀ (pins : List (Addr × Obj)) (σ : St) (H : Hp) (s : Shared) (e : Value) (s' : Shared), Inv X pins σ H s → CX X.stack H s E e s' → X.xe e s'

section
variable {X : Cx} {CX : CXT} {k : Nat} {f C : Addr} {fd : FuncData} {ps : List Str} {sp : Sp} {dvs : List V} {ds : List Value} {E : XK} {x m : Str} {p pos apos : Pos} {e o : Expr} {es : List Expr} {ta : TE} {t : TA}

/-- the callee runs -/
theorem run_fn {pins : List (Addr × Obj)} {σ : St} {H : Hp} {s : Shared} {Q : VK} {us : List Value} {vs : List V} (F : FnOk X.prog X.w X.K X.mg X.base CX k f fd ps sp) (hr : Room k X.A) (hb : Binds X.K fd ps ds) (hd : Vals dvs ds) (hx : Passes CX X E)
    (I : Inv X pins σ H s) (r : Vals vs us) (h : sp (vs ++ dvs) H Q E) : wpAny (model X.prog X.w) X.A (call (.ref f) us) (EP X pins σ Q) X.xe s := by
  have r2 : Vals (vs ++ dvs) (us ++ ds) := r.append hd
  have hl : (us ++ ds).length = ps.length := by rw [← r2.length]; exact F.len _ _ _ _ h
  refine wpAny_call (codeAny_mono (F.run X.A X.stack s H ⟨us, []⟩ (us ++ ds) (vs ++ dvs) Q E hr I.env0 (hb s us I.kIn hl) r2 h) fun r s' hq => ?_)
  cases r with
  | error e => exact hx pins σ H s e s' I hq
  | ok fl =>
    cases fl with
    | ret u => exact I.after hq
    | next => exact False.elim hq
    | brk => exact False.elim hq
    | cont => exact False.elim hq

theorem pe_call (F : FnOk X.prog X.w X.K X.mg X.base CX k f fd ps sp) (hr : Room k X.A) (hg : Gl X x) (hm : X.mg x = some (.ref f)) (hk : PySem.W.keepIn X.K (.ref f) = true) (hb : Binds X.K fd ps ds) (hd : Vals dvs ds) (hx : Passes CX X E)
    (ha : PA X (e :: es) t) (hdb : (x == ("__debug__" : Str)) = false := by decide) (he : starEach (e :: es) X.env = (false, eval e X.env) :: starEach es X.env := by rfl) (hpl : (backTo pos (starEach es X.env)).any (·.1) = false := by rfl) :
    PE X (.Call (.Name x p) (e :: es) [] pos) (tCall sp dvs E t) := by
  intro pins s σ H Q I h
  refine wpAny_Call_Name_kw (ld_glob I hg hm ?_ hdb)
  refine PySem.W.callWith_K (h₀ := X.base) I.ok.mod.kin hk (thn (ha pos pins s σ H _ I h) fun us s1 ⟨vs, H1, I1, r, q⟩ => ⟨I1.kIn, ?_⟩) he hpl
  exact run_fn F hr hb hd hx I1 r q
theorem pe_call0 (F : FnOk X.prog X.w X.K X.mg X.base CX k f fd ps sp) (hr : Room k X.A) (hg : Gl X x) (hm : X.mg x = some (.ref f)) (hk : PySem.W.keepIn X.K (.ref f) = true) (hb : Binds X.K fd ps ds) (hd : Vals dvs ds) (hx : Passes CX X E)
    (hdb : (x == ("__debug__" : Str)) = false := by decide) : PE X (.Call (.Name x p) [] [] pos) (tCall sp dvs E tNil) := by
  intro pins s σ H Q I h
  refine wpAny_Call_Name_kw (ld_glob I hg hm ?_ hdb)
  exact PySem.W.callWith_K0 I.kIn hk (run_fn (us := []) F hr hb hd hx I .nil h)

/-- o.m(e, ..) -/
theorem pe_meth {pl : Sem Bool} (he : PE X o ta) (c : Cls X.K C) (hm : Meth X.K C m f) (F : FnOk X.prog X.w X.K X.mg X.base CX k f fd ps sp) (hr : Room k X.A) (hb : Binds X.K fd ps ds) (hd : Vals dvs ds) (hx : Passes CX X E) (ha : PA X (e :: es) t)
    (hst : starEach (e :: es) X.env = (false, eval e X.env) :: starEach es X.env := by rfl) (hpl : (backTo pos (starEach es X.env)).any (·.1) = false := by rfl)
    (ht : eval (.Call (.Attribute o m apos) (e :: es) [] pos) X.env = (do
      let ov ← eval o X.env
      standAt apos.atName
      let (f, first) ← holding [ov] (getMethod ov m pl)
      callWith pos f first (backTo pos (starEach (e :: es) X.env)) (backToKw pos (keywordEach [] X.env))) := by rfl) :
    PE X (.Call (.Attribute o m apos) (e :: es) [] pos) (tMeth C m sp dvs E ta t) := by
  intro pins s σ H Q I h
  refine PySem.W.methodCall_KW (pl := pl) (thn (he pins s σ H _ I h) fun u s1 ⟨x, H1, I1, rx, a, dx, fs, ex, ea, l, q⟩ => ?_) ht
  subst ex
  obtain rfl : u = Value.ref a := rx
  refine getmeth_ok I1 ea c hm l ?_
  refine PySem.W.callWith_K (first := [.ref a]) (h₀ := X.base) I.ok.mod.kin hm.kp (thn (ha pos pins s1 σ H1 _ I1 q) fun us s2 ⟨vs, H2, I2, r, q2⟩ => ⟨I2.kIn, ?_⟩) hst hpl
  exact run_fn (us := .ref a :: us) (vs := .ref a :: vs) F hr hb hd hx I2 (.cons rfl r) q2
/-- o.m() -/
theorem pe_meth0 {pl : Sem Bool} (he : PE X o ta) (c : Cls X.K C) (hm : Meth X.K C m f) (F : FnOk X.prog X.w X.K X.mg X.base CX k f fd ps sp) (hr : Room k X.A) (hb : Binds X.K fd ps ds) (hd : Vals dvs ds) (hx : Passes CX X E)
    (ht : eval (.Call (.Attribute o m apos) [] [] pos) X.env = (do
      let ov ← eval o X.env
      standAt apos.atName
      let (f, first) ← holding [ov] (getMethod ov m pl)
      callWith pos f first (backTo pos (starEach [] X.env)) (backToKw pos (keywordEach [] X.env))) := by rfl) :
    PE X (.Call (.Attribute o m apos) [] [] pos) (tMeth C m sp dvs E ta tNil) := by
  intro pins s σ H Q I h
  refine PySem.W.methodCall_KW (pl := pl) (thn (he pins s σ H _ I h) fun u s1 ⟨x, H1, I1, rx, a, dx, fs, ex, ea, l, q⟩ => ?_) ht
  subst ex
  obtain rfl : u = Value.ref a := rx
  refine getmeth_ok I1 ea c hm l ?_
  exact PySem.W.callWith_K0 (first := [.ref a]) I1.kIn hm.kp (run_fn (us := [.ref a]) (vs := [.ref a]) F hr hb hd hx I1 (.cons rfl .nil) q)

/-- what a class must have to be made -/
structure Mk (K : PySem.W.Frag) (C f : Addr) : Prop where
  makes : PySem.W.makesIn K C = true
  init : PySem.W.findIn K (.ref C) "__init__" = some (some (.ref f))
  fn : PySem.W.isFn K (.ref f) = true
  kp : PySem.W.keepIn K (.ref C) = true

theorem run_make {pins : List (Addr × Obj)} {σ : St} {H : Hp} {s : Shared} {Q : VK} {us : List Value} {vs : List V} (M : Mk X.K C f) (F : FnOk X.prog X.w X.K X.mg X.base CX k f fd ps sp) (hr : Room (k + 1) X.A) (hb : Binds X.K fd ps ds) (hd : Vals dvs ds)
    (hx : Passes CX X E) (I : Inv X pins σ H s) (r : Vals vs us)
    (h : ∀ x dx, H x = none → H dx = none → dx ≠ x → sp (.ref x :: (vs ++ dvs)) (upd (upd H dx (.own x)) x (.ins C dx [])) (fun v H2 => v = .non ∧ Q (.ref x) H2) E) :
    wpAny (model X.prog X.w) X.A (call (.ref C) us) (EP X pins σ Q) X.xe s := by
  have hq := h (s.heap.objs.size + 1) s.heap.objs.size (I.hok.fresh (Nat.le_succ _)) (I.hok.fresh (Nat.le_refl _)) (Nat.ne_of_lt (Nat.lt_succ_self _))
  have I2 := Inv.made (C := C) I
  have r2 : Vals (V.ref (s.heap.objs.size + 1) :: (vs ++ dvs)) (Value.ref (s.heap.objs.size + 1) :: (us ++ ds)) := .cons rfl (r.append hd)
  have hl : (Value.ref (s.heap.objs.size + 1) :: us ++ ds).length = ps.length := by
    have e := r2.length
    rw [F.len _ _ _ _ hq] at e
    exact e.symm
  refine wpAny_call (make_map (f := f) I.kIn M.makes M.init (beq_iff_eq.mp M.fn) (codeAny_mono (F.run _ X.stack _ _ ⟨Value.ref (s.heap.objs.size + 1) :: us, []⟩ (Value.ref (s.heap.objs.size + 1) :: (us ++ ds)) _ _ E (hr.make C us [])
    (I2.env0.make C us []) (hb _ (Value.ref (s.heap.objs.size + 1) :: us) I2.kIn hl) r2 hq) fun r s' hq' => ?_))
  cases r with
  | error e => exact hx pins σ _ _ e s' I2 hq'
  | ok fl =>
    cases fl with
    | ret u =>
      obtain ⟨v, H', I3, rv, ev, q3⟩ := I2.after hq'
      subst ev
      exact ⟨rv, ⟨V.ref (s.heap.objs.size + 1), H', I3, rfl, q3⟩⟩
    | next => exact False.elim hq'
    | brk => exact False.elim hq'
    | cont => exact False.elim hq'
theorem pe_make (M : Mk X.K C f) (F : FnOk X.prog X.w X.K X.mg X.base CX k f fd ps sp) (hr : Room (k + 1) X.A) (hg : Gl X x) (hm : X.mg x = some (.ref C)) (hb : Binds X.K fd ps ds) (hd : Vals dvs ds) (hx : Passes CX X E)
    (ha : PA X (e :: es) t) (hdb : (x == ("__debug__" : Str)) = false := by decide) (he : starEach (e :: es) X.env = (false, eval e X.env) :: starEach es X.env := by rfl) (hpl : (backTo pos (starEach es X.env)).any (·.1) = false := by rfl) :
    PE X (.Call (.Name x p) (e :: es) [] pos) (tMake C sp dvs E t) := by
  intro pins s σ H Q I h
  refine wpAny_Call_Name_kw (ld_glob I hg hm ?_ hdb)
  refine PySem.W.callWith_K (h₀ := X.base) I.ok.mod.kin M.kp (thn (ha pos pins s σ H _ I h) fun us s1 ⟨vs, H1, I1, r, q⟩ => ⟨I1.kIn, ?_⟩) he hpl
  exact run_make M F hr hb hd hx I1 r q
theorem pe_make0 (M : Mk X.K C f) (F : FnOk X.prog X.w X.K X.mg X.base CX k f fd ps sp) (hr : Room (k + 1) X.A) (hg : Gl X x) (hm : X.mg x = some (.ref C)) (hb : Binds X.K fd ps ds) (hd : Vals dvs ds) (hx : Passes CX X E)
    (hdb : (x == ("__debug__" : Str)) = false := by decide) : PE X (.Call (.Name x p) [] [] pos) (tMake C sp dvs E tNil) := by
  intro pins s σ H Q I h
  refine wpAny_Call_Name_kw (ld_glob I hg hm ?_ hdb)
  exact PySem.W.callWith_K0 I.kIn M.kp (run_make (us := []) M F hr hb hd hx I .nil h)
end

/-! ### keywords -/
/-- the values of the keywords, from the left -/
def PK (X : Cx) (kws : List Keyword) (t : TA) : Prop :=
  ∀ (pos : Pos) (pins : List (Addr × Obj)) (s : Shared) (σ : St) (H : Hp) (Q : List V → Hp → Prop), Inv X pins σ H s → t σ H Q → wpAny (model X.prog X.w) X.A (evalAll ((backToKw pos (keywordEach kws X.env)).map (·.2))) (AP X pins σ Q) X.xe s
section
variable {X : Cx} {CX : CXT} {k : Nat} {f C : Addr} {fd : FuncData} {ps ks : List Str} {sp : Sp} {E : XK} {x m : Str} {p pos apos kpos : Pos} {e o : Expr} {es : List Expr} {kws : List Keyword} {te ta : TE} {t tk : TA} {nm : Option Str}
theorem pk_nil : PK X [] tNil := fun _ _ _ _ H Q I h => wpAny_evalAll_nil ⟨[], H, I, .nil, h⟩
theorem pk_cons (ha : PE X e te) (hr : PK X kws t) : PK X (⟨nm, e, kpos⟩ :: kws) (tCons te t) := by
  intro pos pins s σ H Q I h
  show wpAny _ _ (evalAll ((do let v ← eval e X.env; standAt pos; pure v) :: (backToKw pos (keywordEach kws X.env)).map (·.2))) _ _ s
  refine wpAny_evalAll_cons (wpAny_bind (thn (ha pins s σ H _ I h) fun u s1 ⟨x, H1, I1, r1, q1⟩ => wpAny_bind (wpAny_standAt (wpAny_pure ?_))))
  exact thn (hr pos pins s1 σ H1 _ I1 q1) fun us s2 ⟨xs, H2, I2, r2, q2⟩ => ⟨x :: xs, H2, I2, .cons r1 r2, q2⟩

/-- how a call with keywords binds: g puts the positional values us and the keywords' values ws (names ks) in the parameters' order, defaults among them -/
structure KBinds (K : PySem.W.Frag) (fd : FuncData) (ps ks : List Str) (g : List Value → List Value → List Value) (gV : List V → List V → List V) : Prop where
  to : ∀ (s : Shared) (us ws : List Value), K.In s.heap → (g us ws).length = ps.length → BindsTo s fd ⟨us, ks.zip ws⟩ (ps.zip (g us ws))
  rel : ∀ {vs : List V} {us : List Value} {zs : List V} {ws : List Value}, Vals vs us → Vals zs ws → Vals (gV vs zs) (g us ws)
def tCallK (sp : Sp) (gV : List V → List V → List V) (E : XK) (t tk : TA) : TE := fun σ H Q => t σ H fun vs H1 => tk σ H1 fun zs H2 => sp (gV vs zs) H2 Q E
variable {g : List Value → List Value → List Value} {gV : List V → List V → List V}
theorem run_fnk {pins : List (Addr × Obj)} {σ : St} {H : Hp} {s : Shared} {Q : VK} {us ws : List Value} {vs zs : List V} (F : FnOk X.prog X.w X.K X.mg X.base CX k f fd ps sp) (hr : Room k X.A) (hb : KBinds X.K fd ps ks g gV) (hx : Passes CX X E)
    (I : Inv X pins σ H s) (r : Vals vs us) (rz : Vals zs ws) (h : sp (gV vs zs) H Q E) : wpAny (model X.prog X.w) X.A (call (.ref f) us (ks.zip ws)) (EP X pins σ Q) X.xe s := by
  have r2 := hb.rel r rz
  have hl : (g us ws).length = ps.length := by rw [← r2.length]; exact F.len _ _ _ _ h
  refine wpAny_call (codeAny_mono (F.run X.A X.stack s H ⟨us, ks.zip ws⟩ (g us ws) (gV vs zs) Q E hr I.env0 (hb.to s us ws I.kIn hl) r2 h) fun r s' hq => ?_)
  cases r with
  | error e => exact hx pins σ H s e s' I hq
  | ok fl =>
    cases fl with
    | ret u => exact I.after hq
    | next => exact False.elim hq
    | brk => exact False.elim hq
    | cont => exact False.elim hq
/-- f(e, .., k = v, ..) -/
theorem pe_callK (F : FnOk X.prog X.w X.K X.mg X.base CX k f fd ps sp) (hr : Room k X.A) (hg : Gl X x) (hm : X.mg x = some (.ref f)) (hk : PySem.W.keepIn X.K (.ref f) = true) (hb : KBinds X.K fd ps ks g gV) (hx : Passes CX X E)
    (ha : PA X (e :: es) t) (hkw : PK X kws tk) (hall : (backToKw pos (keywordEach kws X.env)).all (·.1.isSome) = true := by rfl) (hks : (backToKw pos (keywordEach kws X.env)).filterMap (·.1) = ks := by rfl)
    (hdb : (x == ("__debug__" : Str)) = false := by decide) (he : starEach (e :: es) X.env = (false, eval e X.env) :: starEach es X.env := by rfl)
    (hpl : ((backTo pos (starEach (e :: es) X.env)).any (·.1) || (backToKw pos (keywordEach kws X.env)).any (·.1.isNone)) = false := by rfl) :
    PE X (.Call (.Name x p) (e :: es) kws pos) (tCallK sp gV E t tk) := by
  intro pins s σ H Q I h
  refine wpAny_Call_Name_kw (ld_glob I hg hm ?_ hdb)
  refine PySem.W.callWith_KW (h₀ := X.base) I.ok.mod.kin hk hall (thn (ha pos pins s σ H _ I h) fun us s1 ⟨vs, H1, I1, r, q⟩ => ?_) hpl he
  refine thn (hkw pos pins s1 σ H1 _ I1 q) fun ws s2 ⟨zs, H2, I2, rz, q2⟩ => ⟨I2.kIn, ?_⟩
  rw [hks]
  exact run_fnk F hr hb hx I2 r rz q2
end

/-! ### a def's body keeps its promise -/
/-- names: the parameters first -/
structure FnScope (N P : List Str) (sc : Scope) : Prop where
  kind : sc.kind = .function
  co : sc.isCoroutine = false
  gen : sc.isGenerator = false
  nd : N.Nodup
  pre : N.take P.length = P
  par : ∀ x ∈ P, sc.names.lookup x = some .local ∨ sc.names.lookup x = some .cell
  nofree : ∀ y ∈ sc.names, y.2 ≠ .free

theorem bindL_out {kindOf : Str → Option NameKind} {x : Str} : ∀ {binds : List (Str × Value)} {m : Str → Option Value}, (∀ v, (x, v) ∉ binds) → bindL kindOf binds m x = m x
  | [], _, _ => rfl
  | (n, v) :: r, m, h => by
    unfold bindL
    rw [bindL_out fun w hw => h w (List.mem_cons_of_mem _ hw)]
    split
    · have : x ≠ n := by rintro rfl; exact h v List.mem_cons_self
      simp [this]
    · rfl
theorem bindC_out {kindOf : Str → Option NameKind} {x : Str} : ∀ {binds : List (Str × Value)} {m : Str → Option Value}, (∀ v, (x, v) ∉ binds) → bindC kindOf binds m x = m x
  | [], _, _ => rfl
  | (n, v) :: r, m, h => by
    unfold bindC
    rw [bindC_out fun w hw => h w (List.mem_cons_of_mem _ hw)]
    split
    · rfl
    · have : x ≠ n := by rintro rfl; exact h v List.mem_cons_self
      simp [this]
theorem bindL_get {kindOf : Str → Option NameKind} {x : Str} {v : Value} : ∀ {P : List Str} {vs : List Value} {i : Nat} {m : Str → Option Value}, P.Nodup → P[i]? = some x → vs[i]? = some v → kindOf x = some .local →
    bindL kindOf (P.zip vs) m x = some v
  | [], _, _, _, _, h, _, _ => by simp at h
  | _ :: _, [], _, _, _, _, h, _ => by simp at h
  | p :: P, w :: vs, 0, m, nd, h1, h2, hk => by
    simp at h1 h2; subst h1; subst h2
    show bindL kindOf ((p, w) :: P.zip vs) m p = _
    unfold bindL
    rw [bindL_out fun v hv => (List.nodup_cons.mp nd).1 (List.of_mem_zip hv).1, if_pos hk]
    simp
  | p :: P, w :: vs, i + 1, m, nd, h1, h2, hk => by
    show bindL kindOf ((p, w) :: P.zip vs) m x = _
    unfold bindL
    exact bindL_get (i := i) (List.nodup_cons.mp nd).2 (by simpa using h1) (by simpa using h2) hk
theorem bindC_get {kindOf : Str → Option NameKind} {x : Str} {v : Value} : ∀ {P : List Str} {vs : List Value} {i : Nat} {m : Str → Option Value}, P.Nodup → P[i]? = some x → vs[i]? = some v → kindOf x ≠ some .local →
    bindC kindOf (P.zip vs) m x = some v
  | [], _, _, _, _, h, _, _ => by simp at h
  | _ :: _, [], _, _, _, _, h, _ => by simp at h
  | p :: P, w :: vs, 0, m, nd, h1, h2, hk => by
    simp at h1 h2; subst h1; subst h2
    show bindC kindOf ((p, w) :: P.zip vs) m p = _
    unfold bindC
    rw [bindC_out fun v hv => (List.nodup_cons.mp nd).1 (List.of_mem_zip hv).1, if_neg hk]
    simp
  | p :: P, w :: vs, i + 1, m, nd, h1, h2, hk => by
    show bindC kindOf ((p, w) :: P.zip vs) m x = _
    unfold bindC
    exact bindC_get (i := i) (List.nodup_cons.mp nd).2 (by simpa using h1) (by simpa using h2) hk

/-- the names' values at the entry -/
def start (N : List Str) (vs : List V) : St := vs.map some ++ List.replicate (N.length - vs.length) none

/-- the context of a def's body, at its entry; an exception leaves the frame, then lies as CX says -/
def cxOf (CX : CXT) (P : Program) (w : World) (K : PySem.W.Frag) (mg : Str → Option Value) (base : Heap) (N : List Str) (qual : Str) (scope : Scope) (f : Addr) (cd : Value) (A : Around) (outer : List Env) (s : Shared) (H : Hp) (E : XK) : Cx where
  prog := P
  w := w
  K := K
  mg := mg
  base := base
  A := A.deeper (envOfC qual scope s.heap.objs.size f cd)
  N := N
  s₀ := s
  H₀ := H
  env := envOfC qual scope s.heap.objs.size f cd
  outer := outer
  stack := envOfC qual scope s.heap.objs.size f cd :: outer
  ex := []
  calm := true
  fn := fun _ => true
  pn := []
  xe := fun e s' => wpAny (model P w) (A.deeper (envOfC qual scope s.heap.objs.size f cd)) (leaving (envOfC qual scope s.heap.objs.size f cd) e) (fun _ s'' => CX outer H s E e s'') (fun e' s'' => CX outer H s E e' s'') s'

theorem cell_has {sc : Scope} {n : Nat} {x : Str} (h : sc.names.lookup x = some .cell) : ∃ c, (cellsFrom n sc.names []).lookup x = some c := by
  have q := PySem.W.cellsFrom_some sc.names n [] (.inl h)
  exact Option.isSome_iff_exists.mp q

theorem inv_start {CX : CXT} {P : Program} {w : World} {K : PySem.W.Frag} {mg : Str → Option Value} {base : Heap} {N ps : List Str} {qual : Str} {scope : Scope} {f : Addr} {cd : Value} {A : Around} {outer : List Env} {s s1 : Shared} {H : Hp} {E : XK} {us : List Value} {vs : List V}
    (S : FnScope N ps scope) (hd : A.handled = none) (e0 : Env0 P w K mg base A outer s H) (hl : vs.length = ps.length) (r : Vals vs us)
    (x : InCallC s s.heap.objs.size (bindL (envOfC qual scope s.heap.objs.size f cd).kindOf (ps.zip us) fun _ => none) (cellsFrom (s.heap.objs.size + 1) scope.names []) (bindC (envOfC qual scope s.heap.objs.size f cd).kindOf (ps.zip us) fun _ => none) s1) :
    Inv (cxOf CX P w K mg base N qual scope f cd A outer s H E) [] (start N vs) H s1 := by
  have hpl : ps.length ≤ N.length := by have := congrArg List.length S.pre; rw [List.length_take] at this; omega
  obtain ⟨h1, tk, rfl, hk⟩ := x.done
  have noA : ∀ b : Addr, b ∉ (cxOf CX P w K mg base N qual scope f cd A outer s H E).ex := fun b z => absurd (show b ∈ ([] : List Addr) from z) (by simp)
  refine ⟨⟨e0.mod, S.kind, rfl, rfl, Nat.le_refl _, fun y z c h1 h2 => ?_, fun y hy => ?_, fun y c _ h => ?_, fun _ => hd, Around.frames_deeper e0.frames, .inr ⟨rfl, rfl⟩, fun b z => absurd z (noA b), e0.bs, e0.bsz, fun b _ _ => noA b, fun b z => absurd z (noA b), e0.funs, e0.frf⟩,
    rfl, e0.bare, Un.kept hk, ⟨_, x.toInCall.ns, fun i y v h1 h2 h3 => ?_⟩, fun y c h => ⟨_, x.cell y c h⟩, e0.hok.fresh (Nat.le_refl _), fun y c h => ?_, fun p hp => absurd (show p ∈ ([] : List (Addr × Obj)) from hp) (by simp), e0.hok.kept hk, ?_⟩
  · exact name_of_addr x.apart (PySem.mem_of_lookup h1) (PySem.mem_of_lookup h2)
  · have hy : scope.names.lookup y = some .cell ∨ scope.names.lookup y = some .free := hy
    rcases hy with hy | hy
    · exact cell_has hy
    · exact absurd rfl (S.nofree _ (PySem.mem_of_lookup hy))
  · exact Nat.le_of_lt (x.above y c (PySem.mem_of_lookup h))
  · have hi : i < vs.length := by
      unfold start at h2
      by_cases hi : i < vs.length
      · exact hi
      · rw [List.getElem?_append_right (by simpa using hi)] at h2
        rw [List.getElem?_replicate] at h2
        split at h2 <;> cases h2
    have ha : vs[i]? = some v := by
      unfold start at h2
      rw [List.getElem?_append_left (by simpa using hi), List.getElem?_map] at h2
      cases e : vs[i]? with
      | none => rw [e] at h2; cases h2
      | some a => rw [e] at h2; cases h2; rfl
    obtain ⟨u, hu, rv⟩ := r.get ha
    have hp : ps[i]? = some y := by
      rw [← S.pre, List.getElem?_take_of_lt (by omega)]; exact h1
    have ndP : ps.Nodup := by rw [← S.pre]; exact S.nd.sublist (List.take_sublist _ _)
    refine ⟨u, rv, ?_⟩
    rcases S.par y (List.mem_of_getElem? hp) with k | k
    · exact .inl ⟨k, bindL_get ndP hp hu k⟩
    · obtain ⟨c, e⟩ := cell_has (n := s.heap.objs.size + 1) k
      refine .inr ⟨.inl k, c, e, ?_⟩
      have q := x.cell y c e
      rw [bindC_get ndP hp hu (by show scope.names.lookup y ≠ _; rw [k]; decide)] at q
      exact q
  · exact e0.hok.fresh (Nat.le_of_lt (x.above y c (PySem.mem_of_lookup h)))
  · unfold start
    show _ = N.length
    rw [List.length_append, List.length_map, List.length_replicate]
    omega

/-- THE RULE: a def (or a method) of the text, by its body. The body's reading t is chosen for each entry; it is run at the parameters' values -/
theorem fn_of {CX : CXT} {P : Program} {w : World} {K : PySem.W.Frag} {mg : Str → Option Value} {base : Heap} {k : Nat} {f : Addr} {name qual : Str} {params : Arguments} {body : List Stmt} {scope : Scope} {dV kV doc pm cdv ct oc : Value} {an od : Option Addr}
    {osl : Array (Option Value)} {N ps : List Str} {sp : Sp} (lk : K.lookup f = some ⟨oc, od, .func (PySem.W.fnOf name qual params body scope dV kV doc pm an cdv ct), osl⟩) (hcd : PySem.W.codeIn K cdv qual = true) (S : FnScope N ps scope)
    (len : ∀ vs H Q E, sp vs H Q E → vs.length = ps.length)
    (hbody : ∀ (A : Around) (outer : List Env) (s : Shared) (H : Hp) (vs : List V) (Q : VK) (E : XK), Room k (A.deeper (envOfC qual scope s.heap.objs.size f cdv)) → sp vs H Q E →
      ∃ t, PSs (cxOf CX P w K mg base N qual scope f cdv A outer s H E) body t ∧ t { nx := fun _ H' => Q .non H', rt := Q } (start N vs) H) :
    FnOk P w K mg base CX (k + 1) f (PySem.W.fnOf name qual params body scope dV kV doc pm an cdv ct) ps sp := by
  refine ⟨len, fun A outer s H args us vs Q E hr e0 hb r hsp => ?_⟩
  have hl := len _ _ _ _ hsp
  have KX : K.In s.heap := e0.mod.kin.keeps fun b o e => (e0.bs b o e).1
  have lim : s.heap.NoLimit := e0.mod.nolimit.keeps fun b o e => (e0.bs b o e).1
  have hkind : ∀ y ∈ ps.zip us, scope.names.lookup y.1 = some .local ∨ (scope.names.lookup y.1 = some .cell ∧ ((cellsFrom (s.heap.objs.size + 1) scope.names []).lookup y.1).isSome = true) := fun ⟨n, v⟩ hy => by
    rcases S.par n (List.of_mem_zip hy).1 with q | q
    · exact .inl q
    · exact .inr ⟨q, PySem.W.cellsFrom_some _ _ _ (.inl q)⟩
  refine codeAny_call_function hr.depth (KX _ _ lk) rfl S.co S.gen rfl (PySem.W.codeRec_of KX hcd) (hb _ _ _ _ ?_)
  refine wpAny_newFunctionEnv_cells S.kind hkind fun env he s1 x => ?_
  subst he
  refine ⟨lim.keeps x.toInCall.keep, codeAny_func ?_⟩
  obtain ⟨t, ht, hq⟩ := hbody A outer s H vs Q E (hr.deeper _) hsp
  have I : Inv (cxOf CX P w K mg base N qual scope f cdv A outer s H E) [] (start N vs) H s1 := inv_start S hr.hd e0 hl r x
  refine wpAny_mono (ht [] s1 (start N vs) H _ I hq) (fun fl s' hs => ?_) fun e s' hs => hs
  have fin : ∀ {σ' : St} {H' : Hp} {v : V} {u : Value}, Inv (cxOf CX P w K mg base N qual scope f cdv A outer s H E) [] σ' H' s' → RelV v u → Q v H' → CE outer P w H s Q u s' :=
    fun {σ' H' v u} J rv q => ⟨v, H', J.os, J.bare, J.base, J.hok, rv, q⟩
  cases fl with
  | ret u =>
    obtain ⟨v, σ', H', J, rv, q⟩ := hs
    exact fin J rv q
  | next =>
    obtain ⟨σ', H', J, q⟩ := hs
    exact fin (v := V.non) (u := Value.none) J rfl q
  | brk =>
    obtain ⟨_, _, _, q⟩ := hs
    exact False.elim q
  | cont =>
    obtain ⟨_, _, _, q⟩ := hs
    exact False.elim q
end L2

namespace L2
open PySem PySem.Spec PyProof.Rows
section
variable {X : Cx} {x : Str} {p pos : Pos} {e : Expr} {es : List Expr} {t : TA} {id T : String} {r : List V → Hp → VK → Prop}

def tCB (r : List V → Hp → VK → Prop) (t : TA) : TE := fun σ H Q => t σ H fun vs H1 => r vs H1 Q
/-- f(e, ..), f a built-in function -/
theorem pe_callB (hc : CallR X (.builtin id) r) (hg : Gl X x) (hm : X.mg x = none) (hv : bootBuiltins x = some (.builtin id)) (ha : PA X (e :: es) t) (hn : x ≠ "__name__" := by decide) (hdb : (x == ("__debug__" : Str)) = false := by decide)
    (he : starEach (e :: es) X.env = (false, eval e X.env) :: starEach es X.env := by rfl) (hpl : (backTo pos (starEach es X.env)).any (·.1) = false := by rfl) : PE X (.Call (.Name x p) (e :: es) [] pos) (tCB r t) := by
  intro pins s σ H Q I h
  refine wpAny_Call_Name_kw (ld_blt I hg hm hv ?_ hn hdb)
  exact PyProof.Rows.callWith_builtin1 (thn (ha pos pins s σ H _ I h) fun us s1 ⟨vs, H1, I1, r1, q1⟩ => hc pins s1 σ H1 vs us Q I1 r1 q1) he hpl
/-- T(e, ..), T a built-in type -/
theorem pe_callTy (hc : CallR X (.type T) r) (hg : Gl X x) (hm : X.mg x = none) (hv : bootBuiltins x = some (.type T)) (ha : PA X (e :: es) t) (hn : x ≠ "__name__" := by decide) (hdb : (x == ("__debug__" : Str)) = false := by decide)
    (he : starEach (e :: es) X.env = (false, eval e X.env) :: starEach es X.env := by rfl) (hpl : (backTo pos (starEach es X.env)).any (·.1) = false := by rfl) : PE X (.Call (.Name x p) (e :: es) [] pos) (tCB r t) := by
  intro pins s σ H Q I h
  refine wpAny_Call_Name_kw (ld_blt I hg hm hv ?_ hn hdb)
  exact PyProof.Rows.callWith_type1 (thn (ha pos pins s σ H _ I h) fun us s1 ⟨vs, H1, I1, r1, q1⟩ => hc pins s1 σ H1 vs us Q I1 r1 q1) he hpl
/-- T() -/
theorem pe_callTy0 (hc : CallR X (.type T) r) (hg : Gl X x) (hm : X.mg x = none) (hv : bootBuiltins x = some (.type T)) (hn : x ≠ "__name__" := by decide) (hdb : (x == ("__debug__" : Str)) = false := by decide) :
    PE X (.Call (.Name x p) [] [] pos) (tCB r tNil) := by
  intro pins s σ H Q I h
  refine wpAny_Call_Name_kw (ld_blt I hg hm hv ?_ hn hdb)
  exact PyProof.Rows.callWith_type0 (hc pins s σ H [] [] Q I .nil h)
end
end L2

namespace HT
open PySem PyProof.Rows

/-- t < u of tuples of ints -/
def lexLt : List Int → List Int → Bool
  | [], [] => false
  | [], _ :: _ => true
  | _ :: _, [] => false
  | x :: xs, y :: ys => if x = y then lexLt xs ys else decide (x < y)
theorem lexLt_cons (x y : Int) (xs ys : List Int) : lexLt (x :: xs) (y :: ys) = if x = y then lexLt xs ys else decide (x < y) := rfl
theorem lexLt_nil_nil : lexLt [] [] = false := rfl
theorem lexLt_nil_cons (y : Int) (ys : List Int) : lexLt [] (y :: ys) = true := rfl
theorem lexLt_cons_nil (x : Int) (xs : List Int) : lexLt (x :: xs) [] = false := rfl

theorem eqAt_int (A : Around) (s : Shared) (a : Int) (t : Tok) (c : Int) (u : Tok) : ∃ e, SeqAt.EqAt A s (.int a t) (.int c u) e ∧ (e = true ↔ a = c) :=
  ⟨(a == c), SeqAt.EqAt.int_int a t c u, by simp⟩
theorem rcLt_int (A : Around) (s : Shared) (a : Int) (t : Tok) (c : Int) (u : Tok) (prog : Program) (w : World) (E : Value → Shared → Prop) (Q : Value → Shared → Prop) (h : Q (.bool (decide (a < c))) s) :
    wpAny (model prog w) A (richCompare .Lt (.int a t) (.int c u)) Q E s :=
  (PyProof.Rows.lt_int h : wpAny (model prog w) A (compareOp .Lt (.int a t) (.int c u)) Q E s)

section
open PySem.SeqAt
open PySem.AutoSeq1 (wpAny_loadPart')
open PySem.MeetsSeq PySem.MeetsSeq2 PySem.MeetsSeq3

theorem tuple_lt_ints (l b : Addr) (items items2 : Array Value) (n n2 : Nat) (dd dd2 : Option Addr) (sl sl2 : Array (Option Value)) (ns ms : List Int) (hi : IntsAre items.toList ns) (hj : IntsAre items2.toList ms) :
    Meets (Builtin.«tuple.__lt__» ⟨[.ref l, .ref b], []⟩)
      (fun _ R s => s.heap.get? l = some { cls := .type "tuple", dict := dd, data := .seq items n, slots := sl } ∧ s.heap.get? b = some { cls := .type "tuple", dict := dd2, data := .seq items2 n2, slots := sl2 } ∧
        R (.ok (.ret (.bool (lexLt ns ms)))) s) :=
  .of_wp fun prog w A R s h => by
    obtain ⟨hp, g, d, tk, os⟩ := s; obtain ⟨hl, hb, h⟩ := h
    have f2 := AutoSeq1.sub_tuple_tuple
    have z1 : items.size = ns.length := by rw [← hi.length]; simp
    have z2 : items2.size = ms.length := by rw [← hj.length]; simp
    wp_walk using wpAny_loadPart' hl, wpAny_loadPart' hb, wpAny_forIn_list _ (fun rest b s' => b.1 = none ∧ s' = ⟨hp, g, d, tk, os⟩ ∧ ∃ (vs ws : List Value) (ns' ms' : List Int), rest = vs.zip ws ∧
      IntsAre vs ns' ∧ IntsAre ws ms' ∧ ns'.length + items2.size = ms'.length + items.size ∧ R (.ok (.ret (.bool (lexLt ns' ms')))) ⟨hp, g, d, tk, os⟩) _
    case turn =>
      rintro ⟨y, x⟩ rest b s' ⟨hb', rfl, vs, ws, ns', ms', hz, hvi, hwi, hlen, hR⟩
      cases hvi with
      | nil => rw [List.zip_nil_left] at hz; cases hz
      | cons a t hvi' =>
        cases hwi with
        | nil => rw [List.zip_nil_right] at hz; cases hz
        | cons c u hwi' =>
          rw [List.zip_cons_cons] at hz
          injection hz with hyx hrest
          injection hyx with hy hx
          subst hy hx
          rw [lexLt_cons] at hR
          simp only [List.length_cons] at hlen
          obtain ⟨e, he, hiff⟩ := eqAt_int A.in1 ⟨hp, g, d, tk, os⟩ a t c u
          refine wpAny_bind (he prog w _ _ ?_)
          cases e with
          | true =>
            rw [if_pos (hiff.mp rfl)] at hR
            wp_walk
            exact ⟨rfl, rfl, _, _, _, _, hrest, hvi', hwi', by omega, hR⟩
          | false =>
            rw [if_neg (fun q => absurd (hiff.mpr q) Bool.false_ne_true)] at hR
            have hri := rcLt_int A.in1 ⟨hp, g, d, tk, os⟩ a t c u prog w
            wp_walk using hri
            exact ⟨_, rfl, by simpa using hR⟩
    case fin =>
      rintro ⟨b1, b2⟩ s' ⟨hb', rfl, vs, ws, ns', ms', hz, hvi, hwi, hlen, hR⟩
      simp only at hb'
      subst hb'
      have hv : lexLt ns' ms' = decide (items.size < items2.size) := by
        cases hvi with
        | nil =>
          cases hwi with
          | nil =>
            simp only [List.length_nil] at hlen
            rw [lexLt_nil_nil]
            exact (decide_eq_false (by omega)).symm
          | cons c u hw =>
            simp only [List.length_nil, List.length_cons] at hlen
            rw [lexLt_nil_cons]
            exact (decide_eq_true (by omega)).symm
        | cons a t hv =>
          cases hwi with
          | nil =>
            simp only [List.length_nil, List.length_cons] at hlen
            rw [lexLt_cons_nil]
            exact (decide_eq_false (by omega)).symm
          | cons c u hw =>
            rw [List.zip_cons_cons] at hz
            cases hz
      rw [hv] at hR
      wp_walk
      exact ⟨_, rfl, by simpa [Builtin.Tuple.tupleCompareSizes] using hR⟩
    case h =>
      exact ⟨rfl, rfl, items.toList, items2.toList, ns, ms, rfl, hi, hj, by omega, h⟩
end

section
variable {prog : Program} {w : World} {A : Around} {E : Value → Shared → Prop} {s : Shared}

theorem lt_tupInts {l b : Addr} {items items2 : Array Value} {ns ms : List Int} {Q : Value → Shared → Prop} (hl : IsTup s.heap l items) (hb : IsTup s.heap b items2) (hi : IntsAre items.toList ns) (hj : IntsAre items2.toList ms)
    (hu : A.units < cLine) (h : Q (.bool (lexLt ns ms)) s) : wpAny (model prog w) A (compareOp .Lt (.ref l) (.ref b)) Q E s := by
  obtain ⟨⟨cls, dd, data, sl⟩, ho, hc, n, hd⟩ := id hl
  obtain ⟨⟨cls2, dd2, data2, sl2⟩, ho2, hc2, n2, hd2⟩ := id hb
  simp only at hc hd hc2 hd2
  subst hc hd hc2 hd2
  exact richCompare_meets_room (op := .Lt) ⟨_, ho, rfl⟩ ⟨_, ho2, rfl⟩ PySem.F.slot_tuple_lt PySem.F.entry_tuple_lt (PySem.F.args_tuple_lt_2 _ _) (tuple_lt_ints l b items items2 n n2 dd dd2 sl sl2 ns ms hi hj)
    ⟨ho, ho2, show Value.bool (lexLt ns ms) ≠ Value.notImplemented ∧ Q (.bool (lexLt ns ms)) s from ⟨(fun x => nomatch x), h⟩⟩ hu

/-- t + u, t not empty -/
theorem cat_tup {t b : Addr} {vs ws : List Value} {Q : Value → Shared → Prop} (ht : IsTup s.heap t vs.toArray) (hb : IsTup s.heap b ws.toArray) (hv : vs ≠ [])
    (h1 : ws = [] → Q (.ref t) s) (h2 : ws ≠ [] → Q (.ref s.heap.objs.size) { s with heap := s.heap.push { cls := .type "tuple", data := .seq (vs ++ ws).toArray } })
    (hsz : vs.length + ws.length ≤ sizeLine) : wpAny (model prog w) A (binaryOp .Add (.ref t) (.ref b)) Q E s := by
  obtain ⟨⟨cls, dd, data, sl⟩, ho, hc, n, hd⟩ := id ht
  obtain ⟨⟨cls2, dd2, data2, sl2⟩, ho2, hc2, n2, hd2⟩ := id hb
  simp only at hc hd hc2 hd2
  subst hc hd hc2 hd2
  have e : vs.toArray ++ ws.toArray = (vs ++ ws).toArray := by simp
  by_cases hw : ws = []
  · exact concat_meets ⟨_, ho, rfl⟩ ⟨_, ho2, rfl⟩ noFill_tuple_add seq_tuple_add PySem.F.slot_tuple_add PySem.F.entry_tuple_add (PySem.F.args_tuple_add_2 _ _)
      (tuple_addW1 t b vs.toArray ws.toArray n n2 dd dd2 sl sl2 (by simpa using hv) (by simp [hw])) ⟨ho, ho2, h1 hw⟩
  · refine concat_meets ⟨_, ho, rfl⟩ ⟨_, ho2, rfl⟩ noFill_tuple_add seq_tuple_add PySem.F.slot_tuple_add PySem.F.entry_tuple_add (PySem.F.args_tuple_add_2 _ _)
      (tuple_addW2 t b vs.toArray ws.toArray n n2 dd dd2 sl sl2 (by simpa using hv) (by simpa using hw) (by rw [List.size_toArray, List.size_toArray]; exact hsz)) ⟨ho, ho2, ?_⟩
    rw [e]
    exact h2 hw

/-! ### t[a:b], not the whole -/
/-- a slice's bound as a place among n (d where it is left out) -/
def sIx (n d : Nat) : Option Int → Nat
  | none => d
  | some v => if v < 0 then (v + (n : Int)).toNat else min v.toNat n
theorem sIx_none (n d : Nat) : sIx n d none = d := rfl
theorem sIx_nat (n d k : Nat) : sIx n d (some (k : Int)) = min k n := by
  show (if (k : Int) < 0 then ((k : Int) + (n : Int)).toNat else min (k : Int).toNat n) = min k n
  rw [if_neg (by omega), Int.toNat_natCast]
theorem sIx_le (n d : Nat) (hd : d ≤ n) (o : Option Int) : sIx n d o ≤ n := by
  cases o with
  | none => exact hd
  | some v =>
    show (if v < 0 then (v + (n : Int)).toNat else min v.toNat n) ≤ n
    by_cases hv : v < 0
    · rw [if_pos hv]; omega
    · rw [if_neg hv]; exact Nat.min_le_right _ _
theorem clip_eq (v : Int) (n d : Nat) : (if v < 0 then max (v + (n : Int)) 0 else min v (n : Int)) = ((sIx n d (some v) : Nat) : Int) := by
  show (if v < 0 then max (v + (n : Int)) 0 else min v (n : Int)) = (((if v < 0 then (v + (n : Int)).toNat else min v.toNat n) : Nat) : Int)
  by_cases hv : v < 0
  · simp only [if_pos hv]; omega
  · simp only [if_neg hv]; omega
theorem adjust_gen (lo hi : Option Int) (n : Nat) : Builtin.Slice.sliceAdjust lo hi 1 (n : Int) = (((sIx n 0 lo : Nat) : Int), ((sIx n n hi : Nat) : Int)) := by
  have h1 : ¬ ((1 : Int) < 0) := by omega
  unfold Builtin.Slice.sliceAdjust
  simp only [h1, if_false]
  refine Prod.ext ?_ ?_
  · cases lo with
    | none => rfl
    | some v => exact clip_eq v n 0
  · cases hi with
    | none => rfl
    | some v => exact clip_eq v n n
theorem places_gen (i j : Nat) : Builtin.Slice.slicePlaces (i : Int) (j : Int) 1 = j - i := by
  unfold Builtin.Slice.slicePlaces
  have h1 : (1 : Int) > 0 := by omega
  simp only [h1, if_true, Int.ediv_one]
  split <;> omega
theorem slicePart_ {v : Value} {o : Option Int} {Q : Option Int → Shared → Prop} (p : IsPart v o) (h : Q o s) : wpAny (model prog w) A (Builtin.Slice.slicePartIndex v) Q E s := by
  cases p with
  | none => exact slicePart_none h
  | int i t => exact slicePart_int h
theorem sliceApplied_gen {sl : Addr} {vl vu : Value} {lo hi : Option Int} {n : Nat} {Q : Int × Int × Nat → Shared → Prop} (hs : s.heap.IsSliceOf sl vl vu .none) (pl : IsPart vl lo) (pu : IsPart vu hi)
    (h : Q (((sIx n 0 lo : Nat) : Int), 1, sIx n n hi - sIx n 0 lo) s) : wpAny (model prog w) A (Builtin.Slice.sliceApplied (.ref sl) (pure (n : Int))) Q E s := by
  obtain ⟨os, hos, hcs, hds⟩ := id hs
  unfold Builtin.Slice.sliceApplied Builtin.Slice.sliceFields
  refine wpAny_bind (wpAny_bind (wpAny_field hos hds (x := vl) rfl (wpAny_bind (wpAny_field hos hds (x := vu) rfl (wpAny_bind (wpAny_field hos hds (x := .none) rfl (wpAny_pure ?_)))))))
  refine wpAny_bind (slicePart_none ?_)
  show wpAny _ _ (if ((1 : Int) == 0) = true then _ else _) _ _ s
  rw [if_neg (by decide)]
  refine wpAny_bind (slicePart_ pl (wpAny_bind (slicePart_ pu (wpAny_bind (wpAny_pure ?_)))))
  show wpAny _ _ (match Builtin.Slice.sliceAdjust lo hi 1 (n : Int) with | (lo, hi) => pure (lo, (1 : Int), Builtin.Slice.slicePlaces lo hi 1)) _ _ s
  rw [adjust_gen lo hi n]
  show wpAny _ _ (pure (((sIx n 0 lo : Nat) : Int), (1 : Int), Builtin.Slice.slicePlaces ((sIx n 0 lo : Nat) : Int) ((sIx n n hi : Nat) : Int) 1)) _ _ s
  rw [places_gen]
  exact wpAny_pure h
theorem pick_gen (xs : Array Value) (i k : Nat) : ((List.range k).filterMap fun (m : Nat) => xs[((i : Int) + (m : Int) * 1).toNat]?).toArray = ((xs.toList.drop i).take k).toArray := by
  have e : (fun (m : Nat) => xs[((i : Int) + (m : Int) * 1).toNat]?) = fun m => xs[i + m]? := by
    funext m
    have : ((i : Int) + (m : Int) * 1).toNat = i + m := by omega
    rw [this]
  rw [e]
  have := pick_run xs i k
  rw [List.filterMap_map] at this
  have e2 : ((fun x => xs[x]?) ∘ fun x => i + x) = fun m => xs[i + m]? := rfl
  rw [e2] at this
  rw [this]

theorem getItem_tuple_cut {t sl : Addr} {items : Array Value} {vl vu : Value} {lo hi : Option Int} {Q : Value → Shared → Prop} (ht : IsTup s.heap t items) (hs : s.heap.IsSliceOf sl vl vu .none) (pl : IsPart vl lo) (pu : IsPart vu hi)
    (hw : ¬ (sIx items.size 0 lo = 0 ∧ sIx items.size items.size hi = items.size))
    (h : Q (.ref s.heap.objs.size) { s with heap := s.heap.push { cls := .type "tuple", data := .seq ((items.toList.drop (sIx items.size 0 lo)).take (sIx items.size items.size hi - sIx items.size 0 lo)).toArray } })
    (hsz : items.size ≤ sizeLine) : wpAny (model prog w) A (getItem (.ref t) (.ref sl)) Q E s := by
  have htake : sizeOk (.seq ((items.toList.drop (sIx items.size 0 lo)).take (sIx items.size items.size hi - sIx items.size 0 lo)).toArray) := by
    show ((items.toList.drop (sIx items.size 0 lo)).take (sIx items.size items.size hi - sIx items.size 0 lo)).toArray.size ≤ sizeLine
    rw [List.size_toArray, List.length_take, List.length_drop, Array.length_toList]
    omega
  have hj : sIx items.size items.size hi ≤ items.size := sIx_le _ _ (Nat.le_refl _) hi
  obtain ⟨os, hos, hcs, hds⟩ := id hs
  have hTs : s.TypeIs (.ref sl) "slice" := ⟨os, hos, hcs⟩
  unfold getItem
  try with_reducible refine wpAny_holding ?_
  first | refine wpAny_bind (wpAny_pure ?_) | skip
  refine wpAny_bind (wpAny_sequenceKey ht.typeIs (by decide) ?_)
  refine wpAny_bind (wpAny_callSpecial?_slot (name := Str.ofString "__getitem__") ht.typeIs PyProof.Rows.slot_tuple_getitem
    (wpAny_call_entry PyProof.Rows.slot_tuple_getitem ht.typeIs entry_tuple_getitem ?_ (args_tuple_getitem _ _)))
  show wpAny _ _ (Builtin.Tuple.tupleItemsOf (.ref t) >>= _) _ _ s
  refine wpAny_bind (tupleItemsOf_ ht ?_)
  refine wpAny_bind (wpAny_typeOf hTs ?_)
  rw [if_pos (by decide)]
  refine wpAny_bind (sliceApplied_gen hs pl pu ?_)
  have hno : ¬ ((((sIx items.size 0 lo : Nat) : Int) == 0 && (1 : Int) == 1 && (sIx items.size items.size hi - sIx items.size 0 lo) == items.size) = true) := by
    intro q
    rw [Bool.and_eq_true, Bool.and_eq_true] at q
    have q1 : ((sIx items.size 0 lo : Nat) : Int) = 0 := eq_of_beq q.1.1
    have q2 : sIx items.size items.size hi - sIx items.size 0 lo = items.size := eq_of_beq q.2
    exact hw ⟨by omega, by omega⟩
  show wpAny _ _ (if (((sIx items.size 0 lo : Nat) : Int) == 0 && (1 : Int) == 1 && (sIx items.size items.size hi - sIx items.size 0 lo) == items.size) = true then _ else _) _ _ s
  rw [if_neg hno, pick_gen]
  first
    | exact wpAny_bind (m := Builtin.Tuple.tupleExact _) (wpAny_newObj_type (wpAny_pure ⟨_, rfl, wpAny_pure h⟩) htake)
    | exact wpAny_bind (m := Builtin.Tuple.tupleExact _) (wpAny_newObj_type (wpAny_bind (wpAny_pure (wpAny_pure ⟨_, rfl, wpAny_pure h⟩))) htake)
    | exact wpAny_bind (wpAny_bind (m := Builtin.Tuple.tupleExact _) (wpAny_newObj_type (wpAny_pure (wpAny_pure ⟨_, rfl, wpAny_pure h⟩)) htake))
    | exact wpAny_bind (wpAny_bind (m := Builtin.Tuple.tupleExact _) (wpAny_newObj_type (wpAny_pure ⟨_, rfl, wpAny_pure h⟩) htake))
end
end HT

namespace L2
open PySem PySem.Spec PyProof.Rows

/-! ### the parts of a slice -/
abbrev TO := St → Hp → (Option Int → Hp → Prop) → Prop
/-- a slice's part (left out, or an int) -/
def PO (X : Cx) (e : Option Expr) (t : TO) : Prop :=
  ∀ (pins : List (Addr × Obj)) (s : Shared) (σ : St) (H : Hp) (Q : Option Int → Hp → Prop), Inv X pins σ H s → t σ H Q →
    wpAny (model X.prog X.w) X.A (evalPart e X.env) (fun u s' => ∃ o H', Inv X pins σ H' s' ∧ IsPart u o ∧ Q o H') X.xe s
def tNoPart : TO := fun _ H Q => Q none H
def tPart (t : TE) : TO := fun σ H Q => t σ H fun x H1 => ∃ i, x = .int i ∧ Q (some i) H1

theorem intsAre_of {ns : List Int} : ∀ {us : List Value}, Vals (ns.map V.int) us → IntsAre us ns := by
  induction ns with
  | nil => intro us r; rw [List.map_nil] at r; cases r; exact .nil
  | cons n ns ih =>
    intro us r
    rw [List.map_cons] at r
    cases r with
    | cons r1 r2 =>
      obtain ⟨t, e⟩ := r1
      subst e
      exact .cons n t (ih r2)

section
variable {X : Cx} {e : Expr} {te : TE} {lo hi : Option Expr} {tl th : TO} {pos p2 : Pos}

theorem po_none : PO X none tNoPart := by
  intro pins s σ H Q I h
  rw [evalPart_none]
  exact wpAny_pure ⟨none, H, I, .none, h⟩
theorem po_some (h : PE X e te) : PO X (some e) (tPart te) := by
  intro pins s σ H Q I hw
  rw [evalPart_some]
  refine thn (h pins s σ H _ I hw) fun u s1 ⟨x, H1, I1, r1, q1⟩ => ?_
  obtain ⟨i, rfl, q⟩ := q1
  obtain ⟨t, rfl⟩ := r1
  exact ⟨some i, H1, I1, .int i t, q⟩

/-- what a slice of a value is, by values: the slice object stands at sl -/
def SlR (X : Cx) (r : V → Option Int → Option Int → Hp → VK → Prop) : Prop :=
  ∀ (pins : List (Addr × Obj)) (s : Shared) (σ : St) (H : Hp) (x : V) (v vl vu : Value) (lo hi : Option Int) (sl : Addr) (Q : VK), Inv X pins σ H s → RelV x v → s.heap.IsSliceOf sl vl vu .none → IsPart vl lo → IsPart vu hi → r x lo hi H Q →
    ∃ T id, typeLookup (.type T) "__getitem__" = pure (some (.builtin id)) ∧ s.TypeIs v T ∧ wpAny (model X.prog X.w) X.A (getItem v (.ref sl)) (EP X pins σ Q) X.xe s
theorem SlR.or {r r' : V → Option Int → Option Int → Hp → VK → Prop} (h : SlR X r) (h' : SlR X r') : SlR X (fun x lo hi H Q => r x lo hi H Q ∨ r' x lo hi H Q) := by
  intro pins s σ H x v vl vu lo hi sl Q I rx hs pl pu q
  rcases q with q | q
  · exact h pins s σ H x v vl vu lo hi sl Q I rx hs pl pu q
  · exact h' pins s σ H x v vl vu lo hi sl Q I rx hs pl pu q
def tSl (r : V → Option Int → Option Int → Hp → VK → Prop) (te : TE) (tl th : TO) : TE := fun σ H Q => te σ H fun x H1 => tl σ H1 fun l H2 => th σ H2 fun u H3 => r x l u H3 Q
/-- a[lo:hi], any a -/
theorem pe_slice {r : V → Option Int → Option Int → Hp → VK → Prop} (hr : SlR X r) (he : PE X e te) (hl : PO X lo tl) (hu : PO X hi th) : PE X (.Subscript e (.Slice lo hi none p2) pos) (tSl r te tl th) := by
  intro pins s σ H Q I h
  refine Subscript_ (thn (he pins s σ H _ I h) fun v s1 ⟨x, H1, I1, r1, q1⟩ => ?_)
  refine wpAny_Slice (thn (hl pins s1 σ H1 _ I1 q1) fun vl s2 ⟨l, H2, I2, pl, q2⟩ => thn (hu pins s2 σ H2 _ I2 q2) fun vu s3 ⟨u, H3, I3, pu, q3⟩ => ?_)
  rw [evalPart_none]
  refine wpAny_pure ?_
  have I4 : Inv X pins σ H3 { s3 with heap := s3.heap.push { cls := .type "slice", data := .fields #[vl, vu, .none] } } := I3.kept (t' := s3.toks) fun b ob q => Heap.get?_push_of_some _ q
  obtain ⟨T, id, hT, ht, hg⟩ := hr pins { s3 with heap := s3.heap.push { cls := .type "slice", data := .fields #[vl, vu, .none] } } σ H3 x v vl vu l u s3.heap.objs.size Q I4 r1 (Heap.IsSliceOf.new ..) pl pu q3
  show wpAny (model X.prog X.w) X.A (subscriptTail e (.Slice lo hi none p2) v (.ref s3.heap.objs.size)) (EP X pins σ Q) X.xe { s3 with heap := s3.heap.push { cls := .type "slice", data := .fields #[vl, vu, .none] } }
  exact tail_any (ops := [.ref s3.heap.objs.size, v]) ht hT hg (by with_unfolding_all rfl)

/-- the items of xs[lo:hi] -/
def cutV (xs : List V) (lo hi : Option Int) : List V := (xs.drop (HT.sIx xs.length 0 lo)).take (HT.sIx xs.length xs.length hi - HT.sIx xs.length 0 lo)
theorem cutV_length (xs : List V) (lo hi : Option Int) : (cutV xs lo hi).length ≤ xs.length := by
  unfold cutV
  rw [List.length_take, List.length_drop]
  omega
/-- t[lo:hi], not the whole of it (the whole would be t itself) -/
def rSlT (K : PySem.W.Frag) : V → Option Int → Option Int → Hp → VK → Prop := fun x lo hi H Q => ∃ a xs, x = .ref a ∧ SqT K H a xs ∧
  ¬ (HT.sIx xs.length 0 lo = 0 ∧ HT.sIx xs.length xs.length hi = xs.length) ∧ ∀ p, H p = none → Q (.ref p) (upd H p (.tup (cutV xs lo hi)))
theorem sl_tup : SlR X (rSlT X.K) := by
  intro pins s σ H x v vl vu lo hi sl Q I rx hs pl pu h
  obtain ⟨a, xs, rfl, hx, hw, q⟩ := h
  cases rx
  obtain ⟨its, r, ht, hz⟩ := I.tuple hx
  have hlen : its.toArray.size = xs.length := by rw [List.size_toArray]; exact r.length.symm
  refine ⟨"tuple", _, PyProof.Rows.slot_tuple_getitem.lookup, ht.typeIs, ?_⟩
  refine HT.getItem_tuple_cut ht hs pl pu (by rw [hlen]; exact hw) ?_ (by rw [hlen]; exact hz)
  rw [hlen]
  refine ⟨.ref s.heap.objs.size, _, I.laid (t' := s.toks) (o := .tup (cutV xs lo hi)) (fun b ob q => Heap.get?_push_of_some _ q) (Nat.le_refl _) ?_, rfl, q _ (I.hok.fresh (Nat.le_refl _))⟩
  exact ⟨Nat.le_trans (cutV_length xs lo hi) hz, _, (r.drop (HT.sIx xs.length 0 lo)).take (HT.sIx xs.length xs.length hi - HT.sIx xs.length 0 lo), IsTup.new _ _⟩

/-! ### t < u, t + u -/
def rLtT (K : PySem.W.Frag) : R2 := fun x y H Q => ∃ a b ns ms, x = .ref a ∧ y = .ref b ∧ SqT K H a (ns.map V.int) ∧ SqT K H b (ms.map V.int) ∧ Q (.bl (HT.lexLt ns ms)) H
theorem op_ltT (hu : X.A.units < cLine) : OpR X (compareOp .Lt) (rLtT X.K) := by
  intro pins s σ H x y v u Q I rx ry h
  obtain ⟨a, b, ns, ms, rfl, rfl, ha, hb, q⟩ := h
  cases rx
  cases ry
  obtain ⟨its, r1, p1, _⟩ := I.tuple ha
  obtain ⟨its2, r2, p2, _⟩ := I.tuple hb
  have i1 : IntsAre its.toArray.toList ns := intsAre_of r1
  have i2 : IntsAre its2.toArray.toList ms := intsAre_of r2
  exact HT.lt_tupInts p1 p2 i1 i2 hu ⟨.bl (HT.lexLt ns ms), H, I, rfl, q⟩
/-- t + u, t not empty: u empty gives t itself -/
def rCatT (K : PySem.W.Frag) : R2 := fun x y H Q => ∃ a b xs ys, x = .ref a ∧ y = .ref b ∧ SqT K H a xs ∧ SqT K H b ys ∧ xs ≠ [] ∧ xs.length + ys.length ≤ sizeLine ∧
  (ys = [] → Q (.ref a) H) ∧ (ys ≠ [] → ∀ p, H p = none → Q (.ref p) (upd H p (.tup (xs ++ ys))))
theorem Vals.nil_iff {xs : List V} {us : List Value} (r : Vals xs us) : us = [] ↔ xs = [] := by
  cases r with
  | nil => simp
  | cons _ _ => simp
theorem op_catT : OpR X (binaryOp .Add) (rCatT X.K) := by
  intro pins s σ H x y v u Q I rx ry h
  obtain ⟨a, b, xs, ys, rfl, rfl, ha, hb, hx, hz, q1, q2⟩ := h
  cases rx
  cases ry
  obtain ⟨its, r1, p1, _⟩ := I.tuple ha
  obtain ⟨its2, r2, p2, _⟩ := I.tuple hb
  refine HT.cat_tup p1 p2 (fun z => hx (r1.nil_iff.mp z)) (fun z => ⟨.ref a, H, I, rfl, q1 (r2.nil_iff.mp z)⟩) (fun z => ?_) (by rw [← r1.length, ← r2.length]; exact hz)
  refine ⟨.ref s.heap.objs.size, _, I.laid (t' := s.toks) (o := .tup (xs ++ ys)) (fun b ob q => Heap.get?_push_of_some _ q) (Nat.le_refl _) ?_, rfl, q2 (fun w => z (r2.nil_iff.mpr w)) _ (I.hok.fresh (Nat.le_refl _))⟩
  exact ⟨by rw [List.length_append]; exact hz, _, r1.append r2, IsTup.new _ _⟩
/-- tuple(t) -/
theorem call_tupleT : CallR X (.type "tuple") (fun xs H Q => ∃ a ys, xs = [.ref a] ∧ SqT X.K H a ys ∧ Q (.ref a) H) := by
  intro pins s σ H xs us Q I r h
  obtain ⟨a, ys, rfl, ha, q⟩ := h
  obtain ⟨u, rfl, ru⟩ := vals1 r
  cases ru
  obtain ⟨its, _, p1, _⟩ := I.tuple ha
  exact call_tuple_same (items := its.toArray) p1 ⟨.ref a, H, I, rfl, q⟩
end
end L2

namespace L2
open PySem PySem.Spec PyProof.Rows

/-! ### places -/
/-- the place that an index of any sign means -/
def ixN (n : Nat) (i : Int) : Option Nat := if 0 ≤ i then (if i < n then some i.toNat else none) else if -(n : Int) ≤ i then some (i + n).toNat else none
def atI {α : Type} (xs : List α) (i : Int) : Option α := (ixN xs.length i).bind fun j => xs[j]?
theorem ixN_seq {n : Nat} {i : Int} {j : Nat} (h : ixN n i = some j) : seqIndex? i n = some j ∧ j < n ∧ -(n : Int) ≤ i ∧ i < n := by
  unfold ixN at h
  by_cases h0 : 0 ≤ i
  · rw [if_pos h0] at h
    by_cases h1 : i < n
    · rw [if_pos h1] at h
      have e : i.toNat = j := Option.some.inj h
      exact ⟨by rw [seqIndex_of h0 h1, e], by omega, by omega, h1⟩
    · rw [if_neg h1] at h; cases h
  · rw [if_neg h0] at h
    by_cases h1 : -(n : Int) ≤ i
    · rw [if_pos h1] at h
      have e : (i + n).toNat = j := Option.some.inj h
      exact ⟨by rw [seqIndex_neg (by omega) h1, e], by omega, h1, by omega⟩
    · rw [if_neg h1] at h; cases h
theorem atI_get {α : Type} {xs : List α} {i : Int} {v : α} (h : atI xs i = some v) : ∃ j, seqIndex? i xs.length = some j ∧ xs[j]? = some v ∧ j < xs.length ∧ -(xs.length : Int) ≤ i ∧ i < xs.length := by
  unfold atI at h
  cases e : ixN xs.length i with
  | none => rw [e] at h; cases h
  | some j =>
    rw [e] at h
    obtain ⟨h1, h2, h3, h4⟩ := ixN_seq e
    exact ⟨j, h1, h, h2, h3, h4⟩
theorem atI_nat {α : Type} {xs : List α} {j : Nat} {v : α} (h : xs[j]? = some v) : atI xs (j : Int) = some v := by
  have hj : j < xs.length := (List.getElem?_eq_some_iff.mp h).1
  have e : ixN xs.length (j : Int) = some j := by
    unfold ixN
    rw [if_pos (by omega), if_pos (by omega)]; simp
  unfold atI; rw [e]; exact h
theorem atI_last {α : Type} (xs : List α) (v : α) : atI (xs ++ [v]) (-1) = some v := by
  have hl : (xs ++ [v]).length = xs.length + 1 := by simp
  have e : ixN (xs ++ [v]).length (-1) = some xs.length := by
    unfold ixN
    rw [hl, if_neg (by decide), if_pos (by omega)]
    congr 1
    omega
  unfold atI
  rw [e]
  show (xs ++ [v])[xs.length]? = some v
  simp

/-! ### what may be subscripted -/
/-- what stands as an index of a plain subscript -/
def PlainIx (b : Expr) : Prop := ∀ o i, subscripted b false o i = operate [o, i] (getItem o i)
/-- a subscript by values -/
def IxR (X : Cx) (r : R2) : Prop :=
  ∀ (value slice : Expr) (pins : List (Addr × Obj)) (s : Shared) (σ : St) (H : Hp) (x y : V) (v u : Value) (Q : VK), Inv X pins σ H s → RelV x v → RelV y u → r x y H Q →
    subscripted slice false v u = operate [v, u] (getItem v u) → wpAny (model X.prog X.w) X.A (subscriptTail value slice v u) (EP X pins σ Q) X.xe s
/-- a call of a builtin's method by values: the receiver, the arguments -/
def MtR (X : Cx) (id : String) (r : V → List V → Hp → VK → Prop) : Prop :=
  ∀ (pins : List (Addr × Obj)) (s : Shared) (σ : St) (H : Hp) (x : V) (xs : List V) (v : Value) (us : List Value) (Q : VK), Inv X pins σ H s → RelV x v → Vals xs us → r x xs H Q →
    wpAny (model X.prog X.w) X.A (call (.builtin id) (v :: us)) (EP X pins σ Q) X.xe s
section
variable {X : Cx} {a b : Expr} {ta tb : TE} {pos : Pos}
theorem IxR.or {r r' : R2} (h : IxR X r) (h' : IxR X r') : IxR X (fun x y H Q => r x y H Q ∨ r' x y H Q) := by
  intro value slice pins s σ H x y v u Q I rx ry q hs
  rcases q with q | q
  · exact h value slice pins s σ H x y v u Q I rx ry q hs
  · exact h' value slice pins s σ H x y v u Q I rx ry q hs
theorem MtR.or {id : String} {r r' : V → List V → Hp → VK → Prop} (h : MtR X id r) (h' : MtR X id r') : MtR X id (fun x xs H Q => r x xs H Q ∨ r' x xs H Q) := by
  intro pins s σ H x xs v us Q I rx rs q
  rcases q with q | q
  · exact h pins s σ H x xs v us Q I rx rs q
  · exact h' pins s σ H x xs v us Q I rx rs q
/-- a[b] -/
theorem pe_ix {r : R2} (hr : IxR X r) (ha : PE X a ta) (hb : PE X b tb) (hs : PlainIx b) : PE X (.Subscript a b pos) (tOp r ta tb) := by
  intro pins s σ H Q I h
  exact Subscript_ (binT ha hb I h fun v u s2 x y H2 I2 rx ry q => hr a b pins s2 σ H2 x y v u Q I2 rx ry q (hs _ _))

def rIxL (K : PySem.W.Frag) : R2 := fun x y H Q => ∃ p xs i v, x = .ref p ∧ y = .int i ∧ SqL K H p xs ∧ atI xs i = some v ∧ Q v H
def rIxT (K : PySem.W.Frag) : R2 := fun x y H Q => ∃ p xs i v, x = .ref p ∧ y = .int i ∧ SqT K H p xs ∧ atI xs i = some v ∧ Q v H
def rIxS : R2 := fun x y H Q => ∃ z i c, x = .str z ∧ y = .int i ∧ z.length ≤ sizeLine ∧ atI z.cps.toList i = some c ∧ Q (.str ⟨#[c]⟩) H
theorem ix_list : IxR X (rIxL X.K) := by
  intro value slice pins s σ H x y v u Q I rx ry h hs
  obtain ⟨p, xs, i, z, rfl, rfl, hq, he, q⟩ := h
  cases rx
  obtain ⟨t, rfl⟩ := ry
  obtain ⟨its, r, pl, hz⟩ := I.list hq
  obtain ⟨j, h1, h2, h3, h4, h5⟩ := atI_get he
  obtain ⟨w, ew, rw'⟩ := r.get h2
  have hl := r.length
  have hn := line63
  have fin : EP X pins σ Q w s := ⟨z, H, I, rw', q⟩
  by_cases h0 : 0 ≤ i
  · have hj : i.toNat = j := by
      rw [seqIndex_of h0 h5] at h1
      exact Option.some.inj h1
    exact item_listR pl.isList h0 (by omega) (by rw [hj]; simpa using ew) fin hs
  · have hj : (i + (its.toArray.size : Int)).toNat = j := by
      rw [seqIndex_neg (by omega) h4] at h1
      rw [List.size_toArray, ← hl]
      exact Option.some.inj h1
    exact subscriptTail_builtinR (x := w) pl.isList.typeIs slot_list_getitem.lookup
      (wpAny_getItem_list_neg (Q := fun r s' => r = w ∧ EP X pins σ Q r s') pl.isList (by omega) (by rw [List.size_toArray] <;> omega) (by omega) (by rw [hj]; simpa using ew) ⟨rfl, fin⟩) hs
theorem ix_tup : IxR X (rIxT X.K) := by
  intro value slice pins s σ H x y v u Q I rx ry h hs
  obtain ⟨p, xs, i, z, rfl, rfl, hq, he, q⟩ := h
  cases rx
  obtain ⟨t, rfl⟩ := ry
  obtain ⟨its, r, pl, hz⟩ := I.tuple hq
  obtain ⟨j, h1, h2, h3, h4, h5⟩ := atI_get he
  obtain ⟨w, ew, rw'⟩ := r.get h2
  have hl := r.length
  have hn := line63
  have fin : EP X pins σ Q w s := ⟨z, H, I, rw', q⟩
  exact subscriptTail_builtinR (x := w) pl.typeIs slot_tuple_getitem.lookup
    (getItem_tuple (j := j) (Q := fun r s' => r = w ∧ EP X pins σ Q r s') pl (by omega) (by omega) (by rw [List.size_toArray, ← hl]; exact h1) (by simpa using ew) ⟨rfl, fin⟩) hs
theorem ix_str : IxR X rIxS := by
  intro value slice pins s σ H x y v u Q I rx ry h hs
  obtain ⟨z, i, c, rfl, rfl, hz, he, q⟩ := h
  obtain ⟨t, rfl⟩ := rx
  obtain ⟨t', rfl⟩ := ry
  obtain ⟨j, h1, h2, h3, h4, h5⟩ := atI_get he
  have hl : z.cps.toList.length = z.length := by simp [Str.length]
  rw [hl] at h1 h4 h5
  have hn := line63
  exact tail_any (typeIs_str s z t) slot_str_getitem.lookup (getItem_str (c := c) (by
    have e1 : decide (i < -(2 ^ 63 : Int)) = false := decide_eq_false (by omega)
    have e2 : decide (i ≥ 2 ^ 63) = false := decide_eq_false (by omega)
    rw [e1, e2, Bool.or_false]) (by rw [h1]; simpa using h2) ⟨.str ⟨#[c]⟩, H, I.tok _, ⟨_, rfl⟩, q⟩) hs
/-- list, tuple or str -/
def rIx (K : PySem.W.Frag) : R2 := fun x y H Q => rIxL K x y H Q ∨ rIxT K x y H Q ∨ rIxS x y H Q
theorem ix_seq : IxR X (rIx X.K) := ix_list.or (ix_tup.or ix_str)

/-! ### xs[i] = v, any sign -/
/-- the list's object behind a store -/
theorem mapSeq_set (its : List Value) (n j : Nat) (u : Value) : Obj.mapSeq (·.setIfInBounds j u) { cls := .type "list", data := .seq its.toArray n } = { cls := .type "list", data := .seq (its.set j u).toArray n } := by
  simp [Obj.mapSeq]
theorem Inv.lst {pins : List (Addr × Obj)} {σ : St} {H : Hp} {s : Shared} {p : Addr} {xs : List V} (I : Inv X pins σ H s) (h : H p = some (.lst xs)) :
    ∃ (its : List Value) (n : Nat), Vals xs its ∧ s.heap.get? p = some { cls := .type "list", data := .seq its.toArray n } ∧ xs.length ≤ sizeLine := by
  obtain ⟨z, its, n, r, e⟩ := I.hok p _ h
  exact ⟨its, n, r, e, z⟩
/-- the list at p is written by an update of its object -/
theorem Inv.lstUpd {pins : List (Addr × Obj)} {σ : St} {H : Hp} {s : Shared} {p : Addr} {xs ys : List V} {its its' : List Value} {n n' : Nat} {f : Obj → Obj} (I : Inv X pins σ H s) (h : H p = some (.lst xs))
    (ho : s.heap.get? p = some { cls := .type "list", data := .seq its.toArray n }) (hf : f { cls := .type "list", data := .seq its.toArray n } = { cls := .type "list", data := .seq its'.toArray n' }) (r : Vals ys its') (hz : ys.length ≤ sizeLine) (t : Nat) :
    Inv X pins σ (upd H p (.lst ys)) { s with heap := s.heap.update p f, toks := t } := by
  have e : (s.heap.update p f).get? p = some { cls := .type "list", data := .seq its'.toArray n' } := by
    rw [Heap.get?_update_self f ho (by rw [hf] <;> rfl), hf]
  refine I.write (x := p) (e := p) (by rw [h]; trivial) (.inl rfl) (fun b u hb q => (Heap.get?_update_other _ _ (Ne.symm hb)).trans q) ⟨_, e⟩ ?_
  exact ⟨hz, its', n', r, e⟩
def rSetL : V → V → V → Hp → (Hp → Prop) → Prop := fun o i v H Q => ∃ p xs k j, o = .ref p ∧ i = .int k ∧ H p = some (.lst xs) ∧ ixN xs.length k = some j ∧ Q (upd H p (.lst (xs.set j v)))
theorem set_list : PSet X rSetL := by
  intro pins s σ H o i v ov iv u Q I ro ri rv h
  obtain ⟨p, xs, k, j, rfl, rfl, hp, hj, q⟩ := h
  cases ro
  obtain ⟨t, rfl⟩ := ri
  obtain ⟨its, n, r, ho, hz⟩ := I.lst hp
  obtain ⟨h1, h2, h3, h4⟩ := ixN_seq hj
  have hl := r.length
  have hn := line63
  have I' : Inv X pins σ (upd H p (.lst (xs.set j v))) { s with heap := s.heap.update p (Obj.mapSeq (·.setIfInBounds j u)) } :=
    I.lstUpd hp ho (mapSeq_set its n j u) (r.set rv j) (by rw [List.length_set]; exact hz) s.toks
  by_cases h0 : 0 ≤ k
  · have hk : k.toNat = j := by
      rw [seqIndex_of h0 h4] at h1
      exact Option.some.inj h1
    exact PySem.W.ki_setAt ho h0 (by omega) (by rw [List.size_toArray, ← hl]; exact h4) (by rw [hk]; exact ⟨_, I', q⟩)
  · have hk : (k + (its.toArray.size : Int)).toNat = j := by
      rw [seqIndex_neg (by omega) h3] at h1
      rw [List.size_toArray, ← hl]
      exact Option.some.inj h1
    exact PySem.W.ki_setBack ho (by omega) (by rw [List.size_toArray, ← hl]; exact h3) (by omega) (by rw [hk]; exact ⟨_, I', q⟩)

/-! ### slices -/
theorem slice_bounds (lo hi : Option Int) (n : Nat) : (sliceBounds lo hi none n).1 = ((HT.sIx n 0 lo : Nat) : Int) ∧ (sliceBounds lo hi none n).2.1 = ((HT.sIx n n hi : Nat) : Int) ∧ (sliceBounds lo hi none n).2.2 = 1 := by
  refine ⟨?_, ?_, rfl⟩
  · cases lo with
    | none => simp [sliceBounds, HT.sIx]
    | some i =>
      simp only [sliceBounds, HT.sIx, Option.getD_none, show (1 : Int) > 0 by decide, if_true]
      by_cases h : i < 0
      · simp only [h, if_true] <;> omega
      · simp only [h, if_false] <;> omega
  · cases hi with
    | none => simp [sliceBounds, HT.sIx]
    | some i =>
      simp only [sliceBounds, HT.sIx, Option.getD_none, show (1 : Int) > 0 by decide, if_true]
      by_cases h : i < 0
      · simp only [h, if_true] <;> omega
      · simp only [h, if_false] <;> omega
theorem slicePick_cut (its : List Value) (lo hi : Option Int) : slicePick its.toArray lo hi none = ((its.drop (HT.sIx its.length 0 lo)).take (HT.sIx its.length its.length hi - HT.sIx its.length 0 lo)).toArray := by
  obtain ⟨h1, h2, h3⟩ := slice_bounds lo hi its.toArray.size
  unfold slicePick
  rw [h1, h2, h3]
  simp only [sliceRange_one, pick_run, List.size_toArray] <;> rfl
/-- xs[lo:hi] of a list: a new list -/
def rSlL (K : PySem.W.Frag) : V → Option Int → Option Int → Hp → VK → Prop := fun x lo hi H Q => ∃ a xs, x = .ref a ∧ SqL K H a xs ∧ ∀ p, H p = none → Q (.ref p) (upd H p (.lst (cutV xs lo hi)))
theorem sl_list : SlR X (rSlL X.K) := by
  intro pins s σ H x v vl vu lo hi sl Q I rx hs pl pu h
  obtain ⟨a, xs, rfl, hx, q⟩ := h
  cases rx
  obtain ⟨its, r, ht, hz⟩ := I.list hx
  have hlen := r.length
  refine ⟨"list", _, slot_list_getitem.lookup, ht.isList.typeIs, ?_⟩
  refine wpAny_getItem_list_slice ht.isList hs pl pu .none (by simp) ?_ (by rw [List.size_toArray] <;> omega)
  rw [slicePick_cut, ← hlen]
  refine ⟨.ref s.heap.objs.size, _, I.laid (t' := s.toks) (o := .lst (cutV xs lo hi)) (fun b ob q => Heap.get?_push_of_some _ q) (Nat.le_refl _) ?_, rfl, q _ (I.hok.fresh (Nat.le_refl _))⟩
  exact ⟨Nat.le_trans (cutV_length xs lo hi) hz, _, 0, (r.drop (HT.sIx xs.length 0 lo)).take (HT.sIx xs.length xs.length hi - HT.sIx xs.length 0 lo), Heap.get?_push_size _ rfl⟩

/-! ### in, not in: flat items -/
def flatV : V → Bool
  | .non => true
  | .bl _ => true
  | .int _ => true
  | .str _ => true
  | _ => false
/-- == of flat values -/
def eqV : V → V → Bool
  | .non, .non => true
  | .bl a, .bl b => a == b
  | .bl a, .int b => (if a then 1 else 0) == b
  | .int a, .bl b => a == (if b then 1 else 0)
  | .int a, .int b => a == b
  | .str a, .str b => a == b
  | _, _ => false
theorem eqAt_V {A : Around} {s : Shared} {y x : V} {u v : Value} (ry : RelV y u) (rx : RelV x v) (fy : flatV y = true) (fx : flatV x = true) : SeqAt.EqAt A s u v (eqV y x) := by
  cases y with
  | non =>
    cases ry
    cases x with
    | non => cases rx; exact SeqAt.EqAt.same _
    | bl b => cases rx; exact SeqAt.EqAt.none_bool b
    | int b => obtain ⟨t, rfl⟩ := rx; exact SeqAt.EqAt.none_int b t
    | str b => obtain ⟨t, rfl⟩ := rx; exact SeqAt.EqAt.none_str b t
    | _ => exact absurd (show false = true from fx) Bool.false_ne_true
  | bl a =>
    cases ry
    cases x with
    | non => cases rx; exact SeqAt.EqAt.bool_none a
    | bl b => cases rx; exact SeqAt.EqAt.bool_bool a b
    | int b => obtain ⟨t, rfl⟩ := rx; exact SeqAt.EqAt.bool_int a b t
    | str b => obtain ⟨t, rfl⟩ := rx; exact SeqAt.EqAt.bool_str a b t
    | _ => exact absurd (show false = true from fx) Bool.false_ne_true
  | int a =>
    obtain ⟨t', rfl⟩ := ry
    cases x with
    | non => cases rx; exact SeqAt.EqAt.int_none a t'
    | bl b => cases rx; exact SeqAt.EqAt.int_bool a t' b
    | int b => obtain ⟨t, rfl⟩ := rx; exact SeqAt.EqAt.int_int a t' b t
    | str b => obtain ⟨t, rfl⟩ := rx; exact SeqAt.EqAt.int_str a t' b t
    | _ => exact absurd (show false = true from fx) Bool.false_ne_true
  | str a =>
    obtain ⟨t', rfl⟩ := ry
    cases x with
    | non => cases rx; exact SeqAt.EqAt.str_none a t'
    | bl b => cases rx; exact SeqAt.EqAt.str_bool a t' b
    | int b => obtain ⟨t, rfl⟩ := rx; exact SeqAt.EqAt.str_int a t' b t
    | str b => obtain ⟨t, rfl⟩ := rx; exact SeqAt.EqAt.str_str a t' b t
    | _ => exact absurd (show false = true from fx) Bool.false_ne_true
  | _ => exact absurd (show false = true from fy) Bool.false_ne_true
/-- the items' answers, read off the values (a value's own answer does not lean on its token) -/
def eqU (x : V) (u : Value) : Bool := match u with
  | .none => eqV .non x
  | .bool b => eqV (.bl b) x
  | .int i _ => eqV (.int i) x
  | .str z _ => eqV (.str z) x
  | _ => false
theorem eqU_of {x y : V} {u : Value} (r : RelV y u) (f : flatV y = true) : eqU x u = eqV y x := by
  cases y with
  | non => cases r; rfl
  | bl b => cases r; rfl
  | int i => obtain ⟨t, rfl⟩ := r; rfl
  | str z => obtain ⟨t, rfl⟩ := r; rfl
  | _ => exact absurd (show false = true from f) Bool.false_ne_true
theorem any_eqU {x : V} : ∀ {xs : List V} {us : List Value}, Vals xs us → xs.all flatV = true → us.any (eqU x) = xs.any fun y => eqV y x
  | _, _, .nil, _ => rfl
  | y :: xs, u :: us, .cons r t, f => by
    rw [List.all_cons, Bool.and_eq_true] at f
    rw [List.any_cons, List.any_cons, eqU_of r f.1, any_eqU t f.2]
theorem mem_eqAt {A : Around} {s : Shared} {x : V} {v : Value} (rx : RelV x v) (fx : flatV x = true) : ∀ {xs : List V} {us : List Value}, Vals xs us → xs.all flatV = true → ∀ u ∈ us, SeqAt.EqAt A s u v (eqU x u)
  | _, _, .nil, _ => fun u hu => by cases hu
  | y :: xs, u :: us, .cons r t, f => fun u' hu => by
    rw [List.all_cons, Bool.and_eq_true] at f
    rcases List.mem_cons.mp hu with rfl | hu
    · rw [eqU_of r f.1]; exact eqAt_V r rx f.1 fx
    · exact mem_eqAt rx fx t f.2 u' hu
def inV (x : V) (xs : List V) : Bool := xs.any fun y => eqV y x
/-- x in a list or tuple of flat items -/
def rIn (K : PySem.W.Frag) (neg : Bool) : R2 := fun x y H Q => ∃ p xs, y = .ref p ∧ (SqL K H p xs ∨ SqT K H p xs) ∧ flatV x = true ∧ xs.all flatV = true ∧ Q (.bl (if neg then !inV x xs else inV x xs)) H
theorem op_in_seq : OpR X (compareOp .In) (rIn X.K false) := by
  intro pins s σ H x y v u Q I rx ry h
  obtain ⟨p, xs, rfl, hq, fx, fs, q⟩ := h
  cases ry
  rcases hq with hq | hq
  · obtain ⟨its, r, pl, hz⟩ := I.list hq
    refine SeqAt.in_listAt (eqU x) pl.isList (fun w hw => mem_eqAt rx fx r fs w (by simpa using hw)) ⟨.bl _, H, I, rfl, ?_⟩
    rw [show its.toArray.any (eqU x) = its.any (eqU x) by simp, any_eqU r fs]
    exact q
  · obtain ⟨its, r, pl, hz⟩ := I.tuple hq
    refine SeqAt.in_tupleAt (eqU x) pl (fun w hw => mem_eqAt rx fx r fs w (by simpa using hw)) ⟨.bl _, H, I, rfl, ?_⟩
    rw [show its.toArray.any (eqU x) = its.any (eqU x) by simp, any_eqU r fs]
    exact q
theorem op_notIn_seq : OpR X (compareOp .NotIn) (rIn X.K true) := by
  intro pins s σ H x y v u Q I rx ry h
  obtain ⟨p, xs, rfl, hq, fx, fs, q⟩ := h
  cases ry
  rcases hq with hq | hq
  · obtain ⟨its, r, pl, hz⟩ := I.list hq
    refine SeqAt.notIn_listAt (eqU x) pl.isList (fun w hw => mem_eqAt rx fx r fs w (by simpa using hw)) ⟨.bl _, H, I, rfl, ?_⟩
    rw [show its.toArray.any (eqU x) = its.any (eqU x) by simp, any_eqU r fs]
    exact q
  · obtain ⟨its, r, pl, hz⟩ := I.tuple hq
    refine SeqAt.notIn_tupleAt (eqU x) pl (fun w hw => mem_eqAt rx fx r fs w (by simpa using hw)) ⟨.bl _, H, I, rfl, ?_⟩
    rw [show its.toArray.any (eqU x) = its.any (eqU x) by simp, any_eqU r fs]
    exact q
theorem op_notIn_str : OpR X (compareOp .NotIn) (fun x y H Q => ∃ i j, x = .str i ∧ y = .str j ∧ Q (.bl (!(!(Builtin.Str.occurrences j i 0 j.length 1).isEmpty))) H) := by
  intro pins s σ H x y v u Q I rx ry h
  obtain ⟨i, j, rfl, rfl, q⟩ := h
  obtain ⟨t, rfl⟩ := rx
  obtain ⟨t', rfl⟩ := ry
  exact notIn_str ⟨.bl _, H, I, rfl, q⟩

/-! ### len, list(x), tuple(x) of any list or tuple that is read -/
theorem call_len_seq : CallR X (.builtin "len") (fun xs H Q => ∃ p ys, xs = [.ref p] ∧ (SqL X.K H p ys ∨ SqT X.K H p ys) ∧ Q (.int ys.length) H) := by
  intro pins s σ H xs us Q I r h
  obtain ⟨p, ys, rfl, hq, q⟩ := h
  obtain ⟨u, rfl, rx⟩ := vals1 r
  cases rx
  have hn := line63
  rcases hq with hq | hq
  · obtain ⟨its, r', pl, hz⟩ := I.list hq
    have hlen := r'.length
    exact Calls.call_len_list pl.isList (by simp only [List.size_toArray] <;> omega) ⟨.int ys.length, H, I.tok _, ⟨s.toks + 1, by rw [List.size_toArray, hlen]⟩, q⟩
  · obtain ⟨its, r', pl, hz⟩ := I.tuple hq
    have hlen := r'.length
    exact len_tuple pl (by simp only [List.size_toArray] <;> omega) ⟨.int ys.length, H, I.tok _, ⟨s.toks + 1, by rw [List.size_toArray, hlen]⟩, q⟩
theorem call_len_str : CallR X (.builtin "len") (fun xs H Q => ∃ z, xs = [.str z] ∧ z.length ≤ sizeLine ∧ Q (.int z.length) H) := by
  intro pins s σ H xs us Q I r h
  obtain ⟨z, rfl, hz, q⟩ := h
  obtain ⟨u, rfl, t, rfl⟩ := vals1 r
  have hn := line63
  exact len_str (by omega) ⟨.int z.length, H, I.tok _, ⟨_, rfl⟩, q⟩
theorem CallR.or {f : Value} {r r' : List V → Hp → VK → Prop} (h : CallR X f r) (h' : CallR X f r') : CallR X f (fun xs H Q => r xs H Q ∨ r' xs H Q) := by
  intro pins s σ H xs us Q I rs q
  rcases q with q | q
  · exact h pins s σ H xs us Q I rs q
  · exact h' pins s σ H xs us Q I rs q
theorem call_list_of : CallR X (.type "list") (fun xs H Q => ∃ p ys, xs = [.ref p] ∧ (SqL X.K H p ys ∨ SqT X.K H p ys) ∧ ∀ l, H l = none → Q (.ref l) (upd H l (.lst ys))) := by
  intro pins s σ H xs us Q I r h
  obtain ⟨p, ys, rfl, hq, q⟩ := h
  obtain ⟨u, rfl, rx⟩ := vals1 r
  cases rx
  have fin : ∀ (its : List Value), Vals ys its → ys.length ≤ sizeLine → ∀ (h' : Heap) (c' : Nat), (∀ b o', s.heap.get? b = some o' → h'.get? b = some o') →
      h'.get? s.heap.objs.size = some { cls := .type "list", dict := none, data := .seq its.toArray c', slots := #[] } → EP X pins σ Q (.ref s.heap.objs.size) { s with heap := h' } := fun its r' hz h' c' kp e =>
    ⟨.ref s.heap.objs.size, _, I.laid (t' := s.toks) kp (Nat.le_refl _) (show ObjOk X.prog X.w _ h' _ (.lst ys) from ⟨hz, its, c', r', e⟩), rfl, q _ (I.hok.fresh (Nat.le_refl _))⟩
  rcases hq with hq | hq
  · obtain ⟨its, r', pl, hz⟩ := I.list hq
    have hlen := r'.length
    obtain ⟨o, ho, hc, n, hd⟩ := pl.isList
    exact call_list_seq p (.inl rfl) ho hc hd (fun h' c' kp e => fin its r' hz h' c' kp e) (by simp only [List.size_toArray] <;> omega)
  · obtain ⟨its, r', pl, hz⟩ := I.tuple hq
    have hlen := r'.length
    obtain ⟨o, ho, hc, n, hd⟩ := pl
    exact call_list_seq p (.inr rfl) ho hc hd (fun h' c' kp e => fin its r' hz h' c' kp e) (by simp only [List.size_toArray] <;> omega)
theorem call_tuple_of : CallR X (.type "tuple") (fun xs H Q => ∃ p ys, xs = [.ref p] ∧ ((SqL X.K H p ys ∧ ∀ l, H l = none → Q (.ref l) (upd H l (.tup ys))) ∨ (SqT X.K H p ys ∧ Q (.ref p) H))) := by
  intro pins s σ H xs us Q I r h
  obtain ⟨p, ys, rfl, h⟩ := h
  obtain ⟨u, rfl, rx⟩ := vals1 r
  cases rx
  rcases h with ⟨hq, q⟩ | ⟨hq, q⟩
  · obtain ⟨its, r', pl, hz⟩ := I.list hq
    have hlen := r'.length
    refine call_tuple_list pl.isList (fun h' kp => ?_) (by simp only [List.size_toArray] <;> omega)
    have I1 : Inv X pins σ H { s with heap := h' } := I.kept (t' := s.toks) kp
    have I2 : Inv X pins σ (upd H h'.objs.size (.tup ys)) { s with heap := h'.push { cls := .type "tuple", data := .seq its.toArray } } :=
      I1.laid (t' := s.toks) (fun b o e => Heap.get?_push_of_some _ e) (Nat.le_refl _) (show ObjOk X.prog X.w _ _ _ (.tup ys) from ⟨hz, its, r', IsTup.new _ _⟩)
    exact ⟨.ref h'.objs.size, _, I2, rfl, q _ (I1.hok.fresh (Nat.le_refl _))⟩
  · obtain ⟨its, r', pl, hz⟩ := I.tuple hq
    exact call_tuple_same pl ⟨.ref p, H, I, rfl, q⟩

/-! ### the call of a builtin's method: o.m(..) -/
/-- the value is of that builtin type -/
def tyV (K : PySem.W.Frag) (T : String) (x : V) (H : Hp) : Prop := match x with
  | .str _ => T = "str"
  | .int _ => T = "int"
  | .ref p => (T = "list" ∧ ∃ xs, SqL K H p xs) ∨ (T = "tuple" ∧ ∃ o, K.lookup p = some o ∧ o.cls = .type "tuple" ∧ o.dict = none) ∨
      (T = "dict" ∧ ((∃ kvs, H p = some (.dK kvs)) ∨ ∃ kvs, H p = some (.dT kvs))) ∨ (T = "set" ∧ ∃ S n, H p = some (.set S n))
  | _ => False
theorem tyV_is {pins : List (Addr × Obj)} {σ : St} {H : Hp} {s : Shared} {T : String} {x : V} {v : Value} (I : Inv X pins σ H s) (r : RelV x v) (ty : tyV X.K T x H) :
    s.TypeIs v T ∧ ∀ a, v = .ref a → ∃ ob, s.heap.get? a = some ob ∧ ob.dict = none := by
  cases x with
  | str z =>
    obtain ⟨t, rfl⟩ := r
    cases (show T = "str" from ty)
    exact ⟨typeIs_str s z t, fun _ e => nomatch e⟩
  | int i =>
    obtain ⟨t, rfl⟩ := r
    cases (show T = "int" from ty)
    exact ⟨typeIs_int s i t, fun _ e => nomatch e⟩
  | ref p =>
    cases r
    rcases ty with ⟨rfl, xs, hq⟩ | ⟨rfl, o, hk, hc, hd⟩ | ⟨rfl, hk⟩ | ⟨rfl, S, n, hk⟩
    · obtain ⟨its, _, pl, _⟩ := I.list hq
      refine ⟨pl.isList.typeIs, fun a e => ?_⟩
      cases e
      obtain ⟨o, n, e, c, hd, _⟩ := pl
      exact ⟨o, e, hd⟩
    · refine ⟨⟨o, I.kIn p o hk, hc⟩, fun a e => ?_⟩
      cases e
      exact ⟨o, I.kIn _ o hk, hd⟩
    · have z : ∃ o, s.heap.get? p = some o ∧ o.ExactDict := by
        rcases hk with ⟨kvs, hk⟩ | ⟨kvs, hk⟩
        · obtain ⟨_, _, _, _, o, _, _, e, ex, _⟩ := I.hok p _ hk
          exact ⟨o, e, ex⟩
        · obtain ⟨_, _, _, _, o, _, _, e, ex, _⟩ := I.hok p _ hk
          exact ⟨o, e, ex⟩
      obtain ⟨o, e, ex⟩ := z
      refine ⟨⟨o, e, ex.1⟩, fun a e2 => ?_⟩
      cases e2
      exact ⟨o, e, ex.2.1⟩
    · obtain ⟨o, _, _, _, e, ex, _⟩ := I.hok p _ hk
      refine ⟨⟨o, e, ex.1⟩, fun a e2 => ?_⟩
      cases e2
      exact ⟨o, e, ex.2.1⟩
  | _ => exact False.elim ty
def tBM0 (K : PySem.W.Frag) (T : String) (r : V → List V → Hp → VK → Prop) (to : TE) : TE := fun σ H Q => to σ H fun x H1 => tyV K T x H1 ∧ r x [] H1 Q
def tBM (K : PySem.W.Frag) (T : String) (r : V → List V → Hp → VK → Prop) (to : TE) (t : TA) : TE := fun σ H Q => to σ H fun x H1 => tyV K T x H1 ∧ t σ H1 fun xs H2 => r x xs H2 Q
variable {o e : Expr} {es : List Expr} {to : TE} {t : TA} {name : Str} {apos cpos : Pos} {T id : String} {r : V → List V → Hp → VK → Prop}
theorem pe_bm0 (pa : PlainAttrs T) (slot : Slot T name id) (hty : typeOf (.builtin id) = pure (.type "method_descriptor")) (hm : MtR X id r) (ho : PE X o to)
    (hbase : attributeBase o name X.env (eval o X.env) = eval o X.env := by rfl) (hline : (apos.endLine == cpos.line) = true := by rfl) : PE X (.Call (.Attribute o name apos) [] [] cpos) (tBM0 X.K T r to) := by
  intro pins s σ H Q I h
  refine wpAny_Call_method0_late hbase hline (thn (ho pins s σ H _ I h) fun v s1 ⟨x, H1, I1, r1, ty, q1⟩ => ?_)
  obtain ⟨h1, h2⟩ := tyV_is I1 r1 ty
  exact ⟨T, id, pa, slot, hty, h1, h2, Calls.callWith_builtin rfl (PySem.evalArgs_none (hm pins s1 σ H1 x [] v [] Q I1 r1 .nil q1))⟩
theorem pe_bm (pa : PlainAttrs T) (slot : Slot T name id) (hty : typeOf (.builtin id) = pure (.type "method_descriptor")) (hm : MtR X id r) (ho : PE X o to) (ha : PA X (e :: es) t)
    (hbase : attributeBase o name X.env (eval o X.env) = eval o X.env := by rfl)
    (hfew : ((backTo cpos (starEach (e :: es) X.env)).all (fun x => !x.1) && (backToKw cpos (keywordEach [] X.env)).all (fun x => x.1.isSome)
      && decide ((e :: es).length + ([] : List Keyword).length + (if ([] : List Keyword).isEmpty then 0 else 1) < 30)) = true := by rfl)
    (hline : (apos.endLine == cpos.line) = true := by rfl) (hs : starEach (e :: es) X.env = (false, eval e X.env) :: starEach es X.env := by rfl) (hplain : (backTo cpos (starEach es X.env)).any (·.1) = false := by rfl) :
    PE X (.Call (.Attribute o name apos) (e :: es) [] cpos) (tBM X.K T r to t) := by
  intro pins s σ H Q I h
  refine wpAny_Call_method_late hbase hfew hline rfl (thn (ho pins s σ H _ I h) fun v s1 ⟨x, H1, I1, r1, ty, q1⟩ => ?_)
  obtain ⟨h1, h2⟩ := tyV_is I1 r1 ty
  refine ⟨T, id, pa, slot, hty, h1, h2, ?_⟩
  have hA := ha cpos pins s1 σ H1 _ I1 q1
  rw [hs] at hA ⊢
  refine Calls.callWith_builtin (by show (false || (backTo cpos (starEach es X.env)).any (·.1)) = false; rw [hplain] <;> rfl) (Calls.evalArgs_plain ?_)
  exact thn hA fun us s2 ⟨vs, H2, I2, r2, q2⟩ => hm pins s2 σ H2 x vs v us Q I2 r1 r2 q2
/- xs.append(e), list.index on a module's tuple .. are MtR facts of 06m -/
end
end L2

namespace L2
open PySem PySem.Spec PyProof.Rows

def MtM (X : Cx) (id : String) (r : V → List V → Hp → VK → Prop) : Prop :=
  ∀ (pins : List (Addr × Obj)) (s : Shared) (σ : St) (H : Hp) (x : V) (xs : List V) (v : Value) (us : List Value) (Q : VK), Inv X pins σ H s → RelV x v → Vals xs us → r x xs H Q →
    wpAny (model X.prog X.w) X.A (call (.builtin id) (v :: us)) (EP X pins σ Q) X.xe s

/-! ### lists of values -/
theorem Vals.one : ∀ {x : V} {us : List Value}, Vals [x] us → ∃ u, us = [u] ∧ RelV x u
  | _, _, .cons r .nil => ⟨_, rfl, r⟩
theorem Vals.two : ∀ {x y : V} {us : List Value}, Vals [x, y] us → ∃ u v, us = [u, v] ∧ RelV x u ∧ RelV y v
  | _, _, _, .cons r (.cons q .nil) => ⟨_, _, rfl, r, q⟩
theorem Vals.zero : ∀ {us : List Value}, Vals [] us → us = []
  | _, .nil => rfl
theorem Vals.dropLast {xs : List V} {us : List Value} (h : Vals xs us) : Vals xs.dropLast us.dropLast := by
  induction h with
  | nil => exact .nil
  | cons r t ih =>
    cases t with
    | nil => exact .nil
    | cons q t' => exact .cons r ih
theorem Vals.eraseIdx : ∀ {xs : List V} {us : List Value} (i : Nat), Vals xs us → Vals (xs.eraseIdx i) (us.eraseIdx i)
  | _, _, _, .nil => .nil
  | _, _, 0, .cons _ t => t
  | _, _, i + 1, .cons r t => .cons r (Vals.eraseIdx i t)
theorem Vals.reverse {xs : List V} {us : List Value} (h : Vals xs us) : Vals xs.reverse us.reverse := by
  induction h with
  | nil => exact .nil
  | cons r t ih => rw [List.reverse_cons, List.reverse_cons]; exact Vals.append ih (.cons r .nil)
theorem Vals.rep {xs : List V} {us : List Value} (h : Vals xs us) : ∀ k : Nat, Vals (List.replicate k xs).flatten (List.replicate k us).flatten
  | 0 => .nil
  | k + 1 => by
    rw [List.replicate_succ, List.replicate_succ, List.flatten_cons, List.flatten_cons]
    exact Vals.append h (Vals.rep h k)
theorem erase_last {α : Type} (l : List α) : l.eraseIdx (l.length - 1) = l.dropLast := by
  induction l with
  | nil => rfl
  | cons a r ih =>
    cases r with
    | nil => rfl
    | cons b r =>
      have e : (a :: b :: r).length - 1 = ((b :: r).length - 1) + 1 := by
        have h1 : (a :: b :: r).length = r.length + 2 := rfl
        have h2 : (b :: r).length = r.length + 1 := rfl
        omega
      rw [e, List.eraseIdx_cons_succ, ih]
      all_goals rfl
theorem len_erase {α : Type} : ∀ (l : List α) (i : Nat), (l.eraseIdx i).length ≤ l.length
  | [], _ => Nat.le_refl _
  | _ :: _, 0 => Nat.le_succ _
  | _ :: r, i + 1 => Nat.succ_le_succ (len_erase r i)
theorem foldl_rep (its : List Value) : ∀ (k : Nat) (acc : List Value),
    List.foldl (fun x1 x2 => x1 ++ x2) acc.toArray (List.replicate k its.toArray) = (acc ++ (List.replicate k its).flatten).toArray
  | 0, acc => by simp
  | k + 1, acc => by
    have e : acc.toArray ++ its.toArray = (acc ++ its).toArray := by simp
    have e2 : (acc ++ its) ++ (List.replicate k its).flatten = acc ++ (List.replicate (k + 1) its).flatten := by
      rw [List.replicate_succ, List.flatten_cons, List.append_assoc]
    rw [← e2, ← foldl_rep its k (acc ++ its), ← e, List.replicate_succ, List.foldl_cons]

section
variable {X : Cx} {pins : List (Addr × Obj)} {σ : St} {H : Hp} {s : Shared} {l b : Addr} {xs ys zs : List V}

/-! ### the two steps: a tracked list is rewritten, a new list is laid -/
theorem Inv.lset {its its' : List Value} {n : Nat} {f : Array Value → Array Value} {t' : Nat} (I : Inv X pins σ H s) (hH : H l = some (.lst xs))
    (e : s.heap.get? l = some { cls := .type "list", data := .seq its.toArray n }) (hf : f its.toArray = its'.toArray) (hv : Vals ys its') (hz : ys.length ≤ sizeLine) :
    Inv X pins σ (upd H l (.lst ys)) { s with heap := s.heap.update l (Obj.mapSeq f), toks := t' } := by
  have q := PySem.IsL.update e f
  rw [hf] at q
  refine I.write (x := l) (e := l) (by rw [hH]; exact trivial) (.inl rfl) (fun b' u hb hu => (Heap.get?_update_other s.heap (Obj.mapSeq f) (Ne.symm hb)).trans hu) ⟨_, q⟩ ?_
  exact ⟨hz, its', _, hv, q⟩
theorem Inv.lnew {its : List Value} {t' : Nat} (I : Inv X pins σ H s) (hv : Vals ys its) (hz : ys.length ≤ sizeLine) :
    Inv X pins σ (upd H s.heap.objs.size (.lst ys)) { s with heap := s.heap.push { cls := .type "list", data := .seq its.toArray }, toks := t' } :=
  I.laid (fun _ _ q => Heap.get?_push_of_some _ q) (Nat.le_refl _) ⟨hz, its, 0, hv, Heap.get?_push_size _ rfl⟩
theorem Inv.fresh (I : Inv X pins σ H s) : H s.heap.objs.size = none := I.hok.fresh (Nat.le_refl _)
theorem Inv.lstM (I : Inv X pins σ H s) (hH : H l = some (.lst xs)) : xs.length ≤ sizeLine ∧ ∃ (its : List Value) (n : Nat), Vals xs its ∧ xs.length = its.length ∧ s.heap.get? l = some { cls := .type "list", data := .seq its.toArray n } := by
  obtain ⟨z, its, n, r, e⟩ := I.hok l _ hH
  exact ⟨z, its, n, r, r.length, e⟩

theorem notLongL {n : Nat} (h : n ≤ sizeLine) : Builtin.List.listTooLong n = false := by
  unfold Builtin.List.listTooLong
  exact decide_eq_false (by omega)
end

section
variable {X : Cx}

/-! ### methods -/
def rAppend : V → List V → Hp → VK → Prop := fun x vs H Q => ∃ l xs y, x = .ref l ∧ vs = [y] ∧ H l = some (.lst xs) ∧ xs.length < sizeLine ∧ Q .non (upd H l (.lst (xs ++ [y])))
theorem mt_append : MtM X "list.append" rAppend := by
  intro pins s σ H x vs v us Q I rx rv h
  obtain ⟨l, xs, y, rfl, rfl, hH, hz, q⟩ := h
  cases rx
  obtain ⟨u, rfl, ru⟩ := rv.one
  obtain ⟨z, its, n, r, hl, e⟩ := I.lstM hH
  refine call_meets F.slot_list_append ⟨_, e, rfl⟩ F.entry_list_append (F.args_list_append_2 _ _) (PySem.list_append l its.toArray n u (by rw [List.size_toArray]; omega)) ⟨e, ?_⟩
  refine ⟨.non, _, I.lset (its' := its ++ [u]) hH e (by simp) (r.append (.cons ru .nil)) ?_, rfl, q⟩
  rw [List.length_append, List.length_singleton]
  omega

def rExtend : V → List V → Hp → VK → Prop := fun x vs H Q => ∃ l b xs zs, x = .ref l ∧ vs = [.ref b] ∧ H l = some (.lst xs) ∧ H b = some (.lst zs) ∧ xs.length + zs.length ≤ sizeLine ∧ Q .non (upd H l (.lst (xs ++ zs)))
theorem mt_extend : MtM X "list.extend" rExtend := by
  intro pins s σ H x vs v us Q I rx rv h
  obtain ⟨l, b, xs, zs, rfl, rfl, hH, hB, hz, q⟩ := h
  cases rx
  obtain ⟨u, rfl, ru⟩ := rv.one
  cases ru
  obtain ⟨z, its, n, r, hl, e⟩ := I.lstM hH
  obtain ⟨z2, its2, n2, r2, hl2, e2⟩ := I.lstM hB
  have hsz : its.toArray.size + its2.toArray.size ≤ sizeLine := by rw [List.size_toArray, List.size_toArray]; omega
  have hlong : ¬ (!its.toArray.isEmpty && Builtin.List.listTooLong (its.toArray.size + its2.toArray.size)) = true := by
    rw [notLongL hsz, Bool.and_false]
    exact Bool.false_ne_true
  refine call_meets F.slot_list_extend ⟨_, e, rfl⟩ F.entry_list_extend (F.args_list_extend_2 _ _)
    (AutoSeq1.list_extend_list_list_0 l its.toArray n b its2.toArray n2 hlong (by rw [List.size_toArray]; omega) (by omega)) ⟨e, e2, ?_⟩
  refine ⟨.non, _, I.lset (its' := its ++ its2) hH e (by simp) (r.append r2) ?_, rfl, q⟩
  rw [List.length_append]
  omega

def rPop : V → List V → Hp → VK → Prop := fun x vs H Q => ∃ l xs y, x = .ref l ∧ vs = [] ∧ H l = some (.lst xs) ∧ xs[xs.length - 1]? = some y ∧ Q y (upd H l (.lst xs.dropLast))
theorem mt_pop : MtM X "list.pop" rPop := by
  intro pins s σ H x vs v us Q I rx rv h
  obtain ⟨l, xs, y, rfl, rfl, hH, hy, q⟩ := h
  cases rx
  have hus := rv.zero
  subst hus
  obtain ⟨z, its, n, r, hl, e⟩ := I.lstM hH
  obtain ⟨u, hu, ru⟩ := r.get hy
  have hy' : its.toArray[its.toArray.size - 1]? = some u := by
    show its.toArray[its.length - 1]? = some u
    rw [← Array.getElem?_toList, ← hl]
    exact hu
  refine call_meets F.slot_list_pop ⟨_, e, rfl⟩ F.entry_list_pop (F.args_list_pop_1 _) (MeetsSeq.list_pop_last l its.toArray n u hy' (by rw [List.size_toArray]; omega)) ⟨e, ?_⟩
  refine ⟨y, _, I.lset (its' := its.dropLast) hH e ?_ r.dropLast ?_, ru, q⟩
  · show its.toArray.eraseIdxIfInBounds (its.toArray.size - 1) = its.dropLast.toArray
    rw [List.size_toArray, List.eraseIdxIfInBounds_toArray, erase_last]
  · rw [List.length_dropLast]
    omega

def rPopAt : V → List V → Hp → VK → Prop := fun x vs H Q => ∃ l xs i k y, x = .ref l ∧ vs = [.int i] ∧ H l = some (.lst xs) ∧ -(2 ^ 63) ≤ i ∧ i < 2 ^ 63 ∧ seqIndex? i xs.length = some k ∧ xs[k]? = some y ∧ Q y (upd H l (.lst (xs.eraseIdx k)))
theorem mt_popAt : MtM X "list.pop" rPopAt := by
  intro pins s σ H x vs v us Q I rx rv h
  obtain ⟨l, xs, i, k, y, rfl, rfl, hH, h1, h2, hk, hy, q⟩ := h
  cases rx
  obtain ⟨u, rfl, ru⟩ := rv.one
  obtain ⟨t, rfl⟩ := ru
  obtain ⟨z, its, n, r, hl, e⟩ := I.lstM hH
  obtain ⟨w, hw, rw'⟩ := r.get hy
  refine call_meets F.slot_list_pop ⟨_, e, rfl⟩ F.entry_list_pop (F.args_list_pop_2 _ _)
    (MeetsSeq.list_pop_at l its.toArray n i t k w (fitsIndex_both h1 h2) (by rw [List.size_toArray, ← hl]; exact hk) (by rw [← Array.getElem?_toList]; exact hw) (by rw [List.size_toArray]; omega)) ⟨e, ?_⟩
  refine ⟨y, _, I.lset (its' := its.eraseIdx k) hH e ?_ (r.eraseIdx k) ?_, rw', q⟩
  · show its.toArray.eraseIdxIfInBounds k = (its.eraseIdx k).toArray
    rw [List.eraseIdxIfInBounds_toArray]
  · have := len_erase xs k
    omega

def rReverse : V → List V → Hp → VK → Prop := fun x vs H Q => ∃ l xs, x = .ref l ∧ vs = [] ∧ H l = some (.lst xs) ∧ Q .non (upd H l (.lst xs.reverse))
theorem mt_reverse : MtM X "list.reverse" rReverse := by
  intro pins s σ H x vs v us Q I rx rv h
  obtain ⟨l, xs, rfl, rfl, hH, q⟩ := h
  cases rx
  have hus := rv.zero
  subst hus
  obtain ⟨z, its, n, r, hl, e⟩ := I.lstM hH
  refine call_meets F.slot_list_reverse ⟨_, e, rfl⟩ F.entry_list_reverse (F.args_list_reverse_1 _) (AutoSeq1.list_reverse_list_0 l its.toArray n (by rw [List.size_toArray]; omega)) ⟨e, ?_⟩
  refine ⟨.non, _, I.lset (its' := its.reverse) hH e (by simp) r.reverse ?_, rfl, q⟩
  rw [List.length_reverse]
  omega

def rClear : V → List V → Hp → VK → Prop := fun x vs H Q => ∃ l xs, x = .ref l ∧ vs = [] ∧ H l = some (.lst xs) ∧ Q .non (upd H l (.lst []))
theorem mt_clear : MtM X "list.clear" rClear := by
  intro pins s σ H x vs v us Q I rx rv h
  obtain ⟨l, xs, rfl, rfl, hH, q⟩ := h
  cases rx
  have hus := rv.zero
  subst hus
  obtain ⟨z, its, n, r, hl, e⟩ := I.lstM hH
  refine call_meets F.slot_list_clear ⟨_, e, rfl⟩ F.entry_list_clear (F.args_list_clear_1 _) (AutoSeq1.list_clear_list_0 l its.toArray n (by rw [List.size_toArray]; omega)) ⟨e, ?_⟩
  exact ⟨.non, _, I.lset (its' := []) (ys := []) hH e rfl .nil (Nat.zero_le _), rfl, q⟩

/-! ### list + list, list += list, list * int -/
def rCat : R2 := fun x y H Q => ∃ l b xs zs, x = .ref l ∧ y = .ref b ∧ H l = some (.lst xs) ∧ H b = some (.lst zs) ∧ xs.length + zs.length ≤ sizeLine ∧ ∀ p, H p = none → Q (.ref p) (upd H p (.lst (xs ++ zs)))
theorem op_cat : OpR X (binaryOp .Add) rCat := by
  intro pins s σ H x y v u Q I rx ry h
  obtain ⟨l, b, xs, zs, rfl, rfl, hH, hB, hz, q⟩ := h
  cases rx
  cases ry
  obtain ⟨z, its, n, r, hl, e⟩ := I.lstM hH
  obtain ⟨z2, its2, n2, r2, hl2, e2⟩ := I.lstM hB
  refine PySem.P.add_list e e2 ?_ (by rw [List.size_toArray, List.size_toArray]; omega)
  have ea : its.toArray ++ its2.toArray = (its ++ its2).toArray := by simp
  rw [ea]
  exact ⟨.ref _, _, I.lnew (t' := s.toks) (r.append r2) (by rw [List.length_append]; omega), rfl, q _ I.fresh⟩
/-- a list times an int (a negative one is nothing) -/
def rRep : R2 := fun x y H Q => ∃ l k xs, x = .ref l ∧ y = .int k ∧ H l = some (.lst xs) ∧ -(2 ^ 63) ≤ k ∧ k < 2 ^ 63 ∧ xs.length * k.toNat ≤ sizeLine ∧
  ∀ p, H p = none → Q (.ref p) (upd H p (.lst (List.replicate k.toNat xs).flatten))
theorem len_rep {α : Type} (xs : List α) (k : Nat) : (List.replicate k xs).flatten.length = k * xs.length := by
  induction k with
  | zero => simp
  | succ k ih => rw [List.replicate_succ, List.flatten_cons, List.length_append, ih, Nat.succ_mul, Nat.add_comm]
theorem op_rep : OpR X (binaryOp .Mult) rRep := by
  intro pins s σ H x y v u Q I rx ry h
  obtain ⟨l, k, xs, rfl, rfl, hH, h1, h2, hz, q⟩ := h
  cases rx
  obtain ⟨t, rfl⟩ := ry
  obtain ⟨z, its, n, r, hl, e⟩ := I.lstM hH
  have hlen : its.toArray.size * k.toNat ≤ sizeLine := by rw [List.size_toArray, ← hl]; exact hz
  have hcap : ¬ its.toArray.size * k.toNat > (2 ^ 63 - 1) / 8 := by
    have : (sizeLine : Nat) ≤ (2 ^ 63 - 1) / 8 := by decide
    omega
  have hfit : ¬ (!Builtin.List.listFitsIndex k) = true := by
    rw [fitsIndex_both h1 h2]
    exact Bool.false_ne_true
  have hlong : ¬ Builtin.List.listTooLong (its.toArray.size * k.toNat) = true := by
    rw [notLongL hlen]
    exact Bool.false_ne_true
  have hnew : List.foldl (fun x1 x2 => x1 ++ x2) #[] (List.replicate (if its.toArray.isEmpty = true then 0 else k.toNat) its.toArray) = (List.replicate k.toNat its).flatten.toArray := by
    have f0 : ∀ m : Nat, List.foldl (fun x1 x2 => x1 ++ x2) #[] (List.replicate m its.toArray) = (List.replicate m its).flatten.toArray := fun m => by
      have := foldl_rep its m []
      rw [List.nil_append] at this
      exact this
    rw [f0]
    cases its with
    | nil => simp
    | cons a r' => rw [if_neg (by simp)]
  refine wpAny_binaryOp_repeat_ref (T := "list") (U := "int") (by decide) ⟨_, e, rfl⟩ (fun s' => typeIs_int s' k t) noFill_list_mul F.fills_int_mul F.slot_int_rmul repeat_list F.slot_int_index.lookup
    (call_meets F.slot_int_rmul (typeIs_int s k t) F.entry_int_rmul (F.args_int_rmul_2 _ _) (int___rmul___int_list k t l its.toArray n)
      ⟨e, rfl, ⟨_, e, rfl⟩, call_meets F.slot_list_mul ⟨_, e, rfl⟩ F.entry_list_mul (F.args_list_mul_2 _ _) (AutoListH.list___mul___list_int_3 l its.toArray n k t hfit hcap hlong) ⟨e, ?_⟩⟩)
  rw [hnew]
  exact ⟨.ref _, _, I.lnew (t' := s.toks) (r.rep k.toNat) (by rw [len_rep, Nat.mul_comm]; exact hz), rfl, q _ I.fresh⟩

/-! ### del xs[i] -/
theorem del_list {pins : List (Addr × Obj)} {s : Shared} {σ : St} {H : Hp} {l : Addr} {xs : List V} {i : Int} {t : Tok} {k : Nat} {Q : Unit → Shared → Prop} (I : Inv X pins σ H s) (hH : H l = some (.lst xs))
    (h1 : -(2 ^ 63) ≤ i) (h2 : i < 2 ^ 63) (hk : seqIndex? i xs.length = some k) (h : ∀ s', Inv X pins σ (upd H l (.lst (xs.eraseIdx k))) s' → Q () s') :
    wpAny (model X.prog X.w) X.A (delItem (.ref l) (.int i t)) Q X.xe s := by
  obtain ⟨z, its, n, r, hl, e⟩ := I.lstM hH
  refine PySem.P.delItem_list (k := k) e (fitsIndex_both h1 h2) (by rw [List.size_toArray, ← hl]; exact hk) (h _ ?_) (by rw [List.size_toArray]; omega)
  refine I.lset (its' := its.eraseIdx k) (t' := s.toks) hH e ?_ (r.eraseIdx k) ?_
  · show its.toArray.eraseIdxIfInBounds k = (its.eraseIdx k).toArray
    rw [List.eraseIdxIfInBounds_toArray]
  · have := len_erase xs k
    omega
end

/-! ### xs[a:b] = ys -/
section
variable {prog : Program} {w : World} {A : Around} {E : Value → Shared → Prop} {s : Shared}
theorem splice_eq (its its2 : List Value) (a c : Nat) : its.toArray.extract 0 a ++ its2.toArray ++ its.toArray.extract c its.toArray.size = (its.take a ++ its2 ++ its.drop c).toArray := by
  apply Array.toList_inj.mp
  first
    | (simp
       exact List.take_of_length_le (by simp))
    | simp [List.take_of_length_le]
    | simp
theorem bounds_run {a c n : Nat} (hac : a ≤ c) (hc : c ≤ n) : sliceBounds (some (a : Int)) (some (c : Int)) none n = ((a : Int), (c : Int), 1) := by
  simp only [sliceBounds, Option.getD_none]
  have h1 : ¬ ((a : Int) < 0) := by omega
  have h2 : ¬ ((c : Int) < 0) := by omega
  simp only [h1, h2, if_false, show (1 : Int) > 0 by decide, if_true]
  congr 1
  · omega
  · congr 1; omega
set_option maxRecDepth 100000 in
/-- list.__setitem__ with a slice of step one and another list -/
theorem setItem_slice {l b sl : Addr} {items new : Array Value} {n n2 : Nat} {vl vu : Value} {a c : Nat} {Q : Unit → Shared → Prop}
    (e : s.heap.get? l = some { cls := .type "list", data := .seq items n }) (e2 : s.heap.get? b = some { cls := .type "list", data := .seq new n2 }) (hne : l ≠ b)
    (hs : s.heap.IsSliceOf sl vl vu .none) (pl : IsPart vl (some (a : Int))) (pu : IsPart vu (some (c : Int))) (hac : a ≤ c) (hc : c ≤ items.size)
    (hsz : items.size + new.size ≤ sizeLine) (h : Q () { s with heap := s.heap.update l (Obj.mapSeq fun xs => xs.extract 0 a ++ new ++ xs.extract c xs.size) }) :
    wpAny (model prog w) A (setItem (.ref l) (.ref sl) (.ref b)) Q E s := by
  have hl : s.heap.IsList l items := PySem.IsL.isList e
  have hb : s.heap.IsList b new := PySem.IsL.isList e2
  obtain ⟨os, hos, hcs, hds⟩ := id hs
  have hTs : s.TypeIs (.ref sl) "slice" := ⟨os, hos, hcs⟩
  have hstep : ¬ ((rawPart none == rawInt 0) = true) := Bool.false_ne_true
  have hsame : Builtin.List.listSameRef (.ref l) (.ref b) = false := by
    unfold Builtin.List.listSameRef
    exact beq_eq_false_iff_ne.mpr hne
  have hmax : (max (a : Int) (c : Int)).toNat = c := by omega
  have hz' : ((fun xs : Array Value => xs.extract 0 a ++ new ++ xs.extract c xs.size) items).size ≤ sizeLine + 1 := by
    simp only [Array.size_append, Array.size_extract]
    omega
  unfold setItem
  try with_reducible refine wpAny_holding ?_
  first | refine wpAny_bind (wpAny_pure ?_) | skip
  refine wpAny_bind (wpAny_sequenceKey hl.typeIs (by decide) ?_)
  refine wpAny_bind (wpAny_callSpecial?_slot (name := Str.ofString "__setitem__") hl.typeIs slot_list_setitem
    (wpAny_call_entry slot_list_setitem hl.typeIs entry_list_setitem ?_ (args_list_setitem _ _ _)))
  show wpAny _ _ (Builtin.List.listSubscript? (.ref sl) >>= _) _ _ s
  refine wpAny_bind ?_
  unfold Builtin.List.listSubscript?
  refine wpAny_bind (wpAny_specialOf hTs slice_no_index ?_)
  simp only [Option.isNone_none, if_true]
  refine wpAny_pure ?_
  show wpAny _ _ (typeOf (.ref sl) >>= _) _ _ s
  refine wpAny_bind (wpAny_typeOf hTs ?_)
  first
    | rw [if_neg (by decide)]
    | refine PySem.W.KFB.if_not (by decide) ?_
  rw [listSliceParts_eq]
  refine wpAny_bind (wpAny_bind (wpAny_field hos hds (x := .none) rfl (wpAny_bind (wpAny_listPart .none ?_))))
  rw [if_neg hstep]
  refine wpAny_bind (wpAny_field hos hds (x := vl) rfl (wpAny_bind (wpAny_listPart pl ?_)))
  refine wpAny_bind (wpAny_field hos hds (x := vu) rfl (wpAny_bind (wpAny_listPart pu (wpAny_pure ?_))))
  first
    | simp only [hsame, Bool.false_eq_true, if_false]
    | refine PySem.W.KFB.if_not hsame ?_
    | (dsimp only
       rw [if_neg (by rw [hsame]; exact Bool.false_ne_true)])
  refine wpAny_bind (m := Builtin.List.listAllItems (.ref b) "must assign iterable to extended slice") ?_
  unfold Builtin.List.listAllItems
  refine wpAny_bind (wpAny_typeOf hb.typeIs ?_)
  first
    | refine PySem.W.KFB.if_so (by decide) ?_
    | rw [if_pos (by decide)]
    | simp only [beq_self_eq_true, Bool.true_or, if_true]
  unfold Builtin.List.listItems
  refine wpAny_bind (wpAny_seqItems e2 rfl (wpAny_pure ?_))
  refine wpAny_bind (wpAny_bind (wpAny_seqItems e rfl (wpAny_pure ?_)))
  refine wpAny_bind (wpAny_of_eq ((sliceIndices_raw (some (a : Int)) (some (c : Int)) none items.size (by simp)).trans (congrArg (pure : Int × Int × Int → Sem (Int × Int × Int)) (bounds_run hac hc))) ?_)
  show wpAny _ _ (if ((1 : Int) == 1) = true then _ else _) _ _ s
  rw [if_pos (by decide)]
  refine wpAny_bind (wpAny_rule ?_)
  first
    | simp only [notLongL hsz, Bool.false_eq_true, if_false]
    | refine PySem.W.KFB.if_not (notLongL hsz) ?_
  first | refine wpAny_bind (wpAny_pure ?_) | skip
  show wpAny _ _ (updateSeq l (fun xs => xs.extract 0 ((a : Int)).toNat ++ new ++ xs.extract (max (a : Int) (c : Int)).toNat xs.size) >>= _) _ _ s
  rw [hmax, Int.toNat_natCast]
  refine wpAny_bind (wpAny_updateSeq (hz := Nat.le_trans (Nat.le_add_right _ _) hsz) (_hz' := hz') e rfl ?_)
  refine wpAny_bind (wpAny_letGo ?_)
  first
    | exact wpAny_bind (wpAny_pure (wpAny_pure ⟨.none, rfl, wpAny_pure h⟩))
    | exact wpAny_pure ⟨.none, rfl, wpAny_pure h⟩
end

section
variable {X : Cx}
/-- xs[a:c] = ys of another list, at the value level: sl is the slice object that was just made -/
theorem set_slice {pins : List (Addr × Obj)} {s : Shared} {σ : St} {H : Hp} {l b sl : Addr} {xs ys : List V} {a c : Int} {vl vu : Value} {Q : Unit → Shared → Prop} (I : Inv X pins σ H s)
    (hH : H l = some (.lst xs)) (hB : H b = some (.lst ys)) (hne : l ≠ b) (hs : s.heap.IsSliceOf sl vl vu .none) (ra : RelV (.int a) vl) (rc : RelV (.int c) vu) (h0 : 0 ≤ a) (hac : a ≤ c) (hc : c ≤ xs.length)
    (hz : xs.length + ys.length ≤ sizeLine) (h : ∀ s', Inv X pins σ (upd H l (.lst (xs.take a.toNat ++ ys ++ xs.drop c.toNat))) s' → Q () s') :
    wpAny (model X.prog X.w) X.A (setItem (.ref l) (.ref sl) (.ref b)) Q X.xe s := by
  obtain ⟨ta, rfl⟩ := ra
  obtain ⟨tc, rfl⟩ := rc
  obtain ⟨z, its, n, r, hl, e⟩ := I.lstM hH
  obtain ⟨z2, its2, n2, r2, hl2, e2⟩ := I.lstM hB
  obtain ⟨a', rfl⟩ := Int.eq_ofNat_of_zero_le h0
  obtain ⟨c', rfl⟩ := Int.eq_ofNat_of_zero_le (Int.le_trans h0 hac)
  simp only [Int.toNat_natCast] at h
  refine setItem_slice (a := a') (c := c') e e2 hne hs (.int _ _) (.int _ _) (by omega) (by rw [List.size_toArray]; omega) (by rw [List.size_toArray, List.size_toArray]; omega) (h _ ?_)
  refine I.lset (its' := its.take a' ++ its2 ++ its.drop c') (t' := s.toks) hH e ?_ (Vals.append (Vals.append (r.take _) r2) (r.drop _)) ?_
  · exact splice_eq its its2 a' c'
  · rw [List.length_append, List.length_append, List.length_take, List.length_drop]
    omega
end
end L2

namespace Att
open PySem PySem.W PySem.Calls PyProof.Rows

/-! ### the script -/
theorem ints_of_wellAll {P : Params} {h : Heap} : ∀ (ns : List Int) (vs : List Value), WellAll P h vs (ns.map WData.int) → IntsAre vs ns := by
  intro ns
  induction ns with
  | nil =>
    intro vs w
    rw [List.map_nil] at w
    cases w
    exact .nil
  | cons n ns ih =>
    intro vs w
    rw [List.map_cons] at w
    cases w with
    | cons a b =>
      cases a
      exact .cons _ _ (ih _ b)

theorem script_of {l : OpenLaw} {n : Nat} (hn : l.most = some n) {P : Params} {h : Heap} {args : List WData} {vals : List Value}
    (hpre : l.row.toRowW.claim.pre args = true) (hwl : WellAll P h vals args) :
    ∃ a vs ns, vals = [Value.ref a] ∧ args = [WData.list (ns.map WData.int)] ∧ h.get? a = some { cls := .type "list", data := .seq vs.toArray } ∧ IntsAre vs ns ∧ ns.length ≤ n := by
  have hsh : WShape.hasAll [] args [.list .int] = true := (pre_splitW hpre).1
  have hc : l.pre.holds [] { args := args } = true := (pre_splitW hpre).2
  obtain ⟨d, r, rfl, h1, h2⟩ := hasAllW_cons hsh
  obtain rfl := hasAllW_nil h2
  obtain ⟨xs, rfl, h3⟩ := hasW_list h1
  obtain ⟨ns, rfl⟩ := items_int h3
  have hlen : ns.length ≤ n := by
    unfold OpenLaw.pre at hc
    have h4 : (WTm.not (.lt (.lit (.int (n : Int))) (.len (.arg 0)))).holds [] { args := [.list (ns.map .int)] } = true := by
      have h4 := (holds_andW hc).1
      rw [hn] at h4
      exact h4
    have h5 := condW_of h4 (w_not (w_lt w_lit (w_len_list (w_arg rfl))))
    rw [List.length_map] at h5
    refine Nat.le_of_not_lt fun q => ?_
    have q' : (n : Int) < ((ns.length : Nat) : Int) := by omega
    first
      | (rw [decide_eq_true q'] at h5; exact absurd h5 (by decide))
      | (simp at h5; omega)
  cases hwl with
  | cons w1 w2 =>
    cases w2
    cases w1 with
    | list ho hall => exact ⟨_, _, ns, rfl, rfl, ho, ints_of_wellAll ns _ hall, hlen⟩

theorem post_true (l : OpenLaw) (args : List WData) : l.row.toRowW.claim.post args (.bool true) args = true :=
  postW_of (r := l.row.toRowW) (X := (true == true))
    (show WShape.has [] (.bool true) .bool = true by first | rfl | decide | simp [WShape.has, WShape.arms, WShape.armsAll])
    (show (WTm.eq .res (.lit (.bool true))).value [] { args := args, res := some (.bool true), after := args } = some (.bool (true == true)) from w_eq_bool (w_res rfl) w_lit) rfl

/-! ### the attachment: holds_open's last premise (the goal 'hc' behind k_head) from a wpAny of the law's body -/
theorem attach {l : OpenLaw} {n : Nat} {q : Program} {loose : List Str} {XP : (Str → Option Value) → Heap → Prop} {YP : World → Heap → Prop} {d : DefRec} {x : Str}
    (hn : l.most = some n) (hdf : d.params.defaults = [])
    (hbind : ∀ pm cd doc v : Value, bindArgs (docDef d.name d.params d.body d.scope pm cd doc) ⟨[v], []⟩ = pure [(x, v)])
    (hx : d.scope.names.lookup x = some .local ∨ d.scope.names.lookup x = some .cell)
    (hk : d.scope.kind = .function) (hco : d.scope.isCoroutine = false) (hgen : d.scope.isGenerator = false)
    (body : ∀ (w : World) (s₀ s₁ s : Shared) (mg mb : Str → Option Value) (fa : Addr) (o : Obj) (pm cd doc : Value) (a : Addr) (vs : List Value) (ns : List Int),
      Ground q loose [] XP w s₀ mg mb s₁.heap → YP w s₁.heap →
      s₁.heap.get? fa = some o → o.data = .func (docDef d.name d.params d.body d.scope pm cd doc) → s₁.heap.CodeRec cd d.name → mg d.name = some (.ref fa) →
      s₁.heap.get? a = some { cls := .type "list", data := .seq vs.toArray } → IntsAre vs ns → ns.length ≤ n →
      s.gens = #[] → s.os = s₁.os →
      Fr s₁.heap s₁.heap.objs.size s.heap (bindL (envOfC d.name d.scope s₁.heap.objs.size fa cd).kindOf [(x, .ref a)] fun _ => none) →
      Cl s₁.heap.objs.size (cellsFrom (s₁.heap.objs.size + 1) d.scope.names []) s.heap (bindC (envOfC d.name d.scope s₁.heap.objs.size fa cd).kindOf [(x, .ref a)] fun _ => none) →
      wpAny (model l.prog w) (callerA.deeper (envOfC d.name d.scope s₁.heap.objs.size fa cd)) (execs d.body (envOfC d.name d.scope s₁.heap.objs.size fa cd))
        (fun f s' => f = .ret (.bool true) ∧ OldK s₁.heap s'.heap ∧ s'.os = s₁.os ∧ AllBare s'.gens) (fun _ _ => False) s) :
    WalkO q loose XP YP l.row.toRowW d [] (fun f vs => PySem.call f vs) := by
  intro w s₀ s₁ mg mb G Y fa o pm cd doc dV kV ho hd hcd hD hmg hg args vals as hpre hlay hrd hwl hlo
  obtain rfl : dV = .none := Dflts.none hD hdf
  obtain rfl : kV = .none := Dflts.noKw hD
  obtain ⟨a, vs, ns, rfl, rfl, hobj, hints, hlen⟩ := script_of hn hpre hwl
  refine enter_call ?_
  refine call_cells_ret (o := o) (by rw [depth_caller]; decide) ho (fd_plain hd) G.T.nolimit hcd (hbind pm cd doc (.ref a)) (fun y hy => ?_) (fun h₁ tk F X => ?_) hco hgen hk
  · obtain rfl : y = (x, Value.ref a) := List.mem_singleton.mp hy
    rcases hx with e | e
    · exact .inl e
    · exact .inr ⟨e, cellsFrom_some _ _ _ (.inl e)⟩
  · refine wpAny_mono (body w s₀ s₁ { s₁ with heap := h₁, toks := tk } mg mb fa o pm cd doc a vs ns G Y ho (fd_plain hd) hcd hmg hobj hints hlen hg rfl F X) (fun f s' hq => ?_) (fun _ _ hq => hq)
    obtain ⟨rfl, h2, h3, h4⟩ := hq
    exact ⟨.inl ⟨.bool true, .bool true, [], rfl, fun _ => rfl, .bool true, post_true l _, fun _ => ⟨List.Pairwise.nil, fun _ hm => (nomatch hm)⟩⟩, h2, h3, h4⟩

/-- the same from a codeAny of the CALL (for a layer whose function contracts speak of calls) -/
theorem attach_call {l : OpenLaw} {n : Nat} {q : Program} {loose : List Str} {XP : (Str → Option Value) → Heap → Prop} {YP : World → Heap → Prop} {d : DefRec}
    (hn : l.most = some n) (hdf : d.params.defaults = [])
    (call : ∀ (w : World) (s₀ s₁ : Shared) (mg mb : Str → Option Value) (fa : Addr) (o : Obj) (pm cd doc : Value) (a : Addr) (vs : List Value) (ns : List Int),
      Ground q loose [] XP w s₀ mg mb s₁.heap → YP w s₁.heap →
      s₁.heap.get? fa = some o → o.data = .func (docDef d.name d.params d.body d.scope pm cd doc) → s₁.heap.CodeRec cd d.name → mg d.name = some (.ref fa) →
      s₁.heap.get? a = some { cls := .type "list", data := .seq vs.toArray } → IntsAre vs ns → ns.length ≤ n → s₁.gens = #[] →
      codeAny (model l.prog w) callerA (.call (.ref fa) ⟨[.ref a], []⟩) (fun r s' => r = .ok (.ret (.bool true)) ∧ OldK s₁.heap s'.heap ∧ s'.os = s₁.os ∧ AllBare s'.gens) s₁) :
    WalkO q loose XP YP l.row.toRowW d [] (fun f vs => PySem.call f vs) := by
  intro w s₀ s₁ mg mb G Y fa o pm cd doc dV kV ho hd hcd hD hmg hg args vals as hpre hlay hrd hwl hlo
  obtain rfl : dV = .none := Dflts.none hD hdf
  obtain rfl : kV = .none := Dflts.noKw hD
  obtain ⟨a, vs, ns, rfl, rfl, hobj, hints, hlen⟩ := script_of hn hpre hwl
  refine enter_call (codeAny_mono (call w s₀ s₁ mg mb fa o pm cd doc a vs ns G Y ho (fd_plain hd) hcd hmg hobj hints hlen hg) fun r s' hq => ?_)
  obtain ⟨rfl, h2, h3, h4⟩ := hq
  exact ⟨.inl ⟨.bool true, .bool true, [], rfl, fun _ => rfl, .bool true, post_true l _, fun _ => ⟨List.Pairwise.nil, fun _ hm => (nomatch hm)⟩⟩, h2, h3, h4⟩

/-- the same where the top left finished generators (o_head chose holds_openN): nothing may have changed at all and no generator may be left -/
theorem attachN {l : OpenLaw} {n : Nat} {q : Program} {loose : List Str} {XP : (Str → Option Value) → Heap → Prop} {YP : World → Heap → Prop} {d : DefRec} {x : Str}
    (hn : l.most = some n) (hdf : d.params.defaults = [])
    (hbind : ∀ pm cd doc v : Value, bindArgs (docDef d.name d.params d.body d.scope pm cd doc) ⟨[v], []⟩ = pure [(x, v)])
    (hx : d.scope.names.lookup x = some .local ∨ d.scope.names.lookup x = some .cell)
    (hk : d.scope.kind = .function) (hco : d.scope.isCoroutine = false) (hgen : d.scope.isGenerator = false)
    (body : ∀ (w : World) (s₀ s₁ s : Shared) (mg mb : Str → Option Value) (fa : Addr) (o : Obj) (pm cd doc : Value) (a : Addr) (vs : List Value) (ns : List Int),
      Ground q loose [] XP w s₀ mg mb s₁.heap → YP w s₁.heap →
      s₁.heap.get? fa = some o → o.data = .func (docDef d.name d.params d.body d.scope pm cd doc) → s₁.heap.CodeRec cd d.name → mg d.name = some (.ref fa) →
      s₁.heap.get? a = some { cls := .type "list", data := .seq vs.toArray } → IntsAre vs ns → ns.length ≤ n →
      s.gens = #[] → s.os = s₁.os →
      Fr s₁.heap s₁.heap.objs.size s.heap (bindL (envOfC d.name d.scope s₁.heap.objs.size fa cd).kindOf [(x, .ref a)] fun _ => none) →
      Cl s₁.heap.objs.size (cellsFrom (s₁.heap.objs.size + 1) d.scope.names []) s.heap (bindC (envOfC d.name d.scope s₁.heap.objs.size fa cd).kindOf [(x, .ref a)] fun _ => none) →
      wpAny (model l.prog w) (callerA.deeper (envOfC d.name d.scope s₁.heap.objs.size fa cd)) (execs d.body (envOfC d.name d.scope s₁.heap.objs.size fa cd))
        (fun f s' => f = .ret (.bool true) ∧ (∀ b o, s₁.heap.get? b = some o → s'.heap.get? b = some o) ∧ s'.os = s₁.os ∧ s'.gens = #[]) (fun _ _ => False) s) :
    WalkN q loose XP YP l.row.toRowW d [] (fun f vs => PySem.call f vs) := by
  intro w s₀ s₁ mg mb G Y fa o pm cd doc dV kV ho hd hcd hD hmg hg args vals as hpre hlay hrd hwl hlo
  obtain rfl : dV = .none := Dflts.none hD hdf
  obtain rfl : kV = .none := Dflts.noKw hD
  obtain ⟨a, vs, ns, rfl, rfl, hobj, hints, hlen⟩ := script_of hn hpre hwl
  refine enter_callW ?_
  refine call_cells_ret (o := o) (by rw [depth_caller]; decide) ho (fd_plain hd) G.T.nolimit hcd (hbind pm cd doc (.ref a)) (fun y hy => ?_) (fun h₁ tk F X => ?_) hco hgen hk
  · obtain rfl : y = (x, Value.ref a) := List.mem_singleton.mp hy
    rcases hx with e | e
    · exact .inl e
    · exact .inr ⟨e, cellsFrom_some _ _ _ (.inl e)⟩
  · refine wpAny_mono (body w s₀ s₁ { s₁ with heap := h₁, toks := tk } mg mb fa o pm cd doc a vs ns G Y ho (fd_plain hd) hcd hmg hobj hints hlen hg rfl F X) (fun f s' hq => ?_) (fun _ _ hq => hq)
    obtain ⟨rfl, h2, h3, h4⟩ := hq
    exact ⟨.inl ⟨.bool true, .bool true, [], rfl, fun _ => rfl, .bool true, post_true l _, fun _ => ⟨List.Pairwise.nil, fun _ hm => (nomatch hm)⟩⟩, h2, h3, h4⟩

/-! ### rules over ANY heap (no ledger) from facts about the written part K: the library's own take a ledger (News) for what they write -/
section
variable {prog : Program} {w : World} {A : Around} {E : Value → Shared → Prop} {s : Shared} {K : Frag}

/-- a def of the module, or a method (qual 'C.m'), entered: the frame is the next address; cells behind it -/
theorem call_fn {R : Result → Shared → Prop} {name qual : Str} {params : Arguments} {body : List Stmt} {scope : Scope} {dV kV doc pm cdv ct oc : Value} {an od : Option Addr} {osl : Array (Option Value)} {f : Addr} {args : Args} {binds : List (Str × Value)}
    (X : K.In s.heap) (hlim : s.heap.NoLimit) (ho : K.lookup f = some ⟨oc, od, .func (fnOf name qual params body scope dV kV doc pm an cdv ct), osl⟩) (hcd : codeIn K cdv qual = true) (hroom : A.depth < recursionLimit)
    (hbind : BindsTo s (fnOf name qual params body scope dV kV doc pm an cdv ct) args binds)
    (hkind : (binds.all fun y => scope.names.lookup y.1 == some .local || scope.names.lookup y.1 == some .cell) = true)
    (h : ∀ s₁, InCallC s s.heap.objs.size (bindL (envOfC qual scope s.heap.objs.size f cdv).kindOf binds fun _ => none) (cellsFrom (s.heap.objs.size + 1) scope.names [])
        (bindC (envOfC qual scope s.heap.objs.size f cdv).kindOf binds fun _ => none) s₁ →
      wpAny (model prog w) (A.deeper (envOfC qual scope s.heap.objs.size f cdv)) (execs body (envOfC qual scope s.heap.objs.size f cdv))
        (fun fl s' => R (.ok (.ret (match fl with | .ret v => v | _ => .none))) s')
        (fun e s' => wpAny (model prog w) (A.deeper (envOfC qual scope s.heap.objs.size f cdv)) (leaving (envOfC qual scope s.heap.objs.size f cdv) e) (fun _ s'' => R (.error e) s'') (fun e' s'' => R (.error e') s'') s') s₁)
    (hco : scope.isCoroutine = false) (hgen : scope.isGenerator = false) (hk : scope.kind = .function) : codeAny (model prog w) A (.call (.ref f) args) R s := by
  refine codeAny_call_function hroom (X _ _ ho) rfl hco hgen rfl (codeRec_of X hcd) (hbind _ _ _ _ ?_)
  refine wpAny_newFunctionEnv_cells hk (kindsX hkind _) fun env he s₁ x => ?_
  subst he
  exact ⟨hlim.keeps x.toInCall.keep, codeAny_func (h s₁ x)⟩

/-- C(..): dict at size, instance at size + 1, then __init__ -/
theorem make_obj {R : Result → Shared → Prop} {C fI : Addr} {rest : List Value} {kw : List (Str × Value)}
    (X : K.In s.heap) (hm : makesIn K C = true) (hi : findIn K (.ref C) "__init__" = some (some (.ref fI))) (hf : isFn K (.ref fI) = true)
    (h : codeAny (model prog w) (A.under (.builtin "type.__call__" ⟨.ref C :: rest, kw⟩)) (.call (.ref fI) ⟨.ref (s.heap.objs.size + 1) :: rest, kw⟩) (InitBack (s.heap.objs.size + 1) R)
      { s with heap := (s.heap.push emptyDict).push (instObj C s.heap.objs.size) }) : codeAny (model prog w) A (.call (.ref C) ⟨rest, kw⟩) R s := by
  obtain ⟨hh, g, d, t, os⟩ := s
  exact make_core (makes_of X hm) (looks_findIn X hi) (fun self => bind_fn X self (beq_iff_eq.mp hf)) (.inl rfl) h

/-- x.name where the instance's dict holds the name and the class does not -/
theorem get_field {x C : Addr} {ox : Obj} {es : List DictEntry} {n : Nat} {name : Str} {expr : Bool} {v : Value} {Q : Value → Shared → Prop}
    (X : K.In s.heap) (I : PySem.W.InstAt s.heap x ox C (some (dictOf es n))) (hg : plainGet K C name = true) (hh : hasDictIn K C = true) (ha : findIn K (.ref C) name = some none)
    (hl : getL name es = some (some v)) (hv : handedIn v = true) (h : Q v { s with toks := s.toks + 1 }) : wpAny (model prog w) A (getAttr (.ref x) name expr) Q E s :=
  get_value X I (plainGet_of hg).1 (findObj_own hh ha rfl hl) hv h

/-- x.m(..): the method found in the class -/
theorem get_method {x C f : Addr} {ox : Obj} {es : List DictEntry} {n : Nat} {name : Str} {pl : Sem Bool} {Q : Value × List Value → Shared → Prop}
    (X : K.In s.heap) (I : PySem.W.InstAt s.heap x ox C (some (dictOf es n))) (hg : plainGet K C name = true) (hf : findIn K (.ref C) name = some (some (.ref f))) (ht : isFn K (.ref f) = true)
    (hl : getL name es = some none) (h : Q (.ref f, [.ref x]) s) : wpAny (model prog w) A (getMethod (.ref x) name pl) Q E s :=
  method_fn X I (plainGet_of hg).1 (plainGet_of hg).2 hf (beq_iff_eq.mp ht) (by show (lookIn name (dictOf es n)).map _ = _; rw [lookIn_dict, hl]; rfl) h

/-! the whole heap as the ledger: makes every rule that writes through a ledger a rule over any heap -/
def noObjs (h : Heap) : Heap := { h with objs := #[] }
theorem noObjs_get (h : Heap) (b : Addr) : (noObjs h).get? b = none := by
  cases e : (noObjs h).get? b with
  | none => rfl
  | some o => exact absurd (Heap.lt_size e) (Nat.not_lt_zero _)
def ledger (h : Heap) (L d : Addr) : List (Addr × Obj) := (List.range h.objs.size).filterMap fun a => if a = L ∨ a = d then none else (h.get? a).map fun o => (a, o)
theorem mem_ledger {h : Heap} {L d a : Addr} {o : Obj} : (a, o) ∈ ledger h L d ↔ a ≠ L ∧ a ≠ d ∧ h.get? a = some o := by
  unfold ledger
  rw [List.mem_filterMap]
  constructor
  · rintro ⟨b, _, e⟩
    split at e
    · cases e
    · rename_i hb
      obtain ⟨o', ho, e'⟩ := Option.map_eq_some_iff.mp e
      cases e'
      exact ⟨fun q => hb (.inl q), fun q => hb (.inr q), ho⟩
  · rintro ⟨n1, n2, ho⟩
    refine ⟨a, List.mem_range.mpr (Heap.lt_size ho), ?_⟩
    rw [if_neg (show ¬ (a = L ∨ a = d) from fun q => q.elim n1 n2), ho] <;> rfl
theorem news_ledger {h : Heap} {L d : Addr} {od : Obj} (hne : d ≠ L) (ho : h.get? d = some od) : News (noObjs h) L h ([] ++ (d, od) :: ledger h L d) := by
  rintro ⟨a, o⟩ hp
  rcases List.mem_cons.mp hp with e | hp
  · cases e
    exact ⟨ho, hne, noObjs_get _ _⟩
  · obtain ⟨n1, n2, e⟩ := mem_ledger.mp hp
    exact ⟨e, n1, noObjs_get _ _⟩
theorem fr_all {h : Heap} {L : Addr} {m : Str → Option Value} (n : h.Ns L m) : Fr (noObjs h) L h m :=
  ⟨n, fun b o e => (by rw [noObjs_get] at e; cases e), Nat.zero_le _⟩
/-- Upd of the head entry (for append_K, setItem_K ..) -/
theorem upd_ledger {h : Heap} {L d : Addr} {o o' : Obj} : Upd d o o' ((d, o) :: ledger h L d) ((d, o') :: ledger h L d) :=
  .head fun ⟨_, _⟩ hp => (mem_ledger.mp hp).2.1

/-- x.name = v over any heap: L is any namespace of the heap (the frame's, say): its map stays, its object is not told; all else but the dict stays -/
theorem set_field {x C dx L : Addr} {ox : Obj} {m : Str → Option Value} {es es' : List DictEntry} {n n' : Nat} {name : Str} {v : Value} {Q : Unit → Shared → Prop}
    (X : K.In s.heap) (I : PySem.W.InstAt s.heap x ox C (some (dictOf es n))) (hd : ox.dict = some dx) (hL : s.heap.Ns L m) (hne : dx ≠ L)
    (hs : findIn K (.ref C) "__setattr__" = some (some (.builtin "object.__setattr__"))) (hp : plainOver K C = true) (ht : takerIn K C name = some none) (hh : hasDictIn K C = true) (hl : (getL name es).isSome = true)
    (e : (putL name (PyData.keyHash w.params name) (.str name (s.toks + 1)) v es, putN name es n) = (es', n')) (hz : es'.length ≤ 1000)
    (h : ∀ h' : Heap, h'.Ns L m → h'.get? dx = some (dictOf es' n') → (∀ b o, b ≠ dx → b ≠ L → s.heap.get? b = some o → h'.get? b = some o) → Q () { s with heap := h', toks := s.toks + 2 }) :
    wpAny (model prog w) A (setAttr (.ref x) name v) Q E s := by
  obtain ⟨e1, e2⟩ := Prod.mk.inj e
  have hdx : s.heap.get? dx = some (dictOf es n) := by
    have := I.dict
    rw [hd] at this
    exact this
  refine set_plain X I hs (osa_dict (s := { s with toks := s.toks + 1 }) (h₀ := noObjs s.heap) (L := L) (m := m) (od := dictOf es n) (od' := dictOf es' n') (es := es') (n := n') (pre := []) (post := ledger s.heap L dx)
    (fr_all hL) (news_ledger hne hdx) X I hd hp ht hh hl (fun _ q => nomatch q) (fun ⟨_, _⟩ q => (mem_ledger.mp q).2.1) (by rw [putName_dict, e1, e2]) rfl hz fun h' F' N' => ?_)
  exact h h' F'.ns (N'.get (List.Mem.head _)) fun b o n1 n2 ho => N'.get (List.Mem.tail _ (mem_ledger.mpr ⟨n2, n1, ho⟩))
end
end Att

namespace L2
open PySem PySem.Spec PyProof.Rows

theorem vals_ints : ∀ {vs : List Value} {ns : List Int}, IntsAre vs ns → Vals (ns.map V.int) vs
  | _, _, .nil => .nil
  | _, _, .cons n t h => .cons ⟨t, rfl⟩ (vals_ints h)

/-- nothing is tracked but the script, known to the object (or it is an object of the module) -/
def Only (H : Hp) : Prop := ∀ b, H b = none ∨ ∃ o xs, H b = some (.frz o (.lst xs))

/-- THE HEAD: the law's promise, at the heap behind the top. F, the promise of the law's def, may use that base is part of the heap (so K.In base, base.Ns mainGlobals mg stand in Mod) -/
theorem law_call {P : Program} {w : World} {K : PySem.W.Frag} {mg mb : Str → Option Value} {CX : CXT} {k : Nat} {fa a : Addr} {fd : FuncData} {x : Str} {sp : Sp} {s₁ : Shared} {vs : List Value} {ns : List Int}
    (KX : K.In s₁.heap) (hns : s₁.heap.Ns mainGlobals mg) (hb : s₁.heap.Ns builtinsNs mb) (hbb : ∀ x : Str, x ≠ "__name__" → mb x = bootBuiltins x) (hlim : s₁.heap.NoLimit) (hg : s₁.gens = #[])
    (ha : s₁.heap.get? a = some { cls := .type "list", data := .seq vs.toArray }) (hi : IntsAre vs ns) (hl : ns.length ≤ sizeLine) (hr : Room k callerA)
    (F : ∀ base : Heap, K.In base → base.Ns mainGlobals mg → FnOk P w K mg base CX k fa fd [x] sp) (hbind : ∀ (s : Shared) (u : Value), BindsTo s fd ⟨[u], []⟩ [(x, u)])
    (hsp : ∀ H : Hp, Only H → SqL K H a (ns.map V.int) → sp [.ref a] H (fun v _ => v = .bl true) fun _ _ _ => False)
    (hCX : ∀ H e s', CX [] H s₁ (fun _ _ _ => False) e s' → False) :
    codeAny (model P w) callerA (.call (.ref fa) ⟨[.ref a], []⟩) (fun r s' => r = .ok (.ret (.bool true)) ∧ OldK s₁.heap s'.heap ∧ s'.os = s₁.os ∧ AllBare s'.gens) s₁ := by
  have rv := vals_ints hi
  have lenV := hi.length
  -- from an abstract heap in which nothing but the script may be tracked
  have core : ∀ H : Hp, Only H → SqL K H a (ns.map V.int) → HOk P w H s₁.heap → (∀ b, H b ≠ none → b = a) → (H a ≠ none → K.lookup a = none) →
      codeAny (model P w) callerA (.call (.ref fa) ⟨[.ref a], []⟩) (fun r s' => r = .ok (.ret (.bool true)) ∧ OldK s₁.heap s'.heap ∧ s'.os = s₁.os ∧ AllBare s'.gens) s₁ := by
    intro H hO hS hok hA hK
    have base_of : ∀ {b : Addr} {o : Obj}, s₁.heap.get? b = some o → H b = none → (hidT s₁.heap H).get? b = some o := fun e n => hidT_get e n
    have noA : ∀ {b : Addr} {o : Obj} {es : Array DictEntry} {ep : Nat}, s₁.heap.get? b = some o → o.data = .dict es ep → H b = none := fun {b o es ep} e d => by
      cases q : H b with
      | none => rfl
      | some u =>
        have e' : b = a := hA b (by rw [q]; simp)
        subst e'
        rw [ha] at e; cases e
        have d' : Data.seq vs.toArray _ = Data.dict es ep := d
        cases d'
    have nsK : ∀ {b : Addr} {m : Str → Option Value}, s₁.heap.Ns b m → (hidT s₁.heap H).Ns b m := fun {b m} ⟨o, es, ep, e, d, r⟩ => ⟨o, es, ep, base_of e (noA e d), d, r⟩
    have hKb : K.In (hidT s₁.heap H) := fun b o e => base_of (KX b o e) (by
      cases q : H b with
      | none => rfl
      | some u =>
        have e' : b = a := hA b (by rw [q]; simp)
        subst e'
        rw [hK (by rw [q]; simp)] at e; cases e)
    have hM : Mod K mg (hidT s₁.heap H) := ⟨hKb, nsK hns, ⟨mb, nsK hb, hbb⟩, let ⟨mc, h1, h2⟩ := hlim; ⟨mc, nsK h1, h2⟩⟩
    have e0 : Env0 P w K mg (hidT s₁.heap H) callerA [] s₁ H := ⟨rfl, hM, fun b o e => of_hidT e, Nat.le_of_eq (hidT_size _ _), trivial, fun b hb => absurd (show b ∈ ([] : List Addr) from hb) (by simp), hok, .of_eq hg⟩
    refine codeAny_mono ((F _ hKb (nsK hns)).run callerA [] s₁ H ⟨[.ref a], []⟩ [.ref a] [.ref a] _ _ hr e0 (hbind s₁ (.ref a)) (.cons rfl .nil) (hsp H hO hS)) fun r s' h => ?_
    cases r with
    | error e => exact (hCX H e s' h).elim
    | ok fl =>
      cases fl with
      | next => exact False.elim h
      | brk => exact False.elim h
      | cont => exact False.elim h
      | ret u =>
        obtain ⟨v, H', os, bare, un, hok', r', q⟩ := h
        have q' : v = .bl true := q
        subst q'
        obtain rfl : u = Value.bool true := r'
        refine ⟨rfl, OldK.of_keep fun b o e => ?_, os, bare⟩
        cases q : H b with
        | none => exact un.keep b o e q (by intro z; exact absurd (show b ∈ ([] : List Addr) from z) (by simp)) (by simp)
        | some u =>
          rcases hO b with z | ⟨ob, xs, z⟩
          · rw [q] at z; cases z
          · have z2 := un.frzs b ob _ z
            obtain ⟨e1, _⟩ := hok b _ z
            obtain ⟨e2, _⟩ := hok' b _ z2
            rw [e] at e1; cases e1
            exact e2
  cases hk : K.lookup a with
  | some o =>
    -- the script is one of the module's own objects
    have e := KX a o hk
    rw [ha] at e
    cases e
    refine core (fun _ => none) (fun _ => .inl rfl) (.inr ⟨_, vs.toArray, _, hk, rfl, rfl, rfl, by rw [List.size_toArray, lenV]; exact hl, by simpa using rv⟩) (fun b u z => by have z' : (none : Option HO) = some u := z; cases z') (fun b z => absurd rfl z) fun z => absurd rfl z
  | none =>
    refine core (fun b => if b = a then some (.frz { cls := .type "list", data := .seq vs.toArray } (.lst (ns.map V.int))) else none) (fun b => ?_) (.inl (.inr ⟨{ cls := .type "list", data := .seq vs.toArray }, if_pos rfl⟩)) (fun b u z => ?_) (fun b z => ?_) fun _ => hk
    · by_cases hb : b = a
      · exact .inr ⟨_, _, if_pos hb⟩
      · exact .inl (if_neg hb)
    · by_cases hb : b = a
      · have z' := (if_pos hb).symm.trans z
        cases z'
        subst hb
        exact ⟨ha, by rw [List.length_map]; exact hl, vs, _, rv, ha⟩
      · have z' := (if_neg hb).symm.trans z
        cases z'
    · by_cases hb : b = a
      · exact hb
      · exact absurd (if_neg hb) z
end L2

namespace L2
open PySem PySem.Spec PyProof.Rows

abbrev KOf {K : PySem.W.Frag} {h : Heap} (_ : K.In h) : PySem.W.Frag := K

/-- the goal that k_head leaves (case hc), from the law's promise. F gives the function object fd (K's own) once, then the promise over every base -/
theorem walk_of {l : PySem.W.OpenLaw} {n k : Nat} {q : Program} {loose : List Str} {XP : (Str → Option Value) → Heap → Prop} {YP : World → Heap → Prop} {d : DefRec} {K : Params → PySem.W.Frag} {CX : World → CXT} {sp : World → Sp} {x : Str}
    (hn : l.most = some n) (hn2 : n ≤ sizeLine) (hdf : d.params.defaults = []) (hr : Room k callerA)
    (hY : ∀ (w : World) (h : Heap), YP w h → (K w.params).In h)
    (F : ∀ (w : World) (mg : Str → Option Value) (fa : Addr) (h : Heap), (K w.params).In h → h.Ns mainGlobals mg → mg d.name = some (.ref fa) →
      ∃ fd : FuncData, (∀ (s : Shared) (u : Value), BindsTo s fd ⟨[u], []⟩ [(x, u)]) ∧
        ∀ base : Heap, (K w.params).In base → base.Ns mainGlobals mg → FnOk l.prog w (K w.params) mg base (CX w) k fa fd [x] (sp w))
    (hsp : ∀ (w : World) (H : Hp) (a : Addr) (ns : List Int), ns.length ≤ n → Only H → SqL (K w.params) H a (ns.map V.int) → sp w [.ref a] H (fun v _ => v = .bl true) fun _ _ _ => False)
    (hCX : ∀ (w : World) (H : Hp) (s : Shared) (e : Value) (s' : Shared), CX w [] H s (fun _ _ _ => False) e s' → False) :
    PySem.W.WalkO q loose XP YP l.row.toRowW d [] (fun f vs => PySem.call f vs) := by
  refine Att.attach_call hn hdf fun w s₀ s₁ mg mb fa o pm cd doc a vs ns G Y ho hd hcd hmg hobj hints hlen hg => ?_
  have KX := hY w _ Y
  obtain ⟨fd, hb, hF⟩ := F w mg fa _ KX G.T.g hmg
  exact law_call KX G.T.g G.T.b G.T.builtins G.T.nolimit hg hobj hints (Nat.le_trans hlen hn2) hr hF hb (fun H hO hS => hsp w H a ns hlen hO hS) fun H e s' => hCX w H s₁ e s'
/-- the same where the promise hangs on the written part alone: (sp := My.sp_law), no hole under a binder -/
theorem walk_ofK {l : PySem.W.OpenLaw} {n k : Nat} {q : Program} {loose : List Str} {XP : (Str → Option Value) → Heap → Prop} {YP : World → Heap → Prop} {d : DefRec} {K : Params → PySem.W.Frag} {CX : CXT} {sp : PySem.W.Frag → Sp} {x : Str}
    (hn : l.most = some n) (hn2 : n ≤ sizeLine) (hdf : d.params.defaults = []) (hr : Room k callerA)
    (hY : ∀ (w : World) (h : Heap), YP w h → (K w.params).In h)
    (F : ∀ (w : World) (mg : Str → Option Value) (fa : Addr) (h : Heap), (K w.params).In h → h.Ns mainGlobals mg → mg d.name = some (.ref fa) →
      ∃ fd : FuncData, (∀ (s : Shared) (u : Value), BindsTo s fd ⟨[u], []⟩ [(x, u)]) ∧
        ∀ base : Heap, (K w.params).In base → base.Ns mainGlobals mg → FnOk l.prog w (K w.params) mg base CX k fa fd [x] (sp (K w.params)))
    (hsp : ∀ (K : PySem.W.Frag) (H : Hp) (a : Addr) (ns : List Int), ns.length ≤ n → Only H → SqL K H a (ns.map V.int) → sp K [.ref a] H (fun v _ => v = .bl true) fun _ _ _ => False)
    (hCX : ∀ (H : Hp) (s : Shared) (e : Value) (s' : Shared), CX [] H s (fun _ _ _ => False) e s' → False) :
    PySem.W.WalkO q loose XP YP l.row.toRowW d [] (fun f vs => PySem.call f vs) :=
  walk_of (K := K) (CX := fun _ => CX) (sp := fun w => sp (K w.params)) hn hn2 hdf hr hY F (fun w H a ns h1 h2 h3 => hsp (K w.params) H a ns h1 h2 h3) fun _ H s e s' => hCX H s e s'
end L2

/- THE LAST THEOREM (shape; LID, My.* are yours):
   My.Adr: a structure of the addresses that your layer names (classes, functions); My.Txt K t: a structure (Prop) of the equations over K;
   My.txt_mk : {K} {implicit addresses ..} (e1 : nsIn K mainGlobals "law" = some (some (.ref f))) (e2 : K.lookup f = some ⟨oc, od, .func (fnOf "law" "law" params body scope dV kV doc pm an cdv ct), sl⟩) (e3 : codeIn K cdv "law" = true) .. : ∃ t, My.Txt K t

set_option maxRecDepth 100000 in
set_option maxHeartbeats 0 in
theorem PySem.Challenge.cw_LID_holds : PySem.Challenge.rw_LID.Holds := by
  w_on; o_law; k_head; (case hw => w_witness2)
  k_fill
  refine L2.walk_of (l := PySem.Challenge.rw_LID) (n := 63) (k := 40) (x := "script") (CX := fun w => ..) (sp := fun _ => My.sp_law) rfl (by decide) rfl ⟨rfl, by decide, by decide⟩ (fun w h Y => PySem.W.kIn_of Y) ?F ?S ?C
  case F =>
    intro w mg fa h KX G hmg
    have T : ∃ t, My.Txt (L2.KOf KX) t := by
      dsimp only [L2.KOf]                          -- K must stand as «<heap const> w.params» for k_is
      refine' My.txt_mk ?e1 ?e2 ?e3 ..
      (case e1 => PySem.W.k_is)                    -- in the order: a name -> its address -> its object -> its parts
      (case e2 => PySem.W.k_is)
      ..
    obtain ⟨t, T⟩ := T
    have e0 := hmg.symm.trans (PySem.W.mg_of KX G T.law)
    cases e0                                       -- fa is the law's own address
    exact ⟨_, fun s u => .of_eq rfl, fun base kb nb => My.law_fn T kb nb⟩     -- if «.of_eq rfl» comes too early: refine' ⟨_, ?b, fun base kb nb => My.law_fn T kb nb⟩; exact fun s u => .of_eq rfl
  case S => exact fun w H a ns hl hO hS => ..
  case C => exact ..
(the tactic k_is has no namespace: write k_is) -/

/-! SHORT WORDS over the layer: a def of the text, its body, what a loop and a test want. -/
namespace L2
open PySem PySem.Spec PyProof.Rows

/-! ### the text by places -/
/-- the j-th statement of a class's body -/
def inClass (s : Stmt) (j : Nat) : Stmt := match s with
  | .ClassDef _ _ _ body _ _ _ _ _ _ _ => body.getD j (.Pass ⟨0, 0, 0, 0⟩)
  | _ => .Pass ⟨0, 0, 0, 0⟩
def defArgs (s : Stmt) : Arguments := match s with
  | .FunctionDef _ a _ _ _ _ _ _ _ _ => a
  | _ => { posonlyargs := [], args := [], vararg := none, kwonlyargs := [], kw_defaults := [], kwarg := none, defaults := [] }
def defBody (s : Stmt) : List Stmt := match s with
  | .FunctionDef _ _ b _ _ _ _ _ _ _ => b
  | _ => []
def defScope (s : Stmt) : Scope := match s with
  | .FunctionDef _ _ _ _ _ _ sc _ _ _ => sc
  | _ => { kind := .function, names := [], isGenerator := false, isCoroutine := false }

/-! ### no exception leaves a def -/
abbrev CX0 : CXT := fun _ _ _ _ _ _ => False
abbrev E0 : XK := fun _ _ _ => False
theorem pass0 {X : Cx} : Passes CX0 X E0 := fun _ _ _ _ _ _ _ h => h.elim

/-! ### a def (or method) of the text as it stands behind the top -/
structure Fun (K : PySem.W.Frag) (x qual : Str) (st : Stmt) (f : Addr) (fd : FuncData) : Prop where
  ex : ∃ (oc : Value) (od : Option Addr) (kV doc pm : Value) (an : Option Addr) (cdv ct : Value) (osl : Array (Option Value)),
    fd = PySem.W.fnOf x qual (defArgs st) (defBody st) (defScope st) .none kV doc pm an cdv ct ∧ K.lookup f = some ⟨oc, od, .func fd, osl⟩ ∧ PySem.W.codeIn K cdv qual = true
  kp : PySem.W.keepIn K (.ref f) = true
section
variable {P : Program} {w : World} {K : PySem.W.Frag} {mg : Str → Option Value} {base : Heap}
/-- THE RULE for a def: its body as a term of rules, and the reading of that term -/
theorem Fun.ok {x qual : Str} {st : Stmt} {f : Addr} {fd : FuncData} {N ps : List Str} {k : Nat} {sp : Sp} (F : Fun K x qual st f fd) (S : FnScope N ps (defScope st)) (len : ∀ vs H Q E, sp vs H Q E → vs.length = ps.length)
    (hbody : ∀ (cdv : Value) (A : Around) (outer : List Env) (s : Shared) (H : Hp) (vs : List V) (Q : VK) (E : XK), Room k (A.deeper (envOfC qual (defScope st) s.heap.objs.size f cdv)) → sp vs H Q E →
      ∃ t, PSs (cxOf CX0 P w K mg base N qual (defScope st) f cdv A outer s H E).nox (defBody st) t ∧ t { nx := fun _ H' => Q .non H', rt := Q } (start N vs) H) : FnOk P w K mg base CX0 (k + 1) f fd ps sp := by
  obtain ⟨oc, od, kV, doc, pm, an, cdv, ct, osl, rfl, lk, hcd⟩ := F.ex
  refine fn_of lk hcd S len fun A outer s H vs Q E hr hsp => ?_
  obtain ⟨t, h, q⟩ := hbody cdv A outer s H vs Q E hr hsp
  exact ⟨t, h.nox, q⟩
/-- how its arguments bind (no defaults): h is «fun _ _ _ _ _ _ us hl => match us, hl with | [_, _], _ => rfl», one _ a parameter -/
theorem Fun.binds {x qual : Str} {st : Stmt} {f : Addr} {fd : FuncData} {ps : List Str} (F : Fun K x qual st f fd)
    (h : ∀ (kV doc pm : Value) (an : Option Addr) (cdv ct : Value) (us : List Value), us.length = ps.length → bindArgs (PySem.W.fnOf x qual (defArgs st) (defBody st) (defScope st) .none kV doc pm an cdv ct) ⟨us, []⟩ = pure (ps.zip us)) : Binds K fd ps [] := by
  obtain ⟨oc, od, kV, doc, pm, an, cdv, ct, osl, rfl, lk, hcd⟩ := F.ex
  exact .all (h kV doc pm an cdv ct)
theorem fun_mk {x qual : Str} {st : Stmt} {f : Addr} {oc : Value} {od an : Option Addr} {osl : Array (Option Value)} {kV doc pm cdv ct : Value} (l : K.lookup f = some ⟨oc, od, .func (PySem.W.fnOf x qual (defArgs st) (defBody st) (defScope st) .none kV doc pm an cdv ct), osl⟩)
    (c : PySem.W.codeIn K cdv qual = true) (k : PySem.W.keepIn K (.ref f) = true) : Fun K x qual st f (PySem.W.fnOf x qual (defArgs st) (defBody st) (defScope st) .none kV doc pm an cdv ct) := ⟨⟨oc, od, kV, doc, pm, an, cdv, ct, osl, rfl, l, c⟩, k⟩
end
theorem hu_of {A : Around} {k : Nat} (hr : Room k A) : A.units + 1 < cLine := Nat.lt_of_le_of_lt (Nat.add_le_add_left (by decide : 1 ≤ 64) _) hr.units
theorem small1000 {n : Nat} (h : n ≤ 1000) : n < sizeLine := Nat.lt_of_le_of_lt h (by decide)

/-! ### expressions in short: the name that stands in the i-th slot -/
section
variable {X : Cx}
theorem pv (i : Nat) {x : Str} {pos : Pos} (hN : X.N[i]? = some x := by rfl) (hv : Vis X.env.scope x := by first | exact Or.inl rfl | exact Or.inr (Or.inl rfl) | exact Or.inr (Or.inr rfl)) (hd : (x == ("__debug__" : Str)) = false := by decide)
    (hcd : (x == ("__classdict__" : Str)) = false := by decide) : PE X (.Name x pos) (tVar i) := pe_var hN hv hd hcd
end

/-! ### tests -/
theorem iteF {A B : Prop} (h : B) : if false = true then A else B := by
  rw [if_neg Bool.false_ne_true]
  exact h
theorem iteT {A B : Prop} (h : A) : if true = true then A else B := by
  rw [if_pos rfl]
  exact h
theorem ite2 {c A B : Prop} [Decidable c] (h1 : c → A) (h2 : ¬ c → B) : if c then A else B := by
  by_cases h : c
  · rw [if_pos h]
    exact h1 h
  · rw [if_neg h]
    exact h2 h
theorem iteNS {c A B : Prop} [Decidable c] (hc : c) (h : B) : if (!decide c) = true then A else B := by
  rw [decide_eq_true hc]
  exact iteF h

/-! ### heaps -/
/-- all that was tracked is as it was -/
def Same (H H' : Hp) : Prop := ∀ b o, H b = some o → H' b = some o
theorem Same.refl (H : Hp) : Same H H := fun _ _ h => h
theorem Same.trans {H H1 H2 : Hp} (a : Same H H1) (b : Same H1 H2) : Same H H2 := fun c o h => b c o (a c o h)
theorem Same.free {H H' : Hp} (e : Same H H') {l : Addr} (h : H' l = Option.none) : H l = Option.none := by
  cases q : H l with
  | none => rfl
  | some o =>
    rw [e l o q] at h
    cases h
theorem Same.seq {K : PySem.W.Frag} {H H' : Hp} {a : Addr} {xs : List V} (e : Same H H') (h : SqL K H a xs) : SqL K H' a xs := by
  rcases h with (h | ⟨o, h⟩) | h
  · exact .inl (.inl (e _ _ h))
  · exact .inl (.inr ⟨o, e _ _ h⟩)
  · exact .inr h

end L2

namespace L2
open PySem PySem.Spec PyProof.Rows

/-! ### a comprehension's block: its names, its context -/
def cloOf (cells : List (Str × Addr)) : List (Str × NameKind) → List (Str × Addr) → List (Str × Addr)
  | [], acc => acc
  | (n, k) :: r, acc => cloOf cells r (if (k == NameKind.free) = true then (n, (cells.lookup n).getD 0) :: acc else acc)

theorem cloOf_mem {cells : List (Str × Addr)} {x : Str} {c : Addr} : ∀ {ns : List (Str × NameKind)} {acc : List (Str × Addr)}, (x, c) ∈ cloOf cells ns acc → ((x, NameKind.free) ∈ ns ∧ c = (cells.lookup x).getD 0) ∨ (x, c) ∈ acc
  | [], _, h => .inr h
  | (n, k) :: r, acc, h => by
    have q := cloOf_mem (ns := r) h
    rcases q with ⟨q1, q2⟩ | q
    · exact .inl ⟨List.mem_cons_of_mem _ q1, q2⟩
    · by_cases hk : (k == NameKind.free) = true
      · rw [if_pos hk] at q
        have ek : k = NameKind.free := by simpa using hk
        rcases List.mem_cons.mp q with e | q
        · cases e
          subst ek
          exact .inl ⟨List.mem_cons_self, rfl⟩
        · exact .inr q
      · rw [if_neg hk] at q
        exact .inr q
theorem cloOf_sub {cells : List (Str × Addr)} {p : Str × Addr} : ∀ {ns : List (Str × NameKind)} {acc : List (Str × Addr)}, p ∈ acc → p ∈ cloOf cells ns acc
  | [], _, h => h
  | (n, k) :: r, acc, h => by
    refine cloOf_sub (ns := r) ?_
    split
    · exact List.mem_cons_of_mem _ h
    · exact h
theorem cloOf_has {cells : List (Str × Addr)} {x : Str} : ∀ {ns : List (Str × NameKind)} {acc : List (Str × Addr)}, (x, NameKind.free) ∈ ns → (x, (cells.lookup x).getD 0) ∈ cloOf cells ns acc
  | (n, k) :: r, acc, h => by
    rcases List.mem_cons.mp h with e | h
    · cases e
      refine cloOf_sub (ns := r) ?_
      rw [if_pos (by rfl)]
      exact List.mem_cons_self
    · exact cloOf_has (ns := r) h
theorem lookup_of_mem {x : Str} {c : Addr} : ∀ {l : List (Str × Addr)}, (x, c) ∈ l → ∃ c', l.lookup x = some c'
  | (n, d) :: r, h => by
    rw [List.lookup_cons]
    cases e : x == n with
    | true => exact ⟨d, rfl⟩
    | false =>
      rcases List.mem_cons.mp h with q | q
      · cases q
        simp at e
      · exact lookup_of_mem q
theorem forIn_clo {env : Env} (f : (Str × NameKind) → List (Str × Addr) → Sem (ForInStep (List (Str × Addr)))) (hf1 : ∀ n acc c, env.cells.lookup n = some c → f (n, .free) acc = pure (.yield ((n, c) :: acc)))
    (hf2 : ∀ n k acc, (k == NameKind.free) = false → f (n, k) acc = pure (.yield acc)) : ∀ (ns : List (Str × NameKind)) (acc : List (Str × Addr)), (∀ y ∈ ns, y.2 = .free → ∃ c, env.cells.lookup y.1 = some c) → forIn ns acc f = pure (cloOf env.cells ns acc)
  | [], _, _ => rfl
  | (n, k) :: r, acc, h => by
    have ih := fun acc' => forIn_clo f hf1 hf2 r acc' fun y hy => h y (List.mem_cons_of_mem _ hy)
    rw [List.forIn_cons]
    cases hk : k == NameKind.free with
    | true =>
      have ek : k = NameKind.free := by simpa using hk
      subst ek
      obtain ⟨c, e⟩ := h (n, .free) List.mem_cons_self rfl
      have e' : env.cells.lookup n = some c := e
      rw [hf1 n acc c e]
      show forIn r ((n, c) :: acc) f = _
      rw [ih]
      show _ = pure (cloOf env.cells r (if (NameKind.free == NameKind.free) = true then (n, (env.cells.lookup n).getD 0) :: acc else acc))
      rw [if_pos (by rfl), e']
      rfl
    | false =>
      rw [hf2 n k acc hk]
      show forIn r acc f = _
      rw [ih]
      show _ = pure (cloOf env.cells r (if (k == NameKind.free) = true then (n, (env.cells.lookup n).getD 0) :: acc else acc))
      rw [if_neg (by rw [hk]; decide)]
theorem closureFor_clo {scope : Scope} {env : Env} (h : ∀ y ∈ scope.names, y.2 = .free → ∃ c, env.cells.lookup y.1 = some c) : closureFor scope env = pure (cloOf env.cells scope.names []) := by
  unfold closureFor
  show (forIn scope.names [] _ >>= _) = _
  rw [forIn_clo (env := env) _ ?_ ?_ scope.names [] h]
  · rfl
  · intro n acc c e
    show (if (NameKind.free == NameKind.free) = true then _ else _) = _
    rw [if_pos (by rfl)]
    unfold cellOf
    rw [e]
    first | rfl | skip
  · intro n k acc hk
    show (if (k == NameKind.free) = true then _ else _) = _
    rw [if_neg (by rw [hk]; decide)]

/-- the context of a comprehension's block -/
abbrev compCx (X : Cx) (N' : List Str) (sc : Scope) (cl : List (Str × Addr)) (C : Addr) (s : Shared) (H : Hp) (fp : List Addr) : Cx :=
  { X with N := N', s₀ := s, H₀ := H, env := compEnvC sc cl C X.env, outer := X.stack, stack := X.stack, ex := fp, fn := fun x => sc.names.lookup x == some NameKind.local, pn := [], xe := fun _ _ => False }

/-- what the block's names are: its own, or (src: the slot) the outer frame's -/
structure CompSc (osc : Scope) (ON N' : List Str) (src : List (Option Nat)) (sc : Scope) : Prop where
  kind : sc.kind = .function
  okind : osc.kind = .function
  uniq : ∀ y ∈ sc.names, sc.names.lookup y.1 = some y.2
  nocell : ∀ y ∈ sc.names, y.2 ≠ .cell
  free : ∀ y ∈ sc.names, y.2 = .free → osc.names.lookup y.1 = some .cell ∨ osc.names.lookup y.1 = some .free
  len : src.length = N'.length
  src : ∀ (i : Nat) (x : Str) (j : Nat), N'[i]? = some x → src[i]? = some (some j) → ON[j]? = some x ∧ sc.names.lookup x = some .free

def inSt (src : List (Option Nat)) (σ : St) : St := src.map fun o => o.bind fun j => (σ[j]?).bind id
theorem inSt_get {src : List (Option Nat)} {σ : St} {i : Nat} {v : V} (h : (inSt src σ)[i]? = some (some v)) : ∃ j, src[i]? = some (some j) ∧ σ[j]? = some (some v) := by
  unfold inSt at h
  rw [List.getElem?_map] at h
  cases e : src[i]? with
  | none => rw [e] at h; cases h
  | some o =>
    rw [e] at h
    cases o with
    | none => cases h
    | some j =>
      have h' : (σ[j]?).bind id = some v := Option.some.inj h
      cases e2 : σ[j]? with
      | none => rw [e2] at h'; cases h'
      | some w =>
        rw [e2] at h'
        have h'' : w = some v := h'
        exact ⟨j, rfl, by rw [e2, h'']⟩

/-- the tests of a comprehension -/
def PIfs (X : Cx) (ifs : List Expr) (t : TT) : Prop :=
  ∀ (pins : List (Addr × Obj)) (s : Shared) (σ : St) (H : Hp) (Q : Bool → Hp → Prop), Inv X pins σ H s → t σ H Q →
    wpAny (model X.prog X.w) X.A (forIn ifs true fun c r => if r = true then do let ok ← isTrue c X.env (eval c X.env); pure (ForInStep.yield ok) else pure (ForInStep.yield r)) (TP X pins σ Q) X.xe s
def tNoIf : TT := fun _ H Q => Q true H
theorem pifs_nil {X : Cx} : PIfs X [] tNoIf := fun _ _ _ H _ I h => wpAny_tests_nil ⟨H, I, h⟩
theorem pifs_one {X : Cx} {c : Expr} {t : TT} (h : PT X c t) : PIfs X [c] t := fun pins s σ H Q I q => wpAny_tests_one (h pins s σ H Q I q)

/-- one turn behind another -/
def compW (J : It) (g : TG) (tc : TT) (te : TE) (D : Addr) (Q : VK) (W : Nat → Nat → St → List V → Hp → Prop) : Prop :=
  ∀ i m σ ys H, W i m σ ys H → H D = some (.lst ys) ∧ ((J.stop i H ∧ Q (.ref D) H) ∨ (J.go i H ∧ ys.length < sizeLine ∧ ∃ N : St → List V → Hp → Prop, (∀ σ' ys' H', N σ' ys' H' → ∃ m', m' < m ∧ W (i + 1) m' σ' ys' H') ∧
    ∀ x H', J.yld i H x H' → g x σ H' fun σ2 H2 => tc σ2 H2 fun b H3 =>
      if b = true then te σ2 H3 fun v H4 => H4 D = some (.lst ys) ∧ N σ2 (ys ++ [v]) (upd H4 D (.lst (ys ++ [v]))) else N σ2 ys H3))
def tComp (src : List (Option Nat)) (wi : TI) (g : TG) (tc : TT) (te : TE) : TE := fun σ H Q => wi σ H fun J H1 => ∀ D, H1 D = none →
  ∃ W : Nat → Nat → St → List V → Hp → Prop, (∃ m, W 0 m (inSt src σ) [] (upd H1 D (.lst []))) ∧ compW J g tc te D Q W

section
variable {X : Cx} {elt target iter : Expr} {ifs : List Expr} {sc : Scope} {pos : Pos} {wi : TI} {g : TG} {tc : TT} {te : TE} {N' : List Str} {src : List (Option Nat)}

theorem comp_loop {it acc : Value} {env : Env} {prog : Program} {w : World} {A : Around} {s : Shared} {R : Result → Shared → Prop} (Iv : Nat → Shared → Prop)
    (turn : ∀ n s, Iv n s → wpAny (model prog w) A (pyNext it) (fun r s₁ => match r with
      | none => R (.ok .next) s₁
      | some v => wpAny (model prog w) A (letOwnedTupleGo target it v) (fun _ s₁' => wpAny (model prog w) A (assign target env v) (fun _ s₂ =>
          wpAny (model prog w) A (forIn ifs true fun c r => if r = true then do let ok ← isTrue c env (eval c env); pure (ForInStep.yield ok) else pure (ForInStep.yield r)) (fun ok s₃ =>
            if ok = true then wpAny (model prog w) A (eval elt env) (fun x s₄ =>
              wpAny (model prog w) A (call (.builtin "list.append") [acc, x]) (fun _ s₅ => ∃ m, m < n ∧ Iv m s₅) (fun _ _ => False) s₄) (fun _ _ => False) s₃
            else ∃ m, m < n ∧ Iv m s₃) (fun _ _ => False) s₂) (fun _ _ => False) s₁') (fun _ _ => False) s₁) (fun _ _ => False) s)
    (n : Nat) (h : Iv n s) :
    codeAny (model prog w) A (.compLoop (.ListComp elt [⟨target, iter, ifs, 0⟩] sc pos) 0 it acc env) R s := by
  refine codeAny_loop rfl Iv (fun n s hI => ?_) n h
  show wpAny _ A ((compTurn (.ListComp elt [⟨target, iter, ifs, 0⟩] sc pos) 0 it acc env).onRaise (fun x => do noteFrame x env; theTreesLotGoes x)) _ _ s
  refine wpAny_noted ?_
  rw [compTurn_list]
  refine wpAny_bind (wpAny_standAt (wpAny_bind (wpAny_mono (turn n s hI) (fun r s₁ h₁ => ?_) fun _ _ h' => h'.elim)))
  cases r with
  | none => exact wpAny_pure h₁
  | some v =>
    refine wpAny_bind (wpAny_mono h₁ (fun _ s₁' h₁' => wpAny_bind (wpAny_mono h₁' (fun _ s₂ h₂ => wpAny_bind (wpAny_mono h₂ (fun ok s₃ h₃ => ?_) fun _ _ h' => h'.elim)) fun _ _ h' => h'.elim)) fun _ _ h' => h'.elim)
    cases ok with
    | false => exact wpAny_pure ⟨rfl, h₃⟩
    | true =>
      exact wpAny_bind (wpAny_bind (wpAny_mono h₃ (fun x s₄ h₄ => wpAny_bind (wpAny_mono h₄ (fun _ s₅ h₅ => wpAny_pure (wpAny_pure ⟨rfl, h₅⟩)) fun _ _ h' => h'.elim)) fun _ _ h' => h'.elim))

theorem comp_start {pins : List (Addr × Obj)} {σ : St} {H : Hp} {s : Shared} {h1 : Heap} {fp : List Addr} (S : CompSc X.env.scope X.N N' src sc) (I : Inv X pins σ H s) (f2 : ∀ b ∈ fp, FpOk X pins H b) (o2 : ∀ b ∈ fp, b < s.heap.objs.size)
    (ns : h1.Ns s.heap.objs.size fun x => (([] : List (Str × Value)).reverse.lookup x)) (sb : Heap.SameBut s.heap.objs.size (s.heap.push { cls := .type "dict", data := .dict #[] }) h1) {tk : Nat} :
    Inv (compCx X N' sc (cloOf X.env.cells sc.names []) s.heap.objs.size s H fp) [] (inSt src σ) H { s with heap := h1, toks := tk } := by
  have old : ∀ b o, s.heap.get? b = some o → h1.get? b = some o := fun b o e => (sb.2 b (Nat.ne_of_lt (Heap.lt_size e))).trans (Heap.get?_push_of_some _ e)
  have clo : ∀ x c, (cloOf X.env.cells sc.names []).lookup x = some c → X.env.cells.lookup x = some c ∧ sc.names.lookup x = some .free := fun x c e => by
    rcases cloOf_mem (mem_of_lookup e) with ⟨m, q⟩ | z
    · obtain ⟨c', e'⟩ := I.ok.has x (S.free _ m rfl)
      rw [e'] at q
      exact ⟨by rw [e', q]; rfl, S.uniq _ m⟩
    · cases z
  have hasC : ∀ x, sc.names.lookup x = some .free → ∃ c, (cloOf X.env.cells sc.names []).lookup x = some c := fun x e => lookup_of_mem (cloOf_has (mem_of_lookup e))
  have kinds : ∀ (x : Str) (k : NameKind), (relabel sc X.env).names.lookup x = some k → (k = .cell ∨ k = .free) → sc.names.lookup x = some .free := fun x k e hk => by
    have gen : ∀ ns : List (Str × NameKind), (∀ y ∈ ns, y.2 ≠ .cell) → (ns.map fun (n, k) => if (k == NameKind.free && X.env.scope.kind == .function && X.env.kindOf n == some .cell) then (n, NameKind.cell) else (n, k)).lookup x = some k → ns.lookup x = some .free := by
      intro ns
      induction ns with
      | nil => intro _ h; cases h
      | cons y r ih =>
        obtain ⟨n, k1⟩ := y
        intro hn h
        rw [List.map_cons] at h
        dsimp only at h
        by_cases hc : (k1 == NameKind.free && X.env.scope.kind == .function && X.env.kindOf n == some .cell) = true
        · rw [if_pos hc, List.lookup_cons] at h
          rw [List.lookup_cons]
          cases hx : x == n with
          | true =>
            have : k1 = NameKind.free := by
              cases hk1 : k1 == NameKind.free with
              | true => simpa using hk1
              | false => rw [hk1] at hc; simp at hc
            rw [this]
          | false => rw [hx] at h; exact ih (fun y hy => hn y (List.mem_cons_of_mem _ hy)) h
        · rw [if_neg hc, List.lookup_cons] at h
          rw [List.lookup_cons]
          cases hx : x == n with
          | true =>
            rw [hx] at h
            have h' : k1 = k := Option.some.inj h
            rcases hk with hk | hk
            · exact absurd (h'.trans hk) (hn (n, k1) List.mem_cons_self)
            · show some k1 = _
              rw [h', hk]
          | false => rw [hx] at h; exact ih (fun y hy => hn y (List.mem_cons_of_mem _ hy)) h
    exact gen sc.names S.nocell e
  have relab : ∀ x, sc.names.lookup x = some .free → (relabel sc X.env).names.lookup x = some .cell ∨ (relabel sc X.env).names.lookup x = some .free := fun x e => by
    have gen : ∀ ns : List (Str × NameKind), ns.lookup x = some .free → (ns.map fun (n, k) => if (k == NameKind.free && X.env.scope.kind == .function && X.env.kindOf n == some .cell) then (n, NameKind.cell) else (n, k)).lookup x = some .cell ∨
        (ns.map fun (n, k) => if (k == NameKind.free && X.env.scope.kind == .function && X.env.kindOf n == some .cell) then (n, NameKind.cell) else (n, k)).lookup x = some .free := by
      intro ns
      induction ns with
      | nil => intro h; cases h
      | cons y r ih =>
        obtain ⟨n, k1⟩ := y
        intro h
        rw [List.map_cons]
        dsimp only
        rw [List.lookup_cons] at h
        by_cases hc : (k1 == NameKind.free && X.env.scope.kind == .function && X.env.kindOf n == some .cell) = true
        · rw [if_pos hc, List.lookup_cons]
          cases hx : x == n with
          | true => exact .inl rfl
          | false => rw [hx] at h; exact ih h
        · rw [if_neg hc, List.lookup_cons]
          cases hx : x == n with
          | true =>
            rw [hx] at h
            exact .inr h
          | false => rw [hx] at h; exact ih h
    exact gen sc.names e
  refine ⟨⟨I.mod, ?_, I.ok.glob, I.ok.blt, Nat.le_refl _, fun x y c h1 h2 => I.ok.inj x y c (clo x c h1).1 (clo y c h2).1, fun x hx => ?_, fun x c hf h => ?_, I.ok.hd, I.ok.frames, .inl rfl, fun b hb => ⟨?_, fun x c h => ?_⟩, I.bs, ?_, fun b o e hb => ?_, fun b hb hs => ?_, I.stack, I.stkFree⟩,
    rfl, I.bare, Un.kept old, ⟨_, ns, fun i x v h1 h2 h3 => ?_⟩, fun x c h => ?_, I.hok.fresh (Nat.le_refl _), fun x c h => I.freeC x c (clo x c h).1, fun p hp => absurd (show p ∈ ([] : List (Addr × Obj)) from hp) (by simp), I.hok.kept old, ?_⟩
  · show (relabel sc X.env).kind = .function
    exact S.kind
  · obtain hx | hx := hx
    · exact hasC x (kinds x _ hx (.inl rfl))
    · exact hasC x (kinds x _ hx (.inr rfl))
  · have e2 := (clo x c h).2
    have hf' : (sc.names.lookup x == some NameKind.local) = true := hf
    rw [e2] at hf'
    cases hf'
  · exact Nat.ne_of_lt (o2 b hb)
  · exact (f2 b hb).2.2.2.2.1 x c (clo x c h).1
  · exact Nat.le_trans I.ok.bsz I.sz
  · rcases (f2 b hb).2.2.2.1 with z | z
    · exact I.ok.noex b o e z
    · exact absurd (Nat.lt_of_lt_of_le (Heap.lt_size e) (Nat.le_trans I.ok.bsz z)) (Nat.lt_irrefl _)
  · rcases List.mem_cons.mp (I.stkSub b hs) with z | z
    · exact (f2 b hb).2.1 z
    · exact (f2 b hb).2.2.1 z
  · obtain ⟨j, e1, e2⟩ := inSt_get h2
    obtain ⟨e3, e4⟩ := S.src i x j h1 e1
    obtain ⟨m, hn, hl⟩ := I.loc
    have kx := S.free _ (mem_of_lookup e4) rfl
    obtain ⟨u, ru, l⟩ := hl j x v e3 e2 (.inr kx)
    refine ⟨u, ru, .inr ⟨relab x e4, ?_⟩⟩
    obtain ⟨c, hc⟩ := hasC x e4
    refine ⟨c, hc, ?_⟩
    have hc' := (clo x c hc).1
    rcases l with ⟨lk, _⟩ | ⟨_, c', lc, z⟩
    · have lk' : X.env.scope.names.lookup x = some .local := lk
      rcases kx with q | q
      · have q' : X.env.scope.names.lookup x = some .cell := q
        rw [lk'] at q'; cases q'
      · have q' : X.env.scope.names.lookup x = some .free := q
        rw [lk'] at q'; cases q'
    · rw [hc'] at lc
      cases lc
      obtain ⟨o, ho, hd⟩ := z
      exact ⟨o, old _ _ ho, hd⟩
  · obtain ⟨v, o, ho, hd⟩ := I.cell x c (clo x c h).1
    exact ⟨v, o, old _ _ ho, hd⟩
  · show (inSt src σ).length = N'.length
    unfold inSt
    rw [List.length_map]
    exact S.len

theorem comp_block {pins : List (Addr × Obj)} {σ : St} {H2 : Hp} {s2 : Shared} {it : Addr} {fp : List Addr} {tn : Nat → Heap → Prop} {J : It} {Q : VK} {E : Value → Shared → Prop} {RR : Value → Addr → Result → Shared → Prop}
    (hc : X.calm = true) (S : CompSc X.env.scope X.N N' src sc)
    (hg : ∀ cl C s H fp, PG (compCx X N' sc cl C s H fp) target g) (ht : ∀ cl C s H fp, PIfs (compCx X N' sc cl C s H fp) ifs tc) (he : ∀ cl C s H fp, PE (compCx X N' sc cl C s H fp) elt te)
    (I2 : Inv X pins σ H2 s2) (T : Turn X.prog X.w X.K target J fp it tn) (st2 : tn 0 s2.heap) (f2 : ∀ b ∈ fp, FpOk X pins H2 b)
    (hW : ∀ D, H2 D = none → ∃ W : Nat → Nat → St → List V → Hp → Prop, (∃ m, W 0 m (inSt src σ) [] (upd H2 D (.lst []))) ∧ compW J g tc te D Q W)
    (hRR : ∀ D C s5 H' m, Inv X pins σ H' s5 → s5.heap.Ns C m → FpOk X pins H' C → Q (.ref D) H' → RR (.ref D) C (.ok .next) s5) :
    wpAny (model X.prog X.w) X.A (newList []) (fun acc s₃ => wpAny (model X.prog X.w) X.A (newFunctionEnv sc X.env.globals (cloOf X.env.cells sc.names []) [] X.env.qual none .none (some X.env)) (fun cenv s₄ =>
      codeAny (model X.prog X.w) X.A (.compStart (.ListComp elt [⟨target, iter, ifs, 0⟩] sc pos) 0 (.ref it) acc { cenv with scope := relabel sc X.env }) (RR acc cenv.locals) s₄) E s₃) E s2 := by
  have o2 : ∀ b ∈ fp, b < s2.heap.objs.size := fun b hb => by
    obtain ⟨o, e, _⟩ := T.obj 0 _ st2 b hb
    exact Heap.lt_size e
  refine wpAny_newObj_type ?_
  have fr2 : H2 s2.heap.objs.size = none := I2.hok.fresh (Nat.le_refl _)
  obtain ⟨W, ⟨m0, w0⟩, turn⟩ := hW s2.heap.objs.size fr2
  have I3 : Inv X pins σ (upd H2 s2.heap.objs.size (.lst [])) { s2 with heap := s2.heap.push { cls := .type "list", dict := none, data := .seq ([] : List Value).toArray } } :=
    I2.laid (t' := s2.toks) (fun b u e => Heap.get?_push_of_some _ e) (Nat.le_refl _) ⟨Nat.zero_le _, [], 0, .nil, Heap.get?_push_size _ rfl⟩
  have st3 : tn 0 (s2.heap.push { cls := .type "list", dict := none, data := .seq ([] : List Value).toArray }) := T.keep 0 _ _ st2 fun b hb o e => Heap.get?_push_of_some _ e
  generalize hs3 : ({ s2 with heap := s2.heap.push { cls := .type "list", dict := none, data := .seq ([] : List Value).toArray } } : Shared) = s3 at I3
  have hh3 : s3.heap = s2.heap.push { cls := .type "list", dict := none, data := .seq ([] : List Value).toArray } := by rw [← hs3]
  have sz3 : s2.heap.objs.size < s3.heap.objs.size := by rw [hh3, Heap.size_push]; exact Nat.lt_succ_self _
  have o3 : ∀ b ∈ fp, b < s3.heap.objs.size := fun b hb => Nat.lt_trans (o2 b hb) sz3
  have f3 : ∀ b ∈ fp, FpOk X pins (upd H2 s2.heap.objs.size (.lst [])) b := fun b hb => ⟨by rw [upd_ne (Nat.ne_of_lt (o2 b hb))]; exact (f2 b hb).1, (f2 b hb).2⟩
  rw [← hh3] at st3
  refine wpAny_newFunctionEnv S.nocell (by intro y hy; simp at hy) (fun h1 hns hsb => ?_) S.kind
  have hsb' : Heap.SameBut s3.heap.objs.size (s3.heap.push { cls := .type "dict", data := .dict #[] }) h1 := hsb
  have I4 : Inv (compCx X N' sc (cloOf X.env.cells sc.names []) s3.heap.objs.size s3 (upd H2 s2.heap.objs.size (.lst [])) fp) [] (inSt src σ) (upd H2 s2.heap.objs.size (.lst [])) { s3 with heap := h1, toks := s3.toks + ([] : List (Str × Value)).length } :=
    comp_start S I3 f3 o3 hns hsb'
  have st4 : tn 0 h1 := T.keep 0 _ _ st3 fun b hb o e => (hsb'.2 b (Nat.ne_of_lt (o3 b hb))).trans (Heap.get?_push_of_some _ e)
  have fC : ∀ (H' : Hp) , H' s3.heap.objs.size = none → FpOk X pins H' s3.heap.objs.size := fun H' hn => I3.fpOk (Nat.le_refl _) hn
  have loop : codeAny (model X.prog X.w) X.A (.compLoop (.ListComp elt [⟨target, iter, ifs, 0⟩] sc pos) 0 (.ref it) (.ref s2.heap.objs.size) (compEnvC sc (cloOf X.env.cells sc.names []) s3.heap.objs.size X.env))
      (RR (.ref s2.heap.objs.size) s3.heap.objs.size) { s3 with heap := h1, toks := s3.toks + ([] : List (Str × Value)).length } := by
    have stat : ∀ {H' : Hp}, (∀ b ∈ fp, H' b = none) → ∀ b ∈ fp, FpOk (compCx X N' sc (cloOf X.env.cells sc.names []) s3.heap.objs.size s3 (upd H2 s2.heap.objs.size (.lst [])) fp) [] H' b := fun hn b hb =>
      ⟨hn b hb, (I4.ok.exf b hb).1, I4.ok.exfs b hb, .inl hb, (I4.ok.exf b hb).2, fun p hp => absurd (show p ∈ ([] : List (Addr × Obj)) from hp) (by simp)⟩
    refine comp_loop (fun n s' => ∃ i σ' ys H', Inv (compCx X N' sc (cloOf X.env.cells sc.names []) s3.heap.objs.size s3 (upd H2 s2.heap.objs.size (.lst [])) fp) [] σ' H' s' ∧ tn i s'.heap ∧ (∀ b ∈ fp, H' b = none) ∧ W i n σ' ys H') ?_ m0
      ⟨0, _, [], _, I4, st4, fun b hb => (f3 b hb).1, w0⟩
    rintro n s5 ⟨i, σ5, ys, H5, I5, st5, fr5, w5⟩
    obtain ⟨hD, alt⟩ := turn i n σ5 ys H5 w5
    rcases alt with ⟨stop, qn⟩ | ⟨go, hsz, N, hN, step⟩
    · refine thn (T.done (compCx X N' sc (cloOf X.env.cells sc.names []) s3.heap.objs.size s3 (upd H2 s2.heap.objs.size (.lst [])) fp) rfl rfl rfl hc i [] s5 σ5 H5 _ I5 (stat fr5) st5 stop) fun r s6 ⟨hr, I6⟩ => ?_
      subst hr
      obtain ⟨m6, n6, _⟩ := id I6.loc
      refine hRR _ _ s6 H5 m6 (I3.call' I6.os I6.base I6.hok I6.bare fun b hb => ⟨(f3 b hb).2.2.2.1, (f3 b hb).2.1, (f3 b hb).2.2.2.2.1, (f3 b hb).2.2.2.2.2⟩) n6 (fC _ I6.free) qn
    · refine thn (T.item (compCx X N' sc (cloOf X.env.cells sc.names []) s3.heap.objs.size s3 (upd H2 s2.heap.objs.size (.lst [])) fp) rfl rfl rfl hc i [] s5 σ5 H5 _ I5 (stat fr5) st5 go) fun r s6 ⟨u, hr, h6⟩ => ?_
      subst hr
      refine thn h6 fun _ s7 ⟨x, H7, I7, r7, y7, st7, fr7⟩ => ?_
      have I7' := I7.pinned (stat fr7) (T.obj _ _ st7)
      refine thn (hg _ _ _ _ _ _ s7 σ5 H7 x u _ I7' r7 (step x H7 y7)) fun _ s8 ⟨σ8, H8, I8, q8⟩ => ?_
      refine thn (ht _ _ _ _ _ _ s8 σ8 H8 _ I8 q8) fun b s9 ⟨H9, I9, q9⟩ => ?_
      have again : ∀ {σ' : St} {H' : Hp} {s' : Shared} {ys' : List V} {m' : Nat}, Inv (compCx X N' sc (cloOf X.env.cells sc.names []) s3.heap.objs.size s3 (upd H2 s2.heap.objs.size (.lst [])) fp) ([] ++ pinsAt fp s7.heap) σ' H' s' → m' < n → W (i + 1) m' σ' ys' H' →
          ∃ m, m < n ∧ ∃ i σ' ys H', Inv (compCx X N' sc (cloOf X.env.cells sc.names []) s3.heap.objs.size s3 (upd H2 s2.heap.objs.size (.lst [])) fp) [] σ' H' s' ∧ tn i s'.heap ∧ (∀ b ∈ fp, H' b = none) ∧ W i m σ' ys H' := fun {σ' H' s' ys' m'} I' hm w' => by
        refine ⟨m', hm, i + 1, σ', ys', H', I'.unpinned, T.keep _ _ _ st7 fun b hb o e => (I'.pin (b, o) (List.mem_append_right _ (List.mem_append_right _ (mem_pinsAt hb e)))).1, fun b hb => ?_, w'⟩
        obtain ⟨o, e, d⟩ := T.obj _ _ st7 b hb
        exact (I'.pin (b, o) (List.mem_append_right _ (List.mem_append_right _ (mem_pinsAt hb e)))).2.1
      cases b with
      | false =>
        rw [if_neg Bool.false_ne_true] at q9 ⊢
        obtain ⟨m', hm, w'⟩ := hN _ _ _ q9
        exact again I9 hm w'
      | true =>
        rw [if_pos rfl] at q9 ⊢
        refine thn (he _ _ _ _ _ _ s9 σ8 H9 _ I9 q9) fun xv s10 ⟨v, H10, I10, r10, hD10, w10⟩ => ?_
        obtain ⟨m', hm, w'⟩ := hN _ _ _ w10
        have q10 : rAppend (.ref s2.heap.objs.size) [v] H10 fun _ H' => H' = upd H10 s2.heap.objs.size (.lst (ys ++ [v])) := ⟨_, ys, v, rfl, rfl, hD10, hsz, rfl⟩
        refine thn (mt_append _ s10 σ8 H10 _ _ _ _ _ I10 (show RelV (.ref s2.heap.objs.size) (.ref s2.heap.objs.size) from rfl) (.cons r10 .nil) q10) fun _ s11 ⟨_, H11, I11, _, e11⟩ => ?_
        rw [e11] at I11
        exact again I11 hm w'
  exact codeAny_compStart_list loop (T.self _ 0 _ _ _ st4 loop)

/-- a list comprehension of one clause -/
theorem pe_lcomp (hc : X.calm = true) (S : CompSc X.env.scope X.N N' src sc) (hi : PI X target iter wi)
    (hg : ∀ cl C s H fp, PG (compCx X N' sc cl C s H fp) target g) (ht : ∀ cl C s H fp, PIfs (compCx X N' sc cl C s H fp) ifs tc) (he : ∀ cl C s H fp, PE (compCx X N' sc cl C s H fp) elt te)
    (hs : ∀ x, foldedSetIterable iter X.env x = pure x := by intro _; rfl) :
    PE X (.ListComp elt [⟨target, iter, ifs, 0⟩] sc pos) (tComp src wi g tc te) := by
  intro pins s σ H Q I h
  rw [eval_ListComp]
  refine wpAny_comprehension_free (use := none) rfl hs (closureFor_clo fun y hy hk => I.ok.has y.1 (S.free y hy hk)) S.kind (fun y hy hl => by rw [← hl]; exact S.uniq y hy) ?_
  refine thn (hi pins s σ H _ I h) fun v s1 h1 => thn h1 fun itv s2 h2 => ?_
  obtain ⟨it, fp, tn, J, H2, e, I2, T, st2, f2, hW⟩ := h2
  subst e
  refine comp_block (Q := Q) (RR := fun acc C => compPost (model X.prog X.w) X.A X.xe none (EP X pins σ Q) acc C) hc S hg ht he I2 T st2 f2 hW ?_
  intro D C s5 H' m I5 n5 fC q
  refine ⟨m, n5, fun h' sb => ⟨.ref D, H', ?_, rfl, q⟩⟩
  exact I5.turned (t' := s5.toks) (fun b o hb e => (sb.2 b hb).trans e) fC.1 fC.2.1 fC.2.2.2.1 fC.2.2.2.2.1 fC.2.2.2.2.2

/-- name = [.. for ..] -/
theorem ps_setComp {i : Nat} {x : Str} {pos' spos : Pos} (hN : X.N.Nodup) (hi' : X.N[i]? = some x) (hx : Loc X.env.scope x) (hsw : swapsWith (.ListComp elt [⟨target, iter, ifs, 0⟩] sc pos) (some (.Name x pos')) spos.line X.env = pure true)
    (hc : X.calm = true) (S : CompSc X.env.scope X.N N' src sc) (hi : PI X target iter wi)
    (hg : ∀ cl C s H fp, PG (compCx X N' sc cl C s H fp) target g) (ht : ∀ cl C s H fp, PIfs (compCx X N' sc cl C s H fp) ifs tc) (he : ∀ cl C s H fp, PE (compCx X N' sc cl C s H fp) elt te)
    (hf : X.fn x = true ∨ X.env.scope.names.lookup x = some .local := by first | exact .inl rfl | exact .inr rfl | assumption)
    (hs : ∀ x, foldedSetIterable iter X.env x = pure x := by intro _; rfl) :
    PS X (.Assign [.Name x pos'] (.ListComp elt [⟨target, iter, ifs, 0⟩] sc pos) spos) (tAsg (tComp src wi g tc te) (gName i)) := by
  intro pins s σ H D I h
  rw [exec_Assign_Name_used _ _ _ _ hsw]
  refine wpAny_bind (wpAny_standAt (wpAny_bind ?_))
  show wpAny _ _ (comprehension _ _ _ _ _ _ _ _ >>= _) _ _ s
  refine wpAny_bind (wpAny_comprehension_free (use := some (assign (.Name x pos') X.env)) rfl hs (closureFor_clo fun y hy hk => I.ok.has y.1 (S.free y hy hk)) S.kind (fun y hy hl => by rw [← hl]; exact S.uniq y hy) ?_)
  refine thn (hi pins s σ H _ I h) fun v s1 h1 => thn h1 fun itv s2 h2 => ?_
  obtain ⟨it, fp, tn, J, H2, e, I2, T, st2, f2, hW⟩ := h2
  subst e
  refine comp_block (Q := fun y H' => D.nx (σ.set i (some y)) H') (RR := fun acc C => compPost (model X.prog X.w) X.A X.xe (some (assign (.Name x pos') X.env)) _ acc C) hc S hg ht he I2 T st2 f2 hW ?_
  intro D' C s5 H' m I5 n5 fC q
  refine wpAny_assign_Name (store_ok2 I5 hN hi' hx (show RelV (.ref D') (.ref D') from rfl) (fun s6 I6 hsb => ?_) hf)
  obtain ⟨a, sb, ha⟩ := hsb
  have hCa : C ≠ a := by
    rcases ha with z | z
    · rw [z]; exact fC.2.1
    · exact fun e => fC.2.2.2.2.1 x a z e.symm
  refine ⟨m, n5.sameBut sb hCa, fun h' sb' => ?_⟩
  refine wpAny_pure (wpAny_pure ?_)
  exact ⟨_, H', I6.turned (t' := s6.toks) (fun b o hb e => (sb'.2 b hb).trans e) fC.1 fC.2.1 fC.2.2.2.1 fC.2.2.2.2.1 fC.2.2.2.2.2, q⟩
end

/-- the names' check, by computing -/
def compOkB (osc : Scope) (ON N' : List Str) (src : List (Option Nat)) (sc : Scope) : Bool :=
  sc.kind == .function && osc.kind == .function && sc.names.all (fun y => sc.names.lookup y.1 == some y.2 && y.2 != .cell && (y.2 != .free || osc.names.lookup y.1 == some .cell || osc.names.lookup y.1 == some .free)) &&
  src.length == N'.length && (N'.zip src).all fun y => match y.2 with | none => true | some j => ON[j]? == some y.1 && sc.names.lookup y.1 == some .free
theorem CompSc.ofB {osc : Scope} {ON N' : List Str} {src : List (Option Nat)} {sc : Scope} (h : compOkB osc ON N' src sc = true) : CompSc osc ON N' src sc := by
  unfold compOkB at h
  simp only [Bool.and_eq_true] at h
  obtain ⟨⟨⟨⟨h1, h2⟩, h3⟩, h4⟩, h5⟩ := h
  have h3' := List.all_eq_true.mp h3
  have h5' := List.all_eq_true.mp h5
  refine ⟨by simpa using h1, by simpa using h2, fun y hy => ?_, fun y hy => ?_, fun y hy hf => ?_, by simpa using h4, fun i x j e1 e2 => ?_⟩
  · have := h3' y hy
    simp only [Bool.and_eq_true] at this
    simpa using this.1.1
  · have := h3' y hy
    simp only [Bool.and_eq_true] at this
    simpa using this.1.2
  · have := h3' y hy
    simp only [Bool.and_eq_true, Bool.or_eq_true] at this
    rcases this.2 with (z | z) | z
    · rw [hf] at z; exact absurd z (by decide)
    · exact .inl (by simpa using z)
    · exact .inr (by simpa using z)
  · have m : (x, some j) ∈ N'.zip src := by
      refine List.mem_of_getElem? (i := i) ?_
      rw [List.getElem?_zip_eq_some]
      exact ⟨e1, e2⟩
    have := h5' _ m
    simp only [Bool.and_eq_true] at this
    exact ⟨by simpa using this.1, by simpa using this.2⟩

section
variable {g : TG} {tc : TT} {te : TE} {D : Addr} {Q : VK} {σ0 : St} {H0 : Hp}
theorem comp_range {lo : Int} {n : Nat} (Pv : Nat → St → List V → Hp → Prop) (h0 : Pv 0 σ0 [] H0) (hD : ∀ i σ ys H, i ≤ n → Pv i σ ys H → H D = some (.lst ys) ∧ ys.length ≤ i) (hz : n ≤ sizeLine)
    (hs : ∀ i σ ys H, i < n → Pv i σ ys H → g (.int (lo + i)) σ H fun σ2 H2 => tc σ2 H2 fun b H3 => if b = true then te σ2 H3 fun v H4 => H4 D = some (.lst ys) ∧ Pv (i + 1) σ2 (ys ++ [v]) (upd H4 D (.lst (ys ++ [v]))) else Pv (i + 1) σ2 ys H3)
    (hd : ∀ σ ys H, Pv n σ ys H → Q (.ref D) H) : ∃ W : Nat → Nat → St → List V → Hp → Prop, (∃ m, W 0 m σ0 [] H0) ∧ compW (Itr lo n) g tc te D Q W := by
  refine ⟨fun i m σ ys H => m = n - i ∧ i ≤ n ∧ Pv i σ ys H, ⟨n, by simp, Nat.zero_le _, h0⟩, ?_⟩
  rintro i m σ ys H ⟨rfl, hi, p⟩
  refine ⟨(hD i σ ys H hi p).1, ?_⟩
  by_cases hlt : i < n
  · refine .inr ⟨hlt, Nat.lt_of_le_of_lt (hD i σ ys H hi p).2 (Nat.lt_of_lt_of_le hlt hz), Pv (i + 1), fun σ' ys' H' p' => ⟨n - (i + 1), by omega, rfl, hlt, p'⟩, fun x H' y => ?_⟩
    obtain ⟨e, y⟩ := y
    subst e y
    exact hs i σ ys _ hlt p
  · have e : i = n := by omega
    subst e
    exact .inl ⟨Nat.le_refl _, hd σ ys H p⟩
theorem comp_list {K : PySem.W.Frag} {a : Addr} {xs : List V} (Pv : Nat → St → List V → Hp → Prop) (h0 : Pv 0 σ0 [] H0) (hD : ∀ i σ ys H, i ≤ xs.length → Pv i σ ys H → H D = some (.lst ys) ∧ ys.length ≤ i) (hl : ∀ i σ ys H, i ≤ xs.length → Pv i σ ys H → SqL K H a xs) (hz : xs.length ≤ sizeLine)
    (hs : ∀ i x σ ys H, xs[i]? = some x → Pv i σ ys H → g x σ H fun σ2 H2 => tc σ2 H2 fun b H3 => if b = true then te σ2 H3 fun v H4 => H4 D = some (.lst ys) ∧ Pv (i + 1) σ2 (ys ++ [v]) (upd H4 D (.lst (ys ++ [v]))) else Pv (i + 1) σ2 ys H3)
    (hd : ∀ σ ys H, Pv xs.length σ ys H → Q (.ref D) H) : ∃ W : Nat → Nat → St → List V → Hp → Prop, (∃ m, W 0 m σ0 [] H0) ∧ compW (Itl K a) g tc te D Q W := by
  refine ⟨fun i m σ ys H => m = xs.length - i ∧ i ≤ xs.length ∧ Pv i σ ys H, ⟨xs.length, by simp, Nat.zero_le _, h0⟩, ?_⟩
  rintro i m σ ys H ⟨rfl, hi, p⟩
  have q := hl i σ ys H hi p
  refine ⟨(hD i σ ys H hi p).1, ?_⟩
  by_cases hlt : i < xs.length
  · refine .inr ⟨⟨xs, xs[i], q, by simp [hlt]⟩, Nat.lt_of_le_of_lt (hD i σ ys H hi p).2 (Nat.lt_of_lt_of_le hlt hz), Pv (i + 1), fun σ' ys' H' p' => ⟨xs.length - (i + 1), by omega, rfl, hlt, p'⟩, fun x H' y => ?_⟩
    obtain ⟨e, y⟩ := y
    subst e
    exact hs i x σ ys _ (y xs q) p
  · have e : i = xs.length := by omega
    subst e
    exact .inl ⟨⟨xs, q, Nat.le_refl _⟩, hd σ ys H p⟩
theorem comp_tup {K : PySem.W.Frag} {a : Addr} {xs : List V} (Pv : Nat → St → List V → Hp → Prop) (h0 : Pv 0 σ0 [] H0) (hD : ∀ i σ ys H, i ≤ xs.length → Pv i σ ys H → H D = some (.lst ys) ∧ ys.length ≤ i) (hl : ∀ i σ ys H, i ≤ xs.length → Pv i σ ys H → SqT K H a xs) (hz : xs.length ≤ sizeLine)
    (hs : ∀ i x σ ys H, xs[i]? = some x → Pv i σ ys H → g x σ H fun σ2 H2 => tc σ2 H2 fun b H3 => if b = true then te σ2 H3 fun v H4 => H4 D = some (.lst ys) ∧ Pv (i + 1) σ2 (ys ++ [v]) (upd H4 D (.lst (ys ++ [v]))) else Pv (i + 1) σ2 ys H3)
    (hd : ∀ σ ys H, Pv xs.length σ ys H → Q (.ref D) H) : ∃ W : Nat → Nat → St → List V → Hp → Prop, (∃ m, W 0 m σ0 [] H0) ∧ compW (Itt K a) g tc te D Q W := by
  refine ⟨fun i m σ ys H => m = xs.length - i ∧ i ≤ xs.length ∧ Pv i σ ys H, ⟨xs.length, by simp, Nat.zero_le _, h0⟩, ?_⟩
  rintro i m σ ys H ⟨rfl, hi, p⟩
  have q := hl i σ ys H hi p
  refine ⟨(hD i σ ys H hi p).1, ?_⟩
  by_cases hlt : i < xs.length
  · refine .inr ⟨⟨xs, xs[i], q, by simp [hlt]⟩, Nat.lt_of_le_of_lt (hD i σ ys H hi p).2 (Nat.lt_of_lt_of_le hlt hz), Pv (i + 1), fun σ' ys' H' p' => ⟨xs.length - (i + 1), by omega, rfl, hlt, p'⟩, fun x H' y => ?_⟩
    obtain ⟨e, y⟩ := y
    subst e
    exact hs i x σ ys _ (y xs q) p
  · have e : i = xs.length := by omega
    subst e
    exact .inl ⟨⟨xs, q, Nat.le_refl _⟩, hd σ ys H p⟩
end

section
variable {X : Cx} {N' : List Str} {sc : Scope} {cl : List (Str × Addr)} {C : Addr} {s : Shared} {H : Hp} {fp : List Addr}
theorem relabel_free {env : Env} {x : Str} (e : sc.names.lookup x = some .free) : (relabel sc env).names.lookup x = some .cell ∨ (relabel sc env).names.lookup x = some .free := by
  have gen : ∀ ns : List (Str × NameKind), ns.lookup x = some .free → (ns.map fun (n, k) => if (k == NameKind.free && env.scope.kind == .function && env.kindOf n == some .cell) then (n, NameKind.cell) else (n, k)).lookup x = some .cell ∨
      (ns.map fun (n, k) => if (k == NameKind.free && env.scope.kind == .function && env.kindOf n == some .cell) then (n, NameKind.cell) else (n, k)).lookup x = some .free := by
    intro ns
    induction ns with
    | nil => intro h; cases h
    | cons y r ih =>
      obtain ⟨n, k1⟩ := y
      intro h
      rw [List.map_cons]
      dsimp only
      rw [List.lookup_cons] at h
      by_cases hc : (k1 == NameKind.free && env.scope.kind == .function && env.kindOf n == some .cell) = true
      · rw [if_pos hc, List.lookup_cons]
        cases hx : x == n with
        | true => exact .inl rfl
        | false => rw [hx] at h; exact ih h
      · rw [if_neg hc, List.lookup_cons]
        cases hx : x == n with
        | true =>
          rw [hx] at h
          exact .inr h
        | false => rw [hx] at h; exact ih h
  exact gen sc.names e
theorem relabel_other {env : Env} {x : Str} {k : NameKind} (hk : (k == NameKind.free) = false) (e : sc.names.lookup x = some k) : (relabel sc env).names.lookup x = some k := by
  have gen : ∀ ns : List (Str × NameKind), ns.lookup x = some k → (ns.map fun (n, k) => if (k == NameKind.free && env.scope.kind == .function && env.kindOf n == some .cell) then (n, NameKind.cell) else (n, k)).lookup x = some k := by
    intro ns
    induction ns with
    | nil => intro h; cases h
    | cons y r ih =>
      obtain ⟨n, k1⟩ := y
      intro h
      rw [List.map_cons]
      dsimp only
      rw [List.lookup_cons] at h
      cases hx : x == n with
      | true =>
        rw [hx] at h
        have h' : k1 = k := Option.some.inj h
        subst h'
        rw [if_neg (by rw [hk]; simp), List.lookup_cons, hx]
      | false =>
        rw [hx] at h
        split
        · rw [List.lookup_cons, hx]; exact ih h
        · rw [List.lookup_cons, hx]; exact ih h
  exact gen sc.names e
/-- in a comprehension's block: an outer name; an own one; a global one -/
theorem pvf (i : Nat) {x : Str} {pos : Pos} (hN : N'[i]? = some x := by rfl) (hv : sc.names.lookup x = some .free := by rfl) (hd : (x == ("__debug__" : Str)) = false := by decide) (hcd : (x == ("__classdict__" : Str)) = false := by decide) :
    PE (compCx X N' sc cl C s H fp) (.Name x pos) (tVar i) := pe_var (X := compCx X N' sc cl C s H fp) hN (.inr (relabel_free hv)) hd hcd
theorem pvl (i : Nat) {x : Str} {pos : Pos} (hN : N'[i]? = some x := by rfl) (hv : sc.names.lookup x = some .local := by rfl) (hd : (x == ("__debug__" : Str)) = false := by decide) (hcd : (x == ("__classdict__" : Str)) = false := by decide) :
    PE (compCx X N' sc cl C s H fp) (.Name x pos) (tVar i) := pe_var (X := compCx X N' sc cl C s H fp) hN (.inl (relabel_other rfl hv)) hd hcd
theorem pgl {i : Nat} {x : Str} {pos : Pos} (hn : N'.Nodup := by decide +kernel) (hN : N'[i]? = some x := by rfl) (hv : sc.names.lookup x = some .local := by rfl) :
    PG (compCx X N' sc cl C s H fp) (.Name x pos) (gName i) := pg_name (X := compCx X N' sc cl C s H fp) hn hN (.inl (relabel_other rfl hv)) (.inr (relabel_other rfl hv))
theorem glc {x : Str} (hv : sc.names.lookup x = some .globalImplicit := by rfl) : Gl (compCx X N' sc cl C s H fp) x := relabel_other (env := X.env) rfl hv
end
end L2

namespace L2
open PySem PySem.Spec PyProof.Rows
section
variable {X : Cx}
theorem call_divmodB : CallR X (.builtin "divmod") (fun xs H Q => ∃ i j, xs = [.int i, .int j] ∧ (0 < j ∧ j.natAbs.log2 < 9000) ∧ ∀ p, H p = none → Q (.ref p) (upd H p (.tup [.int (i / j), .int (i % j)]))) := by
  intro pins s σ H xs us Q I r h
  obtain ⟨i, j, rfl, ⟨h1, h2⟩, q⟩ := h
  obtain ⟨u, w', rfl, ⟨t, rfl⟩, ⟨t', rfl⟩⟩ := vals2 r
  refine divmod_int (by omega) ?_ (.inl (PyProof.noPylong_of_log2 h2))
  rw [Int.fdiv_eq_ediv_of_nonneg i (by omega), Int.fmod_eq_emod_of_nonneg i (by omega)]
  have hn : H s.heap.objs.size = none := I.hok.fresh (Nat.le_refl _)
  refine ⟨.ref s.heap.objs.size, _, ?_, rfl, q _ hn⟩
  refine I.laid (fun b o e => Heap.get?_push_of_some _ e) (Nat.le_refl _) ⟨by simp only [List.length_cons, List.length_nil]; rw [sizeLine_eq]; decide, [.int (i / j) s.toks, .int (i % j) (s.toks + 1)], .cons ⟨_, rfl⟩ (.cons ⟨_, rfl⟩ .nil), ?_⟩
  exact ⟨_, Heap.get?_push_size s.heap rfl, rfl, 0, rfl⟩

theorem strsAre_of {ys : List Str} : ∀ {us : List Value}, Vals (ys.map V.str) us → StrsAre us ys := by
  induction ys with
  | nil => intro us r; cases r; exact .nil
  | cons y ys ih =>
    intro us r
    cases r with
    | cons h t =>
      obtain ⟨tk, rfl⟩ := h
      exact .cons _ _ (ih t)
/-- sep.join(a list of texts) -/
def rJoin (K : PySem.W.Frag) : V → List V → Hp → VK → Prop := fun x vs H Q => ∃ sep p ys, x = .str sep ∧ vs = [.ref p] ∧ SqL K H p (ys.map V.str) ∧ (ys.map (·.length)).sum + ys.length * sep.length ≤ 16777216 ∧ Q (.str (Txt.join sep ys)) H
theorem mt_join : MtR X "str.join" (rJoin X.K) := by
  intro pins s σ H x vs v us Q I rx rv h
  obtain ⟨sep, p, ys, rfl, rfl, hS, hz, q⟩ := h
  obtain ⟨tk, rfl⟩ := rx
  obtain ⟨u, rfl, ru⟩ := vals1 rv
  cases ru
  obtain ⟨its, r, pl, _⟩ := I.list hS
  exact join_list pl.isList (strsAre_of (by simpa using r)) hz fun t' k => ⟨.str (Txt.join sep ys), H, I.tok _, ⟨_, rfl⟩, q⟩
end

/-! ### the pot of drawn numbers -/
def PotAt (H : Hp) (p : Addr) : Prop := ∃ a b : Int, H p = some (.lst [.int a, .int b]) ∧ 0 ≤ a ∧ 0 ≤ b ∧ b ≤ 2147483647
/-- all that was tracked is as it was but for the pot at p -/
structure Grow (p : Addr) (H H' : Hp) : Prop where
  keep : ∀ b o, b ≠ p → H b = some o → H' b = some o
  pot : PotAt H' p
theorem Grow.refl {p : Addr} {H : Hp} (h : PotAt H p) : Grow p H H := ⟨fun _ _ _ e => e, h⟩
theorem Grow.trans {p : Addr} {H H1 H2 : Hp} (a : Grow p H H1) (b : Grow p H1 H2) : Grow p H H2 := ⟨fun c o n e => b.keep c o n (a.keep c o n e), b.pot⟩
theorem Grow.same {p : Addr} {H H1 : Hp} (h : PotAt H p) (s : Same H H1) : Grow p H H1 := ⟨fun c o _ e => s c o e, let ⟨a, b, e, r⟩ := h; ⟨a, b, s _ _ e, r⟩⟩
theorem same_new {H : Hp} {p : Addr} (h : H p = none) (o : HO) : Same H (upd H p o) := fun b u q => by rw [upd_ne (ne_of_none q h)]; exact q
theorem Grow.new {p q : Addr} {H H1 : Hp} {o : HO} (a : Grow p H H1) (h : H1 q = none) : Grow p H (upd H1 q o) := a.trans (.same a.pot (same_new h o))
theorem Grow.seq {K : PySem.W.Frag} {p a : Addr} {H H1 : Hp} {xs : List V} (g : Grow p H H1) (n : a ≠ p) (h : SqL K H a xs) : SqL K H1 a xs := by
  rcases h with (h | ⟨o, h⟩) | h
  · exact .inl (.inl (g.keep _ _ n h))
  · exact .inl (.inr ⟨o, g.keep _ _ n h⟩)
  · exact .inr h
def spCell (K : PySem.W.Frag) : Sp := fun vs H Q _ => ∃ (a : Addr) (ns : List Int) (k : Int), vs = [.ref a, .int k] ∧ SqL K H a (ns.map V.int) ∧ 0 ≤ k ∧ ∀ n, Q (.int n) H
def spPot (K : PySem.W.Frag) : Sp := fun vs H Q _ => ∃ (a : Addr) (ns : List Int) (k : Int), vs = [.ref a, .int k] ∧ SqL K H a (ns.map V.int) ∧ 0 ≤ k ∧ k ≤ 1000 ∧ ∀ p H', H p = none → Same H H' → PotAt H' p → Q (.ref p) H'
def spDraw : Sp := fun vs H Q _ => ∃ (p : Addr) (m : Int), vs = [.ref p, .int m] ∧ PotAt H p ∧ 0 < m ∧ m.natAbs.log2 < 9000 ∧ ∀ d H', Grow p H H' → 0 ≤ d → d < m → Q (.int d) H'
def spNumber : Sp := fun vs H Q _ => ∃ (p : Addr), vs = [.ref p] ∧ PotAt H p ∧ ∀ n H', Grow p H H' → -(10 ^ 60) < n → n < 10 ^ 60 → Q (.int n) H'
/-- a WORD -/
def isW (x : Str) : Prop := 1 ≤ x.length ∧ x.length ≤ 8 ∧ ∀ c ∈ x.cps.toList, 97 ≤ c ∧ c ≤ 122
def spWord : Sp := fun vs H Q _ => ∃ (p : Addr), vs = [.ref p] ∧ PotAt H p ∧ ∀ x H', Grow p H H' → isW x → Q (.str x) H'
theorem ixN_lt {n : Nat} {i : Int} (h0 : 0 ≤ i) (h1 : i < n) : ixN n i = some i.toNat := by
  unfold ixN; rw [if_pos h0, if_pos h1]
theorem atI_lt {xs : List V} {i : Int} (h0 : 0 ≤ i) (h1 : i < xs.length) : ∃ v, atI xs i = some v ∧ xs[i.toNat]? = some v := by
  have e := ixN_lt h0 h1
  have hj : i.toNat < xs.length := by omega
  refine ⟨xs[i.toNat], ?_, by simp [hj]⟩
  unfold atI; rw [e]
  show xs[i.toNat]? = _
  simp [hj]
theorem atI_mem {xs : List V} {i : Int} (h0 : 0 ≤ i) (h1 : i < xs.length) : ∃ v, atI xs i = some v ∧ v ∈ xs := by
  obtain ⟨v, h, g⟩ := atI_lt h0 h1
  exact ⟨v, h, List.mem_of_getElem? g⟩
theorem atS_mem {z : Str} {i : Int} (h0 : 0 ≤ i) (h1 : i < (z.cps.toList.length : Nat)) : ∃ c, atI z.cps.toList i = some c ∧ c ∈ z.cps.toList := by
  have e := ixN_lt (n := z.cps.toList.length) h0 h1
  have hj : i.toNat < z.cps.toList.length := by omega
  refine ⟨z.cps.toList[i.toNat], ?_, List.getElem_mem hj⟩
  unfold atI; rw [e]
  show z.cps.toList[i.toNat]? = _
  simp only [hj, List.getElem?_eq_getElem]

theorem glue_fold (g : Str) : ∀ (ps : List Str) (acc : Array Nat), (ps.foldl (fun acc p => acc ++ g.cps ++ p.cps) acc).toList = acc.toList ++ (ps.map fun p => g.cps.toList ++ p.cps.toList).flatten
  | [], acc => by simp
  | p :: r, acc => by
    rw [List.foldl_cons, glue_fold g r]
    simp [List.append_assoc]
/-- the signs of a joined text -/
theorem join_codes (g : Str) (ps : List Str) : (Txt.join g ps).cps.toList = (ps.headD Str.empty).cps.toList ++ ((ps.drop 1).map fun p => g.cps.toList ++ p.cps.toList).flatten := by
  unfold Txt.join Builtin.Str.glued
  exact glue_fold g (ps.drop 1) _
def sgn (c : Nat) : Str := ⟨#[c]⟩
theorem nosep : (("" : Str).cps).toList = [] := by decide +kernel
theorem noStr : (Str.empty.cps).toList = [] := by decide +kernel
theorem join_signs (zs : List Nat) : (Txt.join "" (zs.map sgn)).cps.toList = zs := by
  rw [join_codes, nosep]
  cases zs with
  | nil => exact noStr
  | cons z r =>
    show [z] ++ ((r.map sgn).map fun p => [] ++ p.cps.toList).flatten = z :: r
    have e : ((r.map sgn).map fun p => [] ++ p.cps.toList).flatten = r := by
      induction r with
      | nil => rfl
      | cons y r ih =>
        rw [List.map_cons, List.map_cons, List.flatten_cons, ih]
        rfl
    rw [e]
    rfl
theorem sgn_len (zs : List Nat) : ((zs.map sgn).map (·.length)).sum = zs.length := by
  induction zs with
  | nil => rfl
  | cons z r ih => rw [List.map_cons, List.map_cons, List.sum_cons, ih, List.length_cons]; show 1 + _ = _; omega
theorem isW_of {x : Str} {zs : List Nat} (e : x.cps.toList = zs) (h1 : 1 ≤ zs.length) (h2 : zs.length ≤ 8) (h3 : ∀ c ∈ zs, 97 ≤ c ∧ c ≤ 122) : isW x := by
  have l : x.length = zs.length := by show x.cps.size = _; rw [← e]; simp
  exact ⟨by omega, by omega, by rw [e]; exact h3⟩
/-- an object that is newer than H is written -/
theorem Grow.put {p D : Addr} {H H3 H4 : Hp} {o : HO} (g3 : Grow p H H3) (hD : H3 D = none) (n : D ≠ p) (g4 : Grow p H H4) : Grow p H (upd H4 D o) := by
  refine ⟨fun b u nb e => ?_, ?_⟩
  · by_cases hb : b = D
    · subst hb
      exact absurd (g3.keep b u n e) (by rw [hD]; simp)
    · rw [upd_ne hb]
      exact g4.keep b u nb e
  · obtain ⟨x, y, e, r⟩ := g4.pot
    exact ⟨x, y, by rw [upd_ne (Ne.symm n)]; exact e, r⟩
theorem Grow.ne {p D : Addr} {H H3 : Hp} (g3 : Grow p H H3) (hD : H3 D = none) : D ≠ p := fun e => by subst e; obtain ⟨_, _, z, _⟩ := g3.pot; rw [z] at hD; cases hD
section
variable {X : Cx} {x : Str} {pos : Pos} {c : Addr} {n : String} {a b : Expr} {ta tb : TE}
theorem pe_cls (hg : Gl X x) (hm : X.mg x = some (.ref c)) (hd : (x == ("__debug__" : Str)) = false := by decide) : PE X (.Name x pos) (tC (.ref c)) := pe_glob hg hm (show RelV (.ref c) (.ref c) from rfl) hd
theorem pe_bty (hg : Gl X x) (hm : X.mg x = none) (hv : bootBuiltins x = some (.type n)) (hn : x ≠ "__name__" := by decide) (hd : (x == ("__debug__" : Str)) = false := by decide) : PE X (.Name x pos) (tC (.ty n)) := pe_bltn hg hm hv (show RelV (.ty n) (.type n) from rfl) hn hd
theorem pe_ixl (ha : PE X a ta) (hb : PE X b tb) (hs : PlainIx b) : PE X (.Subscript a b pos) (tOp (rIxL X.K) ta tb) := pe_ix ix_list ha hb hs
theorem pe_ixt (ha : PE X a ta) (hb : PE X b tb) (hs : PlainIx b) : PE X (.Subscript a b pos) (tOp (rIxT X.K) ta tb) := pe_ix ix_tup ha hb hs
end
end L2

set_option maxHeartbeats 4000000
namespace L2
open PySem PySem.Spec PyProof.Rows
/-! ### a list comprehension of two clauses -/
section
variable {elt t1 i1 t2 i2 : Expr} {f1 f2 : List Expr} {sc : Scope} {pos : Pos}
abbrev lc2 (elt t1 i1 : Expr) (f1 : List Expr) (t2 i2 : Expr) (f2 : List Expr) (sc : Scope) (pos : Pos) : Expr := .ListComp elt [⟨t1, i1, f1, 0⟩, ⟨t2, i2, f2, 0⟩] sc pos
theorem compTurn_outer (it acc : Value) (env : Env) :
    compTurn (lc2 elt t1 i1 f1 t2 i2 f2 sc pos) 0 it acc env = (do
      standAt i1.pos
      match ← pyNext it with
      | none => pure (.done .next)
      | some v =>
        letOwnedTupleGo t1 it v
        assign t1 env v
        let mut ok := true
        for c in f1 do
          if ok then ok ← isTrue c env (eval c env)
        if ok then
          let x ← eval i2 env
          standAt i2.pos
          let x ← foldedSetIterable i2 env x
          let _ ← runOwn (.compStart (lc2 elt t1 i1 f1 t2 i2 f2 sc pos) 1 (← holding [x] (pyIter x)) acc env) env
        again (.compLoop (lc2 elt t1 i1 f1 t2 i2 f2 sc pos) 0 it acc env)) := by rfl
theorem compTurn_inner (it acc : Value) (env : Env) :
    compTurn (lc2 elt t1 i1 f1 t2 i2 f2 sc pos) 1 it acc env = (do
      standAt i2.pos
      match ← pyNext it with
      | none => pure (.done .next)
      | some v =>
        letOwnedTupleGo t2 it v
        assign t2 env v
        let mut ok := true
        for c in f2 do
          if ok then ok ← isTrue c env (eval c env)
        if ok then
          (do let _ ← call (.builtin "list.append") [acc, ← eval elt env])
        again (.compLoop (lc2 elt t1 i1 f1 t2 i2 f2 sc pos) 1 it acc env)) := by rfl
section
variable {it acc : Value} {env : Env} {prog : Program} {w : World} {A : Around} {s : Shared} {R : Result → Shared → Prop}
theorem comp_loop_in (Iv : Nat → Shared → Prop)
    (turn : ∀ n s, Iv n s → wpAny (model prog w) A (pyNext it) (fun r s₁ => match r with
      | none => R (.ok .next) s₁
      | some v => wpAny (model prog w) A (letOwnedTupleGo t2 it v) (fun _ s₁' => wpAny (model prog w) A (assign t2 env v) (fun _ s₂ =>
          wpAny (model prog w) A (forIn f2 true fun c r => if r = true then do let ok ← isTrue c env (eval c env); pure (ForInStep.yield ok) else pure (ForInStep.yield r)) (fun ok s₃ =>
            if ok = true then wpAny (model prog w) A (eval elt env) (fun x s₄ =>
              wpAny (model prog w) A (call (.builtin "list.append") [acc, x]) (fun _ s₅ => ∃ m, m < n ∧ Iv m s₅) (fun _ _ => False) s₄) (fun _ _ => False) s₃
            else ∃ m, m < n ∧ Iv m s₃) (fun _ _ => False) s₂) (fun _ _ => False) s₁') (fun _ _ => False) s₁) (fun _ _ => False) s)
    (n : Nat) (h : Iv n s) :
    codeAny (model prog w) A (.compLoop (lc2 elt t1 i1 f1 t2 i2 f2 sc pos) 1 it acc env) R s := by
  refine codeAny_loop rfl Iv (fun n s hI => ?_) n h
  show wpAny _ A ((compTurn (lc2 elt t1 i1 f1 t2 i2 f2 sc pos) 1 it acc env).onRaise (fun x => do noteFrame x env; theTreesLotGoes x)) _ _ s
  refine wpAny_noted ?_
  rw [compTurn_inner]
  refine wpAny_bind (wpAny_standAt (wpAny_bind (wpAny_mono (turn n s hI) (fun r s₁ h₁ => ?_) fun _ _ h' => h'.elim)))
  cases r with
  | none => exact wpAny_pure h₁
  | some v =>
    refine wpAny_bind (wpAny_mono h₁ (fun _ s₁' h₁' => wpAny_bind (wpAny_mono h₁' (fun _ s₂ h₂ => wpAny_bind (wpAny_mono h₂ (fun ok s₃ h₃ => ?_) fun _ _ h' => h'.elim)) fun _ _ h' => h'.elim)) fun _ _ h' => h'.elim)
    cases ok with
    | false => exact wpAny_pure ⟨rfl, h₃⟩
    | true =>
      exact wpAny_bind (wpAny_bind (wpAny_mono h₃ (fun x s₄ h₄ => wpAny_bind (wpAny_mono h₄ (fun _ s₅ h₅ => wpAny_pure (wpAny_pure ⟨rfl, h₅⟩)) fun _ _ h' => h'.elim)) fun _ _ h' => h'.elim))
theorem comp_loop_out (hs : ∀ x, foldedSetIterable i2 env x = pure x) (Iv : Nat → Shared → Prop)
    (turn : ∀ n s, Iv n s → wpAny (model prog w) A (pyNext it) (fun r s₁ => match r with
      | none => R (.ok .next) s₁
      | some v => wpAny (model prog w) A (letOwnedTupleGo t1 it v) (fun _ s₁' => wpAny (model prog w) A (assign t1 env v) (fun _ s₂ =>
          wpAny (model prog w) A (forIn f1 true fun c r => if r = true then do let ok ← isTrue c env (eval c env); pure (ForInStep.yield ok) else pure (ForInStep.yield r)) (fun ok s₃ =>
            if ok = true then wpAny (model prog w) A (eval i2 env) (fun x s₄ => wpAny (model prog w) A (pyIter x) (fun it2 s₅ =>
              codeAny (model prog w) A (.compStart (lc2 elt t1 i1 f1 t2 i2 f2 sc pos) 1 it2 acc env) (fun r s' => match r with | .ok _ => ∃ m, m < n ∧ Iv m s' | .error _ => False) s₅) (fun _ _ => False) s₄) (fun _ _ => False) s₃
            else ∃ m, m < n ∧ Iv m s₃) (fun _ _ => False) s₂) (fun _ _ => False) s₁') (fun _ _ => False) s₁) (fun _ _ => False) s)
    (n : Nat) (h : Iv n s) :
    codeAny (model prog w) A (.compLoop (lc2 elt t1 i1 f1 t2 i2 f2 sc pos) 0 it acc env) R s := by
  refine codeAny_loop rfl Iv (fun n s hI => ?_) n h
  show wpAny _ A ((compTurn (lc2 elt t1 i1 f1 t2 i2 f2 sc pos) 0 it acc env).onRaise (fun x => do noteFrame x env; theTreesLotGoes x)) _ _ s
  refine wpAny_noted ?_
  rw [compTurn_outer]
  refine wpAny_bind (wpAny_standAt (wpAny_bind (wpAny_mono (turn n s hI) (fun r s₁ h₁ => ?_) fun _ _ h' => h'.elim)))
  cases r with
  | none => exact wpAny_pure h₁
  | some v =>
    refine wpAny_bind (wpAny_mono h₁ (fun _ s₁' h₁' => wpAny_bind (wpAny_mono h₁' (fun _ s₂ h₂ => wpAny_bind (wpAny_mono h₂ (fun ok s₃ h₃ => ?_) fun _ _ h' => h'.elim)) fun _ _ h' => h'.elim)) fun _ _ h' => h'.elim)
    cases ok with
    | false => exact wpAny_pure ⟨rfl, h₃⟩
    | true =>
      refine wpAny_bind (wpAny_mono h₃ (fun x s₄ h₄ => ?_) fun _ _ h' => h'.elim)
      refine wpAny_bind (wpAny_standAt (wpAny_bind (wpAny_of_eq (hs x) ?_)))
      refine wpAny_bind (wpAny_holding (wpAny_mono h₄ (fun it2 s₅ h₅ => ?_) fun _ _ h' => h'.elim))
      refine wpAny_bind (wpAny_runOwn (codeAny_mono h₅ fun r s' hr => ?_))
      cases r with
      | ok f => exact wpAny_pure ⟨rfl, hr⟩
      | error x => exact hr.elim
theorem codeAny_compStart_in
    (h0 : codeAny (model prog w) A (.compLoop (lc2 elt t1 i1 f1 t2 i2 f2 sc pos) 1 it acc env) R s)
    (h : wpAny (model prog w) A (pyIter it) (fun it' s' => codeAny (model prog w) A (.compLoop (lc2 elt t1 i1 f1 t2 i2 f2 sc pos) 1 it' acc env) R s')
      (notedBy (model prog w) A env fun x s' => R (.error x) s') s) :
    codeAny (model prog w) A (.compStart (lc2 elt t1 i1 f1 t2 i2 f2 sc pos) 1 it acc env) R s := by
  refine codeAny_of_tree ?_
  show wpAny _ _ ((compStart (lc2 elt t1 i1 f1 t2 i2 f2 sc pos) 1 it acc env).onRaise (fun x => do noteFrame x env; standAt theWindowsPlace)) _ _ s
  refine wpAny_notedAt ?_
  unfold compStart
  show wpAny _ _ (ask >>= _) _ _ s
  refine wpAny_bind (wpAny_askSetting (wpAny_ite ?_))
  split
  · first
      | exact wpAny_bind (wpAny_pure (wpAny_pure (And.intro rfl h0)))
      | exact wpAny_pure (And.intro rfl h0)
  · first
      | exact wpAny_bind (wpAny_rule (wpAny_bind (wpAny_standAt (wpAny_bind (wpAny_mono h (fun it' s' h' => wpAny_pure (And.intro rfl h')) fun _ _ x => x)))))
      | (refine wpAny_bind (wpAny_rule ?_); show wpAny _ _ (standAt i2.pos >>= _) _ _ s; exact wpAny_bind (wpAny_standAt (wpAny_bind (wpAny_mono h (fun it' s' h' => wpAny_pure (And.intro rfl h')) fun _ _ x => x))))
end
end
/-- the inner clause: behind it N -/
def compWi (J : It) (g : TG) (tc : TT) (te : TE) (D : Addr) (N : St → List V → Hp → Prop) (W : Nat → Nat → St → List V → Hp → Prop) : Prop :=
  ∀ i m σ ys H, W i m σ ys H → H D = some (.lst ys) ∧ ((J.stop i H ∧ N σ ys H) ∨ (J.go i H ∧ ys.length < sizeLine ∧ ∃ N2 : St → List V → Hp → Prop, (∀ σ' ys' H', N2 σ' ys' H' → ∃ m', m' < m ∧ W (i + 1) m' σ' ys' H') ∧
    ∀ x H', J.yld i H x H' → g x σ H' fun σ2 H2 => tc σ2 H2 fun b H3 =>
      if b = true then te σ2 H3 fun v H4 => H4 D = some (.lst ys) ∧ N2 σ2 (ys ++ [v]) (upd H4 D (.lst (ys ++ [v]))) else N2 σ2 ys H3))
def compW2 (J : It) (g : TG) (tc : TT) (wi2 : TI) (g2 : TG) (tc2 : TT) (te : TE) (D : Addr) (Q : VK) (W : Nat → Nat → St → List V → Hp → Prop) : Prop :=
  ∀ i m σ ys H, W i m σ ys H → H D = some (.lst ys) ∧ ((J.stop i H ∧ Q (.ref D) H) ∨ (J.go i H ∧ ∃ N : St → List V → Hp → Prop, (∀ σ' ys' H', N σ' ys' H' → ∃ m', m' < m ∧ W (i + 1) m' σ' ys' H') ∧
    ∀ x H', J.yld i H x H' → g x σ H' fun σ2 H2 => tc σ2 H2 fun b H3 =>
      if b = true then wi2 σ2 H3 fun J2 H4 => ∃ W2 : Nat → Nat → St → List V → Hp → Prop, (∃ m, W2 0 m σ2 ys H4) ∧ compWi J2 g2 tc2 te D N W2 else N σ2 ys H3))
def tComp2 (src : List (Option Nat)) (wi : TI) (g : TG) (tc : TT) (wi2 : TI) (g2 : TG) (tc2 : TT) (te : TE) : TE := fun σ H Q => wi σ H fun J H1 => ∀ D, H1 D = none →
  ∃ W : Nat → Nat → St → List V → Hp → Prop, (∃ m, W 0 m (inSt src σ) [] (upd H1 D (.lst []))) ∧ compW2 J g tc wi2 g2 tc2 te D Q W
section
variable {X : Cx} {elt t1 i1 t2 i2 : Expr} {f1 f2 : List Expr} {sc : Scope} {pos : Pos} {wi wi2 : TI} {g g2 : TG} {tc tc2 : TT} {te : TE} {N' : List Str} {src : List (Option Nat)}
/-- the inner loop, in the block's own context Y -/
theorem comp_inner {Y : Cx} (hc : Y.calm = true) (hxe : Y.xe = fun _ _ => False) (hg : PG Y t2 g2) (ht : PIfs Y f2 tc2) (he : PE Y elt te)
    {pins : List (Addr × Obj)} {σ : St} {H : Hp} {s : Shared} {ys : List V} {it D : Addr} {fp : List Addr} {tn : Nat → Heap → Prop} {J : It} {N : St → List V → Hp → Prop} {R : Result → Shared → Prop}
    (I : Inv Y pins σ H s) (T : Turn Y.prog Y.w Y.K t2 J fp it tn) (st : tn 0 s.heap) (ff : ∀ b ∈ fp, FpOk Y pins H b) {W : Nat → Nat → St → List V → Hp → Prop} {m : Nat} (w0 : W 0 m σ ys H) (hW : compWi J g2 tc2 te D N W)
    (hR : ∀ σ' ys' H' s', Inv Y pins σ' H' s' → N σ' ys' H' → R (.ok .next) s') :
    codeAny (model Y.prog Y.w) Y.A (.compStart (lc2 elt t1 i1 f1 t2 i2 f2 sc pos) 1 (.ref it) (.ref D) Y.env) R s := by
  have stat : ∀ {H' : Hp}, (∀ b ∈ fp, H' b = none) → ∀ b ∈ fp, FpOk Y pins H' b := fun hn b hb => ⟨hn b hb, (ff b hb).2⟩
  have loop : codeAny (model Y.prog Y.w) Y.A (.compLoop (lc2 elt t1 i1 f1 t2 i2 f2 sc pos) 1 (.ref it) (.ref D) Y.env) R s := by
    refine comp_loop_in (fun n s' => ∃ i σ' ys H', Inv Y pins σ' H' s' ∧ tn i s'.heap ∧ (∀ b ∈ fp, H' b = none) ∧ W i n σ' ys H') ?_ m ⟨0, _, _, _, I, st, fun b hb => (ff b hb).1, w0⟩
    rintro n s5 ⟨i, σ5, ys, H5, I5, st5, fr5, w5⟩
    obtain ⟨hD, alt⟩ := hW i n σ5 ys H5 w5
    rcases alt with ⟨stop, qn⟩ | ⟨go, hsz, N2, hN, step⟩
    · refine thn (T.done Y rfl rfl rfl hc i pins s5 σ5 H5 _ I5 (stat fr5) st5 stop) fun r s6 ⟨hr, I6⟩ => ?_
      subst hr
      exact hR _ _ _ _ I6 qn
    · refine thn (T.item Y rfl rfl rfl hc i pins s5 σ5 H5 _ I5 (stat fr5) st5 go) fun r s6 ⟨u, hr, h6⟩ => ?_
      subst hr
      refine thn h6 fun _ s7 ⟨x, H7, I7, r7, y7, st7, fr7⟩ => ?_
      have I7' := I7.pinned (stat fr7) (T.obj _ _ st7)
      have hg' := hg _ s7 σ5 H7 x u _ I7' r7 (step x H7 y7)
      rw [hxe] at hg'
      refine thn hg' fun _ s8 ⟨σ8, H8, I8, q8⟩ => ?_
      have ht' := ht _ s8 σ8 H8 _ I8 q8
      rw [hxe] at ht'
      refine thn ht' fun b s9 ⟨H9, I9, q9⟩ => ?_
      have again : ∀ {σ' : St} {H' : Hp} {s' : Shared} {ys' : List V} {m' : Nat}, Inv Y (pins ++ pinsAt fp s7.heap) σ' H' s' → m' < n → W (i + 1) m' σ' ys' H' →
          ∃ m, m < n ∧ ∃ i σ' ys H', Inv Y pins σ' H' s' ∧ tn i s'.heap ∧ (∀ b ∈ fp, H' b = none) ∧ W i m σ' ys H' := fun {σ' H' s' ys' m'} I' hm w' => by
        refine ⟨m', hm, i + 1, σ', ys', H', I'.unpinned, T.keep _ _ _ st7 fun b hb o e => (I'.pin (b, o) (List.mem_append_right _ (List.mem_append_right _ (mem_pinsAt hb e)))).1, fun b hb => ?_, w'⟩
        obtain ⟨o, e, d⟩ := T.obj _ _ st7 b hb
        exact (I'.pin (b, o) (List.mem_append_right _ (List.mem_append_right _ (mem_pinsAt hb e)))).2.1
      cases b with
      | false =>
        rw [if_neg Bool.false_ne_true] at q9 ⊢
        obtain ⟨m', hm, w'⟩ := hN _ _ _ q9
        exact again I9 hm w'
      | true =>
        rw [if_pos rfl] at q9 ⊢
        have he' := he _ s9 σ8 H9 _ I9 q9
        rw [hxe] at he'
        refine thn he' fun xv s10 ⟨v, H10, I10, r10, hD10, w10⟩ => ?_
        obtain ⟨m', hm, w'⟩ := hN _ _ _ w10
        have q10 : rAppend (.ref D) [v] H10 fun _ H' => H' = upd H10 D (.lst (ys ++ [v])) := ⟨_, ys, v, rfl, rfl, hD10, hsz, rfl⟩
        have ha' := mt_append _ s10 σ8 H10 _ _ _ _ _ I10 (show RelV (.ref D) (.ref D) from rfl) (.cons r10 .nil) q10
        rw [hxe] at ha'
        refine thn ha' fun _ s11 ⟨_, H11, I11, _, e11⟩ => ?_
        rw [e11] at I11
        exact again I11 hm w'
  exact codeAny_compStart_in loop (T.self _ 0 _ _ _ st loop)
theorem comp_block2 {pins : List (Addr × Obj)} {σ : St} {H2 : Hp} {s2 : Shared} {it : Addr} {fp : List Addr} {tn : Nat → Heap → Prop} {J : It} {Q : VK} {E : Value → Shared → Prop} {RR : Value → Addr → Result → Shared → Prop}
    (hc : X.calm = true) (S : CompSc X.env.scope X.N N' src sc)
    (hg : ∀ cl C s H fp, PG (compCx X N' sc cl C s H fp) t1 g) (ht : ∀ cl C s H fp, PIfs (compCx X N' sc cl C s H fp) f1 tc)
    (hi2 : ∀ cl C s H fp, PI (compCx X N' sc cl C s H fp) t2 i2 wi2) (hg2 : ∀ cl C s H fp, PG (compCx X N' sc cl C s H fp) t2 g2) (ht2 : ∀ cl C s H fp, PIfs (compCx X N' sc cl C s H fp) f2 tc2)
    (he : ∀ cl C s H fp, PE (compCx X N' sc cl C s H fp) elt te) (hs2 : ∀ (env : Env) x, foldedSetIterable i2 env x = pure x)
    (I2 : Inv X pins σ H2 s2) (T : Turn X.prog X.w X.K t1 J fp it tn) (st2 : tn 0 s2.heap) (f2' : ∀ b ∈ fp, FpOk X pins H2 b)
    (hW : ∀ D, H2 D = none → ∃ W : Nat → Nat → St → List V → Hp → Prop, (∃ m, W 0 m (inSt src σ) [] (upd H2 D (.lst []))) ∧ compW2 J g tc wi2 g2 tc2 te D Q W)
    (hRR : ∀ D C s5 H' m, Inv X pins σ H' s5 → s5.heap.Ns C m → FpOk X pins H' C → Q (.ref D) H' → RR (.ref D) C (.ok .next) s5) :
    wpAny (model X.prog X.w) X.A (newList []) (fun acc s₃ => wpAny (model X.prog X.w) X.A (newFunctionEnv sc X.env.globals (cloOf X.env.cells sc.names []) [] X.env.qual none .none (some X.env)) (fun cenv s₄ =>
      codeAny (model X.prog X.w) X.A (.compStart (lc2 elt t1 i1 f1 t2 i2 f2 sc pos) 0 (.ref it) acc { cenv with scope := relabel sc X.env }) (RR acc cenv.locals) s₄) E s₃) E s2 := by
  have o2 : ∀ b ∈ fp, b < s2.heap.objs.size := fun b hb => by
    obtain ⟨o, e, _⟩ := T.obj 0 _ st2 b hb
    exact Heap.lt_size e
  refine wpAny_newObj_type ?_
  have fr2 : H2 s2.heap.objs.size = none := I2.hok.fresh (Nat.le_refl _)
  obtain ⟨W, ⟨m0, w0⟩, turn⟩ := hW s2.heap.objs.size fr2
  have I3 : Inv X pins σ (upd H2 s2.heap.objs.size (.lst [])) { s2 with heap := s2.heap.push { cls := .type "list", dict := none, data := .seq ([] : List Value).toArray } } :=
    I2.laid (t' := s2.toks) (fun b u e => Heap.get?_push_of_some _ e) (Nat.le_refl _) ⟨Nat.zero_le _, [], 0, .nil, Heap.get?_push_size _ rfl⟩
  have st3 : tn 0 (s2.heap.push { cls := .type "list", dict := none, data := .seq ([] : List Value).toArray }) := T.keep 0 _ _ st2 fun b hb o e => Heap.get?_push_of_some _ e
  generalize hs3 : ({ s2 with heap := s2.heap.push { cls := .type "list", dict := none, data := .seq ([] : List Value).toArray } } : Shared) = s3 at I3
  have hh3 : s3.heap = s2.heap.push { cls := .type "list", dict := none, data := .seq ([] : List Value).toArray } := by rw [← hs3]
  have sz3 : s2.heap.objs.size < s3.heap.objs.size := by rw [hh3, Heap.size_push]; exact Nat.lt_succ_self _
  have o3 : ∀ b ∈ fp, b < s3.heap.objs.size := fun b hb => Nat.lt_trans (o2 b hb) sz3
  have f3 : ∀ b ∈ fp, FpOk X pins (upd H2 s2.heap.objs.size (.lst [])) b := fun b hb => ⟨by rw [upd_ne (Nat.ne_of_lt (o2 b hb))]; exact (f2' b hb).1, (f2' b hb).2⟩
  rw [← hh3] at st3
  refine wpAny_newFunctionEnv S.nocell (by intro y hy; simp at hy) (fun h1 hns hsb => ?_) S.kind
  have hsb' : Heap.SameBut s3.heap.objs.size (s3.heap.push { cls := .type "dict", data := .dict #[] }) h1 := hsb
  have I4 : Inv (compCx X N' sc (cloOf X.env.cells sc.names []) s3.heap.objs.size s3 (upd H2 s2.heap.objs.size (.lst [])) fp) [] (inSt src σ) (upd H2 s2.heap.objs.size (.lst [])) { s3 with heap := h1, toks := s3.toks + ([] : List (Str × Value)).length } :=
    comp_start S I3 f3 o3 hns hsb'
  have st4 : tn 0 h1 := T.keep 0 _ _ st3 fun b hb o e => (hsb'.2 b (Nat.ne_of_lt (o3 b hb))).trans (Heap.get?_push_of_some _ e)
  have fC : ∀ (H' : Hp) , H' s3.heap.objs.size = none → FpOk X pins H' s3.heap.objs.size := fun H' hn => I3.fpOk (Nat.le_refl _) hn
  have loop : codeAny (model X.prog X.w) X.A (.compLoop (lc2 elt t1 i1 f1 t2 i2 f2 sc pos) 0 (.ref it) (.ref s2.heap.objs.size) (compEnvC sc (cloOf X.env.cells sc.names []) s3.heap.objs.size X.env))
      (RR (.ref s2.heap.objs.size) s3.heap.objs.size) { s3 with heap := h1, toks := s3.toks + ([] : List (Str × Value)).length } := by
    have stat : ∀ {H' : Hp}, (∀ b ∈ fp, H' b = none) → ∀ b ∈ fp, FpOk (compCx X N' sc (cloOf X.env.cells sc.names []) s3.heap.objs.size s3 (upd H2 s2.heap.objs.size (.lst [])) fp) [] H' b := fun hn b hb =>
      ⟨hn b hb, (I4.ok.exf b hb).1, I4.ok.exfs b hb, .inl hb, (I4.ok.exf b hb).2, fun p hp => absurd (show p ∈ ([] : List (Addr × Obj)) from hp) (by simp)⟩
    refine comp_loop_out (hs2 _) (fun n s' => ∃ i σ' ys H', Inv (compCx X N' sc (cloOf X.env.cells sc.names []) s3.heap.objs.size s3 (upd H2 s2.heap.objs.size (.lst [])) fp) [] σ' H' s' ∧ tn i s'.heap ∧ (∀ b ∈ fp, H' b = none) ∧ W i n σ' ys H') ?_ m0
      ⟨0, _, [], _, I4, st4, fun b hb => (f3 b hb).1, w0⟩
    rintro n s5 ⟨i, σ5, ys, H5, I5, st5, fr5, w5⟩
    obtain ⟨hD, alt⟩ := turn i n σ5 ys H5 w5
    rcases alt with ⟨stop, qn⟩ | ⟨go, N, hN, step⟩
    · refine thn (T.done (compCx X N' sc (cloOf X.env.cells sc.names []) s3.heap.objs.size s3 (upd H2 s2.heap.objs.size (.lst [])) fp) rfl rfl rfl hc i [] s5 σ5 H5 _ I5 (stat fr5) st5 stop) fun r s6 ⟨hr, I6⟩ => ?_
      subst hr
      obtain ⟨m6, n6, _⟩ := id I6.loc
      refine hRR _ _ s6 H5 m6 (I3.call' I6.os I6.base I6.hok I6.bare fun b hb => ⟨(f3 b hb).2.2.2.1, (f3 b hb).2.1, (f3 b hb).2.2.2.2.1, (f3 b hb).2.2.2.2.2⟩) n6 (fC _ I6.free) qn
    · refine thn (T.item (compCx X N' sc (cloOf X.env.cells sc.names []) s3.heap.objs.size s3 (upd H2 s2.heap.objs.size (.lst [])) fp) rfl rfl rfl hc i [] s5 σ5 H5 _ I5 (stat fr5) st5 go) fun r s6 ⟨u, hr, h6⟩ => ?_
      subst hr
      refine thn h6 fun _ s7 ⟨x, H7, I7, r7, y7, st7, fr7⟩ => ?_
      have I7' := I7.pinned (stat fr7) (T.obj _ _ st7)
      refine thn (hg _ _ _ _ _ _ s7 σ5 H7 x u _ I7' r7 (step x H7 y7)) fun _ s8 ⟨σ8, H8, I8, q8⟩ => ?_
      refine thn (ht _ _ _ _ _ _ s8 σ8 H8 _ I8 q8) fun b s9 ⟨H9, I9, q9⟩ => ?_
      have again : ∀ {σ' : St} {H' : Hp} {s' : Shared} {ys' : List V} {m' : Nat}, Inv (compCx X N' sc (cloOf X.env.cells sc.names []) s3.heap.objs.size s3 (upd H2 s2.heap.objs.size (.lst [])) fp) ([] ++ pinsAt fp s7.heap) σ' H' s' → m' < n → W (i + 1) m' σ' ys' H' →
          ∃ m, m < n ∧ ∃ i σ' ys H', Inv (compCx X N' sc (cloOf X.env.cells sc.names []) s3.heap.objs.size s3 (upd H2 s2.heap.objs.size (.lst [])) fp) [] σ' H' s' ∧ tn i s'.heap ∧ (∀ b ∈ fp, H' b = none) ∧ W i m σ' ys H' := fun {σ' H' s' ys' m'} I' hm w' => by
        refine ⟨m', hm, i + 1, σ', ys', H', I'.unpinned, T.keep _ _ _ st7 fun b hb o e => (I'.pin (b, o) (List.mem_append_right _ (List.mem_append_right _ (mem_pinsAt hb e)))).1, fun b hb => ?_, w'⟩
        obtain ⟨o, e, d⟩ := T.obj _ _ st7 b hb
        exact (I'.pin (b, o) (List.mem_append_right _ (List.mem_append_right _ (mem_pinsAt hb e)))).2.1
      cases b with
      | false =>
        rw [if_neg Bool.false_ne_true] at q9 ⊢
        obtain ⟨m', hm, w'⟩ := hN _ _ _ q9
        exact again I9 hm w'
      | true =>
        rw [if_pos rfl] at q9 ⊢
        refine thn (hi2 _ _ _ _ _ _ s9 σ8 H9 _ I9 q9) fun v sA hA => thn hA fun itv sB hB => ?_
        obtain ⟨itB, fpB, tnB, JB, HB, eB, IB, TB, stB, fB, WB, ⟨mB, wB⟩, hWB⟩ := hB
        subst eB
        refine comp_inner (Y := compCx X N' sc (cloOf X.env.cells sc.names []) s3.heap.objs.size s3 (upd H2 s2.heap.objs.size (.lst [])) fp) hc rfl (hg2 _ _ _ _ _) (ht2 _ _ _ _ _) (he _ _ _ _ _) IB TB stB fB wB hWB ?_
        intro σ' ys' H' s' I' hn
        obtain ⟨m', hm, w'⟩ := hN _ _ _ hn
        exact again I' hm w'
  exact codeAny_compStart_list loop (T.self _ 0 _ _ _ st4 loop)
/-- a list comprehension of two clauses -/
theorem pe_lcomp2 (hc : X.calm = true) (S : CompSc X.env.scope X.N N' src sc) (hi : PI X t1 i1 wi)
    (hg : ∀ cl C s H fp, PG (compCx X N' sc cl C s H fp) t1 g) (ht : ∀ cl C s H fp, PIfs (compCx X N' sc cl C s H fp) f1 tc)
    (hi2 : ∀ cl C s H fp, PI (compCx X N' sc cl C s H fp) t2 i2 wi2) (hg2 : ∀ cl C s H fp, PG (compCx X N' sc cl C s H fp) t2 g2) (ht2 : ∀ cl C s H fp, PIfs (compCx X N' sc cl C s H fp) f2 tc2)
    (he : ∀ cl C s H fp, PE (compCx X N' sc cl C s H fp) elt te) (hs : ∀ x, foldedSetIterable i1 X.env x = pure x := by intro _; rfl) (hs2 : ∀ (env : Env) x, foldedSetIterable i2 env x = pure x := by intro _ _; rfl) :
    PE X (lc2 elt t1 i1 f1 t2 i2 f2 sc pos) (tComp2 src wi g tc wi2 g2 tc2 te) := by
  intro pins s σ H Q I h
  rw [eval_ListComp]
  refine wpAny_comprehension_free (use := none) rfl hs (closureFor_clo fun y hy hk => I.ok.has y.1 (S.free y hy hk)) S.kind (fun y hy hl => by rw [← hl]; exact S.uniq y hy) ?_
  refine thn (hi pins s σ H _ I h) fun v s1 h1 => thn h1 fun itv s2 h2 => ?_
  obtain ⟨it, fp, tn, J, H2, e, I2, T, st2, f2', hW⟩ := h2
  subst e
  refine comp_block2 (Q := Q) (RR := fun acc C => compPost (model X.prog X.w) X.A X.xe none (EP X pins σ Q) acc C) hc S hg ht hi2 hg2 ht2 he hs2 I2 T st2 f2' hW ?_
  intro D C s5 H' m I5 n5 fC q
  refine ⟨m, n5, fun h' sb => ⟨.ref D, H', ?_, rfl, q⟩⟩
  exact I5.turned (t' := s5.toks) (fun b o hb e => (sb.2 b hb).trans e) fC.1 fC.2.1 fC.2.2.2.1 fC.2.2.2.2.1 fC.2.2.2.2.2
end
end L2

set_option maxHeartbeats 4000000
namespace L2
open PySem PySem.Spec PyProof.Rows
/-- equal through and through (n: how deep) -/
inductive EqT (K : PySem.W.Frag) (H : Hp) : Nat → V → V → Prop where
  | flat {n : Nat} {v : V} (f : flatV v = true) : EqT K H n v v
  | same {n : Nat} {a : Addr} : EqT K H n (.ref a) (.ref a)
  | lst {n : Nat} {a b : Addr} {xs ys : List V} (ha : SqL K H a xs) (hb : SqL K H b ys) (hl : xs.length = ys.length) (h : ∀ (i : Nat) x y, xs[i]? = some x → ys[i]? = some y → EqT K H n x y) : EqT K H (n + 1) (.ref a) (.ref b)
  | tup {n : Nat} {a b : Addr} {xs ys : List V} (ha : SqT K H a xs) (hb : SqT K H b ys) (hl : xs.length = ys.length) (h : ∀ (i : Nat) x y, xs[i]? = some x → ys[i]? = some y → EqT K H n x y) : EqT K H (n + 1) (.ref a) (.ref b)
theorem eqV_self {v : V} (f : flatV v = true) : eqV v v = true := by
  cases v <;> first | rfl | (exact absurd (show false = true from f) Bool.false_ne_true) | (simp [eqV])
theorem all_true (n : Nat) : (List.range n).all (fun _ => true) = true := by simp
section
variable {X : Cx} {pins : List (Addr × Obj)} {σ : St} {H : Hp} {s : Shared}
theorem vals_at {xs : List V} {its : List Value} (r : Vals xs its) {j : Nat} (h : j < its.toArray.size) : ∃ x, xs[j]? = some x ∧ RelV x its.toArray[j] := by
  have hj : j < its.length := by simpa using h
  have hx : j < xs.length := by rw [r.length]; exact hj
  refine ⟨xs[j], by simp [hx], ?_⟩
  obtain ⟨u, e, ru⟩ := r.get (i := j) (x := xs[j]) (by simp [hx])
  have e' : its[j] = u := by rw [List.getElem?_eq_getElem hj] at e; exact Option.some.inj e
  show RelV xs[j] its[j]
  rw [e']; exact ru
theorem EqT.at (I : Inv X pins σ H s) {n : Nat} {x y : V} (h : EqT X.K H n x y) : ∀ {u v : Value} {A : Around}, A.units + n < cLine → RelV x u → RelV y v → SeqAt.EqAt A s u v true := by
  induction h with
  | @flat n v f =>
    intro u v' A hu ru rv
    have z := eqAt_V (A := A) (s := s) ru rv f f
    rw [eqV_self f] at z
    exact z
  | same =>
    intro u v' A hu ru rv
    cases ru; cases rv
    exact .same _
  | @lst n a b xs ys ha hb hl h ih =>
    intro u v' A hu ru rv
    cases ru; cases rv
    by_cases hab : a = b
    · subst hab; exact .same _
    · obtain ⟨its, r1, p1, _⟩ := I.list ha
      obtain ⟨its', r2, p2, _⟩ := I.list hb
      refine .of_refs hab ?_
      have z := SeqAt.RcAt.lists (A := A) (e := fun _ => true) p1.isList p2.isList (by simp [← r1.length, ← r2.length, hl]) (by omega) fun j h1 h2 => ?_
      · rw [all_true] at z; exact z
      · obtain ⟨x, e1, rx⟩ := vals_at r1 h1
        obtain ⟨y, e2, ry⟩ := vals_at r2 h2
        exact ih j x y e1 e2 (by show A.units + 1 + n < cLine; omega) rx ry
  | @tup n a b xs ys ha hb hl h ih =>
    intro u v' A hu ru rv
    cases ru; cases rv
    by_cases hab : a = b
    · subst hab; exact .same _
    · obtain ⟨its, r1, p1, _⟩ := I.tuple ha
      obtain ⟨its', r2, p2, _⟩ := I.tuple hb
      refine .of_refs hab ?_
      have z := SeqAt.RcAt.tuples (A := A) (e := fun _ => true) p1 p2 (by omega) fun j h1 h2 => ?_
      · have e : (its.toArray.size == its'.toArray.size) = true := by simp [← r1.length, ← r2.length, hl]
        rw [all_true, e] at z; exact z
      · obtain ⟨x, e1, rx⟩ := vals_at r1 h1
        obtain ⟨y, e2, ry⟩ := vals_at r2 h2
        exact ih j x y e1 e2 (by show A.units + 1 + n < cLine; omega) rx ry
/-- two lists, two tuples: alike -/
def rEqT (K : PySem.W.Frag) (A : Around) (k : Bool) : R2 := fun x y H Q => ∃ n, A.units + n < cLine ∧ ((∃ a b xs ys, x = .ref a ∧ y = .ref b ∧ SqL K H a xs ∧ SqL K H b ys ∧ xs.length = ys.length ∧ ∀ (i : Nat) x y, xs[i]? = some x → ys[i]? = some y → EqT K H n x y) ∨
  (∃ a b xs ys, x = .ref a ∧ y = .ref b ∧ SqT K H a xs ∧ SqT K H b ys ∧ xs.length = ys.length ∧ ∀ (i : Nat) x y, xs[i]? = some x → ys[i]? = some y → EqT K H n x y)) ∧ Q (.bl k) H
theorem op_eqT : OpR X (compareOp .Eq) (rEqT X.K X.A.in1 true) := by
  intro pins s σ H x y v u Q I rx ry h
  obtain ⟨n, hu, h | h, q⟩ := h
  · obtain ⟨a, b, xs, ys, rfl, rfl, ha, hb, hl, he⟩ := h
    cases rx; cases ry
    obtain ⟨its, r1, p1, _⟩ := I.list ha
    obtain ⟨its', r2, p2, _⟩ := I.list hb
    refine SeqAt.eq_listAt (e := fun _ => true) p1.isList p2.isList (by simp [← r1.length, ← r2.length, hl]) (by have : X.A.units + 1 + n < cLine := hu; omega) (fun j h1 h2 => ?_) ?_
    · obtain ⟨x, e1, rx⟩ := vals_at r1 h1
      obtain ⟨y, e2, ry⟩ := vals_at r2 h2
      exact (he j x y e1 e2).at I hu rx ry
    · rw [all_true]; exact ⟨.bl true, H, I, rfl, q⟩
  · obtain ⟨a, b, xs, ys, rfl, rfl, ha, hb, hl, he⟩ := h
    cases rx; cases ry
    obtain ⟨its, r1, p1, _⟩ := I.tuple ha
    obtain ⟨its', r2, p2, _⟩ := I.tuple hb
    refine SeqAt.eq_tupleAt (e := fun _ => true) p1 p2 (by have : X.A.units + 1 + n < cLine := hu; omega) (fun j h1 h2 => ?_) ?_
    · obtain ⟨x, e1, rx⟩ := vals_at r1 h1
      obtain ⟨y, e2, ry⟩ := vals_at r2 h2
      exact (he j x y e1 e2).at I hu rx ry
    · have e : (its.toArray.size == its'.toArray.size) = true := by simp [← r1.length, ← r2.length, hl]
      rw [all_true, e]; exact ⟨.bl true, H, I, rfl, q⟩
theorem op_neT : OpR X (compareOp .NotEq) (rEqT X.K X.A.in1 false) := by
  intro pins s σ H x y v u Q I rx ry h
  obtain ⟨n, hu, h | h, q⟩ := h
  · obtain ⟨a, b, xs, ys, rfl, rfl, ha, hb, hl, he⟩ := h
    cases rx; cases ry
    obtain ⟨its, r1, p1, _⟩ := I.list ha
    obtain ⟨its', r2, p2, _⟩ := I.list hb
    refine SeqAt.RcNeAt.lists (e := fun _ => true) p1.isList p2.isList (by simp [← r1.length, ← r2.length, hl]) (by have : X.A.units + 1 + n < cLine := hu; omega) (fun j h1 h2 => ?_) _ _ _ _ ?_
    · obtain ⟨x, e1, rx⟩ := vals_at r1 h1
      obtain ⟨y, e2, ry⟩ := vals_at r2 h2
      exact (he j x y e1 e2).at I hu rx ry
    · rw [all_true]; exact ⟨.bl false, H, I, rfl, q⟩
  · obtain ⟨a, b, xs, ys, rfl, rfl, ha, hb, hl, he⟩ := h
    cases rx; cases ry
    obtain ⟨its, r1, p1, _⟩ := I.tuple ha
    obtain ⟨its', r2, p2, _⟩ := I.tuple hb
    refine SeqAt.RcNeAt.tuples (e := fun _ => true) p1 p2 (by have : X.A.units + 1 + n < cLine := hu; omega) (fun j h1 h2 => ?_) _ _ _ _ ?_
    · obtain ⟨x, e1, rx⟩ := vals_at r1 h1
      obtain ⟨y, e2, ry⟩ := vals_at r2 h2
      exact (he j x y e1 e2).at I hu rx ry
    · have e : (its.toArray.size == its'.toArray.size) = true := by simp [← r1.length, ← r2.length, hl]
      rw [all_true, e]; exact ⟨.bl false, H, I, rfl, q⟩
end
end L2

set_option maxHeartbeats 4000000
namespace HT
open PySem PyProof.Rows
open PySem.AutoSeq1 (wpAny_loadPart')
theorem tuple_addW0 (l b : Addr) (items items2 : Array Value) (n n2 : Nat) (dd dd2 : Option Addr) (sl sl2 : Array (Option Value)) (hc0 : items.isEmpty = true) :
    Meets (Builtin.«tuple.__add__» ⟨[.ref l, .ref b], []⟩) (fun _ R s => s.heap.get? l = some { cls := .type "tuple", dict := dd, data := .seq items n, slots := sl } ∧ s.heap.get? b = some { cls := .type "tuple", dict := dd2, data := .seq items2 n2, slots := sl2 } ∧ R (.ok (.ret (Value.ref b))) { s with heap := s.heap, toks := s.toks }) :=
  .of_wp fun prog w A R s h => by
    obtain ⟨hp, g, d, tk, os⟩ := s; obtain ⟨hl, hb, h⟩ := h
    have f1 := AutoSeq1.idx_int; have f2 := AutoSeq1.sub_tuple_tuple; have f3 := AutoSeq1.sub_list_list; have f4 := AutoSeq1.sub_tuple_list; have f5 := AutoSeq1.sub_list_tuple
    wp_walk using wpAny_loadPart' hl, wpAny_loadPart' hb
    exact ⟨_, rfl, h⟩
section
variable {prog : Program} {w : World} {A : Around} {E : Value → Shared → Prop} {s : Shared}
/-- () + u is u -/
theorem cat_tup0 {t b : Addr} {ws : List Value} {Q : Value → Shared → Prop} (ht : IsTup s.heap t #[]) (hb : IsTup s.heap b ws.toArray) (h1 : Q (.ref b) s) : wpAny (model prog w) A (binaryOp .Add (.ref t) (.ref b)) Q E s := by
  obtain ⟨⟨cls, dd, data, sl⟩, ho, hc, n, hd⟩ := id ht
  obtain ⟨⟨cls2, dd2, data2, sl2⟩, ho2, hc2, n2, hd2⟩ := id hb
  simp only at hc hd hc2 hd2
  subst hc hd hc2 hd2
  exact concat_meets ⟨_, ho, rfl⟩ ⟨_, ho2, rfl⟩ noFill_tuple_add seq_tuple_add PySem.F.slot_tuple_add PySem.F.entry_tuple_add (PySem.F.args_tuple_add_2 _ _)
      (tuple_addW0 t b #[] ws.toArray n n2 dd dd2 sl sl2 rfl) ⟨ho, ho2, h1⟩
/-- t[lo:hi], the whole: t itself -/
theorem getItem_tuple_whole {t sl : Addr} {items : Array Value} {vl vu : Value} {lo hi : Option Int} {Q : Value → Shared → Prop} (ht : IsTup s.heap t items) (hs : s.heap.IsSliceOf sl vl vu .none) (pl : IsPart vl lo) (pu : IsPart vu hi)
    (hw : sIx items.size 0 lo = 0 ∧ sIx items.size items.size hi = items.size)
    (h : Q (.ref t) s) : wpAny (model prog w) A (getItem (.ref t) (.ref sl)) Q E s := by
  obtain ⟨os, hos, hcs, hds⟩ := id hs
  have hTs : s.TypeIs (.ref sl) "slice" := ⟨os, hos, hcs⟩
  unfold getItem
  try with_reducible refine wpAny_holding ?_
  first | refine wpAny_bind (wpAny_pure ?_) | skip
  refine wpAny_bind (wpAny_sequenceKey ht.typeIs (by decide) ?_)
  refine wpAny_bind (wpAny_callSpecial?_slot (name := Str.ofString "__getitem__") ht.typeIs PyProof.Rows.slot_tuple_getitem
    (wpAny_call_entry PyProof.Rows.slot_tuple_getitem ht.typeIs entry_tuple_getitem ?_ (args_tuple_getitem _ _)))
  show wpAny _ _ (Builtin.Tuple.tupleItemsOf (.ref t) >>= _) _ _ s
  refine wpAny_bind (tupleItemsOf_ ht ?_)
  refine wpAny_bind (wpAny_typeOf hTs ?_)
  rw [if_pos (by decide)]
  refine wpAny_bind (sliceApplied_gen hs pl pu ?_)
  have hno : (((sIx items.size 0 lo : Nat) : Int) == 0 && (1 : Int) == 1 && (sIx items.size items.size hi - sIx items.size 0 lo) == items.size) = true := by
    rw [hw.1, hw.2]
    simp
  show wpAny _ _ (if (((sIx items.size 0 lo : Nat) : Int) == 0 && (1 : Int) == 1 && (sIx items.size items.size hi - sIx items.size 0 lo) == items.size) = true then _ else _) _ _ s
  rw [if_pos hno]
  refine wpAny_bind (m := Builtin.Tuple.tupleIsExact _) ?_
  unfold Builtin.Tuple.tupleIsExact
  refine wpAny_bind (wpAny_typeOf ht.typeIs (wpAny_pure ?_))
  show wpAny _ _ (if ((Value.type "tuple") == (Value.type "tuple")) = true then _ else _) _ _ s
  rw [if_pos (by decide)]
  exact wpAny_bind (wpAny_rule (wpAny_pure ⟨_, rfl, wpAny_pure h⟩))
end
end HT
namespace L2
open PySem PySem.Spec PyProof.Rows
theorem vals_of : ∀ {xs : List V} {us : List Value}, xs.length = us.length → (∀ (i : Nat) x u, xs[i]? = some x → us[i]? = some u → RelV x u) → Vals xs us
  | [], [], _, _ => .nil
  | [], _ :: _, h, _ => by simp at h
  | _ :: _, [], h, _ => by simp at h
  | x :: xs, u :: us, h, r => .cons (r 0 x u rfl rfl) (vals_of (by simpa using h) fun i y v e1 e2 => r (i + 1) y v (by simpa using e1) (by simpa using e2))
section
variable {X : Cx}
theorem op_eqLen (hu : X.A.units < cLine) : OpR X (compareOp .Eq) (fun x y H Q => ∃ a b xs ys, x = .ref a ∧ y = .ref b ∧ SqL X.K H a xs ∧ SqL X.K H b ys ∧ xs.length ≠ ys.length ∧ Q (.bl false) H) := by
  intro pins s σ H x y v u Q I rx ry h
  obtain ⟨a, b, xs, ys, rfl, rfl, ha, hb, hl, q⟩ := h
  cases rx; cases ry
  obtain ⟨its, r1, p1, _⟩ := I.list ha
  obtain ⟨its', r2, p2, _⟩ := I.list hb
  exact SeqAt.eq_list_lengthsAt p1.isList p2.isList (by simp [← r1.length, ← r2.length, hl]) hu ⟨.bl false, H, I, rfl, q⟩
theorem op_neLen (hu : X.A.units < cLine) : OpR X (compareOp .NotEq) (fun x y H Q => ∃ a b xs ys, x = .ref a ∧ y = .ref b ∧ SqL X.K H a xs ∧ SqL X.K H b ys ∧ xs.length ≠ ys.length ∧ Q (.bl true) H) := by
  intro pins s σ H x y v u Q I rx ry h
  obtain ⟨a, b, xs, ys, rfl, rfl, ha, hb, hl, q⟩ := h
  cases rx; cases ry
  obtain ⟨its, r1, p1, _⟩ := I.list ha
  obtain ⟨its', r2, p2, _⟩ := I.list hb
  exact SeqAt.RcNeAt.lists_lengths p1.isList p2.isList (by simp [← r1.length, ← r2.length, hl]) hu _ _ _ _ ⟨.bl true, H, I, rfl, q⟩
/-- () + u -/
theorem op_catT0 : OpR X (binaryOp .Add) (fun x y H Q => ∃ a b ys, x = .ref a ∧ y = .ref b ∧ SqT X.K H a [] ∧ SqT X.K H b ys ∧ Q (.ref b) H) := by
  intro pins s σ H x y v u Q I rx ry h
  obtain ⟨a, b, ys, rfl, rfl, ha, hb, q⟩ := h
  cases rx
  cases ry
  obtain ⟨its, r1, p1, _⟩ := I.tuple ha
  obtain ⟨its2, r2, p2, _⟩ := I.tuple hb
  cases r1
  exact HT.cat_tup0 p1 p2 ⟨.ref b, H, I, rfl, q⟩
/-- t[lo:hi], the whole of it -/
def rSlTW (K : PySem.W.Frag) : V → Option Int → Option Int → Hp → VK → Prop := fun x lo hi H Q => ∃ a xs, x = .ref a ∧ SqT K H a xs ∧
  (HT.sIx xs.length 0 lo = 0 ∧ HT.sIx xs.length xs.length hi = xs.length) ∧ Q (.ref a) H
theorem sl_tupW : SlR X (rSlTW X.K) := by
  intro pins s σ H x v vl vu lo hi sl Q I rx hs pl pu h
  obtain ⟨a, xs, rfl, hx, hw, q⟩ := h
  cases rx
  obtain ⟨its, r, ht, hz⟩ := I.tuple hx
  have hlen : its.toArray.size = xs.length := by rw [List.size_toArray]; exact r.length.symm
  refine ⟨"tuple", _, PyProof.Rows.slot_tuple_getitem.lookup, ht.typeIs, ?_⟩
  exact HT.getItem_tuple_whole ht hs pl pu (by rw [hlen]; exact hw) ⟨.ref a, H, I, rfl, q⟩
/-- t[lo:hi]: t itself or a new one, the same items either way -/
theorem sl_tupB {x : V} {lo hi : Option Int} {H : Hp} {Q : VK} {a : Addr} {xs : List V} {K : PySem.W.Frag} (e : x = .ref a) (h : SqT K H a xs) (q1 : cutV xs lo hi = xs → Q (.ref a) H) (q2 : ∀ p, H p = none → Q (.ref p) (upd H p (.tup (cutV xs lo hi)))) : rSlT K x lo hi H Q ∨ rSlTW K x lo hi H Q := by
  by_cases hw : HT.sIx xs.length 0 lo = 0 ∧ HT.sIx xs.length xs.length hi = xs.length
  · refine .inr ⟨a, xs, e, h, hw, q1 ?_⟩
    unfold cutV
    rw [hw.1, hw.2]
    simp
  · exact .inl ⟨a, xs, e, h, hw, q2⟩
theorem call_list_sgn (hc : X.calm = true) : CallR X (.type "list") (fun xs H Q => ∃ z, xs = [.str z] ∧ z.cps.size ≤ 1000 ∧ ∀ l, H l = none → Q (.ref l) (upd H l (.lst (z.cps.toList.map fun c => V.str ⟨#[c]⟩)))) := by
  intro pins s σ H xs us Q I r h
  obtain ⟨z, rfl, hz, q⟩ := h
  obtain ⟨u, rfl, t, rfl⟩ := vals1 r
  refine call_list_str (I.ok.hd hc) z t (fun h' tk acc' c' hk hS hacc => ?_) (by rw [sizeLine_eq]; omega)
  have I1 : Inv X pins σ H { s with toks := tk } := I.kept (fun b o e => e)
  have r' : Vals (z.cps.toList.map fun c => V.str ⟨#[c]⟩) acc'.toList := by
    refine vals_of (by rw [List.length_map, Array.length_toList, Array.length_toList, hacc.1]) fun i x u e1 e2 => ?_
    obtain ⟨c, tt, e3, e4⟩ := hacc.2 i u (by simpa using e2)
    subst e4
    have e5 : z.cps.toList[i]? = some c := by simpa using e3
    rw [List.getElem?_map, e5] at e1
    cases e1
    exact ⟨tt, rfl⟩
  refine ⟨.ref s.heap.objs.size, _, I.laid (t' := tk) (o := .lst (z.cps.toList.map fun c => V.str ⟨#[c]⟩)) hk (Nat.le_refl _) ⟨?_, acc'.toList, c', r', ?_⟩, rfl, q _ (I.hok.fresh (Nat.le_refl _))⟩
  · rw [List.length_map, Array.length_toList, sizeLine_eq]; omega
  · rw [hS]
end
end L2

set_option maxHeartbeats 4000000
namespace L2
open PySem PySem.Spec PyProof.Rows
/-! ### a set's table: its places rise -/
def Ris (xs : Array Nat) : Prop := xs.toList.Pairwise (· < ·)
theorem Ris.lt {xs : Array Nat} (h : Ris xs) {i j a b : Nat} (hij : i < j) (ha : xs[i]? = some a) (hb : xs[j]? = some b) : a < b := by
  rw [← Array.getElem?_toList] at ha hb
  obtain ⟨h1, e1⟩ := List.getElem?_eq_some_iff.mp ha
  obtain ⟨h2, e2⟩ := List.getElem?_eq_some_iff.mp hb
  rw [← e1, ← e2]
  exact List.pairwise_iff_getElem.mp h i j h1 h2 hij
theorem below_go {xs : Array Nat} (h : Ris xs) (j : Nat) : ∀ (fuel lo hi : Nat), hi ≤ xs.size → lo ≤ hi → hi - lo ≤ fuel → (∀ i a, i < lo → xs[i]? = some a → a < j) → (∀ i a, hi ≤ i → xs[i]? = some a → j ≤ a) →
    SetTable.below.go xs j fuel lo hi ≤ xs.size ∧ (∀ i a, i < SetTable.below.go xs j fuel lo hi → xs[i]? = some a → a < j) ∧ ∀ i a, SetTable.below.go xs j fuel lo hi ≤ i → xs[i]? = some a → j ≤ a
  | 0, lo, hi, h1, h2, h3, h4, h5 => by
    have e : lo = hi := by omega
    subst e
    exact ⟨h1, h4, h5⟩
  | fuel + 1, lo, hi, h1, h2, h3, h4, h5 => by
    unfold SetTable.below.go
    by_cases hlt : lo < hi
    · rw [if_pos hlt]
      have hm : (lo + hi) / 2 < xs.size := by omega
      have eg : xs[(lo + hi) / 2]? = some xs[(lo + hi) / 2] := Array.getElem?_eq_getElem hm
      have ed : xs.getD ((lo + hi) / 2) j = xs[(lo + hi) / 2] := by simp [Array.getD, hm]
      dsimp only
      rw [ed]
      by_cases hc : xs[(lo + hi) / 2] < j
      · rw [if_pos hc]
        refine below_go h j fuel _ hi h1 (by omega) (by omega) (fun i a hi' e => ?_) h5
        by_cases q : i = (lo + hi) / 2
        · subst q
          rw [eg] at e
          cases e
          exact hc
        · exact Nat.lt_trans (h.lt (by omega) e eg) hc
      · rw [if_neg hc]
        refine below_go h j fuel lo _ (by omega) (by omega) (by omega) h4 fun i a hi' e => ?_
        by_cases q : i = (lo + hi) / 2
        · subst q
          rw [eg] at e
          cases e
          omega
        · have := h.lt (show (lo + hi) / 2 < i by omega) eg e
          omega
    · rw [if_neg hlt]
      have e : lo = hi := by omega
      subst e
      exact ⟨h1, h4, h5⟩
theorem below_spec {xs : Array Nat} (h : Ris xs) (j : Nat) : SetTable.below xs j ≤ xs.size ∧ (∀ i a, i < SetTable.below xs j → xs[i]? = some a → a < j) ∧ ∀ i a, SetTable.below xs j ≤ i → xs[i]? = some a → j ≤ a :=
  below_go h j xs.size 0 xs.size (Nat.le_refl _) (Nat.zero_le _) (by omega) (fun i a hi => absurd hi (by omega)) fun i a hi e => by
    rw [Array.getElem?_eq_none hi] at e
    cases e
theorem ris_insert {xs : Array Nat} (h : Ris xs) {j : Nat} (hn : xs[SetTable.below xs j]? ≠ some j) : Ris (SetTable.insertAt xs (SetTable.below xs j) j) := by
  obtain ⟨h1, h2, h3⟩ := below_spec h j
  unfold Ris
  rw [SetTable.toList_insertAt]
  have hl : ∀ a ∈ xs.toList.take (SetTable.below xs j), a < j := fun a ha => by
    obtain ⟨i, hi⟩ := List.mem_iff_getElem?.mp ha
    rw [List.getElem?_take] at hi
    split at hi
    · rename_i hlt
      exact h2 i a hlt (by rw [← Array.getElem?_toList]; exact hi)
    · cases hi
  have hr : ∀ a ∈ xs.toList.drop (SetTable.below xs j), j < a := fun a ha => by
    obtain ⟨i, hi⟩ := List.mem_iff_getElem?.mp ha
    rw [List.getElem?_drop, Array.getElem?_toList] at hi
    have q := h3 _ a (Nat.le_add_right _ i) hi
    rcases Nat.lt_or_eq_of_le q with q | q
    · exact q
    · exfalso
      subst q
      cases i with
      | zero => exact hn hi
      | succ i =>
        have hb : SetTable.below xs j < xs.size := by
          have := (Array.getElem?_eq_some_iff.mp hi).1
          omega
        have e0 : xs[SetTable.below xs j]? = some xs[SetTable.below xs j] := Array.getElem?_eq_getElem hb
        have l1 := h3 _ _ (Nat.le_refl _) e0
        have l2 := h.lt (show SetTable.below xs j < SetTable.below xs j + (i + 1) by omega) e0 hi
        omega
  have hp : (xs.toList.take (SetTable.below xs j) ++ xs.toList.drop (SetTable.below xs j)).Pairwise (· < ·) := by rw [List.take_append_drop]; exact h
  rw [List.pairwise_append] at hp
  first
  | (rw [List.pairwise_append]
     refine ⟨hp.1, ?_, fun a ha b hb => ?_⟩
     · exact List.pairwise_cons.mpr ⟨hr, hp.2.1⟩
     · rcases List.mem_cons.mp hb with e | hb
       · subst e; exact hl a ha
       · exact hp.2.2 a ha b hb)
  | skip

structure TabOk (t : SetTable) (b : Bool) : Prop where
  ris : Ris t.place
  dum : t.dummies = #[]
  led : t.led = b
theorem has_nil (j : Nat) : SetTable.has #[] j = false := by simp [SetTable.has]
theorem probe_empty {t : SetTable} (hd : t.dummies = #[]) {f : Nat → Int} {h : Int} (hf : ∀ i, (f i == h) = false) : ∀ (fuel : Nat) (p : SetTable.Probe) (j : Nat) (d : Option Nat), p.dummy = none → SetTable.probe.go t f h fuel p = some (.empty j d) →
    d = none ∧ t.slot j = .empty
  | 0, p, j, d, _, e => by
    unfold SetTable.probe.go at e
    cases e
  | fuel + 1, p, j, d, hp, e => by
    have adv : ∀ p : SetTable.Probe, p.dummy = none → (t.advance p).dummy = none := fun p hp => by
      unfold SetTable.advance
      split
      · exact hp
      · exact hp
    unfold SetTable.probe.go at e
    split at e
    · rename_i hs
      cases e
      exact ⟨hp, hs⟩
    · rename_i hs
      unfold SetTable.slot at hs
      dsimp only at hs
      rw [hd, has_nil] at hs
      split at hs <;> cases hs
    · rename_i i hs
      rw [hf i] at e
      exact probe_empty hd hf fuel _ j d (adv p hp) e
theorem slot_empty {t : SetTable} {j : Nat} (h : t.slot j = .empty) : t.place[SetTable.below t.place j]? ≠ some j := fun e => by
  unfold SetTable.slot at h
  dsimp only at h
  rw [e] at h
  rw [if_pos (by simp)] at h
  cases h
theorem ris_range (n : Nat) : Ris (Array.range n) := by
  unfold Ris
  rw [Array.toList_range]
  exact List.pairwise_lt_range
theorem standIn_ok {t : SetTable} {b : Bool} (h : TabOk t b) (n : Nat) : TabOk (t.standIn n) b := ⟨ris_range n, rfl, h.led⟩
theorem layNew_ok {t : SetTable} {b : Bool} (ok : TabOk t b) (es : Array (Int × Value)) (h : Int) (x : Value) : TabOk (layNew t es h x).2.1 b := by
  unfold layNew
  split
  · rename_i slot wd e
    have hs : t.slot slot = .empty := by
      unfold SetTable.freeSlot at e
      split at e
      · rename_i j d e2
        unfold SetTable.probe at e2
        obtain ⟨q1, q2⟩ := probe_empty ok.dum (fun _ => by simp; omega) _ _ _ _ rfl e2
        subst q1
        cases e
        exact q2
      · cases e
    have o2 : TabOk (t.put slot).1 b := by
      unfold SetTable.put
      refine ⟨ris_insert ok.ris (slot_empty hs), ?_, ok.led⟩
      show (if SetTable.has t.dummies slot = true then _ else t.dummies) = #[]
      rw [ok.dum, has_nil]
      rfl
    dsimp only
    unfold SetTable.orStandIn
    split
    · exact o2
    · exact standIn_ok o2 _
  · exact standIn_ok ok _
theorem ris_filterMap {α : Type} (f : Nat → Option α) (n : Nat) : (((List.range n).filterMap fun j => (f j).map (j, ·)).map (·.1)).Pairwise (· < ·) := by
  have e : (((List.range n).filterMap fun j => (f j).map (j, ·)).map (·.1)) = (List.range n).filter fun j => (f j).isSome := by
    rw [List.map_filterMap, ← List.filterMap_eq_filter]
    congr 1
    funext j
    cases hf : f j <;> simp [Option.guard, hf]
  rw [e]
  exact List.Pairwise.filter _ List.pairwise_lt_range
theorem relayAll_ok {t : SetTable} {b : Bool} (ok : TabOk t b) (es : Array (Int × Value)) (n : Nat) : TabOk (relayAll t es n).2.1 b := by
  unfold relayAll
  split
  · rename_i t' order e
    have o2 : TabOk t' b := by
      unfold SetTable.relaid SetTable.laid at e
      simp only [bind, Option.bind_eq_some_iff] at e
      obtain ⟨owner, _, e⟩ := e
      cases e
      exact ⟨ris_filterMap _ _, rfl, ok.led⟩
    dsimp only
    split
    · exact o2
    · exact standIn_ok ok _
  · exact standIn_ok ok _

/-! ### a set of keys, met in some order -/
section
variable {prog : Program} {w : World} {A : Around} {E : Value → Shared → Prop} {s : Shared}
def byTextW (w : World) : Bool := w.params.followText "set-order"
def kOf : Value → Key
  | .int i _ => .inl i
  | .str x _ => .inr x
  | _ => .inl 0
theorem kOf_is {k : Key} {v : Value} (h : keyIs k v = true) : kOf v = k := by
  rcases keyIs_shape h with ⟨i, t, rfl, rfl⟩ | ⟨x, t, rfl, rfl⟩ <;> rfl
structure SetR (prog : Program) (w : World) (h : Heap) (a : Addr) (ks : List Key) (es : Array (Int × Value)) (ep : Nat) (t : SetTable) : Prop where
  obj : h.get? a = some { cls := .type "set", dict := none, data := .set es ep t, slots := #[] }
  els : ElemsOf (mixKind prog w) es.toList
  few : es.size < scanBound
  fits : t.fits es.size = true
  tab : TabOk t (!byTextW w)
  nod : ks.Nodup
  keys : (es.toList.map fun e => kOf e.2).Perm ks
theorem SetR.keep {h h' : Heap} {a : Addr} {ks : List Key} {es : Array (Int × Value)} {ep : Nat} {t : SetTable} (r : SetR prog w h a ks es ep t) (k : ∀ o, h.get? a = some o → h'.get? a = some o) : SetR prog w h' a ks es ep t :=
  ⟨k _ r.obj, r.els, r.few, r.fits, r.tab, r.nod, r.keys⟩

theorem SetR.mem {h : Heap} {a : Addr} {ks : List Key} {es : Array (Int × Value)} {ep : Nat} {t : SetTable} (r : SetR prog w h a ks es ep t) {k : Key} : (∃ e ∈ es.toList, (mixKind prog w).is k e.2 = true) ↔ k ∈ ks := by
  constructor
  · rintro ⟨e, he, hk⟩
    refine r.keys.mem_iff.mp (List.mem_map.mpr ⟨e, he, kOf_is hk⟩)
  · intro hk
    obtain ⟨e, he, q⟩ := List.mem_map.mp (r.keys.mem_iff.mpr hk)
    obtain ⟨⟨k', hk', _⟩, _⟩ := r.els e he
    refine ⟨e, he, ?_⟩
    have : kOf e.2 = k' := kOf_is hk'
    rw [← q, this]
    exact hk'
open Classical in
noncomputable def addK (ks : List Key) (k : Key) : List Key := if k ∈ ks then ks else ks ++ [k]
theorem store_r {h : Heap} {a : Addr} {es : Array (Int × Value)} {ep : Nat} {t : SetTable} (ho : h.get? a = some { cls := .type "set", dict := none, data := .set es ep t, slots := #[] }) (es' : Array (Int × Value)) (t' : SetTable) :
    (h.update a (Obj.putSet es' t')).get? a = some { cls := .type "set", dict := none, data := .set es' (ep + 1) t', slots := #[] } := by
  have := Heap.get?_update_self (Obj.putSet es' t') ho (by rw [putSet_of es' t' rfl]; rfl)
  rw [putSet_of es' t' rfl] at this
  exact this
theorem add_tail {g : Bool → Sem Unit} (hg : ∀ (b : Bool) (s₁ : Shared) (Q' : Unit → Shared → Prop), Q' () s₁ → wpAny (model prog w) A (g b) Q' E s₁)
    {a : Addr} {es : Array (Int × Value)} {ep : Nat} {t : SetTable} (ho : s.heap.get? a = some { cls := .type "set", dict := none, data := .set es ep t, slots := #[] })
    {es1 : Array (Int × Value)} {t2 : SetTable} {ks : List Key} (he : ElemsOf (mixKind prog w) es1.toList) (hb : es1.size < scanBound) (hf : t2.fits es1.size = true) (ht : TabOk t2 (!byTextW w)) (hn : ks.Nodup) (hk : (es1.toList.map fun e => kOf e.2).Perm ks)
    {wasDummy : Bool} {R : Option Bool → Shared → Prop}
    (h : ∀ h' es' ep' t', Heap.SameBut a s.heap h' → SetR prog w h' a ks es' ep' t' → R (some true) { s with heap := h' }) :
    wpAny (model prog w) A (do
        storeSet a es1 t2
        if (!wasDummy && t2.tooFull) = true then do
            g (relayAll t2 es1 (SetTable.grown es1.size)).2.2
            storeSet a (relayAll t2 es1 (SetTable.grown es1.size)).1 (relayAll t2 es1 (SetTable.grown es1.size)).2.1
            pure (some true)
          else pure (some true)) R E s := by
  refine wpAny_bind (wpAny_storeSet_of ho rfl ?_ (fits_of_scanBound hb))
  have ho1 := store_r ho es1 t2
  have sb1 := Heap.SameBut.update s.heap a (Obj.putSet es1 t2)
  split
  · have hp := relayAll_perm t2 es1 (SetTable.grown es1.size)
    have hfr := relayAll_fits t2 es1 (SetTable.grown es1.size)
    have hto := relayAll_ok ht es1 (SetTable.grown es1.size)
    generalize hRl : relayAll t2 es1 (SetTable.grown es1.size) = Rl at hp hfr hto ⊢
    obtain ⟨es2, t3, gave2⟩ := Rl
    dsimp only at hp hfr hto ⊢
    have hsz : es2.size = es1.size := by rw [← Array.length_toList, hp.length_eq, Array.length_toList]
    have hb2 : es2.size < scanBound := by rw [hsz]; exact hb
    refine wpAny_bind (hg _ _ _ ?_)
    refine wpAny_bind (wpAny_storeSet_of ho1 rfl ?_ (fits_of_scanBound hb2))
    exact wpAny_pure (h _ es2 _ t3 (sb1.trans (Heap.SameBut.update _ a _)) ⟨store_r ho1 es2 t3, he.perm hp, hb2, hfr, hto, hn, (hp.map _).trans hk⟩)
  · exact wpAny_pure (h _ es1 _ t2 sb1 ⟨ho1, he, hb, hf, ht, hn, hk⟩)
theorem add_hashed {a : Addr} {ks : List Key} {es : Array (Int × Value)} {ep : Nat} {t : SetTable} {k : Key} {x : Value} {Q : Bool → Shared → Prop} (hkey : keyIs k x = true) (hsc : x.scannable = true) (hS : SetR prog w s.heap a ks es ep t)
    (hroom : ks.length + 1 < scanBound)
    (h : ∀ b h' es' ep' t', Heap.SameBut a s.heap h' → SetR prog w h' a (addK ks k) es' ep' t' → Q b { s with heap := h' }) :
    wpAny (model prog w) A (setAddHashed a x ((mixKind prog w).hash k)) Q E s := by
  have hsize : es.size = ks.length := by rw [← hS.keys.length_eq, List.length_map, Array.length_toList]
  have hkey' : (mixKind prog w).is k x = true := hkey
  have hel := hS.els
  unfold setAddHashed setAddHashedIn
  refine wpAny_holding (wpAny_bind (wpAny_setState_of hS.obj rfl hS.fits ?_))
  dsimp only
  rw [byScan_of hsc hS.few hel]
  simp only [↓reduceIte]
  unfold setAddByScan
  refine wpAny_bind ?_
  refine wpAny_bind (wpAny_rule ?_)
  refine wpAny_bind (wpAny_setScan_of hkey' hS.obj rfl hS.fits hel ?_)
  cases hr : List.findIdx? (fun e => (mixKind prog w).is k e.2) es.toList with
  | some j =>
    dsimp only
    obtain ⟨hj, hpj, _⟩ := List.findIdx?_eq_some_iff_getElem.mp hr
    have hin : k ∈ ks := hS.mem.mp ⟨es.toList[j], List.getElem_mem hj, hpj⟩
    refine wpAny_pure (wpAny_pure ?_)
    have e : s = { s with heap := s.heap } := by cases s; rfl
    have := h false s.heap es ep t (Heap.SameBut.refl a s.heap) (by unfold addK; rw [if_pos hin]; exact hS)
    rw [e]
    exact this
  | none =>
    dsimp only
    have hout : k ∉ ks := fun hin => by
      obtain ⟨e, he, hp⟩ := hS.mem.mpr hin
      have := List.findIdx?_eq_none_iff.mp hr e he
      rw [hp] at this
      exact Bool.noConfusion this
    have hgw : ∀ (b : Bool) {s₁ : Shared} {Q' : Unit → Shared → Prop}, Q' () s₁ → wpAny (model prog w) A (match b with | true => rule "set.scan.the-table-gave-way" | false => pure ()) Q' E s₁ :=
      fun b s₁ Q' hq => by cases b <;> first | exact wpAny_pure hq | exact wpAny_rule hq
    have hperm := layNew_perm t es ((mixKind prog w).hash k) x
    have hfits := layNew_fits t es ((mixKind prog w).hash k) x
    have htab := layNew_ok hS.tab es ((mixKind prog w).hash k) x
    generalize hL : layNew t es ((mixKind prog w).hash k) x = L at hperm hfits htab ⊢
    obtain ⟨es1, t1, wasDummy, gave⟩ := L
    dsimp only at hperm hfits htab ⊢
    rw [Array.toList_push] at hperm
    have hel1 : ElemsOf (mixKind prog w) es1.toList := (hel.push hkey' hsc).perm hperm
    have hb1' : es1.size < scanBound := by
      rw [← Array.length_toList, hperm.length_eq, List.length_append, Array.length_toList, hsize]
      simpa using hroom
    have ead : addK ks k = ks ++ [k] := by unfold addK; rw [if_neg hout]
    have hnod : (addK ks k).Nodup := by
      rw [ead, List.nodup_append]
      exact ⟨hS.nod, by simp, fun x hx y hy e => by simp at hy; subst hy; subst e; exact hout hx⟩
    have hkeys : (es1.toList.map fun e => kOf e.2).Perm (addK ks k) := by
      rw [ead]
      refine (hperm.map _).trans ?_
      rw [List.map_append]
      refine hS.keys.append ?_
      show [kOf x].Perm [k]
      rw [kOf_is hkey]
    refine wpAny_bind (hgw _ ?_)
    split
    · refine wpAny_bind ?_
      rw [hashByValue_scannable 8 hsc]
      refine wpAny_pure ?_
      refine add_tail (ks := addK ks k) ?_ hS.obj hel1 hb1' ?_ ?_ hnod hkeys ?_
      · intro b s₁ Q' hq; cases b <;> first | exact wpAny_pure hq | exact wpAny_rule hq
      · split
        · exact hfits
        · exact SetTable.fits_plain_off hfits
      · split
        · exact htab
        · exact ⟨htab.ris, htab.dum, htab.led⟩
      · intro h' es' ep' t' hsb hS'; dsimp only; exact wpAny_pure (h true h' es' ep' t' hsb hS')
    · refine wpAny_bind (wpAny_pure ?_)
      simp only [↓reduceIte]
      refine add_tail (ks := addK ks k) ?_ hS.obj hel1 hb1' hfits htab hnod hkeys ?_
      · intro b s₁ Q' hq; cases b <;> first | exact wpAny_pure hq | exact wpAny_rule hq
      · intro h' es' ep' t' hsb hS'; dsimp only; exact wpAny_pure (h true h' es' ep' t' hsb hS')

noncomputable def metK (key : Nat → Key) : Nat → List Key
  | 0 => []
  | i + 1 => addK (metK key i) (key i)
theorem addK_len (ks : List Key) (k : Key) : (addK ks k).length ≤ ks.length + 1 := by
  unfold addK
  split
  · omega
  · simp
theorem metK_len (key : Nat → Key) : ∀ i, (metK key i).length ≤ i
  | 0 => Nat.le_refl _
  | i + 1 => Nat.le_trans (addK_len _ _) (Nat.succ_le_succ (metK_len key i))
theorem mem_addK {ks : List Key} {k x : Key} : x ∈ addK ks k ↔ x ∈ ks ∨ x = k := by
  unfold addK
  split
  · rename_i h
    exact ⟨.inl, fun q => q.elim id fun e => e ▸ h⟩
  · simp
theorem mem_metK {key : Nat → Key} {x : Key} : ∀ {i : Nat}, x ∈ metK key i ↔ ∃ j, j < i ∧ key j = x
  | 0 => by simp [metK]
  | i + 1 => by
    show x ∈ addK (metK key i) (key i) ↔ _
    rw [mem_addK, mem_metK]
    constructor
    · rintro (⟨j, hj, e⟩ | e)
      · exact ⟨j, Nat.lt_succ_of_lt hj, e⟩
      · exact ⟨i, Nat.lt_succ_self _, e.symm⟩
    · rintro ⟨j, hj, e⟩
      rcases Nat.lt_succ_iff_lt_or_eq.mp hj with q | q
      · exact .inl ⟨j, q, e⟩
      · exact .inr (by rw [← e, q])
end
section
variable {prog : Program} {w : World} {A : Around} {R : Result → Shared → Prop} {I : Addr} {fp wr : List Addr} {G : Array GenState → Array GenState → Prop} {n : Nat} {P : Nat → Value → Prop} {St : Nat → Shared → Prop}
theorem set_loop (W : WalksS prog w A.in1 I fp wr G n P St) (S : Addr) (hSf : S ∉ fp) (key : Nat → Key) (hval : ∀ i v, P i v → keyIs (key i) v = true ∧ v.scannable = true) (hb : n + 1 < scanBound) :
    ∀ (k i : Nat) (s : Shared) (es : Array (Int × Value)) (ep : Nat) (t : SetTable), n - i = k → i ≤ n → St i s → SetR prog w s.heap S (metK key i) es ep t →
      (∀ s' es' ep' t', Moved (S :: wr) G s s' → SetR prog w s'.heap S (metK key n) es' ep' t' → R (.ok (.ret .none)) s') →
      codeAny (model prog w) A (.builtin "set.update.loop" ⟨[.ref S, .ref I], []⟩) R s := by
  have hSw : S ∉ wr := fun h => hSf (W.sub _ h)
  have hsub : ∀ b ∈ wr, b ∈ S :: wr := fun b hb => List.mem_cons_of_mem _ hb
  intro k
  induction k with
  | zero =>
    intro i s es ep t hk hi hst hS hR
    have hin : i = n := by omega
    subst hin
    refine codeAny_builtin F.entry_set_update_loop ?_
    rw [Around.under_plainId F.plain_set_update_loop _]
    show wpAny _ A.in1 (pyNext (.ref I) >>= _) _ _ s
    refine wpAny_bind (W.done s _ _ hst fun s' hm => ?_)
    show wpAny _ A.in1 (ret Value.none) _ _ s'
    exact wpAny_pure (hR s' es ep t (hm.mono hsub) (hS.keep fun o e => hm.heap S o hSw e))
  | succ k ih =>
    intro i s es ep t hk hi hst hS hR
    have hlt : i < n := by omega
    refine codeAny_builtin F.entry_set_update_loop ?_
    rw [Around.under_plainId F.plain_set_update_loop _]
    show wpAny _ A.in1 (pyNext (.ref I) >>= _) _ _ s
    refine wpAny_bind (W.item i s _ _ hlt hst fun v s' hP hst' hm => ?_)
    obtain ⟨hv1, hv2⟩ := hval i v hP
    have hS' := hS.keep (h' := s'.heap) fun o e => hm.heap S o hSw e
    show wpAny _ A.in1 (holding [v] (setAdd S v) >>= _) _ _ s'
    refine wpAny_bind (wpAny_holding ?_)
    unfold setAdd
    refine wpAny_holding ?_
    refine wpAny_bind ((mixKind prog w).pyHash (k := key i) hv1 ?_)
    have hroom : (metK key i).length + 1 < scanBound := by have := metK_len key i; omega
    refine add_hashed (s := { s' with toks := s'.toks + 1 }) hv1 hv2 hS' hroom fun b h' es' ep' t' hsb hS2 => ?_
    refine wpAny_pure ⟨plainId_quiet F.plain_set_update_loop _, ih (i + 1) _ es' ep' t' (by omega) hlt (W.frame _ s' _ _ hst' (Nat.le_succ _) fun b hb o e => ?_) hS2 fun s'' es2 ep2 t2 hm'' hS'' => ?_⟩
    · rw [hsb.2 b (fun h : b = S => hSf (by rw [← h]; exact hb))]; exact e
    · refine hR s'' es2 ep2 t2 (Moved.trans W.gtrans ((hm.mono hsub).then_heap (Nat.le_succ _) fun b o hb e => ?_) hm'') hS''
      rw [hsb.2 b (fun h : b = S => hb (by rw [h]; exact List.mem_cons_self))]; exact e
end
section
variable {prog : Program} {w : World} {A : Around} {E : Value → Shared → Prop} {s : Shared}
theorem set_new_led (a : Value) {Q₁ : Value → Shared → Prop}
    (h : Q₁ (.ref s.heap.objs.size) { s with heap := s.heap.push { cls := .type "set", dict := none, data := .set #[] 0 (.fresh 0 0 (!byTextW w)) } }) :
    codeAny (model prog w) A (.call (.builtin "set.__new__") ⟨[.type "set", a], []⟩) (wants Q₁ E) s := by
  refine codeAny_of_tree ?_
  show wpAny _ A.in1 (do checkBuiltinCall "set.__new__" ⟨[.type "set", a], []⟩; again (.builtin "set.__new__" ⟨[.type "set", a], []⟩)) _ _ s
  refine wpAny_bind (wpAny_of_eq (F.newCall_set_1 a) (wpAny_pure ⟨plainId_quiet F.plain_set_new _, codeAny_builtin F.entry_set_new ?_⟩))
  rw [Around.under_plainId F.plain_set_new _]
  unfold Builtin.«set.__new__» Builtin.Frozenset.newClass
  have hsub := sub_set_self
  obtain ⟨hp, g, d, tk, os⟩ := s
  dsimp only
  wp_walk
  refine wpAny_askSetting (wpAny_pure ?_)
  dsimp only
  simp only [newObj]
  refine wpAny_bind (wpAny_alloc (wpAny_pure ?_))
  exact wpAny_pure h
end
end L2

set_option maxHeartbeats 8000000
namespace L2
open PySem PySem.Spec PyProof.Rows
theorem sub_tuple_set : isSubtype (.type "tuple") (.type "set") = pure false := by rw [isSubtype_type]; kernel_rfl
theorem sub_tuple_frozenset : isSubtype (.type "tuple") (.type "frozenset") = pure false := by rw [isSubtype_type]; kernel_rfl
/-- what set(..) is made of -/
structure SetSrc (prog : Program) (w : World) (T : String) (l : Addr) (items : Array Value) : Prop where
  sub1 : isSubtype (.type T) (.type "set") = pure false
  sub2 : isSubtype (.type T) (.type "frozenset") = pure false
  nd : (Value.type T == Value.type "dict") = false
  it : ∀ (A : Around) (s : Shared) (o : Obj), A.handled = none → s.heap.get? l = some o → o.cls = .type T → (∃ n, o.data = .seq items n) → ∃ (oI : Obj) (St : Nat → Heap → Prop),
    (∀ (E : Value → Shared → Prop) (Q : Value → Shared → Prop), Q (.ref s.heap.objs.size) { s with heap := s.heap.push oI } → wpAny (model prog w) A (pyIter (.ref l)) Q E s) ∧
    Walks prog w A s.heap.objs.size [s.heap.objs.size, l] [s.heap.objs.size] items.size (fun i v => items[i]? = some v) St ∧ St 0 (s.heap.push oI)
theorem src_list {prog : Program} {w : World} {l : Addr} {items : Array Value} : SetSrc prog w "list" l items where
  sub1 := F.sub_list_set
  sub2 := F.sub_list_frozenset
  nd := by decide
  it := fun A s o hh ho hc hd => by
    have hl : s.heap.IsList l items := ⟨o, ho, hc, hd⟩
    refine ⟨_, _, fun E Q q => wpAny_pyIter_list hl q, Walks.list hh _ l (Nat.ne_of_lt (Heap.lt_size ho)) items, ⟨_, Heap.get?_push_size _ rfl, rfl, rfl⟩, hl.push _⟩
theorem src_tup {prog : Program} {w : World} {l : Addr} {items : Array Value} : SetSrc prog w "tuple" l items where
  sub1 := sub_tuple_set
  sub2 := sub_tuple_frozenset
  nd := by decide
  it := fun A s o hh ho hc hd => by
    have hl : s.heap.IsTuple l items := ⟨o, ho, hc, hd⟩
    refine ⟨_, _, fun E Q q => wpAny_pyIter_tuple hl q, Walks.tuple hh _ l (Nat.ne_of_lt (Heap.lt_size ho)) items, ⟨_, Heap.get?_push_size _ rfl, rfl, rfl⟩, hl.push _⟩
section
variable {prog : Program} {w : World} {A : Around} {E : Value → Shared → Prop} {s : Shared}
theorem call_set_of {T : String} {l : Addr} {items : Array Value} {o : Obj} {key : Nat → Key} {Q : Value → Shared → Prop} (src : SetSrc prog w T l items)
    (hh : A.handled = none) (ho : s.heap.get? l = some o) (hc : o.cls = .type T) (hdt : ∃ n, o.data = .seq items n) (hi : ∀ i v, items[i]? = some v → keyIs (key i) v = true ∧ v.scannable = true) (hb : items.size + 1 < scanBound)
    (h : ∀ (h' : Heap) (tk : Nat) es ep t, SetR prog w h' s.heap.objs.size (metK key items.size) es ep t → (∀ b o, s.heap.get? b = some o → h'.get? b = some o) → Q (.ref s.heap.objs.size) { s with heap := h', toks := tk }) :
    wpAny (model prog w) A (call (.type "set") [.ref l]) Q E s := by
  obtain ⟨c, tl, hmro⟩ := F.called_set.mro
  have hmade := F.called_set.made
  have hsub := F.called_set.sub
  refine wpAny_call (codeAny_of_tree ?_)
  show wpAny _ _ (callAny (.type "set") _) _ _ _
  refine wpAny_pure ⟨Code.quiet_builtin _ (by decide +kernel), codeAny_builtin F.entry_type_call ?_⟩
  rw [Around.under_plain (weight_type_call_type "set" [.ref l] []) rfl]
  have h1 := F.called_set.notType
  have h2 := F.called_set.canCreate
  have hct := F.typeCall_set_1 (.ref l)
  repeat (any_goals (first | assumption | wp_step))
  refine codeAny_mono (set_new_led (.ref l) (E := E) (Q₁ := fun obj s₁ => obj = .ref s.heap.objs.size ∧ s₁ = { s with heap := s.heap.push { cls := .type "set", dict := none, data := .set #[] 0 (.fresh 0 0 (!byTextW w)) } }) ⟨rfl, rfl⟩) fun r s₁ hr => ?_
  cases r with
  | error e => exact hr
  | ok fl =>
    cases fl with
    | ret obj =>
      obtain ⟨rfl, rfl⟩ := hr
      have hS : (s.heap.push { cls := .type "set", dict := none, data := .set #[] 0 (.fresh 0 0 (!byTextW w)) }).get? s.heap.objs.size = some { cls := .type "set", dict := none, data := .set #[] 0 (.fresh 0 0 (!byTextW w)) } := Heap.get?_push_size _ rfl
      have hT : Shared.TypeIs { s with heap := s.heap.push { cls := .type "set", dict := none, data := .set #[] 0 (.fresh 0 0 (!byTextW w)) } } (.ref s.heap.objs.size) "set" := ⟨_, hS, rfl⟩
      have hli := F.called_set.init.lookup
      have hbi := F.called_set.init.bind (.ref s.heap.objs.size)
      repeat (any_goals (first | assumption | wp_step))
      refine codeAny_mono (codeAny_call_builtin (R := wants (fun r s₂ => r = .none ∧ ∃ h' tk es ep t, s₂ = { s with heap := h', toks := tk } ∧
          SetR prog w h' s.heap.objs.size (metK key items.size) es ep t ∧ (∀ b o, s.heap.get? b = some o → h'.get? b = some o)) E) F.called_set.init.plain F.entry_set_init (check_set_init_1 hT ?_)) fun r₂ s₂ hr₂ => ?_
      · have ho' : (s.heap.push { cls := .type "set", dict := none, data := .set #[] 0 (.fresh 0 0 (!byTextW w)) }).get? l = some o := Heap.get?_push_of_some _ ho
        have hTl : Shared.TypeIs { s with heap := s.heap.push { cls := .type "set", dict := none, data := .set #[] 0 (.fresh 0 0 (!byTextW w)) } } (.ref l) T := ⟨_, ho', hc⟩
        have hsls := src.sub1
        have hslf := src.sub2
        have hne := src.nd
        obtain ⟨oI, St, hit, W, st⟩ := src.it A.in1.in1.in1 { s with heap := s.heap.push { cls := .type "set", dict := none, data := .set #[] 0 (.fresh 0 0 (!byTextW w)) } } o (by simpa using hh) ho' hc hdt
        unfold Builtin.«set.__init__» noKeywords Builtin.Frozenset.updateFrom
        generalize hPI : pyIter = PI
        wp_walk
        subst hPI
        refine wpAny_of_in1 (hit _ _ ?_)
        refine wpAny_bind (wpAny_runValue ?_)
        have hlS : l < s.heap.objs.size := Heap.lt_size ho
        have hsz : (s.heap.push { cls := .type "set", dict := none, data := .set #[] 0 (.fresh 0 0 (!byTextW w)) }).objs.size = s.heap.objs.size + 1 := Heap.size_push _ _
        have hSf : s.heap.objs.size ∉ [(s.heap.push { cls := .type "set", dict := none, data := .set #[] 0 (.fresh 0 0 (!byTextW w)) }).objs.size, l] := by
          rw [hsz]; simp only [List.mem_cons, List.not_mem_nil, or_false, not_or]
          exact ⟨Nat.ne_of_lt (Nat.lt_succ_self _), Nat.ne_of_gt hlS⟩
        refine set_loop W.toS s.heap.objs.size hSf key (fun i v hv => hi i v hv) hb (items.size - 0) 0 _ #[] 0 (SetTable.fresh 0 0 (!byTextW w)) (by omega) (Nat.zero_le _) st ?hS0 ?hR
        case hS0 =>
          have hget := Heap.get?_push_of_some oI hS
          exact ⟨hget, fun e he => absurd he (by simp), by unfold scanBound; decide, by simp [SetTable.fits, SetTable.fresh, SetTable.fill], ⟨List.Pairwise.nil, rfl, rfl⟩, List.nodup_nil, by simp [metK]⟩
        case hR =>
          intro s' es' ep' t' hm hS'
          obtain ⟨h', g', d', tk', os'⟩ := s'
          have eg : g' = s.gens := hm.gens
          have ed : d' = s.drawn := hm.drawn
          have eo : os' = s.os := hm.os
          subst eg; subst ed; subst eo
          show wpAny _ _ _ _ _ _
          refine wpAny_pure ?_
          show wpAny _ _ (ret Value.none) _ _ _
          refine wpAny_pure ⟨rfl, h', tk', es', ep', t', rfl, hS', fun b o e => ?_⟩
          have hb1 : b ≠ s.heap.objs.size := Nat.ne_of_lt (Heap.lt_size e)
          have hb2 : b ≠ (s.heap.push { cls := .type "set", dict := none, data := .set #[] 0 (.fresh 0 0 (!byTextW w)) }).objs.size := by
            rw [hsz]; exact Nat.ne_of_lt (Nat.lt_succ_of_lt (Heap.lt_size e))
          exact hm.heap b o (by simp only [List.mem_cons, List.not_mem_nil, or_false, not_or]; exact ⟨hb1, hb2⟩) (Heap.get?_push_of_some _ (Heap.get?_push_of_some _ e))
      · cases r₂ with
        | error e => exact hr₂
        | ok fl₂ =>
          cases fl₂ with
          | ret r =>
            obtain ⟨rfl, h', tk, es, ep, t, rfl, hS', hk'⟩ := hr₂
            repeat (any_goals (first | assumption | wp_step))
            exact h _ _ es ep t hS' hk'
          | _ => exact hr₂.elim
    | _ => exact hr.elim
end
end L2

set_option maxHeartbeats 8000000
namespace L2
open PySem PySem.Spec PyProof.Rows
theorem entry_set_iter' : entryFor table "set.__iter__" = some Builtin.«frozenset.__iter__» :=
  entryFor_alias (id' := "frozenset.__iter__") (by kernel_rfl) rfl (by decide +kernel) (by kernel_rfl)
theorem slot_si_next : Slot "set_iterator" "__next__" "set_iterator.__next__" :=
  .of (owner := "set_iterator") (n := "__next__") (by rw [typeLookup_type, builtinLookup_eq_fast]; kernel_rfl) (by decide +kernel) (by decide +kernel) (by decide +kernel)
    (by first | exact .inl (by decide +kernel) | exact .inr (by decide +kernel)) (by rw [isSubtype_type]; kernel_rfl)
theorem entry_si_next : entryFor table "set_iterator.__next__" = some Builtin.«set_iterator.__next__» := entryFor_of_fast (by kernel_rfl)
theorem args_si_next (a : Value) : argsOk "set_iterator.__next__" ⟨[a], []⟩ := by unfold argsOk; kernel_rfl
section
variable {prog : Program} {w : World} {A : Around} {E : Value → Shared → Prop} {s : Shared}
theorem choose_ok {src : Source} {n : Nat} {Q : Nat → Shared → Prop} (hn : n ≠ 0) (h : ∀ k d, k < n → Q k { s with drawn := d }) : wpAny (model prog w) A (choose src n) Q E s := fun _ _ _ =>
  ⟨hn, h _ _ (Nat.mod_lt _ (Nat.pos_of_ne_zero hn))⟩
theorem eraseIdx_perm {α : Type} : ∀ {xs : List α} {i : Nat} {x : α}, xs[i]? = some x → (x :: xs.eraseIdx i).Perm xs
  | [], i, x, h => by simp at h
  | y :: ys, 0, x, h => by
    have e : y = x := by simpa using h
    subst e
    exact List.Perm.refl _
  | y :: ys, i + 1, x, h => by
    have h' : ys[i]? = some x := by simpa using h
    exact (List.Perm.swap _ _ _).trans ((eraseIdx_perm h').cons y)
theorem drawOrder_ok {α : Type} : ∀ (n : Nat) (xs : List α) (s : Shared) {Q : List α → Shared → Prop}, xs.length = n → (∀ ys d, ys.Perm xs → Q ys { s with drawn := d }) → wpAny (model prog w) A (drawOrder n xs) Q E s
  | 0, xs, s, Q, e, h => by
    have : xs = [] := List.length_eq_zero_iff.mp e
    subst this
    unfold drawOrder
    exact wpAny_pure (h [] s.drawn (List.Perm.refl _))
  | n + 1, [], s, Q, e, h => by cases e
  | n + 1, x :: xs, s, Q, e, h => by
    unfold drawOrder
    refine wpAny_bind (choose_ok (by simp) fun k d hk => ?_)
    have hk' : (x :: xs)[k]? = some (x :: xs)[k] := List.getElem?_eq_getElem hk
    rw [hk']
    dsimp only
    refine wpAny_bind (drawOrder_ok n _ _ (by rw [List.length_eraseIdx_of_lt hk, e]; rfl) fun ys d' hp => ?_)
    exact wpAny_pure (h _ d' ((hp.cons _).trans (eraseIdx_perm hk')))
abbrev siObj (first : Value) (i : Nat) (S : Addr) (n ep : Nat) : Obj := { cls := .type "set_iterator", data := .fields #[first, .int i 0, .ref S, .int n 0, .int ep 0] }
def drawnB (es : Array (Int × Value)) (t : SetTable) : Bool := !t.plain && decide (es.size > 1)
theorem set_iter {S : Addr} {ks : List Key} {es : Array (Int × Value)} {ep : Nat} {t : SetTable} {Q : Value → Shared → Prop} (hS : SetR prog w s.heap S ks es ep t)
    (h1 : (!byTextW w && drawnB es t) = false → Q (.ref s.heap.objs.size) { s with heap := s.heap.push (siObj (.int 0 0) 0 S es.size ep) })
    (h2 : (!byTextW w && drawnB es t) = true → ∀ (d : Drawn) (ps : List Nat), ps.Perm (List.range es.size) → Q (.ref (s.heap.objs.size + 1)) { s with heap := (s.heap.push { cls := .type "tuple", data := .seq (ps.map fun (i : Nat) => Value.int i 0).toArray }).push (siObj (.ref s.heap.objs.size) 0 S es.size ep), drawn := d }) :
    wpAny (model prog w) A (pyIter (.ref S)) Q E s := by
  have hT : s.TypeIs (.ref S) "set" := ⟨_, hS.obj, rfl⟩
  have hz : es.size ≤ sizeLine := fits_of_scanBound hS.few
  refine wpAny_pyIter_slot hT F.slot_set_iter (wpAny_call_entry F.slot_set_iter hT entry_set_iter' ?_ (F.args_set_iter_1 _))
  unfold Builtin.«frozenset.__iter__» Builtin.Frozenset.slot0 slotArgs
  simp only [List.isEmpty_nil, Bool.not_true, Bool.false_eq_true, ↓reduceIte, bind_assoc, List.length_nil, bne_self_eq_false]
  unfold Builtin.Frozenset.addrOf Builtin.Frozenset.sizeOf
  refine wpAny_bind (wpAny_pure ?_)
  try dsimp only
  refine wpAny_bind (wpAny_pure ?_)
  refine wpAny_bind (wpAny_bind (wpAny_setEntries_of hS.obj rfl hS.fits (wpAny_pure ?_)))
  unfold setDrawn setsByText
  refine wpAny_bind (wpAny_bind (wpAny_setState_of hS.obj rfl hS.fits (wpAny_bind (wpAny_bind (wpAny_askSetting (wpAny_pure (wpAny_pure ?_)))))))
  show wpAny _ _ (if (!byTextW w && drawnB es t) = true then _ else _) _ _ _
  cases hb : (!byTextW w && drawnB es t)
  · rw [if_neg (by simp)]
    refine wpAny_bind (wpAny_pure ?_)
    refine wpAny_bind (wpAny_setEpoch_of hS.obj rfl hS.fits ?_)
    refine wpAny_bind (wpAny_newObj_type (wpAny_pure ⟨_, rfl, "set_iterator", _, ⟨_, Heap.get?_push_size _ rfl, rfl⟩, slot_si_next.lookup, ?_⟩))
    exact h1 hb
  · rw [if_pos rfl]
    refine wpAny_bind (drawOrder_ok es.size (List.range es.size) s (by simp) fun ps d hp => ?_)
    have hl : ps.length = es.size := by rw [hp.length_eq]; simp
    refine wpAny_bind (wpAny_newTuple ?_ (by rw [List.length_map, hl]; exact hz))
    have hS2 := hS.keep (h' := s.heap.push { cls := .type "tuple", data := .seq (ps.map fun (i : Nat) => rawInt i).toArray }) fun o e => Heap.get?_push_of_some _ e
    refine wpAny_bind (wpAny_setEpoch_of hS2.obj rfl hS2.fits ?_)
    refine wpAny_bind (wpAny_newObj_type (wpAny_pure ⟨_, rfl, "set_iterator", _, ⟨_, Heap.get?_push_size _ rfl, rfl⟩, slot_si_next.lookup, ?_⟩))
    have := h2 hb d ps hp
    rw [size_push']
    exact this

theorem si_start {I S : Addr} {first : Value} {i n ep : Nat} {Q : Option Value → Shared → Prop} (hI : s.heap.get? I = some (siObj first i S n ep))
    (h : wpAny (model prog w) A.in1 (Builtin.«set_iterator.__next__» ⟨[.ref I], []⟩) (fun fin s' => ∃ r, fin = .done (.ret r) ∧ Q (some r) s') (fun e s' => wpAny (model prog w) A (do if ← isInstance e (.type "StopIteration") then pure none else throw e) Q E s') s) :
    wpAny (model prog w) A (pyNext (.ref I)) Q E s := by
  have hT : s.TypeIs (.ref I) "set_iterator" := ⟨_, hI, rfl⟩
  unfold pyNext
  refine wpAny_bind (wpAny_attempt (wpAny_callSpecial?_slot (name := Str.ofString "__next__") hT slot_si_next (wpAny_call_entry slot_si_next hT entry_si_next ?_ (args_si_next _))))
  refine wpAny_mono h (fun fin s' q => ?_) fun e s' q => ?_
  · obtain ⟨r, rfl, q⟩ := q
    exact ⟨_, rfl, wpAny_pure q⟩
  · exact q
theorem si_field {I S : Addr} {first : Value} {i n ep : Nat} (hI : s.heap.get? I = some (siObj first i S n ep)) {first' : Value} {i' : Nat} {fs : Array Value} (k : Nat) (v : Value) (hk : k < 5) (e : (#[first, .int i 0, .ref S, .int n 0, .int ep 0] : Array Value).setIfInBounds k v = fs) :
    (s.heap.update I (Obj.mapFields (·.setIfInBounds k v))).get? I = some { cls := .type "set_iterator", data := .fields fs } := by
  have := Heap.get?_update_self (Obj.mapFields (·.setIfInBounds k v)) hI (Obj.isFreed_of_fields (Obj.data_mapFields (o := siObj first i S n ep) rfl _))
  rw [this, ← e]
  rfl
end
end L2

set_option maxHeartbeats 8000000
namespace L2
open PySem PySem.Spec PyProof.Rows
section
variable {prog : Program} {w : World} {A : Around} {E : Value → Shared → Prop} {s : Shared}
theorem si_raise {Q : Option Value → Shared → Prop} {h0 : Heap} {I : Addr} (hh : A.handled = none) (hQ : ∀ h', Heap.ExtBut I h0 h' → Q none { s with heap := h' }) (hs : Heap.ExtBut I h0 s.heap) :
    wpAny (model prog w) A.in1 (newExc (.type "StopIteration") [] >>= fun e => (raiseNew e : Sem Fin)) (fun fin s' => ∃ r, fin = .done (.ret r) ∧ Q (some r) s') (fun e s' => wpAny (model prog w) A (do if ← isInstance e (.type "StopIteration") then pure none else throw e) Q E s') s := by
  refine wpAny_bind ?_
  simp only [newExc, newTuple]
  refine wpAny_bind (wpAny_newObj_type ?_ (by size_fits))
  refine wpAny_bind (m := firstArgMember _ _) (wpAny_of_eq (a := Value.none) (by first | rfl | (simp only [firstArgMember]; rfl)) ?_)
  refine wpAny_newObj_type ?_ (by size_fits)
  simp only [raiseNew]
  refine wpAny_bind (wpAny_handled ?_)
  rw [show A.in1.handled = none from hh]
  refine wpAny_bind (wpAny_pure (wpAny_throw ?_))
  refine wpAny_bind (wpAny_isInstance (T := "StopIteration") (b := true) ⟨_, Heap.get?_push_size _ rfl, rfl⟩ isSubtype_stop ?_)
  exact wpAny_pure (hQ _ ((hs.push _).push _))
theorem si_open {I S : Addr} {ks : List Key} {es : Array (Int × Value)} {i ep : Nat} {t : SetTable} {first : Value} {R : Fin → Shared → Prop} {F : Value → Shared → Prop} (hI : s.heap.get? I = some (siObj first i S es.size ep)) (hS : SetR prog w s.heap S ks es ep t)
    (h : wpAny (model prog w) A (if let .int slot _ := first then do
        match ← setNext S slot.toNat i ep with
        | some (x, next) =>
          setField (.ref I) 0 (rawInt next)
          setField (.ref I) 1 (rawInt (i + 1))
          ret x
        | none => setField (.ref I) 2 .none; raiseNew (← newExc (.type "StopIteration") [])
      else do
        let some places ← seqItems? first | unsupported "internal:set_iterator"
        match places[i]? with
        | some (.int place _) =>
          let x ← setNextDrawn S place.toNat ep
          setField (.ref I) 1 (rawInt (i + 1))
          ret x
        | some _ => unsupported "internal:set_iterator"
        | none => setField (.ref I) 0 (rawInt 0); setField (.ref I) 2 .none; raiseNew (← newExc (.type "StopIteration") [])) R F s) :
    wpAny (model prog w) A (Builtin.«set_iterator.__next__» ⟨[.ref I], []⟩) R F s := by
  unfold Builtin.«set_iterator.__next__» slotArgs
  simp only [List.isEmpty_nil, Bool.not_true, Bool.false_eq_true, ↓reduceIte, bind_assoc, List.length_nil, bne_self_eq_false]
  refine wpAny_bind (wpAny_pure ?_)
  try dsimp only
  refine wpAny_bind (wpAny_fieldsOf hI rfl ?_)
  dsimp only
  refine wpAny_bind (wpAny_setEntries_of hS.obj rfl hS.fits ?_)
  rw [if_neg (by simp)]
  exact h

theorem si_item {I S : Addr} {ks : List Key} {es : Array (Int × Value)} {i ep slot next : Nat} {t : SetTable} {v : Value} {Q : Option Value → Shared → Prop} (hI : s.heap.get? I = some (siObj (.int slot 0) i S es.size ep)) (hS : SetR prog w s.heap S ks es ep t)
    (hn : ∀ (Q : Option (Value × Nat) → Shared → Prop) (E : Value → Shared → Prop), Q (some (v, next)) s → wpAny (model prog w) A.in1 (setNext S slot i ep) Q E s)
    (hQ : ∀ h', h'.get? I = some (siObj (.int next 0) (i + 1) S es.size ep) → (∀ b, b ≠ I → h'.get? b = s.heap.get? b) → Q (some v) { s with heap := h' }) : wpAny (model prog w) A (pyNext (.ref I)) Q E s := by
  refine si_start hI (si_open hI hS ?_)
  dsimp only
  refine wpAny_bind (hn _ _ ?_)
  dsimp only
  refine wpAny_bind (wpAny_setField hI rfl (by simp) ?_)
  have h1 := si_field (s := s) hI (first' := .none) (i' := 0) (fs := #[.int next 0, .int i 0, .ref S, .int es.size 0, .int ep 0]) 0 (rawInt next) (by decide) (by simp [rawInt])
  refine wpAny_bind (wpAny_setField h1 rfl (by simp) ?_)
  have h2 := si_field (s := { s with heap := s.heap.update I (Obj.mapFields (·.setIfInBounds 0 (rawInt next))) }) (first := .int next 0) (i := i) (S := S) (n := es.size) (ep := ep) h1 (first' := .none) (i' := 0) (fs := #[.int next 0, .int ((i + 1 : Nat) : Int) 0, .ref S, .int es.size 0, .int ep 0]) 1 (rawInt ((i : Int) + 1)) (by decide) (by simp [rawInt])
  refine wpAny_pure ⟨_, rfl, hQ _ h2 fun b hb => ?_⟩
  exact ((Heap.SameBut.update _ I _).2 b hb).trans ((Heap.SameBut.update _ I _).2 b hb)
theorem si_end {I S : Addr} {ks : List Key} {es : Array (Int × Value)} {i ep slot : Nat} {t : SetTable} {Q : Option Value → Shared → Prop} (hh : A.handled = none) (hI : s.heap.get? I = some (siObj (.int slot 0) i S es.size ep)) (hS : SetR prog w s.heap S ks es ep t)
    (hn : ∀ (Q : Option (Value × Nat) → Shared → Prop) (E : Value → Shared → Prop), Q none s → wpAny (model prog w) A.in1 (setNext S slot i ep) Q E s)
    (hQ : ∀ h', Heap.ExtBut I s.heap h' → Q none { s with heap := h' }) : wpAny (model prog w) A (pyNext (.ref I)) Q E s := by
  refine si_start hI (si_open hI hS ?_)
  dsimp only
  refine wpAny_bind (hn _ _ ?_)
  dsimp only
  refine wpAny_bind (wpAny_setField hI rfl (by simp) ?_)
  exact si_raise (s := { s with heap := s.heap.update I (Obj.mapFields (·.setIfInBounds 2 .none)) }) (I := I) (h0 := s.heap) hh hQ (Heap.SameBut.update ..).extBut
theorem sd_item {I S T : Addr} {ks : List Key} {es : Array (Int × Value)} {i ep p : Nat} {t : SetTable} {ps : Array Value} {hv : Int} {v : Value} {Q : Option Value → Shared → Prop} (hI : s.heap.get? I = some (siObj (.ref T) i S es.size ep)) (hS : SetR prog w s.heap S ks es ep t)
    (hT : s.heap.get? T = some { cls := .type "tuple", data := .seq ps }) (hp : ps[i]? = some (.int p 0)) (he : es[p]? = some (hv, v))
    (hQ : ∀ h', h'.get? I = some (siObj (.ref T) (i + 1) S es.size ep) → (∀ b, b ≠ I → h'.get? b = s.heap.get? b) → Q (some v) { s with heap := h' }) : wpAny (model prog w) A (pyNext (.ref I)) Q E s := by
  refine si_start hI (si_open hI hS ?_)
  dsimp only
  unfold seqItems?
  refine wpAny_bind (wpAny_bind (wpAny_load hT (wpAny_pure ?_)))
  dsimp only
  rw [hp]
  dsimp only
  unfold setNextDrawn
  refine wpAny_bind (wpAny_bind (wpAny_setState_of hS.obj rfl hS.fits ?_))
  dsimp only
  rw [if_neg (by simp)]
  rw [show es[(p : Int).toNat]? = some (hv, v) from he]
  refine wpAny_pure ?_
  refine wpAny_bind (wpAny_setField hI rfl (by simp) ?_)
  have h2 := si_field (s := s) hI (first' := .none) (i' := 0) (fs := #[.ref T, .int ((i + 1 : Nat) : Int) 0, .ref S, .int es.size 0, .int ep 0]) 1 (rawInt ((i : Int) + 1)) (by decide) (by simp [rawInt])
  exact wpAny_pure ⟨_, rfl, hQ _ h2 fun b hb => (Heap.SameBut.update _ I _).2 b hb⟩
theorem sd_end {I S T : Addr} {ks : List Key} {es : Array (Int × Value)} {i ep : Nat} {t : SetTable} {ps : Array Value} {Q : Option Value → Shared → Prop} (hh : A.handled = none) (hI : s.heap.get? I = some (siObj (.ref T) i S es.size ep)) (hS : SetR prog w s.heap S ks es ep t)
    (hT : s.heap.get? T = some { cls := .type "tuple", data := .seq ps }) (hp : ps[i]? = none)
    (hQ : ∀ h', Heap.ExtBut I s.heap h' → Q none { s with heap := h' }) : wpAny (model prog w) A (pyNext (.ref I)) Q E s := by
  refine si_start hI (si_open hI hS ?_)
  dsimp only
  unfold seqItems?
  refine wpAny_bind (wpAny_bind (wpAny_load hT (wpAny_pure ?_)))
  dsimp only
  rw [hp]
  dsimp only
  refine wpAny_bind (wpAny_setField hI rfl (by simp) ?_)
  have h1 := si_field (s := s) hI (first' := .none) (i' := 0) (fs := #[.int 0 0, .int i 0, .ref S, .int es.size 0, .int ep 0]) 0 (rawInt 0) (by decide) (by simp [rawInt])
  refine wpAny_bind (wpAny_setField h1 rfl (by simp) ?_)
  refine si_raise (s := { s with heap := (s.heap.update I (Obj.mapFields (·.setIfInBounds 0 (rawInt 0)))).update I (Obj.mapFields (·.setIfInBounds 2 .none)) }) (I := I) (h0 := s.heap) hh hQ ?_
  exact ((Heap.SameBut.update s.heap I _).trans (Heap.SameBut.update _ I _)).extBut
end
end L2

set_option maxHeartbeats 8000000
namespace L2
open PySem PySem.Spec PyProof.Rows
theorem pick_go {α : Type} (next : Nat → Nat) : ∀ (fuel k : Nat) (left : List α) (out : Array α), left.length = fuel → (pickOrder.go next fuel k left out).toList.Perm (out.toList ++ left)
  | 0, k, left, out, e => by
    have : left = [] := List.length_eq_zero_iff.mp e
    subst this
    unfold pickOrder.go
    simp
  | fuel + 1, k, left, out, e => by
    unfold pickOrder.go
    have hlt : next k % left.length < left.length := Nat.mod_lt _ (by omega)
    have hg : left[next k % left.length]? = some left[next k % left.length] := List.getElem?_eq_getElem hlt
    rw [hg]
    dsimp only
    refine (pick_go next fuel (k + 1) _ _ (by rw [List.length_eraseIdx_of_lt hlt, e]; rfl)).trans ?_
    rw [Array.toList_push, List.append_assoc]
    refine List.Perm.append_left _ ?_
    exact eraseIdx_perm hg
theorem pick_perm {α : Type} (next : Nat → Nat) (xs : Array α) : (pickOrder next xs).toList.Perm xs.toList := by
  unfold pickOrder
  have := pick_go next xs.size 0 xs.toList #[] (by simp)
  simpa using this
/-- the slot ahead of the i-th place -/
def slAt (place : Array Nat) : Nat → Nat
  | 0 => 0
  | i + 1 => (place[i]?.getD 0) + 1
theorem below_slAt {place : Array Nat} (h : Ris place) : ∀ {i : Nat}, i ≤ place.size → SetTable.below place (slAt place i) = i
  | 0, _ => by
    obtain ⟨h1, h2, h3⟩ := below_spec h 0
    show SetTable.below place 0 = 0
    rcases Nat.eq_zero_or_pos (SetTable.below place 0) with q | q
    · exact q
    · have hz : 0 < place.size := by omega
      have := h2 0 _ q (Array.getElem?_eq_getElem hz)
      omega
  | i + 1, hi => by
    have hlt : i < place.size := hi
    have eg : place[i]? = some place[i] := Array.getElem?_eq_getElem hlt
    have es : slAt place (i + 1) = place[i] + 1 := by show (place[i]?.getD 0) + 1 = _; rw [eg]; rfl
    rw [es]
    obtain ⟨h1, h2, h3⟩ := below_spec h (place[i] + 1)
    rcases Nat.lt_trichotomy (SetTable.below place (place[i] + 1)) (i + 1) with q | q | q
    · have := h3 i _ (by omega) eg
      omega
    · exact q
    · have hlt2 : i + 1 < place.size := by omega
      have e2 : place[i + 1]? = some place[i + 1] := Array.getElem?_eq_getElem hlt2
      have a := h2 (i + 1) _ q e2
      have b := h.lt (Nat.lt_succ_self i) eg e2
      omega
section
variable {prog : Program} {w : World}
/-- what the walk tells next -/
def Nx (prog : Program) (w : World) (S : Addr) (ks : List Key) (es : Array (Int × Value)) (ep : Nat) (t : SetTable) (sl : Nat → Nat) (vs : List Value) : Prop :=
  ∀ (i : Nat) (s : Shared) (A : Around) (E : Value → Shared → Prop) (Q : Option (Value × Nat) → Shared → Prop), SetR prog w s.heap S ks es ep t → i ≤ es.size → Q ((vs[i]?).map fun v => (v, sl (i + 1))) s → wpAny (model prog w) A (setNext S (sl i) i ep) Q E s
theorem nx_text {S : Addr} {ks : List Key} {es : Array (Int × Value)} {ep : Nat} {t : SetTable} (hb : byTextW w = true) : Nx prog w S ks es ep t (fun _ => 0) ((pickOrder (w.params.setOrder S ep) es).toList.map (·.2)) := by
  intro i s A E Q hS hi q
  unfold setNext setsByText
  refine wpAny_bind (wpAny_setState_of hS.obj rfl hS.fits ?_)
  dsimp only
  refine wpAny_bind (wpAny_bind (wpAny_askSetting (wpAny_pure ?_)))
  rw [if_pos (show (model prog w).w.params.followText "set-order" = true from hb), if_neg (by simp)]
  unfold setWalk setsByText
  refine wpAny_bind (wpAny_bind (wpAny_setState_of hS.obj rfl hS.fits ?_))
  dsimp only
  refine wpAny_bind (wpAny_bind (wpAny_askSetting (wpAny_pure ?_)))
  rw [if_pos (show (model prog w).w.params.followText "set-order" = true from hb)]
  refine wpAny_bind (wpAny_askSetting (wpAny_pure (wpAny_pure ?_)))
  rw [List.getElem?_map, Option.map_map, Array.getElem?_toList] at q
  exact q
theorem nx_plain {S : Addr} {ks : List Key} {es : Array (Int × Value)} {ep : Nat} {t : SetTable} (hb : byTextW w = false) (hd : drawnB es t = false) : Nx prog w S ks es ep t (slAt t.place) (es.toList.map (·.2)) := by
  intro i s A E Q hS hi q
  have hps : t.place.size = es.size := by have := hS.fits; simp [SetTable.fits] at this; exact this.1
  unfold setNext setsByText
  refine wpAny_bind (wpAny_setState_of hS.obj rfl hS.fits ?_)
  dsimp only
  refine wpAny_bind (wpAny_bind (wpAny_askSetting (wpAny_pure ?_)))
  rw [if_neg (show ¬ (model prog w).w.params.followText "set-order" = true by show ¬ byTextW w = true; rw [hb]; decide)]
  have hled : t.led = true := by rw [hS.tab.led, hb]; rfl
  show wpAny _ _ (if drawnB es t = true then _ else _) _ _ _
  rw [if_neg (by rw [hd]; decide)]
  show wpAny _ _ ((if (!t.led && !es.isEmpty) = true then unsupported _ else pure ()) >>= _) _ _ _
  rw [if_neg (by rw [hled]; simp)]
  refine wpAny_bind (wpAny_pure (wpAny_pure ?_))
  rw [below_slAt hS.tab.ris (by rw [hps]; exact hi)]
  rw [List.getElem?_map, Option.map_map, Array.getElem?_toList] at q
  by_cases hlt : i < es.size
  · rw [Array.getElem?_eq_getElem hlt] at q ⊢
    have hp2 : i < t.place.size := by rw [hps]; exact hlt
    have e2 : slAt t.place (i + 1) = t.place[i] + 1 := by show (t.place[i]?.getD 0) + 1 = _; rw [Array.getElem?_eq_getElem hp2]; rfl
    rw [Array.getElem?_eq_getElem hp2]
    dsimp only [Option.map_some, Function.comp] at q ⊢
    rw [e2] at q
    exact q
  · rw [Array.getElem?_eq_none (by omega)] at q ⊢
    exact q
theorem slot_si_iter : Slot "set_iterator" "__iter__" "set_iterator.__iter__" :=
  .of (owner := "set_iterator") (n := "__iter__") (by rw [typeLookup_type, builtinLookup_eq_fast]; kernel_rfl) (by decide +kernel) (by decide +kernel) (by decide +kernel)
    (by first | exact .inl (by decide +kernel) | exact .inr (by decide +kernel)) (by rw [isSubtype_type]; kernel_rfl)
theorem entry_si_iter : entryFor table "set_iterator.__iter__" = some Builtin.«dict_keyiterator.__iter__» :=
  entryFor_alias (id' := "dict_keyiterator.__iter__") (by kernel_rfl) rfl (by decide +kernel) (by kernel_rfl)
theorem args_si_iter (a : Value) : argsOk "set_iterator.__iter__" ⟨[a], []⟩ := by unfold argsOk; kernel_rfl
theorem si_self {A : Around} {E : Value → Shared → Prop} {s : Shared} {I S : Addr} {first : Value} {i n ep : Nat} {Q : Value → Shared → Prop} (hI : s.heap.get? I = some (siObj first i S n ep)) (h : Q (.ref I) s) : wpAny (model prog w) A (pyIter (.ref I)) Q E s := by
  have hT : s.TypeIs (.ref I) "set_iterator" := ⟨_, hI, rfl⟩
  refine wpAny_pyIter_slot hT slot_si_iter (wpAny_call_entry slot_si_iter hT entry_si_iter ?_ (args_si_iter _))
  show wpAny _ _ (ret (.ref I)) _ _ s
  exact wpAny_pure ⟨_, rfl, "set_iterator", _, hT, slot_si_next.lookup, h⟩
theorem walk_int {A : Around} (hh : A.handled = none) {I S : Addr} (hne : S ≠ I) {ks : List Key} {es : Array (Int × Value)} {ep : Nat} {t : SetTable} {sl : Nat → Nat} {vs : List Value} (hv : vs.length = es.size) (hn : Nx prog w S ks es ep t sl vs) :
    Walks prog w A I [I, S] [I] es.size (fun i v => vs[i]? = some v) (fun i h => h.get? I = some (siObj (.int (sl i) 0) i S es.size ep) ∧ SetR prog w h S ks es ep t) where
  sub := fun b hb => by simp at hb; simp [hb]
  frame := fun _ _ _ st hk => ⟨hk I (by simp) _ st.1, st.2.keep fun o e => hk S (by simp) o e⟩
  item := fun i s Q E hi st hQ => by
    have e : vs[i]? = some (vs[i]'(by omega)) := List.getElem?_eq_getElem (by omega)
    refine si_item (v := vs[i]'(by omega)) (next := sl (i + 1)) st.1 st.2 (fun Q E q => hn i s _ E Q st.2 (Nat.le_of_lt hi) (by rw [e]; exact q)) fun h' h1 h2 => ?_
    exact hQ _ h' s.toks e ⟨h1, st.2.keep fun o q => (h2 S hne).trans q⟩ fun b o hb q => (h2 b (by simpa using hb)).trans q
  done := fun s Q E st hQ => si_end hh st.1 st.2 (fun Q E q => hn es.size s _ E Q st.2 (Nat.le_refl _) (by rw [List.getElem?_eq_none (by omega)]; exact q)) fun h' he => hQ h' s.toks fun b o hb e => he b o (fun h => hb (by simp [h])) e
  self := fun i s Q E st hQ => si_self st.1 hQ
theorem walk_drawn {A : Around} (hh : A.handled = none) {I S T : Addr} (hne : S ≠ I) (hnt : T ≠ I) {ks : List Key} {es : Array (Int × Value)} {ep : Nat} {t : SetTable} {ps : List Nat} (hp : ps.Perm (List.range es.size)) :
    Walks prog w A I [I, S, T] [I] es.size (fun i v => (ps.filterMap fun j => (es[j]?).map (·.2))[i]? = some v) (fun i h => h.get? I = some (siObj (.ref T) i S es.size ep) ∧ SetR prog w h S ks es ep t ∧ h.get? T = some { cls := .type "tuple", data := .seq (ps.map fun (i : Nat) => Value.int i 0).toArray }) where
  sub := fun b hb => by simp at hb; simp [hb]
  frame := fun _ _ _ st hk => ⟨hk I (by simp) _ st.1, st.2.1.keep fun o e => hk S (by simp) o e, hk T (by simp) _ st.2.2⟩
  item := fun i s Q E hi st hQ => by
    have hl : ps.length = es.size := by rw [hp.length_eq]; simp
    have hlt : i < ps.length := by omega
    have hpi : ps[i] < es.size := List.mem_range.mp (hp.mem_iff.mp (List.getElem_mem hlt))
    have em : (ps.filterMap fun j => (es[j]?).map (·.2)) = ps.map fun j => (es.getD j (0, .none)).2 := by
      have gen : ∀ l : List Nat, (∀ j ∈ l, j < es.size) → (l.filterMap fun j => (es[j]?).map (·.2)) = l.map fun j => (es.getD j (0, .none)).2 := by
        intro l
        induction l with
        | nil => intro _; rfl
        | cons a l ih =>
          intro hl
          have ha := hl a List.mem_cons_self
          rw [List.filterMap_cons, ih fun j hj => hl j (List.mem_cons_of_mem _ hj)]
          simp [Array.getD, ha]
      exact gen ps fun j hj => List.mem_range.mp (hp.mem_iff.mp hj)
    refine sd_item (p := ps[i]) (hv := es[ps[i]].1) (v := es[ps[i]].2) st.1 st.2.1 st.2.2 (by simp [hlt]) (by rw [Array.getElem?_eq_getElem hpi]) fun h' h1 h2 => ?_
    refine hQ _ h' s.toks ?_ ⟨h1, st.2.1.keep fun o q => (h2 S hne).trans q, (h2 T hnt).trans st.2.2⟩ fun b o hb q => (h2 b (by simpa using hb)).trans q
    rw [em, List.getElem?_map, List.getElem?_eq_getElem hlt]
    simp [Array.getD, hpi]
  done := fun s Q E st hQ => by
    have hl : ps.length = es.size := by rw [hp.length_eq]; simp
    exact sd_end hh st.1 st.2.1 st.2.2 (by simp [hl]) fun h' he => hQ h' s.toks fun b o hb e => he b o (fun h => hb (by simp [h])) e
  self := fun i s Q E st hQ => si_self st.1 hQ
end
end L2

set_option maxHeartbeats 8000000
namespace L2
open PySem PySem.Spec PyProof.Rows
section
variable {prog : Program} {w : World} {A : Around} {E : Value → Shared → Prop} {s : Shared}
theorem set_walk (hh : A.handled = none) {S : Addr} {ks : List Key} {es : Array (Int × Value)} {ep : Nat} {t : SetTable} {Q : Value → Shared → Prop} (hS : SetR prog w s.heap S ks es ep t)
    (h : ∀ (I : Addr) (h1 : Heap) (d : Drawn) (fp : List Addr) (vs : List Value) (St : Nat → Heap → Prop), (∀ b o, s.heap.get? b = some o → h1.get? b = some o) → s.heap.objs.size ≤ I → (∀ b ∈ fp, b = S ∨ s.heap.objs.size ≤ b) →
      Walks prog w A I fp [I] es.size (fun i v => vs[i]? = some v) St → St 0 h1 → vs.length = es.size → vs.Perm (es.toList.map (·.2)) → Q (.ref I) { s with heap := h1, drawn := d }) :
    wpAny (model prog w) A (pyIter (.ref S)) Q E s := by
  have hlt : S < s.heap.objs.size := Heap.lt_size hS.obj
  refine set_iter hS (fun hb => ?_) fun hb d ps hp => ?_
  · have key : ∀ sl vs, sl 0 = 0 → vs.length = es.size → vs.Perm (es.toList.map (·.2)) → Nx prog w S ks es ep t sl vs → Q (.ref s.heap.objs.size) { s with heap := s.heap.push (siObj (.int 0 0) 0 S es.size ep) } := fun sl vs h0 hl hpm hn => by
      have W := walk_int (A := A) hh (I := s.heap.objs.size) (S := S) (Nat.ne_of_lt hlt) hl hn
      have := h s.heap.objs.size (s.heap.push (siObj (.int 0 0) 0 S es.size ep)) s.drawn _ vs _ (fun b o e => Heap.get?_push_of_some _ e) (Nat.le_refl _) (fun b hb => ?_) W ⟨?_, hS.keep fun o e => Heap.get?_push_of_some _ e⟩ hl hpm
      · exact this
      · simp only [List.mem_cons, List.not_mem_nil, or_false] at hb
        rcases hb with rfl | rfl
        · exact .inr (Nat.le_refl _)
        · exact .inl rfl
      · rw [h0]
        exact Heap.get?_push_size _ rfl
    cases hbt : byTextW w with
    | true => exact key _ _ rfl (by rw [List.length_map, (pick_perm _ _).length_eq, Array.length_toList]) ((pick_perm _ _).map _) (nx_text hbt)
    | false =>
      rw [hbt] at hb
      exact key _ _ rfl (by rw [List.length_map, Array.length_toList]) (List.Perm.refl _) (nx_plain hbt (by simpa using hb))
  · have hl : ps.length = es.size := by rw [hp.length_eq]; simp
    have W := walk_drawn (prog := prog) (w := w) (A := A) hh (I := s.heap.objs.size + 1) (S := S) (T := s.heap.objs.size) (Nat.ne_of_lt (Nat.lt_succ_of_lt hlt)) (Nat.ne_of_lt (Nat.lt_succ_self _)) (ks := ks) (es := es) (ep := ep) (t := t) hp
    have pm : (ps.filterMap fun j => (es[j]?).map (·.2)).Perm (es.toList.map (·.2)) := by
      refine (hp.filterMap _).trans ?_
      rw [← List.map_filterMap]
      rw [filterMap_getElem?_range]
    refine h (s.heap.objs.size + 1) _ d _ _ _ (fun b o e => Heap.get?_push_of_some _ (Heap.get?_push_of_some _ e)) (Nat.le_succ _) (fun b hb => ?_) W ⟨?_, hS.keep fun o e => Heap.get?_push_of_some _ (Heap.get?_push_of_some _ e), Heap.get?_push_of_some _ (Heap.get?_push_size _ rfl)⟩ (by rw [pm.length_eq, List.length_map, Array.length_toList]) pm
    · simp only [List.mem_cons, List.not_mem_nil, or_false] at hb
      rcases hb with rfl | rfl | rfl
      · exact .inr (Nat.le_succ _)
      · exact .inl rfl
      · exact .inr (Nat.le_refl _)
    · have := Heap.get?_push_size (s.heap.push { cls := .type "tuple", data := .seq (ps.map fun (i : Nat) => Value.int i 0).toArray }) (o := siObj (.ref s.heap.objs.size) 0 S es.size ep) rfl
      rw [size_push'] at this
      exact this
theorem hint_set {r : Addr} {Q : Bool → Shared → Prop} (hT : s.TypeIs (.ref r) "set") (h : Q false s) : wpAny (model prog w) A (Builtin.List.listLengthHint (.ref r)) Q E s := by
  unfold Builtin.List.listLengthHint
  refine wpAny_bind (wpAny_specialOf hT PySem.F.slot_set_len.lookup ?_)
  generalize hid : ("set.__len__" : String) = id0
  wp_delta
  rw [show splitId id0 = some ("set", "__len__") from by subst hid; decide +kernel]
  subst hid
  refine wpAny_bind (wpAny_isInstance (T := "set") (b := true) hT (by rw [isSubtype_type]; kernel_rfl) ?_)
  refine wpAny_ite_split (fun hab => absurd hab (by decide)) (fun _ => ?_)
  refine wpAny_ite_split (fun _ => ?_) (fun hab => absurd (by decide +kernel) hab)
  refine wpAny_bind (wpAny_typeOf hT ?_)
  exact wpAny_pure h

theorem set_extend {S L : Addr} {ks : List Key} {es : Array (Int × Value)} {ep : Nat} {t : SetTable} {R : Result → Shared → Prop} (hh : A.handled = none) (hS : SetR prog w s.heap S ks es ep t) (hSL : L ≠ S) (res : Value) (c₀ : Nat) (hL : s.heap.get? L = some { cls := .type "list", data := .seq #[] c₀ })
    (hR : ∀ h' tk d acc' c', (∀ b o, b ≠ L → s.heap.get? b = some o → h'.get? b = some o) → h'.get? L = some { cls := .type "list", dict := none, data := .seq acc' c', slots := #[] } → acc'.toList.Perm (es.toList.map (·.2)) → R (.ok (.ret res)) { s with heap := h', toks := tk, drawn := d }) :
    wpAny (model prog w) A.in1 (Builtin.List.listExtendWith (.ref L) (.ref S) res)
      (fun fin s' => match fin with | .done f => R (.ok f) s' | .again c' => c'.quiet = true ∧ codeAny (model prog w) A c' R s') (fun e s' => R (.error e) s') s := by
  have hT : s.TypeIs (.ref S) "set" := ⟨_, hS.obj, rfl⟩
  have hz : es.size ≤ sizeLine := fits_of_scanBound hS.few
  unfold Builtin.List.listExtendWith
  refine wpAny_bind (wpAny_typeOf hT ?_)
  have h1 : Builtin.List.listSameRef (.ref L) (.ref S) = false := by simp [Builtin.List.listSameRef, hSL]
  have h2 : (Value.type "set" == Value.type "list") = false := by decide
  have h3 : (Value.type "set" == Value.type "tuple") = false := by decide
  simp only [h1, h2, h3, Bool.or_false, Bool.false_eq_true, if_false]
  refine wpAny_bind (set_walk (A := A.in1) hh hS fun I h1 d fp vs St hk hI hfp W st hvl hpm => ?_)
  have hLlt : L < s.heap.objs.size := Heap.lt_size hL
  have hLI : L ≠ I := Nat.ne_of_lt (Nat.lt_of_lt_of_le hLlt hI)
  have hLf : L ∉ fp := fun hb => by
    rcases hfp L hb with e | e
    · exact hSL e
    · exact absurd hLlt (Nat.not_lt.mpr e)
  have key : ∀ (h : Heap) (c₁ tk : Nat), St 0 h → (∀ b o, b ≠ L → s.heap.get? b = some o → h.get? b = some o) →
      h.get? L = some { cls := .type "list", data := .seq #[] c₁ } → codeAny (model prog w) A (.builtin "list.extend.loop" ⟨[.ref L, .ref I, res], []⟩) R { s with heap := h, toks := tk, drawn := d } := by
    intro h c₁ tk hst hkk hS₁
    refine codeAny_extend_loopS W.toS hz L hLf res es.size 0 _ #[] c₁ rfl (Nat.zero_le _) hst hS₁ (ItemsOf.nil _) fun s' acc' c' hm hS' hacc => ?_
    rw [Moved.eq_with hm]
    refine hR s'.heap s'.toks d acc' c' (fun b o hb e => hm.heap b o (fun hmem => ?_) (hkk b o hb e)) hS' ?_
    · rcases List.mem_cons.mp hmem with e' | hmem
      · exact hb e'
      · have := List.mem_singleton.mp hmem
        subst this
        exact absurd (Heap.lt_size e) (Nat.not_lt.mpr hI)
    · have ev : acc'.toList = vs := by
        refine List.ext_getElem? fun i => ?_
        rw [Array.getElem?_toList]
        by_cases hlt : i < es.size
        · have : i < acc'.size := by rw [hacc.1]; exact hlt
          rw [Array.getElem?_eq_getElem this]
          exact (hacc.2 i _ (Array.getElem?_eq_getElem this)).symm
        · rw [Array.getElem?_eq_none (by rw [hacc.1]; omega), List.getElem?_eq_none (by omega)]
      rw [ev]
      exact hpm
  have hS₁ : h1.get? L = some { cls := .type "list", data := .seq #[] c₀ } := hk _ _ hL
  refine wpAny_bind (wpAny_holding (hint_set (s := { s with heap := h1, drawn := d }) ⟨_, hk _ _ hS.obj, rfl⟩ ?_))
  refine wpAny_ite_split (fun _ => ?_) (fun _ => wpAny_pure ⟨plainId_quiet PySem.F.plain_extend_loop _, key _ c₀ _ st (fun b o _ e => hk b o e) hS₁⟩)
  refine wpAny_bind (wpAny_rule ?_)
  refine wpAny_bind ?_
  show wpAny _ _ (updateSeq L (·.push .none) >>= fun _ => updateSeq L (·.pop)) _ _ _
  refine wpAny_bind (wpAny_updateSeq hS₁ rfl ?_)
  have hS₂ := Heap.get?_update_self (Obj.mapSeq (·.push Value.none)) hS₁ rfl
  refine wpAny_updateSeq (hz := by seq_fits) hS₂ rfl ?_
  have hS₃ := Heap.get?_update_self (Obj.mapSeq (·.pop)) hS₂ rfl
  refine wpAny_pure ⟨plainId_quiet PySem.F.plain_extend_loop _, key _ _ _ ?_ (fun b o hb e => ?_) hS₃⟩
  · refine W.frame 0 _ _ st fun b hb o e => ?_
    have hbS : b ≠ L := fun h => hLf (h ▸ hb)
    exact (Heap.get?_update_other _ _ (Ne.symm hbS)).trans ((Heap.get?_update_other _ _ (Ne.symm hbS)).trans e)
  · exact (Heap.get?_update_other _ _ (Ne.symm hb)).trans ((Heap.get?_update_other _ _ (Ne.symm hb)).trans (hk _ _ e))
theorem set_collect {S : Addr} {ks : List Key} {es : Array (Int × Value)} {ep : Nat} {t : SetTable} {R : List Value → Shared → Prop} (hh : A.handled = none) (hS : SetR prog w s.heap S ks es ep t)
    (h : ∀ (h' : Heap) (tk : Nat) (d : Drawn) (vs : List Value), s.heap.objs.size ≤ h'.objs.size → (∀ b o, s.heap.get? b = some o → h'.get? b = some o) → vs.Perm (es.toList.map (·.2)) → R vs { s with heap := h', toks := tk, drawn := d }) :
    wpAny (model prog w) A (collect (.ref S)) R E s := by
  have hlt : S < s.heap.objs.size := Heap.lt_size hS.obj
  unfold collect
  refine wpAny_bind (wpAny_runValue (codeAny_builtin entry_proto_collect' ?_))
  rw [Around.under_plainId PySem.F.plain_proto_collect _]
  show wpAny _ A.in1 (newList [] >>= fun l => again (.builtin "list.__iadd__" ⟨[l, .ref S], []⟩)) _ _ s
  refine wpAny_bind (wpAny_newObj_type ?_)
  refine wpAny_pure ⟨plainId_quiet PySem.F.plain_list_iadd _, codeAny_builtin entry_list_iadd' ?_⟩
  rw [Around.under_plainId PySem.F.plain_list_iadd _]
  have hL : (s.heap.push { cls := .type "list", data := .seq ([] : List Value).toArray }).get? s.heap.objs.size = some { cls := .type "list", data := .seq #[] } := Heap.get?_push_size _ rfl
  show wpAny _ A.in1 (Builtin.List.listExtendWith (.ref s.heap.objs.size) (.ref S) (.ref s.heap.objs.size)) _ _ _
  have key := set_extend (A := A) (s := { s with heap := s.heap.push { cls := .type "list", data := .seq ([] : List Value).toArray } })
    (R := fun (q : Result) (s' : Shared) => ∃ (h' : Heap) (tk : Nat) (d : Drawn) (acc' : Array Value) (c' : Nat), q = .ok (.ret (.ref s.heap.objs.size)) ∧ s' = { s with heap := h', toks := tk, drawn := d } ∧
      (∀ b o, s.heap.get? b = some o → h'.get? b = some o) ∧ h'.get? s.heap.objs.size = some { cls := .type "list", dict := none, data := .seq acc' c', slots := #[] } ∧ acc'.toList.Perm (es.toList.map (·.2)))
    hh (hS.keep fun o e => Heap.get?_push_of_some _ e) (Nat.ne_of_gt hlt) (.ref s.heap.objs.size) 0 hL
    (fun h' tk d acc' c' hk hS' hacc => ⟨h', tk, d, acc', c', rfl, rfl, fun b o e => hk b o (Nat.ne_of_lt (Heap.lt_size e)) (Heap.get?_push_of_some _ e), hS', hacc⟩)
  refine wpAny_mono key (fun fin s' x => ?_) fun e s' x => ?_
  · cases fin with
    | done f =>
      obtain ⟨h', tk, d, acc', c', e, rfl, hk, hS', hacc⟩ := x
      cases e
      show wpAny _ A (load s.heap.objs.size >>= _) _ _ _
      refine wpAny_bind (wpAny_load hS' ?_)
      exact wpAny_pure (h h' tk d acc'.toList (Nat.le_of_lt (Heap.lt_size hS')) hk hacc)
    | again c₁ =>
      refine ⟨x.1, codeAny_mono x.2 fun q s₂ y => ?_⟩
      obtain ⟨h', tk, d, acc', c', rfl, rfl, hk, hS', hacc⟩ := y
      show wpAny _ A (load s.heap.objs.size >>= _) _ _ _
      refine wpAny_bind (wpAny_load hS' ?_)
      exact wpAny_pure (h h' tk d acc'.toList (Nat.le_of_lt (Heap.lt_size hS')) hk hacc)
  · obtain ⟨_, _, _, _, _, e', _⟩ := x
    cases e'
/-- sorted(a set): then the list is sorted -/
theorem set_sorted {S : Addr} {ks : List Key} {es : Array (Int × Value)} {ep : Nat} {t : SetTable} {Q : Value → Shared → Prop} (hh : A.handled = none) (hS : SetR prog w s.heap S ks es ep t)
    (h : ∀ (h' : Heap) (tk : Nat) (d : Drawn) (vs : List Value), s.heap.objs.size ≤ h'.objs.size → (∀ b o, s.heap.get? b = some o → h'.get? b = some o) → vs.Perm (es.toList.map (·.2)) →
      wpAny (model prog w) A.in1 (call (.builtin "list.sort") [.ref h'.objs.size]) (fun _ s' => Q (.ref h'.objs.size) s') E { s with heap := h'.push (seqObj "list" vs.toArray 0), toks := tk, drawn := d }) :
    wpAny (model prog w) A (call (.builtin "sorted") [.ref S]) Q E s := by
  refine Calls.call_function_entry kind_sorted plain_sorted entry_sorted (args_sorted1 _) ?_
  unfold Builtin.«sorted»
  refine wpAny_bind (m := checkCount "sorted" 1 1 _) (wpAny_pure ?_)
  refine wpAny_bind (set_collect (A := A.in1) hh hS fun h' tk d vs hz hk hp => ?_)
  have hl : vs.length ≤ sizeLine := by rw [hp.length_eq, List.length_map, Array.length_toList]; exact fits_of_scanBound hS.few
  refine wpAny_bind (wpAny_newList ?_ hl)
  refine wpAny_bind (wpAny_holding (wpAny_mono (h h' tk d vs hz hk hp) (fun _ s' x => ?_) fun _ _ e => e))
  exact wpAny_pure ⟨_, rfl, x⟩
end
end L2

set_option maxHeartbeats 8000000
namespace L2
open PySem PySem.Spec PyProof.Rows
def ltS (x y : Str) : Prop := x.cps.toList < y.cps.toList
theorem boot_set' : bootBuiltins "set" = some (.type "set") := by kernel_rfl
theorem ltS_of {x y : Str} (h : ¬ y.cps.toList < x.cps.toList) (n : x ≠ y) : ltS x y := by
  unfold ltS
  have hle : x.cps.toList ≤ y.cps.toList := List.not_lt.mp h
  refine Decidable.byContradiction fun h2 => n ?_
  have hle2 : y.cps.toList ≤ x.cps.toList := List.not_lt.mp h2
  have e := List.le_antisymm hle hle2
  cases x; cases y
  simp at e
  subst e
  rfl
theorem out_str {vs : List Value} {ss : List Str} (hS : StrsAre vs ss) {xs : Array Keyed} (hp : xs.Perm (pairsOf vs)) (hs : SortedToK strKind xs (pairsOf vs).size) :
    ∃ ss', StrsAre (xs.map (·.2)).toList ss' ∧ ss'.Perm ss ∧ ss'.Pairwise fun a b => ¬ b.cps.toList < a.cps.toList := by
  have hl : xs.toList.Perm (vs.zip vs) := by rw [← pairsOf_toList]; exact Array.perm_iff_toList_perm.mp hp
  have hmem : ∀ p, p ∈ xs.toList → p.1 = p.2 ∧ p.1 ∈ vs := fun p hp' => mem_zip_self (hl.mem_iff.mp hp')
  refine ⟨xs.toList.map (fun p => strOf p.1), ?_, ?_, ?_⟩
  · have e : (xs.map (·.2)).toList = xs.toList.map (·.1) := by
      rw [Array.toList_map]; exact List.map_congr_left fun p hp' => (hmem p hp').1.symm
    rw [e]
    have h1 := strsAre_map (xs.toList.map (·.1)) (by
      intro v hv
      obtain ⟨p, hp', rfl⟩ := List.mem_map.mp hv
      exact hS.all _ (hmem p hp').2)
    rwa [List.map_map] at h1
  · have h1 := hl.map (fun p => strOf p.1)
    have e2 : (vs.zip vs).map (fun p => strOf p.1) = ss := by
      have : (vs.zip vs).map (fun p => strOf p.1) = ((vs.zip vs).map Prod.fst).map strOf := by rw [List.map_map]; rfl
      rw [this, List.map_fst_zip (Nat.le_refl _), hS.strs]
    rwa [e2] at h1
  · rw [List.pairwise_iff_getElem]
    intro i j hi hj hij
    have hi' : i < xs.size := by simpa using hi
    have hj' : j < xs.size := by simpa using hj
    have h1 := hs i j (Nat.le_of_lt hij) (by rw [← hp.size_eq]; exact hj')
    obtain ⟨x, t, ex⟩ := hS.all _ (hmem xs[i] (by simp)).2
    obtain ⟨y, u, ey⟩ := hS.all _ (hmem xs[j] (by simp)).2
    rw [KK_str hi' (x := x) (t := t) (q := xs[i].2) (Prod.ext ex rfl), KK_str hj' (x := y) (t := u) (q := xs[j].2) (Prod.ext ey rfl)] at h1
    change decide (y.cps.toList < x.cps.toList) = false at h1
    simp only [List.getElem_map, Array.getElem_toList]
    rw [show strOf xs[i].1 = x by rw [ex]; rfl, show strOf xs[j].1 = y by rw [ey]; rfl]
    exact of_decide_eq_false h1
section
variable {prog : Program} {w : World} {A : Around} {E : Value → Shared → Prop} {s : Shared}
theorem sort_ints {a : Addr} {vs : List Value} {ns : List Int} {Q : Value → Shared → Prop} (ho : s.heap.get? a = some (seqObj "list" vs.toArray 0)) (hI : IntsAre vs ns) (h64 : vs.length < 64)
    (h : ∀ (out : Array Value) (ns' : List Int), IntsAre out.toList ns' → ns'.Perm ns → ns'.Pairwise (· ≤ ·) → Q .none { s with heap := sortedHeap s.heap a vs out }) : wpAny (model prog w) A (call (.builtin "list.sort") [.ref a]) Q E s :=
  wpAny_call_entry slot_list_sort ⟨_, ho, rfl⟩ entry_list_sort (list_sort_tree ho hI h64 fun out ns' a1 a2 a3 => ⟨_, rfl, h out ns' a1 a2 a3⟩) (args_list_sort _)
theorem sort_strs {a : Addr} {vs : List Value} {ss : List Str} {Q : Value → Shared → Prop} (ho : s.heap.get? a = some (seqObj "list" vs.toArray 0)) (hS : StrsAre vs ss) (h64 : vs.length < 64)
    (h : ∀ (out : Array Value) (ss' : List Str), StrsAre out.toList ss' → ss'.Perm ss → (ss'.Pairwise fun a b => ¬ b.cps.toList < a.cps.toList) → Q .none { s with heap := sortedHeap s.heap a vs out }) : wpAny (model prog w) A (call (.builtin "list.sort") [.ref a]) Q E s :=
  wpAny_call_entry slot_list_sort ⟨_, ho, rfl⟩ entry_list_sort (list_sort_treeK strKind_oneLt ho hS.keysOf (fun v₁ v₂ rest e => keyKind_strs (by rw [← e]; exact hS)) h64 fun st' hp hs => ⟨_, rfl, by
    obtain ⟨ss', h1, h2, h3⟩ := out_str hS hp hs
    exact h _ ss' h1 h2 h3⟩) (args_list_sort _)
end
/-- what is told of sorted(set(xs)) -/
def SortedOf (xs ys : List V) : Prop :=
  (∃ ns ms : List Int, xs = ns.map V.int ∧ ys = ms.map V.int ∧ ms.Pairwise (· < ·) ∧ ∀ n, n ∈ ms ↔ n ∈ ns) ∨ ∃ ns ms : List Str, xs = ns.map V.str ∧ ys = ms.map V.str ∧ ms.Pairwise ltS ∧ ∀ n, n ∈ ms ↔ n ∈ ns
def tSortSet (K : PySem.W.Frag) (te : TE) : TE := fun σ H Q => te σ H fun x H1 => ∃ a xs, x = .ref a ∧ (SqL K H1 a xs ∨ SqT K H1 a xs) ∧ xs.length < 64 ∧ ((∃ ns : List Int, xs = ns.map V.int) ∨ ∃ ss : List Str, xs = ss.map V.str) ∧
  ∀ p ys, H1 p = none → SortedOf xs ys → Q (.ref p) (upd H1 p (.lst ys))
theorem nod_of {ms ms' : List Int} (h : ms.Pairwise (· ≤ ·)) (n : ms.Nodup) : ms.Pairwise (· < ·) := by
  rw [List.pairwise_iff_getElem] at h ⊢
  intro i j hi hj hij
  have h1 := h i j hi hj hij
  have h2 := List.pairwise_iff_getElem.mp n i j hi hj hij
  omega
theorem ints_of {ns : List Int} : ∀ {us : List Value}, Vals (ns.map V.int) us → IntsAre us ns := by
  induction ns with
  | nil => intro us r; cases r; exact .nil
  | cons y ys ih =>
    intro us r
    cases r with
    | cons h t =>
      obtain ⟨tk, rfl⟩ := h
      exact .cons _ _ (ih t)
theorem vals_intsA {ns : List Int} : ∀ {us : List Value}, IntsAre us ns → Vals (ns.map V.int) us := by
  induction ns with
  | nil => intro us r; cases r; exact .nil
  | cons y ys ih => intro us r; cases r with | cons _ t r => exact .cons ⟨t, rfl⟩ (ih r)
theorem vals_strs' {ns : List Str} : ∀ {us : List Value}, StrsAre us ns → Vals (ns.map V.str) us := by
  induction ns with
  | nil => intro us r; cases r; exact .nil
  | cons y ys ih => intro us r; cases r with | cons _ t r => exact .cons ⟨t, rfl⟩ (ih r)

def keyV : V → Key
  | .int n => .inl n
  | .str x => .inr x
  | _ => .inl 0
def keyAt (xs : List V) (i : Nat) : Key := ((xs[i]?).map keyV).getD (.inl 0)
theorem mem_keyAt {xs : List V} {k : Key} : k ∈ metK (keyAt xs) xs.length ↔ ∃ x ∈ xs, keyV x = k := by
  rw [mem_metK]
  constructor
  · rintro ⟨j, hj, e⟩
    refine ⟨xs[j], List.getElem_mem hj, ?_⟩
    unfold keyAt at e
    rw [List.getElem?_eq_getElem hj] at e
    exact e
  · rintro ⟨x, hx, e⟩
    obtain ⟨j, hj, rfl⟩ := List.mem_iff_getElem.mp hx
    refine ⟨j, hj, ?_⟩
    unfold keyAt
    rw [List.getElem?_eq_getElem hj]
    exact e
theorem keyAt_is {xs : List V} {its : List Value} (r : Vals xs its) (hx : ∀ x ∈ xs, (∃ n, x = .int n) ∨ ∃ y, x = .str y) (i : Nat) (v : Value) (e : its.toArray[i]? = some v) : keyIs (keyAt xs i) v = true ∧ v.scannable = true := by
  have e' : its[i]? = some v := by simpa using e
  have hl := r.length
  have hi : i < xs.length := by rw [hl]; exact (List.getElem?_eq_some_iff.mp e').1
  obtain ⟨u, hu, ru⟩ := r.get (List.getElem?_eq_getElem hi)
  rw [e'] at hu
  cases hu
  have ek : keyAt xs i = keyV xs[i] := by unfold keyAt; rw [List.getElem?_eq_getElem hi]; rfl
  rw [ek]
  rcases hx xs[i] (List.getElem_mem hi) with ⟨n, q⟩ | ⟨y, q⟩
  · rw [q] at ru ⊢
    obtain ⟨t, rfl⟩ := ru
    exact ⟨keyIs_int n t, rfl⟩
  · rw [q] at ru ⊢
    obtain ⟨t, rfl⟩ := ru
    exact ⟨keyIs_str y t, rfl⟩
section
variable {X : Cx} {e : Expr} {te : TE} {p1 p2 pos pos2 : Pos}
theorem sortset_run {pins : List (Addr × Obj)} {σ : St} {H : Hp} {s : Shared} {Q : VK} {S : Addr} {xs : List V} {es : Array (Int × Value)} {ep : Nat} {t : SetTable} (hc : X.calm = true) (I : Inv X pins σ H s) (hS : SetR X.prog X.w s.heap S (metK (keyAt xs) xs.length) es ep t) (h64 : xs.length < 64)
    (hx : (∃ ns : List Int, xs = ns.map V.int) ∨ ∃ ss : List Str, xs = ss.map V.str) (q : ∀ p ys, H p = none → SortedOf xs ys → Q (.ref p) (upd H p (.lst ys))) :
    wpAny (model X.prog X.w) X.A (call (.builtin "sorted") [.ref S]) (EP X pins σ Q) X.xe s := by
  refine set_sorted (I.ok.hd hc) hS fun h' tk d vs hz hk hp => ?_
  have hn : H h'.objs.size = none := I.hok.fresh hz
  have hperm : (vs.map kOf).Perm (metK (keyAt xs) xs.length) := by
    refine (hp.map kOf).trans ?_
    rw [List.map_map]
    exact hS.keys
  have hlen : vs.length < 64 := by
    have h1 := hperm.length_eq
    have h2 := metK_len (keyAt xs) xs.length
    rw [List.length_map] at h1
    omega
  have hel : ∀ v ∈ vs, ∃ k, keyIs k v = true ∧ k ∈ metK (keyAt xs) xs.length := fun v hv => by
    obtain ⟨e, he, rfl⟩ := List.mem_map.mp (hp.mem_iff.mp hv)
    obtain ⟨⟨k, hk', _⟩, _⟩ := hS.els e he
    exact ⟨k, hk', hS.mem.mp ⟨e, he, hk'⟩⟩
  have hob : (h'.push (seqObj "list" vs.toArray 0)).get? h'.objs.size = some (seqObj "list" vs.toArray 0) := Heap.get?_push_size _ rfl
  -- the end
  have fin : ∀ (ys : List V) (out : Array Value), Vals ys out.toList → ys.length < 64 → SortedOf xs ys → EP X pins σ Q (.ref h'.objs.size) { s with heap := sortedHeap (h'.push (seqObj "list" vs.toArray 0)) h'.objs.size vs out, toks := tk, drawn := d } := fun ys out r hl so => by
    have keep : ∀ b o, s.heap.get? b = some o → (sortedHeap (h'.push (seqObj "list" vs.toArray 0)) h'.objs.size vs out).get? b = some o := fun b o e => by
      have hb := hk b o e
      have hlt := Heap.lt_size hb
      rw [sortedHeap_old (Nat.ne_of_lt hlt) (by rw [size_push']; exact Nat.lt_succ_of_lt hlt)]
      exact Heap.get?_push_of_some _ hb
    obtain ⟨c, hat⟩ : ∃ c, (sortedHeap (h'.push (seqObj "list" vs.toArray 0)) h'.objs.size vs out).get? h'.objs.size = some (seqObj "list" out c) := sortedHeap_at hob
    have hobj : ObjOk X.prog X.w (upd H h'.objs.size (.lst ys)) (sortedHeap (h'.push (seqObj "list" vs.toArray 0)) h'.objs.size vs out) h'.objs.size (.lst ys) := ⟨by rw [sizeLine_eq]; omega, out.toList, c, r, by rw [hat]⟩
    refine ⟨.ref h'.objs.size, upd H h'.objs.size (.lst ys), ?_, rfl, q _ _ hn so⟩
    exact I.call' (s' := { s with heap := sortedHeap (h'.push (seqObj "list" vs.toArray 0)) h'.objs.size vs out, toks := tk, drawn := d }) (ch := []) rfl (Un.laid keep hz hn) (I.hok.laid keep hz hobj) I.bare fun b hb => absurd hb (by simp)
  rcases hx with ⟨ns, rfl⟩ | ⟨ss, rfl⟩
  · have hint : ∀ v ∈ vs, ∃ n t, v = Value.int n t := fun v hv => by
      obtain ⟨k, hk1, hk2⟩ := hel v hv
      obtain ⟨x, hx, e⟩ := mem_keyAt.mp hk2
      obtain ⟨n, hn', rfl⟩ := List.mem_map.mp hx
      subst e
      rcases keyIs_shape hk1 with ⟨i, t, e1, e2⟩ | ⟨y, t, e1, e2⟩
      · exact ⟨i, t, e2⟩
      · cases e1
    have hI := intsAre_map vs hint
    refine sort_ints hob hI hlen fun out ns' a1 a2 a3 => ?_
    have ek : vs.map kOf = (vs.map numOf).map Sum.inl := by
      rw [List.map_map]
      refine List.map_congr_left fun v hv => ?_
      obtain ⟨n, t, rfl⟩ := hint v hv
      rfl
    have hnod : ns'.Nodup := by
      refine a2.nodup_iff.mpr ?_
      have h1 := hperm.nodup_iff.mpr hS.nod
      rw [ek] at h1
      exact (List.pairwise_map.mp h1).imp fun hne e => hne (congrArg _ e)
    refine fin (ns'.map V.int) out (vals_intsA a1) (by rw [List.length_map, a2.length_eq, List.length_map]; exact hlen) (.inl ⟨ns, ns', rfl, rfl, nod_of (ms' := []) a3 hnod, fun n => ?_⟩)
    rw [a2.mem_iff]
    have : n ∈ vs.map numOf ↔ (Sum.inl n : Key) ∈ vs.map kOf := by
      rw [ek]
      constructor
      · exact fun h => List.mem_map.mpr ⟨n, h, rfl⟩
      · intro h
        obtain ⟨m, hm, e⟩ := List.mem_map.mp h
        cases e
        exact hm
    rw [this, hperm.mem_iff, mem_keyAt]
    constructor
    · rintro ⟨x, hx, e⟩
      obtain ⟨m, hm, rfl⟩ := List.mem_map.mp hx
      cases e
      exact hm
    · exact fun h => ⟨.int n, List.mem_map.mpr ⟨n, h, rfl⟩, rfl⟩
  · have hstr : ∀ v ∈ vs, ∃ n t, v = Value.str n t := fun v hv => by
      obtain ⟨k, hk1, hk2⟩ := hel v hv
      obtain ⟨x, hx, e⟩ := mem_keyAt.mp hk2
      obtain ⟨n, hn', rfl⟩ := List.mem_map.mp hx
      subst e
      rcases keyIs_shape hk1 with ⟨i, t, e1, e2⟩ | ⟨y, t, e1, e2⟩
      · cases e1
      · exact ⟨y, t, e2⟩
    have hI := strsAre_map vs hstr
    refine sort_strs hob hI hlen fun out ns' a1 a2 a3 => ?_
    have ek : vs.map kOf = (vs.map strOf).map Sum.inr := by
      rw [List.map_map]
      refine List.map_congr_left fun v hv => ?_
      obtain ⟨n, t, rfl⟩ := hstr v hv
      rfl
    have hnod : ns'.Nodup := by
      refine a2.nodup_iff.mpr ?_
      have h1 := hperm.nodup_iff.mpr hS.nod
      rw [ek] at h1
      exact (List.pairwise_map.mp h1).imp fun hne e => hne (congrArg _ e)
    refine fin (ns'.map V.str) out (vals_strs' a1) (by rw [List.length_map, a2.length_eq, List.length_map]; exact hlen) (.inr ⟨ss, ns', rfl, rfl, ?_, fun n => ?_⟩)
    · rw [List.pairwise_iff_getElem] at a3 ⊢
      intro i j hi hj hij
      exact ltS_of (a3 i j hi hj hij) (List.pairwise_iff_getElem.mp hnod i j hi hj hij)
    rw [a2.mem_iff]
    have : n ∈ vs.map strOf ↔ (Sum.inr n : Key) ∈ vs.map kOf := by
      rw [ek]
      constructor
      · exact fun h => List.mem_map.mpr ⟨n, h, rfl⟩
      · intro h
        obtain ⟨m, hm, e⟩ := List.mem_map.mp h
        cases e
        exact hm
    rw [this, hperm.mem_iff, mem_keyAt]
    constructor
    · rintro ⟨x, hx, e⟩
      obtain ⟨m, hm, rfl⟩ := List.mem_map.mp hx
      cases e
      exact hm
    · exact fun h => ⟨.str n, List.mem_map.mpr ⟨n, h, rfl⟩, rfl⟩
/-- sorted(set(e)) -/
theorem pe_sortset (hc : X.calm = true) (hg1 : Gl X "sorted") (hm1 : X.mg "sorted" = none) (hg2 : Gl X "set") (hm2 : X.mg "set" = none) (he : PE X e te) (hs1 : starEach [e] X.env = [(false, eval e X.env)] := by rfl)
    (hs2 : starEach [Expr.Call (.Name "set" p2) [e] [] pos2] X.env = [(false, eval (.Call (.Name "set" p2) [e] [] pos2) X.env)] := by rfl) :
    PE X (.Call (.Name "sorted" p1) [.Call (.Name "set" p2) [e] [] pos2] [] pos) (tSortSet X.K te) := by
  intro pins s σ H Q I h
  refine wpAny_Call_Name_kw (ld_blt I hg1 hm1 boot_sorted ?_ (by decide) (by decide))
  refine PyProof.Rows.callWith_builtin1 ?_ hs2 rfl
  rw [hs2]
  refine Calls.spliced_cons ?_
  refine wpAny_Call_Name_kw (ld_blt I hg2 hm2 boot_set' ?_ (by decide) (by decide))
  refine PyProof.Rows.callWith_type1 ?_ hs1 rfl
  rw [hs1]
  refine Calls.spliced_cons (thn (he pins s σ H _ I h) fun u s1 ⟨x, H1, I1, r1, a, xs, ex, hsq, h64, hx, q⟩ => ?_)
  refine Calls.spliced_nil ?_
  subst ex
  cases r1
  have hx' : ∀ x ∈ xs, (∃ n, x = .int n) ∨ ∃ y, x = .str y := fun x hxm => by
    rcases hx with ⟨ns, rfl⟩ | ⟨ss, rfl⟩
    · obtain ⟨n, _, rfl⟩ := List.mem_map.mp hxm; exact .inl ⟨n, rfl⟩
    · obtain ⟨n, _, rfl⟩ := List.mem_map.mp hxm; exact .inr ⟨n, rfl⟩
  have go : ∀ {T : String} {its : List Value} {o : Obj}, SetSrc X.prog X.w T a its.toArray → Vals xs its → s1.heap.get? a = some o → o.cls = .type T → (∃ n, o.data = .seq its.toArray n) →
      wpAny (model X.prog X.w) X.A (call (.type "set") [.ref a]) (fun v s2 => wpAny (model X.prog X.w) X.A (spliced []) (fun vs s3 => wpAny (model X.prog X.w) X.A (call (.builtin "sorted") (v :: vs)) (EP X pins σ Q) X.xe s3) X.xe s2) X.xe s1 := fun {T its o} src r ho hcl hd => by
    have hl := r.length
    refine call_set_of (key := keyAt xs) src (I1.ok.hd hc) ho hcl hd (keyAt_is r hx') (by simp [scanBound]; omega) fun h' tk es ep t hS hk => ?_
    refine Calls.spliced_nil ?_
    have esz : its.toArray.size = xs.length := by rw [List.size_toArray, hl]
    rw [esz] at hS
    exact sortset_run hc (I1.kept (t' := tk) hk) hS h64 hx q
  rcases hsq with hsq | hsq
  · obtain ⟨its, r, pl, _⟩ := I1.list hsq
    obtain ⟨o, ho, hcl, hd⟩ := pl.isList
    exact go src_list r ho hcl hd
  · obtain ⟨its, r, pl, _⟩ := I1.tuple hsq
    obtain ⟨o, ho, hcl, hd⟩ := pl
    exact go src_tup r ho hcl hd
end
end L2

set_option maxHeartbeats 4000000
namespace PySem
open Sem (wp)
section
variable {prog : Program} {w : World} {A : Around} {E : Value → Shared → Prop} {h : Heap} {g : Array GenState} {d : Drawn} {t : Nat} {os : OsState}
variable {nm q : Str} {C N : Addr} {bs bm bmB : List Value} {hdct : Bool} {sn : List Str} {sub : List Value} {ab : Bool} {col : Option Bool} {dd : Option Addr} {k0 k1 k2 k3 k5 : Option Value} {B newId initId : String}

theorem type_call_exc_initT (F : ExcBaseFacts B newId initId bmB) (T : OwnTail h bmB bm) {mN : Str → Option Value} {rest : List Value} {fI : Addr} {oI : Obj} {Q : Fin → Shared → Prop}
    (hC : h.get? C = some (excClassObj nm q C N bs bm hdct sn sub ab col dd k0 k1 k2 k3 k5 newId)) (hn : h.Ns N mN) (hi : mN "__init__" = some (.ref fI))
    (hfI : h.get? fI = some oI) (hfc : oI.cls = .type "function")
    (hq : ∀ h' e, Heap.MadeExcOf h h' e (.ref C) rest →
      wpAny (model prog w) A (call (.ref fI) (.ref e :: rest)) (fun r s' => r = .none ∧ Q (.done (.ret (.ref e))) s') E ⟨h', g, d, t, os⟩) (hrest : rest.length ≤ sizeLine := by size_fits) :
    wpAny (model prog w) A (Builtin.«type.__call__» ⟨.ref C :: rest, []⟩) Q E ⟨h, g, d, t, os⟩ := by
  repeat (first | with_reducible refine wpAny_loadPart_at hC ?_ | with_reducible refine wpAny_madeBy_exc hC ?_ | wp_step)
  refine codeAny_call_builtin_code (Code.quiet_builtin _ F.quiet) (wpAny_check_new_subT F T hC ?_)
  refine codeAny_exc_new_subT F T hC ?_ hrest
  show wpAny _ _ _ _ _ _
  have hC₁ := Heap.get?_push_of_some { cls := .ref C, data := .fields #[.ref h.objs.size, .none, .none, .none, .bool false, .none] }
    (Heap.get?_push_of_some { cls := .type "tuple", data := .seq rest.toArray } hC)
  have hfI₁ := Heap.get?_push_of_some { cls := .ref C, data := .fields #[.ref h.objs.size, .none, .none, .none, .bool false, .none] }
    (Heap.get?_push_of_some { cls := .type "tuple", data := .seq rest.toArray } hfI)
  have hn₁ : ((h.push { cls := .type "tuple", data := .seq rest.toArray }).push { cls := .ref C, data := .fields #[.ref h.objs.size, .none, .none, .none, .bool false, .none] }).Ns N mN :=
    let ⟨o, es, ep, e, r⟩ := hn; ⟨o, es, ep, Heap.get?_push_of_some _ (Heap.get?_push_of_some _ e), r⟩
  have hget : ((h.push { cls := .type "tuple", data := .seq rest.toArray }).push
      { cls := .ref C, data := .fields #[.ref h.objs.size, .none, .none, .none, .bool false, .none] }).get? (h.objs.size + 1) = some
      { cls := .ref C, data := .fields #[.ref h.objs.size, .none, .none, .none, .bool false, .none] } := by heap_get
  have hcC : (Value.ref C :: bm).contains (.ref C) = true := by simp
  have T₁ := T.keeps (h' := (h.push { cls := .type "tuple", data := .seq rest.toArray }).push { cls := .ref C, data := .fields #[.ref h.objs.size, .none, .none, .none, .bool false, .none] })
    fun b o e => Heap.get?_push_of_some _ (Heap.get?_push_of_some _ e)
  unfold isInstance
  repeat (first | with_reducible refine wpAny_loadPart_at hget ?_ | (with_reducible refine wpAny_isSubtype_exc hC₁ ?_; rw [hcC]) | wp_step)
  show wpAny _ _ (typeLookup (.ref C) _) _ _ _
  refine wpAny_typeLookup_tail hC₁ hn₁ T₁ F.mroIs F.init.lookup ?_
  rw [hi]
  refine wpAny_holding (wpAny_bind ?_)
  unfold bindSpecial
  refine wpAny_bind (wpAny_typeOf (T := "function") ⟨_, hfI₁, hfc⟩ ?_)
  rw [if_pos (by decide)]
  refine wpAny_pure (wpAny_bind (wpAny_mono (hq _ (h.objs.size + 1) ⟨fun b o hb => Heap.get?_push_of_some _ (Heap.get?_push_of_some _ hb), Heap.get?_none_of_le (Nat.le_succ _), h.objs.size, hget, Heap.get?_none_of_le (Nat.le_refl _), ?_⟩) (fun r s' hr => ?_) fun _ _ x => x))
  · exact Heap.get?_push_of_some _ (Heap.get?_push_at rfl rfl)
  · obtain ⟨rfl, hQ⟩ := hr
    wp_walk
    exact hQ

theorem call_exc_initT (F : ExcBaseFacts B newId initId bmB) (T : OwnTail h bmB bm) {mN : Str → Option Value} {rest : List Value} {fI : Addr} {oI : Obj} {Q : Value → Shared → Prop}
    (hC : h.get? C = some (excClassObj nm q C N bs bm hdct sn sub ab col dd k0 k1 k2 k3 k5 newId)) (hn : h.Ns N mN) (hi : mN "__init__" = some (.ref fI))
    (hfI : h.get? fI = some oI) (hfc : oI.cls = .type "function")
    (hq : ∀ h' e, Heap.MadeExcOf h h' e (.ref C) rest →
      wpAny (model prog w) (A.under (.builtin "type.__call__" ⟨.ref C :: rest, []⟩)) (call (.ref fI) (.ref e :: rest)) (fun r s' => r = .none ∧ Q (.ref e) s') E ⟨h', g, d, t, os⟩) (hrest : rest.length ≤ sizeLine := by size_fits) :
    wpAny (model prog w) A (call (.ref C) rest) Q E ⟨h, g, d, t, os⟩ := by
  have f1 := tc_lookup
  have f2 := tc_bind (.ref C)
  have hT : (⟨h, g, d, t, os⟩ : Shared).TypeIs (.ref C) "type" := ⟨_, hC, rfl⟩
  refine wpAny_call (codeAny_of_tree ?_)
  show wpAny _ _ (callAny (.ref C) _) _ _ _
  repeat (any_goals (first | assumption | with_reducible refine wpAny_loadPart_at hC ?_ | wp_step))
  refine ⟨rfl, ?_⟩
  refine codeAny_call_builtin_at (Code.quiet_builtin _ (by decide +kernel)) entry_typeCall (wpAny_check_type_call_sub hC (type_call_exc_initT (hrest := hrest) F T hC hn hi hfI hfc fun h' e hm => ?_))
  exact hq h' e hm
end
end PySem

namespace L2
open PySem PySem.Spec PyProof.Rows
/-! ### exceptions of own classes -/
abbrev bmVE : List Value := [.type "ValueError", .type "Exception", .type "BaseException", .type "object"]
/-- an exception of the class C; its dict -/
abbrev xO (a C : Addr) (od : Option Addr) : HO := .ext fun h => ∃ fl sl, h.get? a = some { cls := .ref C, dict := od, data := .fields fl, slots := sl }
abbrev xD (d : Addr) (fs : List (Str × V)) : HO := .ext fun h => ∃ mA, h.Ns1 d mA ∧ ∀ f, RelO (fs.lookup f) (mA f)
section
variable {P : Program} {w : World} {H : Hp} {h h' : Heap} {a C d : Addr} {od : Option Addr} {fs : List (Str × V)} {o : HO}
theorem xO_ok {fl : Array Value} {sl : Array (Option Value)} (e : h.get? a = some { cls := .ref C, dict := od, data := .fields fl, slots := sl }) : ObjOk P w H h a (xO a C od) :=
  ⟨⟨fl, sl, e⟩, ⟨_, e⟩, fun _ _ ⟨fl, sl, e⟩ k => ⟨fl, sl, k _ e⟩⟩
theorem xD_ok {mA : Str → Option Value} (n : h.Ns1 d mA) (r : ∀ f, RelO (fs.lookup f) (mA f)) : ObjOk P w H h d (xD d fs) :=
  ⟨⟨mA, n, r⟩, (let ⟨o, _, _, e, _⟩ := n; ⟨o, e⟩), fun _ _ ⟨mA, ⟨o, es, ep, e, rest⟩, r⟩ k => ⟨mA, ⟨o, es, ep, k _ e, rest⟩, r⟩⟩
theorem ObjOk.there (x : ObjOk P w H h a o) : ∃ u, h.get? a = some u := by
  cases o with
  | lst xs => obtain ⟨_, _, _, _, e⟩ := x; exact ⟨_, e⟩
  | tup xs => obtain ⟨_, _, _, p⟩ := x; obtain ⟨o, e, _⟩ := p; exact ⟨_, e⟩
  | dK kvs => obtain ⟨_, _, _, _, o, _, _, e, _⟩ := x; exact ⟨_, e⟩
  | dT kvs => obtain ⟨_, _, _, _, o, _, _, e, _⟩ := x; exact ⟨_, e⟩
  | set S n => obtain ⟨o, _, _, _, e, _⟩ := x; exact ⟨_, e⟩
  | ins C dx fs => obtain ⟨_, _, _, e, _⟩ := x; exact ⟨_, e⟩
  | own y => obtain ⟨_, e⟩ := x; exact ⟨_, e⟩
  | xd fs => obtain ⟨_, ⟨_, _, _, e, _⟩, _⟩ := x; exact ⟨_, e⟩
  | rng lo hi => obtain ⟨_, _, _, e⟩ := x; exact ⟨_, e⟩
  | frz ob u => obtain ⟨e, _⟩ := x; exact ⟨_, e⟩
  | tbl ps => exact ⟨_, (show h.get? a = some _ from x)⟩
  | met f y => exact ⟨_, (show h.get? a = some _ from x)⟩
  | ext φ => obtain ⟨_, ⟨_, e⟩, _⟩ := x; exact ⟨_, e⟩
theorem HOk.none_of (x : HOk P w H h) (e : h.get? a = none) : H a = none := by
  cases q : H a with
  | none => rfl
  | some u =>
    obtain ⟨v, z⟩ := (x a u q).there
    rw [e] at z; cases z
theorem HOk.laidN (x : HOk P w H h) (k : ∀ b u, h.get? b = some u → h'.get? b = some u) (hp : h.get? a = none) (new : ObjOk P w (upd H a o) h' a o) : HOk P w (upd H a o) h' := fun b u e => by
  have hn := x.none_of hp
  by_cases hb : b = a
  · subst hb; rw [upd_same] at e; cases e; exact new
  · rw [upd_ne hb] at e
    exact (x b u e).stay (fun c v _ q => k c v q) (fun c q => by rw [upd_ne (ne_of_none q hn)]; exact q) fun c xs q => by rw [upd_ne (ne_of_none q hn)]; exact q
theorem Un.laidN {fs ex : List Addr} (k : ∀ b u, h.get? b = some u → h'.get? b = some u) (hp : h.get? a = none) (hn : H a = none) : Un fs ex H (upd H a o) h h' where
  keep := fun b u q _ _ _ => k b u q
  slot := fun b u q _ _ _ => ⟨u.slots, k b u q⟩
  free := fun b u q n _ => by rw [upd_ne (fun e => by rw [e, hp] at q; cases q)]; exact n
  there := fun b u q _ => ⟨u, k b u q⟩
  tups := fun b xs q => by rw [upd_ne (ne_of_none q hn)]; exact q
  frzs := fun b u xs q => by rw [upd_ne (ne_of_none q hn)]; exact q
  tbls := fun b ps q => ⟨#[], by rw [upd_ne (ne_of_none q hn), q]; simp⟩
end
/-- an own exception class, under PE, under ValueError -/
structure XCls (K : PySem.W.Frag) (C : Addr) : Prop where
  cls : ∃ cd PE, PySem.W.clsIn K C = some cd ∧ cd.mro = .ref C :: .ref PE :: bmVE ∧ cd.hasDict = true
  mo : PySem.W.mroIn K C (.type "object") = some true
  sa : PySem.W.findIn K (.ref C) "__setattr__" = some (some (.builtin "object.__setattr__"))
  ga : PySem.W.findIn K (.ref C) "__getattribute__" = some (some (.builtin "BaseException.__getattribute__"))
  gh : PySem.W.findIn K (.ref C) "__getattr__" = some none
  mb : PySem.W.mroIn K C (.type "BaseException") = some true
  ca : PySem.W.findIn K (.ref C) "__class__" = some (some (.builtin "object.__class__"))
  cg : PySem.W.specialIn K (.builtin "object.__class__") "__get__" = some (some (.builtin "getset_descriptor.__get__"))
  ct : PySem.W.takesIn K (.builtin "object.__class__") = some true
theorem XCls.hd {K : PySem.W.Frag} {C : Addr} (c : XCls K C) : PySem.W.hasDictIn K C = true := by
  obtain ⟨cd, PE, e, _, h⟩ := c.cls
  unfold PySem.W.hasDictIn
  rw [e]
  exact h

section
variable {prog : Program} {w : World} {A : Around} {E : Value → Shared → Prop} {R : Result → Shared → Prop} {s : Shared} {K : PySem.W.Frag} {x C : Addr} {ox : Obj} {od : Option Obj} {name : Str} {tk : Tok} {v : Value}
theorem osa_openX (c : XCls K C) (X : K.In s.heap) (I : PySem.W.InstAt s.heap x ox C od) (ht : PySem.W.findIn K (.ref C) name = some none)
    (h : ∀ b, wpAny (model prog w) A.in1 (Builtin.ObjectAttr.storeInOwnDict (.ref x) (.ref C) (.str name tk) name v b)
      (fun fin s' => match fin with | .done f => R (.ok f) s' | .again c' => c'.quiet = true ∧ codeAny (model prog w) A c' R s') (fun e s' => R (.error e) s') s) :
    codeAny (model prog w) A (.call (.builtin "object.__setattr__") ⟨[.ref x, .str name tk, v], []⟩) R s := by
  have SF := PySem.F.store_object
  obtain ⟨cd, PE, hc, hmro, _⟩ := c.cls
  have sub : PySem.W.Looks (model prog w) s.heap (isInstance (.ref x) (.type "object")) true := I.type.andThen (PySem.W.looks_mroIn X c.mo)
  refine codeAny_call_builtin SF.slot.plain SF.entry (@PySem.W.check_slot (model prog w) _ _ s "object.__setattr__" "object" "__setattr__" (.ref x) [.str name tk, v] [] _ SF.kind SF.split sub (SF.args (.ref x) (.str name tk) v) ?_)
  have hm : PySem.W.Looks (model prog w) s.heap (mroOf (.ref C)) cd.mro := (PySem.W.looks_clsIn X hc).andThen .now
  have L3 : PySem.W.Looks (model prog w) s.heap (Builtin.ObjectAttr.storeTaker? none) none := .now
  rw [PySem.W.osa_eq, refuse_eq]
  refine wpAny_bind (wpAny_bind (I.type.here (wpAny_bind (hm.here ?_))))
  rw [hmro, refuseLoop_ref, refuseLoop_ref, PySem.F.store_ValueError.passes]
  refine wpAny_pure (wpAny_bind (I.type.here (wpAny_bind ((PySem.W.looks_findIn X ht).here (wpAny_bind (L3.here ?_))))))
  exact h _

theorem bga_entry {Q : Fin → Shared → Prop} {r : Builtin.ObjectAttr.Found} (X : K.In s.heap) (I : PySem.W.InstAt s.heap x ox C od) (hf : PySem.W.findObj K C od name = some r)
    (h : wpAny (model prog w) A (match r with | .value v => ret v | .bind g a => Builtin.ObjectAttr.bindTo g a (.ref x) (.ref C) | .missing => Builtin.ObjectAttr.noSuchAttribute (.ref x) name) Q E s) :
    wpAny (model prog w) A (Builtin.«object.__getattribute__» ⟨[.ref x, .str name tk], []⟩) Q E s := by
  obtain ⟨hh', g, d, t, os⟩ := s
  have L0 := I.type (M := model prog w)
  have L1 := PySem.W.looks_find (M := model prog w) X I hf
  unfold Builtin.«object.__getattribute__»
  refine wpAny_bind (wpAny_pure ?_)
  refine wpAny_bind (wpAny_pure (wpAny_bind (L0.at (wpAny_bind (L1.at ?_)))))
  cases r with
  | value v => exact h
  | bind g a => exact h
  | missing => exact h
theorem xgetBy {fill expr : Bool} {Q : Value → Shared → Prop} {r : Builtin.ObjectAttr.Found} (c : XCls K C) (X : K.In s.heap) (I : PySem.W.InstAt s.heap x ox C od) (hf : PySem.W.findObj K C od name = some r)
    (h : codeAny (model prog w) A (.call (.builtin "BaseException.__getattribute__") ⟨[.ref x, .str name tk], []⟩) (fun r s' => match r with | .ok (.ret v) => wpAny (model prog w) A (handedOut v) Q E s' | _ => False) s) :
    wpAny (model prog w) A (getAttrBy (.ref x) (.str name tk) fill expr) Q E s := by
  obtain ⟨hh', g, d, t, os⟩ := s
  have L0 := I.type (M := model prog w)
  have L1 := PySem.W.looks_findIn (M := model prog w) X c.ga
  have LH := PySem.W.looks_hook (M := model prog w) (mc := .ref C) (r := none) X (by show PySem.W.findIn K (.ref C) "__getattr__" = _; exact c.gh)
  have hx2 : (Value.builtin "BaseException.__getattribute__" == Value.builtin "object.__getattribute__") = false := by decide +kernel
  have hx1 : (onTheHeap (Value.ref C) && Value.builtin "BaseException.__getattribute__" == Value.builtin "object.__getattribute__") = false := by rw [hx2]; rfl
  have hx0 : (expr && onTheHeap (Value.builtin "BaseException.__getattribute__")) = false := by cases expr <;> rfl
  unfold getAttrBy
  refine wpAny_holding (wpAny_bind (L0.at (wpAny_bind (L1.at ?_))))
  show wpAny _ _ (if (onTheHeap (Value.ref C) && Value.builtin "BaseException.__getattribute__" == Value.builtin "object.__getattribute__") = true then _ else _) _ _ _
  rw [if_neg (by rw [hx1]; exact Bool.false_ne_true)]
  unfold getAttrByItsOwn
  refine wpAny_bind (LH.at (wpAny_bind (wpAny_attempt (wpAny_holding ?_))))
  unfold callGetattribute
  rw [if_neg (by rw [hx0]; exact Bool.false_ne_true)]
  unfold boundAndCalled
  rw [PySem.F.excAttr_ValueError.ga.bind]
  refine wpAny_bind (wpAny_pure (wpAny_call (codeAny_mono h fun r s' z => ?_)))
  rcases r with e | (v | _ | _ | _) <;> first | exact z | exact z.elim
theorem bga_call {r : Builtin.ObjectAttr.Found} (c : XCls K C) (X : K.In s.heap) (I : PySem.W.InstAt s.heap x ox C od) (hf : PySem.W.findObj K C od name = some r)
    (h : wpAny (model prog w) A.in1 (match r with | .value v => ret v | .bind g a => Builtin.ObjectAttr.bindTo g a (.ref x) (.ref C) | .missing => Builtin.ObjectAttr.noSuchAttribute (.ref x) name)
      (fun fin s' => match fin with | .done f => R (.ok f) s' | .again c' => c'.quiet = true ∧ codeAny (model prog w) A c' R s') (fun e s' => R (.error e) s') s) :
    codeAny (model prog w) A (.call (.builtin "BaseException.__getattribute__") ⟨[.ref x, .str name tk], []⟩) R s := by
  have sub : PySem.W.Looks (model prog w) s.heap (isInstance (.ref x) (.type "BaseException")) true := I.type.andThen (PySem.W.looks_mroIn X c.mb)
  exact codeAny_call_builtin PySem.F.excAttr_ValueError.ga.plain PySem.F.entry_bexc_ga (@PySem.W.check_slot (model prog w) _ _ s "BaseException.__getattribute__" "BaseException" "__getattribute__" (.ref x) [.str name tk] [] _ (by decide +kernel) (by decide +kernel) sub (PySem.F.args_bexc_ga _ _) (bga_entry X I hf h))
theorem xget_value {expr : Bool} {Q : Value → Shared → Prop} (c : XCls K C) (X : K.In s.heap) (I : PySem.W.InstAt s.heap x ox C od) (hf : PySem.W.findObj K C od name = some (.value v)) (hh : PySem.W.handedIn v = true) (h : Q v { s with toks := s.toks + 1 }) :
    wpAny (model prog w) A (getAttr (.ref x) name expr) Q E s := by
  unfold getAttr
  refine wpAny_bind (wpAny_mkText (xgetBy (s := { s with toks := s.toks + 1 }) c X I hf (bga_call (s := { s with toks := s.toks + 1 }) c X I hf (wpAny_pure ?_))))
  show wpAny _ _ (handedOut v) _ _ _
  rw [PySem.W.handedOut_of hh]
  exact wpAny_pure h
theorem xget_class {Q : Option Value → Shared → Prop} (c : XCls K C) (X : K.In s.heap) (I : PySem.W.InstAt s.heap x ox C od) (hf : PySem.W.findObj K C od "__class__" = some (.bind (.builtin "getset_descriptor.__get__") (.builtin "object.__class__")))
    (h : Q (some (.ref C)) { s with toks := s.toks + 1 }) : wpAny (model prog w) A (getAttr? (.ref x) "__class__") Q E s := by
  unfold getAttr? getAttrBy?
  refine wpAny_bind (wpAny_mkText (wpAny_bind (wpAny_attempt (xgetBy (s := { s with toks := s.toks + 1 }) c X I hf (bga_call (s := { s with toks := s.toks + 1 }) c X I hf ?_)))))
  show wpAny _ _ (holding [Value.builtin "object.__class__"] (call (.builtin "getset_descriptor.__get__") [.builtin "object.__class__", .ref x, .ref C]) >>= ret) _ _ _
  refine wpAny_bind (wpAny_holding (wpAny_call (PySem.W.class_get (s := { s with toks := s.toks + 1 }) (ox := ox) (od := od) X I c.mo (wpAny_pure ?_))))
  show wpAny _ _ (handedOut (.ref C)) _ _ _
  rw [PySem.W.handedOut_of rfl]
  exact wpAny_pure (wpAny_pure h)
end
end L2

set_option maxHeartbeats 4000000
namespace L2
open PySem PySem.Spec PyProof.Rows
section
variable {X : Cx} {pins : List (Addr × Obj)} {σ : St} {H : Hp} {s : Shared} {a C dx : Addr} {fs : List (Str × V)} {f : Str} {v y : V} {u : Value} {A : Around} {E : Value → Shared → Prop}
theorem xget_ok {b : Bool} {Q : Value → Shared → Prop} (I : Inv X pins σ H s) (e : H a = some (xO a C (some dx))) (ed : H dx = some (xD dx fs)) (c : XCls X.K C) (n : NoAttr X.K C f) (l : fs.lookup f = some v)
    (h : ∀ u s', Inv X pins σ H s' → RelV v u → Q u s') : wpAny (model X.prog X.w) A (getAttr (.ref a) f b) Q E s := by
  obtain ⟨⟨fl, sl, ha⟩, _⟩ := I.hok a _ e
  obtain ⟨⟨mA, ns, r⟩, _⟩ := I.hok dx _ ed
  obtain ⟨od, ho, hl⟩ := lookIn_ns ns
  have J : PySem.W.InstAt s.heap a { cls := .ref C, dict := some dx, data := .fields fl, slots := sl } C (some od) := ⟨ha, rfl, rfl, ho⟩
  have rf := r f
  rw [l] at rf
  obtain ⟨u, eu, ru⟩ := RelO.some_of rf
  exact xget_value c I.kIn J (PySem.W.findObj_own c.hd n rfl (by rw [hl, eu])) (handed_of ru) (h _ _ (I.tok _) ru)
theorem within_of {mA : Str → Option Value} (r : ∀ f, RelO (fs.lookup f) (mA f)) : PySem.Within mA (fs.map (·.1)) := by
  intro g hg
  have rg := r g
  cases e : fs.lookup g with
  | none => rw [e] at rg; exact absurd (RelO.none_of rg) hg
  | some z =>
    clear rg r hg
    induction fs with
    | nil => cases e
    | cons p t ih =>
      obtain ⟨k, w⟩ := p
      rw [List.lookup_cons] at e
      cases hk : g == k with
      | true =>
        have : g = k := by simpa using hk
        subst this
        exact List.mem_cons_self
      | false => rw [hk] at e; exact List.mem_cons_of_mem _ (ih e)
theorem xset1_ok {Q : Unit → Shared → Prop} (I : Inv X pins σ H s) (e : H a = some (xO a C (some dx))) (ed : H dx = some (xD dx fs)) (c : XCls X.K C) (n : NoAttr X.K C f) (hz : fs.length < 1000) (ry : RelV y u)
    (h : ∀ s', Inv X pins σ (upd H dx (xD dx (putF f y fs))) s' → Q () s') : wpAny (model X.prog X.w) A (setAttr (.ref a) f u) Q E s := by
  obtain ⟨⟨fl, sl, ha⟩, _⟩ := I.hok a _ e
  obtain ⟨⟨mA, ns, r⟩, _⟩ := I.hok dx _ ed
  obtain ⟨od, ho, hl⟩ := lookIn_ns ns
  have J : PySem.W.InstAt s.heap a { cls := .ref C, dict := some dx, data := .fields fl, slots := sl } C (some od) := ⟨ha, rfl, rfl, ho⟩
  have wi := within_of r
  have hzz : (fs.map (·.1)).length + 1 ≤ sizeLine := by rw [List.length_map, sizeLine_eq]; omega
  obtain ⟨cd, PE, hc, _, hd'⟩ := c.cls
  refine PySem.W.set_plain I.kIn J c.sa (osa_openX (s := { s with toks := s.toks + 1 }) c I.kIn J n fun b => ?_)
  refine wpAny_bind (wpAny_pure (wpAny_bind (wpAny_bind (wpAny_loadPart ha (wpAny_bind (PySem.W.Looks.here (s := { s with toks := s.toks + 1 }) (PySem.W.looks_clsIn I.kIn hc) ?_))))))
  rw [hd']
  refine wpAny_pure (a := some dx) (wpAny_bind (wpAny_pure (wpAny_bind ?_)))
  refine wpAny_nsSet1 (s := { s with toks := s.toks + 1 }) ns fun h' hn2 hs2 => ?_
  obtain ⟨oD, esD, epD, hoD, hdD, hcD⟩ := hn2.count (PySem.Within.cons f u wi)
  refine wpAny_bind (wpAny_lookBehind hoD (by rw [hdD]; exact pastItsLine_dict (Nat.le_trans hcD (by rw [List.length_cons]; exact Nat.le_succ_of_le hzz))) ?_)
  refine wpAny_pure (h _ ?_)
  refine I.write (x := dx) (e := dx) (by rw [ed]; exact True.intro) (.inl rfl) (fun b q hb z => (hs2.2 b hb).trans z) ⟨_, hoD⟩ (xD_ok hn2 fun g => ?_)
  show RelO ((putF f y fs).lookup g) (if g = f then some u else mA g)
  rw [lookup_putF]
  by_cases q : g = f
  · rw [if_pos q, if_pos q]; exact ry
  · rw [if_neg q, if_neg q]; exact r g
theorem xset0_ok {Q : Unit → Shared → Prop} (I : Inv X pins σ H s) (e : H a = some (xO a C none)) (c : XCls X.K C) (n : NoAttr X.K C f) (ry : RelV y u)
    (h : ∀ dx s', H dx = none → Inv X pins σ (upd (upd (upd H dx (xD dx [])) a (xO a C (some dx))) dx (xD dx (putF f y []))) s' → Q () s') : wpAny (model X.prog X.w) A (setAttr (.ref a) f u) Q E s := by
  obtain ⟨⟨fl, sl, ha⟩, _⟩ := I.hok a _ e
  have J : PySem.W.InstAt s.heap a { cls := .ref C, dict := none, data := .fields fl, slots := sl } C none := ⟨ha, rfl, rfl, True.intro⟩
  obtain ⟨cd, PE, hc, _, hd'⟩ := c.cls
  refine PySem.W.set_plain I.kIn J c.sa (osa_openX (s := { s with toks := s.toks + 1 }) c I.kIn J n fun b => ?_)
  refine wpAny_bind (wpAny_pure (wpAny_bind (wpAny_bind (wpAny_loadPart ha (wpAny_bind (PySem.W.Looks.here (s := { s with toks := s.toks + 1 }) (PySem.W.looks_clsIn I.kIn hc) ?_))))))
  rw [hd']
  have na : a ≠ s.heap.objs.size := Nat.ne_of_lt (Heap.lt_size ha)
  have fr : H s.heap.objs.size = none := I.hok.fresh (Nat.le_refl _)
  have hgd : (s.heap.push { cls := .type "dict", data := .dict #[] }).get? s.heap.objs.size = some { cls := .type "dict", data := .dict #[] } := Heap.get?_push_size _ rfl
  have hn0 : (s.heap.push { cls := .type "dict", data := .dict #[] }).Ns1 s.heap.objs.size (fun _ => none) := Heap.Ns1.of_empty ⟨_, #[], _, hgd, rfl, fun e he => absurd he (by simp), fun _ => rfl⟩
  have I1 : Inv X pins σ (upd H s.heap.objs.size (xD s.heap.objs.size [])) { s with heap := s.heap.push { cls := .type "dict", data := .dict #[] }, toks := s.toks + 1 } :=
    I.laid (fun b u q => Heap.get?_push_of_some _ q) (Nat.le_refl _) (xD_ok hn0 fun g => True.intro)
  have ha1 : (s.heap.push { cls := .type "dict", data := .dict #[] }).get? a = some { cls := .ref C, dict := none, data := .fields fl, slots := sl } := Heap.get?_push_of_some _ ha
  refine wpAny_bind (wpAny_alloc' ?_)
  refine wpAny_bind (wpAny_update' ha1 ?_)
  have ha2 : ((s.heap.push { cls := .type "dict", data := .dict #[] }).update a fun o => { cls := o.cls, dict := some s.heap.objs.size, data := o.data, slots := o.slots }).get? a = some { cls := .ref C, dict := some s.heap.objs.size, data := .fields fl, slots := sl } := Heap.get?_update_self _ ha1 rfl
  have I2 : Inv X pins σ (upd (upd H s.heap.objs.size (xD s.heap.objs.size [])) a (xO a C (some s.heap.objs.size))) { s with heap := (s.heap.push { cls := .type "dict", data := .dict #[] }).update a fun o => { cls := o.cls, dict := some s.heap.objs.size, data := o.data, slots := o.slots }, toks := s.toks + 1 } :=
    I1.write (x := a) (e := a) (by rw [upd_ne na, e]; exact True.intro) (.inl rfl) (fun b q hb z => (Heap.get?_update_ne _ _ _ _ hb).trans z) ⟨_, ha2⟩ (xO_ok ha2)
  have hd2 := I2.hok s.heap.objs.size (xD s.heap.objs.size []) (by rw [upd_ne (Ne.symm na)]; exact upd_same)
  obtain ⟨⟨mA, ns, r⟩, _⟩ := hd2
  refine wpAny_pure (wpAny_bind (wpAny_pure (wpAny_bind ?_)))
  refine wpAny_nsSet1 (s := { s with heap := (s.heap.push { cls := .type "dict", data := .dict #[] }).update a fun o => { cls := o.cls, dict := some s.heap.objs.size, data := o.data, slots := o.slots }, toks := s.toks + 1 }) ns fun h' hn2 hs2 => ?_
  obtain ⟨oD, esD, epD, hoD, hdD, hcD⟩ := hn2.count (PySem.Within.cons f u (within_of r))
  refine wpAny_bind (wpAny_lookBehind hoD (by rw [hdD]; exact pastItsLine_dict (Nat.le_trans hcD (by show 1 ≤ sizeLine + 1; exact Nat.succ_le_succ (Nat.zero_le _)))) ?_)
  refine wpAny_pure (h s.heap.objs.size _ fr ?_)
  refine I2.write (x := s.heap.objs.size) (e := s.heap.objs.size) (by rw [upd_ne (Ne.symm na), upd_same]; exact True.intro) (.inl rfl) (fun b q hb z => (hs2.2 b hb).trans z) ⟨_, hoD⟩ (xD_ok hn2 fun g => ?_)
  show RelO ((putF f y []).lookup g) (if g = f then some u else mA g)
  rw [lookup_putF]
  by_cases q : g = f
  · rw [if_pos q, if_pos q]; exact ry
  · rw [if_neg q, if_neg q]; exact r g
end
end L2

set_option maxHeartbeats 4000000
namespace L2
open PySem PySem.Spec PyProof.Rows
/-- an own exception class in the written part: ini is its own __init__ -/
def excInG (K : PySem.W.Frag) (C : Addr) (bmB : List Value) (newId : String) (ini : Option Value) : Bool := match K.lookup C with
  | some ⟨.type "type", _, .cls cd, sl⟩ => (match cd.mro, sl.toList with
    | .ref C' :: bm, [_, _, _, _, some (.builtin n), _] => C' == C && n == newId && !cd.hasDel && PySem.W.tailIn K bmB bm && PySem.W.nsOkIn K cd.ns && PySem.W.nsIn K cd.ns "__init__" == some ini
    | _, _ => false)
  | _ => false
theorem ns_of {K : PySem.W.Frag} {h : Heap} {N : Addr} {mg : Str → Option Value} {n : Str} {r : Option Value} (X : K.In h) (G : h.Ns N mg) (e : PySem.W.nsIn K N n = some r) : mg n = r := by
  cases r with
  | none => exact PySem.W.ns_none_of X G e
  | some v =>
    obtain ⟨o, es, ep, ho, hd, _, hf⟩ := G
    unfold PySem.W.nsIn at e
    split at e
    · rename_i c d es' n' sl q
      have := X _ _ q
      rw [ho] at this
      cases this
      cases hd
      split at e
      · rename_i en he
        cases e
        rw [← hf]
        unfold nsFind findBy
        rw [← Array.find?_toList, he]
        rfl
      · split at e <;> cases e
    · cases e
theorem exc_of_in {K : PySem.W.Frag} {h : Heap} {C : Addr} {bmB : List Value} {newId : String} {ini : Option Value} (X : K.In h) (q : excInG K C bmB newId ini = true) :
    ∃ bm N nm q bs hdct sn sub ab col dd k0 k1 k2 k3 k5 mN, h.get? C = some (excClassObj nm q C N bs bm hdct sn sub ab col dd k0 k1 k2 k3 k5 newId) ∧ h.Ns N mN ∧ mN "__init__" = ini ∧ OwnTail h bmB bm := by
  unfold excInG at q
  split at q
  · rename_i dd cd sl ho
    split at q
    · rename_i C' bm k0 k1 k2 k3 n k5 hm hs
      simp only [Bool.and_eq_true, beq_iff_eq, Bool.not_eq_true'] at q
      obtain ⟨⟨⟨⟨⟨rfl, rfl⟩, hdel⟩, ht⟩, hok⟩, hni⟩ := q
      obtain ⟨nm, bs, mro, ns, qn, hd, sn, sub, ab, col, del⟩ := cd
      dsimp only at hm hdel hok hni
      subst hm hdel
      have hsl : sl = #[k0, k1, k2, k3, some (.builtin n), k5] := by
        obtain ⟨l⟩ := sl
        simp only at hs
        rw [hs]
      subst hsl
      exact ⟨bm, ns, nm, qn, bs, hd, sn, sub, ab, col, dd, k0, k1, k2, k3, k5, _, X _ _ ho, .of_isNs (PySem.W.isNs_of_in X hok), ns_of X (.of_isNs (PySem.W.isNs_of_in X hok)) hni, PySem.W.tail_of_in X ht⟩
    · cases q
  · cases q
section
variable {X : Cx} {CX : CXT} {k : Nat} {f C : Addr} {fd : FuncData} {ps : List Str} {sp : Sp} {E : XK} {x : Str} {p pos : Pos} {e : Expr} {es : List Expr} {t : TA}
/-- the new exception, tracked -/
theorem Inv.excd {pins : List (Addr × Obj)} {σ : St} {H : Hp} {s : Shared} {h' : Heap} {a : Addr} {rest : List Value} (I : Inv X pins σ H s) (m : Heap.MadeExcOf s.heap h' a (.ref C) rest) : H a = none ∧ Inv X pins σ (upd H a (xO a C none)) { s with heap := h' } := by
  obtain ⟨t, et, _, _⟩ := m.there
  have hn := I.hok.none_of m.new
  exact ⟨hn, I.un (t' := s.toks) (Un.laidN m.keeps m.new hn) (I.hok.laidN m.keeps m.new (xO_ok et))⟩
/-- C(..), C without an own __init__ -/
def tXMk (C : Addr) (t : TA) : TE := fun σ H Q => t σ H fun vs H1 => vs.length ≤ sizeLine ∧ ∀ a, H1 a = none → Q (.ref a) (upd H1 a (xO a C none))
theorem pe_xmk (hx : excInG X.K C bmVE "ValueError.__new__" none = true) (hk : PySem.W.keepIn X.K (.ref C) = true) (hg : Gl X x) (hm : X.mg x = some (.ref C)) (ha : PA X (e :: es) t)
    (hdb : (x == ("__debug__" : Str)) = false := by decide) (he : starEach (e :: es) X.env = (false, eval e X.env) :: starEach es X.env := by rfl) (hpl : (backTo pos (starEach es X.env)).any (·.1) = false := by rfl) :
    PE X (.Call (.Name x p) (e :: es) [] pos) (tXMk C t) := by
  intro pins s σ H Q I h
  refine wpAny_Call_Name_kw (ld_glob I hg hm ?_ hdb)
  refine PySem.W.callWith_K (h₀ := X.base) I.ok.mod.kin hk (thn (ha pos pins s σ H _ I h) fun us s1 ⟨vs, H1, I1, r, hz, q⟩ => ⟨I1.kIn, ?_⟩) he hpl
  obtain ⟨bm, N, nm, q', bs, hd, sn, sub, ab, col, dd, k0, k1, k2, k3, k5, mN, hC, hN, hni, T⟩ := exc_of_in I1.kIn hx
  obtain ⟨hp, gs, dr, tk, os⟩ := s1
  refine wpAny_call_exc_subT PySem.F.excBase_ValueError T hC hN hni (fun h' a m => ?_) (by show us.length ≤ sizeLine; rw [← r.length]; exact hz)
  obtain ⟨hn, I2⟩ := I1.excd m
  exact ⟨.ref a, _, I2, rfl, q a hn⟩
/-- C(..), C with an own __init__ -/
def tXMkI (C : Addr) (sp : Sp) (E : XK) (t : TA) : TE := fun σ H Q => t σ H fun vs H1 => vs.length ≤ sizeLine ∧ ∀ a, H1 a = none → sp (.ref a :: vs) (upd H1 a (xO a C none)) (fun v H2 => v = .non ∧ Q (.ref a) H2) E
theorem pe_xmkI (hx : excInG X.K C bmVE "ValueError.__new__" (some (.ref f)) = true) (hk : PySem.W.keepIn X.K (.ref C) = true) (hf : PySem.W.isFn X.K (.ref f) = true) (F : FnOk X.prog X.w X.K X.mg X.base CX k f fd ps sp) (hr : Room (k + 1) X.A) (hg : Gl X x) (hm : X.mg x = some (.ref C))
    (hb : Binds X.K fd ps []) (hpx : Passes CX X E) (ha : PA X (e :: es) t)
    (hdb : (x == ("__debug__" : Str)) = false := by decide) (he : starEach (e :: es) X.env = (false, eval e X.env) :: starEach es X.env := by rfl) (hpl : (backTo pos (starEach es X.env)).any (·.1) = false := by rfl) :
    PE X (.Call (.Name x p) (e :: es) [] pos) (tXMkI C sp E t) := by
  intro pins s σ H Q I h
  refine wpAny_Call_Name_kw (ld_glob I hg hm ?_ hdb)
  refine PySem.W.callWith_K (h₀ := X.base) I.ok.mod.kin hk (thn (ha pos pins s σ H _ I h) fun us s1 ⟨vs, H1, I1, r, hz, q⟩ => ⟨I1.kIn, ?_⟩) he hpl
  obtain ⟨bm, N, nm, q', bs, hd, sn, sub, ab, col, dd, k0, k1, k2, k3, k5, mN, hC, hN, hni, T⟩ := exc_of_in I1.kIn hx
  have hfn : ∃ oI, s1.heap.get? f = some oI ∧ oI.cls = .type "function" := by
    have z : PySem.W.typeIn X.K (.ref f) = some (.type "function") := beq_iff_eq.mp hf
    obtain ⟨o, ho, hc⟩ := Option.map_eq_some_iff.mp (show (X.K.lookup f).map (·.cls) = some _ from z)
    exact ⟨o, I1.kIn _ _ ho, hc⟩
  obtain ⟨oI, hfI, hfc⟩ := hfn
  obtain ⟨hp, gs, dr, tk, os⟩ := s1
  refine call_exc_initT PySem.F.excBase_ValueError T hC hN hni hfI hfc (fun h' a m => ?_) (by show us.length ≤ sizeLine; rw [← r.length]; exact hz)
  obtain ⟨hn, I2⟩ := I1.excd m
  have hq := q a hn
  have r2 : Vals (V.ref a :: vs) (Value.ref a :: us) := .cons rfl r
  have hl : (Value.ref a :: us).length = ps.length := by rw [← r2.length]; exact F.len _ _ _ _ hq
  have hl' : ((Value.ref a :: us) ++ ([] : List Value)).length = ps.length := by rw [List.append_nil]; exact hl
  have hb' := hb _ (Value.ref a :: us) I2.kIn hl'
  rw [List.append_nil] at hb'
  refine wpAny_call (codeAny_mono (F.run _ X.stack _ _ ⟨Value.ref a :: us, []⟩ (Value.ref a :: us) _ _ E (hr.make C us []) (I2.env0.make C us []) hb' r2 hq) fun r s' hq' => ?_)
  cases r with
  | error ee => exact hpx pins σ _ _ ee s' I2 hq'
  | ok fl =>
    cases fl with
    | ret u =>
      obtain ⟨v, H', I3, rv, ev, q3⟩ := I2.after hq'
      subst ev
      exact ⟨rv, ⟨V.ref a, H', I3, rfl, q3⟩⟩
    | next => exact False.elim hq'
    | brk => exact False.elim hq'
    | cont => exact False.elim hq'
end
/-! ### an exception's attributes -/
section
variable {X : Cx} {o value : Expr} {ta tv : TE} {f : Str} {pos pos' : Pos}
def tXFld (K : PySem.W.Frag) (ta : TE) (f : Str) : TE := fun σ H Q => ta σ H fun x H1 => ∃ a C dx fs v, x = .ref a ∧ H1 a = some (xO a C (some dx)) ∧ H1 dx = some (xD dx fs) ∧ XCls K C ∧ NoAttr K C f ∧ fs.lookup f = some v ∧ Q v H1
theorem pe_xfld (he : PE X o ta) (hb : attributeBase o f X.env (eval o X.env) = eval o X.env) : PE X (.Attribute o f pos) (tXFld X.K ta f) := by
  intro pins s σ H Q I h
  refine attr_of hb (thn (he pins s σ H _ I h) fun u s1 ⟨x, H1, I1, rx, a, C, dx, fs, v, ex, ea, ed, c, n, l, q⟩ => ?_)
  subst ex
  obtain rfl : u = Value.ref a := rx
  exact xget_ok I1 ea ed c n l fun u' s2 I2 ru => ⟨v, H1, I2, ru, q⟩
/-- the first attribute of an exception; a further one -/
def sXFld (K : PySem.W.Frag) (ta tv : TE) (f : Str) : TS := fun D σ H => tv σ H fun y H1 => ta σ H1 fun x H2 => ∃ a C, x = .ref a ∧ XCls K C ∧ NoAttr K C f ∧
  ((H2 a = some (xO a C none) ∧ ∀ dx, H2 dx = none → D.nx σ (upd (upd (upd H2 dx (xD dx [])) a (xO a C (some dx))) dx (xD dx (putF f y [])))) ∨
    ∃ dx fs, H2 a = some (xO a C (some dx)) ∧ H2 dx = some (xD dx fs) ∧ fs.length < 1000 ∧ D.nx σ (upd H2 dx (xD dx (putF f y fs))))
theorem ps_xfld (ha : PE X o ta) (hv : PE X value tv) (hs : swapsWith value (some (.Attribute o f pos')) pos.line X.env = pure false) : PS X (.Assign [.Attribute o f pos'] value pos) (sXFld X.K ta tv f) := by
  intro pins s σ H D I h
  refine plainObj_wpAny_Assign_Attribute (thn (hv pins s σ H _ I h) fun u s1 ⟨y, H1, I1, ry, q⟩ => thn (ha pins s1 σ H1 _ I1 q) fun ov s2 ⟨x, H2, I2, rx, a, C, ex, c, n, q2⟩ => ?_) hs
  subst ex
  obtain rfl : ov = Value.ref a := rx
  rcases q2 with ⟨ea, q3⟩ | ⟨dx, fs, ea, ed, l, q3⟩
  · exact xset0_ok I2 ea c n ry fun dx s3 hn I3 => ⟨σ, _, I3, q3 dx hn⟩
  · exact xset1_ok I2 ea ed c n l ry fun s3 I3 => ⟨σ, _, I3, q3⟩
end
/-! ### isinstance -/
/-- the exception at a is whole -/
def XAt (K : PySem.W.Frag) (H : Hp) (a C : Addr) : Prop := XCls K C ∧ (H a = some (xO a C none) ∨ ∃ dx fs, H a = some (xO a C (some dx)) ∧ H dx = some (xD dx fs))
theorem kitx_exc {K : PySem.W.Frag} {x D : Addr} (c : XCls K D) : PySem.W.KitX K (.ref x) (.ref D) (fun h => ∃ ox od, PySem.W.InstAt h x ox D od) where
  ty := fun _ _ _ ⟨ox, od, I⟩ => I.type
  it := fun _ _ X _ => by
    obtain ⟨cdD, hcD, _⟩ := PySem.W.any_some c.hd
    unfold PySem.W.clsIn at hcD
    split at hcD
    · rename_i c' d' cd' sl' ho
      intro A' Q' E' s' k q
      unfold isType loadHead
      exact wpAny_bind (wpAny_loadPart (k _ _ (X _ _ ho)) (wpAny_pure q))
    · cases hcD
  ne := fun h tp dd its n sl X htp => by
    obtain ⟨cdD, hcD, _⟩ := PySem.W.any_some c.hd
    refine Bool.eq_false_iff.mpr fun q => ?_
    have e : D = tp := Value.ref.inj (beq_iff_eq.mp q)
    subst e
    unfold PySem.W.clsIn at hcD
    split at hcD
    · rename_i c' d' cd' sl' ho
      have z := (X _ _ ho).symm.trans htp
      cases z
    · cases hcD
  ca := fun {prog w A E Q s} X I h => by
    obtain ⟨ox, od, I⟩ := I
    have hf : PySem.W.findObj K D od "__class__" = some (.bind (.builtin "getset_descriptor.__get__") (.builtin "object.__class__")) := by
      obtain ⟨cd, PE, hc, _⟩ := c.cls
      unfold PySem.W.findObj
      rw [hc, Option.bind_some, c.ca, Option.bind_some]
      simp [c.cg, c.ct]
    exact xget_class c X I hf h
section
variable {X : Cx}
/-- what a class's value is -/
def clV : V → Value → Prop
  | .ref a, u => u = .ref a
  | .ty n, u => u = .type n
  | _, _ => False
theorem call_isinst : CallR X (.builtin "isinstance") (fun xs H Q => ∃ x cv t c b, xs = [x, cv] ∧ clV cv c ∧ (TyOf X.K H x t ∨ ∃ a C, x = .ref a ∧ t = .ref C ∧ XAt X.K H a C) ∧ PySem.W.kitOne X.K t c = some b ∧ Q (.bl b) H) := by
  intro pins s σ H xs us Q I r h
  obtain ⟨x, cv, t, c, b, rfl, hc, ty, e, q⟩ := h
  obtain ⟨u, w', rfl, r1, r2⟩ := vals2 r
  have e2 : w' = c := by
    cases cv with
    | ref a => cases (show c = _ from hc); exact r2
    | ty n => cases (show c = _ from hc); exact r2
    | _ => exact hc.elim
  subst e2
  rcases ty with ty | ⟨a, C, rfl, rfl, cx, hx⟩
  · exact isinst_ok I r1 ty e fun tk => ⟨.bl b, H, I.tok _, rfl, q⟩
  · cases (show u = Value.ref a from r1)
    have J : ∃ ox od, PySem.W.InstAt s.heap a ox C od := by
      rcases hx with ea | ⟨dx, fs, ea, ed⟩
      · obtain ⟨⟨fl, sl, ha⟩, _⟩ := I.hok a _ ea
        exact ⟨_, none, ha, rfl, rfl, True.intro⟩
      · obtain ⟨⟨fl, sl, ha⟩, _⟩ := I.hok a _ ea
        obtain ⟨⟨mA, ⟨od, _, _, ho, _⟩, _⟩, _⟩ := I.hok dx _ ed
        exact ⟨_, some od, ha, rfl, rfl, ho⟩
    exact PySem.W.kia_one (kitx_exc cx) I.kIn J e (fun z => nomatch z) fun tk => ⟨.bl b, H, I.tok _, rfl, q⟩
end
end L2

set_option maxHeartbeats 4000000
/-! ### texts: a joined text, split again -/
namespace TX
open PySem PySem.Builtin PySem.Builtin.Str PySem.StrLaws
theorem piece_free (x y : Str) (h a b : Nat) (hb : b ≤ x.length) (hx : ∀ k, x.cps.toList[k]? = some h → At x y x.length k) (no : ∀ k, a ≤ k → k < b → ¬ At x y x.length k) : h ∉ (strSub x a b).cps.toList := by
  intro m
  rw [strSub_toList] at m
  obtain ⟨j, e⟩ := List.getElem?_of_mem m
  have lt : j < b - a := by
    have z := (List.getElem?_eq_some_iff.mp e).1
    simp at z
    omega
  rw [List.getElem?_take_of_lt lt, List.getElem?_drop] at e
  exact no (a + j) (Nat.le_add_right _ _) (by omega) (hx _ e)
theorem pieces_free (x y : Str) (h : Nat) (hx : ∀ k, x.cps.toList[k]? = some h → At x y x.length k) : ∀ (cuts : List Nat) (a f : Nat), ChainG x y x.length a cuts f → (∀ k, f ≤ k → ¬ At x y x.length k) → ∀ p ∈ partsFrom x y.length a cuts, h ∉ p.cps.toList
  | [], a, f, ch, no, p, hp => by
    have e : f = a := ch
    subst e
    rw [List.mem_singleton.mp hp]
    exact piece_free x y h f x.length (Nat.le_refl _) hx fun k h1 _ => no k h1
  | d :: r, a, f, ch, no, p, hp => by
    rcases List.mem_cons.mp hp with rfl | hp
    · exact piece_free x y h a d (by have := ch.2.1.1; omega) hx ch.2.2.1
    · exact pieces_free x y h hx r _ f ch.2.2.2 no p hp
theorem kind_pos (x : Str) : 1 ≤ Builtin.Str.strKind x := by
  unfold Builtin.Str.strKind
  split
  · exact Nat.le_refl _
  · split <;> decide
theorem split_freeG (x y : Str) (h : Nat) (hw : 1 ≤ y.length) (hk : Builtin.Str.strKind y = 1) (hx : ∀ k, x.cps.toList[k]? = some h → At x y x.length k) : ∀ p ∈ Txt.split x y, h ∉ p.cps.toList := by
  obtain ⟨f, ch, no⟩ := occ_tight x y hw
  unfold Txt.split
  split
  · rename_i hc
    intro p hp
    rw [List.mem_singleton.mp hp]
    intro hm
    obtain ⟨j, hj⟩ := List.getElem?_of_mem hm
    have A := (hx j hj).1
    rw [Bool.or_eq_true, decide_eq_true_eq, decide_eq_true_eq, hk] at hc
    have := kind_pos x
    omega
  · split
    · rename_i he
      intro p hp
      rw [List.mem_singleton.mp hp]
      rw [List.isEmpty_iff.mp he] at ch
      have ef : f = 0 := ch
      subst ef
      rw [← sub_whole x]
      exact piece_free x y h 0 x.length (Nat.le_refl _) hx fun k h1 _ => no k h1
    · rw [partsBetween_eq]
      exact pieces_free x y h hx _ 0 f ch no
/-- the signs of a joined text -/
def glue (y : List Nat) : List (List Nat) → List Nat
  | [] => []
  | [p] => p
  | p :: q :: r => p ++ y ++ glue y (q :: r)
theorem glue_str (y : Str) : ∀ ps : List Str, (Str.join y ps).cps.toList = glue y.cps.toList (ps.map fun p => p.cps.toList)
  | [] => rfl
  | [p] => rfl
  | p :: q :: r => by
    have ih := glue_str y (q :: r)
    show ((p.cps ++ y.cps) ++ (Str.join y (q :: r)).cps).toList = p.cps.toList ++ y.cps.toList ++ glue y.cps.toList ((q :: r).map fun p => p.cps.toList)
    rw [← ih]
    simp
theorem cut_free {h : Nat} : ∀ {p1 p2 r1 r2 : List Nat}, h ∉ p1 → h ∉ p2 → p1 ++ h :: r1 = p2 ++ h :: r2 → p1 = p2 ∧ r1 = r2
  | [], [], _, _, _, _, e => ⟨rfl, (List.cons.inj e).2⟩
  | [], b :: p2, _, _, _, n2, e => absurd (by rw [(List.cons.inj e).1]; exact List.mem_cons_self) n2
  | a :: p1, [], _, _, n1, _, e => absurd (by rw [← (List.cons.inj e).1]; exact List.mem_cons_self) n1
  | a :: p1, b :: p2, r1, r2, n1, n2, e => by
    obtain ⟨e1, e2⟩ := List.cons.inj e
    obtain ⟨h1, h2⟩ := cut_free (fun z => n1 (List.mem_cons_of_mem _ z)) (fun z => n2 (List.mem_cons_of_mem _ z)) e2
    exact ⟨by rw [e1, h1], h2⟩
theorem glue_inj {h : Nat} {t : List Nat} : ∀ {L1 L2 : List (List Nat)}, L1 ≠ [] → L2 ≠ [] → (∀ p ∈ L1, h ∉ p) → (∀ p ∈ L2, h ∉ p) → glue (h :: t) L1 = glue (h :: t) L2 → L1 = L2
  | [], _, n, _, _, _, _ => absurd rfl n
  | _, [], _, n, _, _, _ => absurd rfl n
  | [p], [q], _, _, _, _, e => by
    have e' : p = q := e
    rw [e']
  | [p], q :: q2 :: r, _, _, f1, _, e => by
    have e' : p = q ++ (h :: t) ++ glue (h :: t) (q2 :: r) := e
    exact absurd (by rw [e']; simp) (f1 p List.mem_cons_self)
  | p :: p2 :: r, [q], _, _, _, f2, e => by
    have e' : p ++ (h :: t) ++ glue (h :: t) (p2 :: r) = q := e
    exact absurd (by rw [← e']; simp) (f2 q List.mem_cons_self)
  | p :: p2 :: r, q :: q2 :: r', _, _, f1, f2, e => by
    have e' : p ++ (h :: t) ++ glue (h :: t) (p2 :: r) = q ++ (h :: t) ++ glue (h :: t) (q2 :: r') := e
    rw [List.append_assoc, List.append_assoc, List.cons_append, List.cons_append] at e'
    obtain ⟨e1, e2⟩ := cut_free (f1 p List.mem_cons_self) (f2 q List.mem_cons_self) e'
    have e3 := List.append_cancel_left e2
    rw [e1, glue_inj (by simp) (by simp) (fun z hz => f1 z (List.mem_cons_of_mem _ hz)) (fun z hz => f2 z (List.mem_cons_of_mem _ hz)) e3]
theorem str_ext {x y : Str} (e : x.cps.toList = y.cps.toList) : x = y := by
  obtain ⟨⟨a⟩⟩ := x
  obtain ⟨⟨b⟩⟩ := y
  have : a = b := e
  rw [this]
theorem map_codes_inj : ∀ {a b : List Str}, (a.map fun p => p.cps.toList) = (b.map fun p => p.cps.toList) → a = b
  | [], [], _ => rfl
  | [], _ :: _, e => by cases e
  | _ :: _, [], e => by cases e
  | x :: a, y :: b, e => by
    obtain ⟨e1, e2⟩ := List.cons.inj e
    rw [str_ext e1, map_codes_inj e2]
theorem join_eq (sep : Str) (l : List Str) : Txt.join sep l = Str.join sep l := eq_of_beq (PyProof.Rows.join_plain_closes sep l)
/-- split what is joined -/
theorem split_join {y : Str} {h : Nat} {t : List Nat} (ey : y.cps.toList = h :: t) (hk : Builtin.Str.strKind y = 1) {ps : List Str} (ne : ps ≠ []) (fr : ∀ p ∈ ps, h ∉ p.cps.toList)
    (hx : ∀ k, (Txt.join y ps).cps.toList[k]? = some h → At (Txt.join y ps) y (Txt.join y ps).length k) : Txt.split (Txt.join y ps) y = ps := by
  have hw : 1 ≤ y.length := by
    have : y.length = y.cps.toList.length := by simp [Str.length]
    rw [this, ey]; simp
  have fr2 := split_freeG (Txt.join y ps) y h hw hk hx
  have e := PySem.StrLaws.join_split (Txt.join y ps) y
  have e2 : (Str.join y (Txt.split (Txt.join y ps) y)).cps.toList = (Str.join y ps).cps.toList := by rw [e, join_eq]
  rw [glue_str, glue_str, ey] at e2
  have p1 := PyProof.Rows.split_pos (Txt.join y ps) y
  refine map_codes_inj (glue_inj (h := h) (t := t) ?_ ?_ ?_ ?_ e2)
  · intro z
    rw [List.map_eq_nil_iff] at z
    rw [z] at p1
    exact absurd p1 (by decide)
  · intro z
    exact ne (List.map_eq_nil_iff.mp z)
  · intro p hp
    obtain ⟨q, hq, rfl⟩ := List.mem_map.mp hp
    exact fr2 q hq
  · intro p hp
    obtain ⟨q, hq, rfl⟩ := List.mem_map.mp hp
    exact fr q hq
/-- every 59 has a 32 behind it -/
def Good (l : List Nat) : Prop := ∀ k : Nat, l[k]? = some 59 → l[k + 1]? = some 32
theorem good_free {l : List Nat} (h : 59 ∉ l) : Good l := fun k e => absurd (List.mem_of_getElem? e) h
theorem good_cat {p r : List Nat} (h : 59 ∉ p) (g : Good r) : Good (p ++ [59, 32] ++ r) := by
  intro k e
  rw [List.append_assoc] at e ⊢
  by_cases h1 : k < p.length
  · rw [List.getElem?_append_left h1] at e
    exact absurd (List.mem_of_getElem? e) h
  · rw [List.getElem?_append_right (by omega)] at e ⊢
    have e1 : k + 1 - p.length = (k - p.length) + 1 := by omega
    rw [e1]
    generalize k - p.length = m at e
    match m, e with
    | 0, _ => rfl
    | 1, e => exact absurd (show some 32 = some 59 from e) (by decide)
    | m + 2, e => exact g m e
theorem good_glue : ∀ {L : List (List Nat)}, (∀ p ∈ L, 59 ∉ p) → Good (glue [59, 32] L)
  | [], _ => good_free (by simp [glue])
  | [p], h => good_free (h p List.mem_cons_self)
  | p :: q :: r, h => good_cat (h p List.mem_cons_self) (good_glue fun z hz => h z (List.mem_cons_of_mem _ hz))
def semi : Str := "; "
def blank : Str := " "
theorem semi_codes : semi.cps.toList = [59, 32] := by decide +kernel
theorem blank_codes : blank.cps.toList = [32] := by decide +kernel
theorem at_semi {x : Str} {k : Nat} (h1 : x.cps.toList[k]? = some 59) (h2 : x.cps.toList[k + 1]? = some 32) : At x semi x.length k := by
  have l2 : semi.length = 2 := by decide +kernel
  have lx : x.length = x.cps.toList.length := by simp [Str.length]
  have b2 := (List.getElem?_eq_some_iff.mp h2).1
  refine ⟨by rw [l2, lx]; omega, ?_⟩
  rw [subAt_eq, semi_codes, l2]
  have e : (x.cps.toList.drop k).take 2 = [59, 32] := by
    have b1 := (List.getElem?_eq_some_iff.mp h1).1
    rw [List.drop_eq_getElem_cons b1, List.drop_eq_getElem_cons b2]
    rw [List.getElem?_eq_getElem b1] at h1
    rw [List.getElem?_eq_getElem b2] at h2
    rw [Option.some.inj h1, Option.some.inj h2]
    rfl
  rw [e]
  rfl
theorem split_semi {ps : List Str} (ne : ps ≠ []) (fr : ∀ p ∈ ps, 59 ∉ p.cps.toList) : Txt.split (Txt.join semi ps) semi = ps := by
  have g : Good (Txt.join semi ps).cps.toList := by
    rw [join_eq, glue_str, semi_codes]
    exact good_glue fun p hp => by
      obtain ⟨q, hq, rfl⟩ := List.mem_map.mp hp
      exact fr q hq
  exact split_join semi_codes (by decide +kernel) ne fr fun k e => at_semi e (g k e)
theorem split_blank {ps : List Str} (ne : ps ≠ []) (fr : ∀ p ∈ ps, 32 ∉ p.cps.toList) : Txt.split (Txt.join blank ps) blank = ps := by
  have eb : blank = ⟨#[32]⟩ := str_ext (by rw [blank_codes])
  refine split_join blank_codes (by decide +kernel) ne fr fun k e => ?_
  have z := (subAt_one (Txt.join blank ps) 32 k).mpr e
  rw [← eb] at z
  exact z
end TX

set_option maxHeartbeats 4000000
namespace L2
open PySem PySem.Spec PyProof.Rows
open Builtin Builtin.Str in
theorem split_exact {prog : Program} {w : World} {A : Around} {E : Value → Shared → Prop} {s : Shared} {x y : Str} {t u : Tok} {Q : Value → Shared → Prop} (hy : (y.length == 0) = false) (hsz : x.length ≤ sizeLine) (hz2 : (Txt.split x y).length ≤ sizeLine)
    (hq : ∀ l k, l.map (·.1) = Txt.split x y → Q (.ref s.heap.objs.size) { s with toks := k, heap := s.heap.push { cls := .type "list", data := .seq (strValues l).toArray } }) :
    wpAny (model prog w) A (call (.builtin "str.split") [.str x t, .str y u]) Q E s := by
  cases h1 : (decide (x.length < y.length) || decide (Builtin.Str.strKind x < Builtin.Str.strKind y))
  · cases hf : (occurrences x y 0 x.length (x.length + 1)).isEmpty
    · have es : Txt.split x y = partsBetween x (occurrences x y 0 x.length (x.length + 1)) y.length := (if_neg (ne_true_of_eq_false h1)).trans (if_neg (ne_true_of_eq_false hf))
      refine call_meets F.slot_str_split (typeIs_str _ _ _) F.entry_str_split (F.args_str_split_2 _ _) (meets_str_split_sep x y t u h1 hy hf hsz (by rw [← es]; exact hz2)) ?_
      show wants Q E _ { s with toks := _, heap := s.heap.push { cls := .type "list", data := .seq (strsFrom s.toks (partsBetween x (occurrences x y 0 x.length (x.length + 1)) y.length)).toArray } }
      rw [strsFrom_eq]
      exact hq (numbered s.toks _) _ ((numbered_texts _ _).trans es.symm)
    · exact call_meets F.slot_str_split (typeIs_str _ _ _) F.entry_str_split (F.args_str_split_2 _ _) (meets_str_split_not_found x y t u h1 hy hf) (hq [(x, t)] s.toks ((if_neg (ne_true_of_eq_false h1)).trans (if_pos hf)).symm)
  · exact call_meets F.slot_str_split (typeIs_str _ _ _) F.entry_str_split (F.args_str_split_2 _ _) (meets_str_split_cannot_occur x y t u h1) (hq [(x, t)] s.toks (if_pos h1).symm)
theorem vals_strs : ∀ (l : List (Str × Tok)), Vals ((l.map (·.1)).map V.str) (strValues l)
  | [] => .nil
  | p :: l => .cons ⟨p.2, rfl⟩ (vals_strs l)
section
variable {X : Cx}
/-- x.split(y) -/
def rSplit : V → List V → Hp → VK → Prop := fun v vs H Q => ∃ x y, v = .str x ∧ vs = [.str y] ∧ (y.length == 0) = false ∧ x.length ≤ 1000000 ∧ ∀ p, H p = none → Q (.ref p) (upd H p (.lst ((Txt.split x y).map V.str)))
theorem mt_split : MtR X "str.split" rSplit := by
  intro pins s σ H v vs u us Q I rx rv h
  obtain ⟨x, y, rfl, rfl, hy, hx, q⟩ := h
  obtain ⟨tk, rfl⟩ := rx
  obtain ⟨u, rfl, tk', rfl⟩ := vals1 rv
  have hl := split_le x y
  refine split_exact hy (by rw [sizeLine_eq]; omega) (by rw [sizeLine_eq]; omega) fun l k e => ?_
  have hn : H s.heap.objs.size = none := I.hok.fresh (Nat.le_refl _)
  refine ⟨.ref s.heap.objs.size, _, ?_, rfl, q _ hn⟩
  refine I.laid (fun b o e => Heap.get?_push_of_some _ e) (Nat.le_refl _) ⟨by rw [List.length_map, sizeLine_eq]; omega, strValues l, 0, ?_, Heap.get?_push_size _ rfl⟩
  rw [← e]
  exact vals_strs l
def rStarts : V → List V → Hp → VK → Prop := fun v vs H Q => ∃ x y, v = .str x ∧ vs = [.str y] ∧ Q (.bl (Txt.startswith x y)) H
theorem mt_starts : MtR X "str.startswith" rStarts := by
  intro pins s σ H v vs u us Q I rx rv h
  obtain ⟨x, y, rfl, rfl, q⟩ := h
  obtain ⟨tk, rfl⟩ := rx
  obtain ⟨u, rfl, tk', rfl⟩ := vals1 rv
  exact SC.startswith ⟨.bl _, H, I, rfl, q⟩
def rRemP : V → List V → Hp → VK → Prop := fun v vs H Q => ∃ x y, v = .str x ∧ vs = [.str y] ∧ x.length ≤ sizeLine ∧ Q (.str (Txt.removeprefix x y)) H
theorem mt_remp : MtR X "str.removeprefix" rRemP := by
  intro pins s σ H v vs u us Q I rx rv h
  obtain ⟨x, y, rfl, rfl, hx, q⟩ := h
  obtain ⟨tk, rfl⟩ := rx
  obtain ⟨u, rfl, tk', rfl⟩ := vals1 rv
  exact SC.removeprefix (fun t' k => ⟨.str (Txt.removeprefix x y), H, I.tok _, ⟨_, rfl⟩, q⟩) hx
theorem call_str_str : CallR X (.type "str") (fun xs H Q => ∃ x, xs = [.str x] ∧ Q (.str x) H) := by
  intro pins s σ H xs us Q I r h
  obtain ⟨x, rfl, q⟩ := h
  obtain ⟨u, rfl, t, rfl⟩ := vals1 r
  exact PySem.P.str_of_str ⟨.str x, H, I, ⟨_, rfl⟩, q⟩
theorem call_int_txt : CallR X (.type "int") (fun xs H Q => ∃ x n, xs = [.str x] ∧ PySem.intText? x = some n ∧ x.length ≤ 640 ∧ Q (.int n) H) := by
  intro pins s σ H xs us Q I r h
  obtain ⟨x, n, rfl, hn, hl, q⟩ := h
  obtain ⟨u, rfl, t, rfl⟩ := vals1 r
  exact PySem.W.KIN.call_text hn hl ⟨.int n, H, I.tok _, ⟨_, rfl⟩, q⟩
/-- all and any of a list of truths -/
theorem bools_at {bs : List Bool} {its : List Value} (r : Vals (bs.map V.bl) its) {i : Nat} {v : Value} (h : its.toArray[i]? = some v) : ∃ b, bs[i]? = some b ∧ v = .bool b := by
  have h' : its[i]? = some v := by simpa using h
  have hi := (List.getElem?_eq_some_iff.mp h').1
  have hb : i < bs.length := by
    have := r.length
    rw [List.length_map] at this
    omega
  obtain ⟨u, e, ru⟩ := r.get (i := i) (x := .bl bs[i]) (by rw [List.getElem?_map, List.getElem?_eq_getElem hb]; rfl)
  rw [h'] at e
  cases e
  exact ⟨bs[i], List.getElem?_eq_getElem hb, ru⟩
theorem range_all (bs : List Bool) : (List.range bs.length).all (fun i => bs.getD i true) = bs.all id := by
  induction bs with
  | nil => rfl
  | cons b r ih =>
    rw [List.length_cons, List.range_succ_eq_map, List.all_cons, List.all_map, List.all_cons]
    show (b && _) = (b && _)
    rw [← ih]
    rfl
theorem range_any (bs : List Bool) : (List.range bs.length).any (fun i => bs.getD i true) = bs.any id := by
  induction bs with
  | nil => rfl
  | cons b r ih =>
    rw [List.length_cons, List.range_succ_eq_map, List.any_cons, List.any_map, List.any_cons]
    show (b || _) = (b || _)
    rw [← ih]
    rfl
theorem call_allL (hc : X.calm = true) : CallR X (.builtin "all") (fun xs H Q => ∃ (p : Addr) (bs : List Bool), xs = [.ref p] ∧ SqL X.K H p (bs.map V.bl) ∧ Q (.bl (bs.all id)) H) := by
  intro pins s σ H xs us Q I r h
  obtain ⟨p, bs, rfl, hS, q⟩ := h
  obtain ⟨u, rfl, ru⟩ := vals1 r
  cases ru
  obtain ⟨its, rv, pl, hz⟩ := I.list hS
  have hp : p < s.heap.objs.size := by obtain ⟨o, e, _⟩ := pl.isList; exact Heap.lt_size e
  have hl : its.toArray.size = bs.length := by have := rv.length; rw [List.length_map] at this; simp [this]
  refine call_all_walk (wpAny_pyIter_list pl.isList ?_)
  refine ⟨s.heap.objs.size, _, _, _, _, _, fun i => bs.getD i true, rfl, Walks.list (A := X.A.in1) (I.ok.hd hc) _ p (Nat.ne_of_lt hp) its.toArray, ⟨⟨_, Heap.get?_push_size _ rfl, rfl, rfl⟩, ?_⟩, ?_, fun h' tk hk => ?_⟩
  · obtain ⟨o, e, z⟩ := pl.isList
    exact ⟨o, Heap.get?_push_of_some _ e, z⟩
  · intro i v s' Q' E' hv hq
    obtain ⟨b, e, rfl⟩ := bools_at rv hv
    refine wpAny_truthy_bool ?_
    have : bs.getD i true = b := by rw [List.getD_eq_getElem?_getD, e]; rfl
    rw [← this]
    exact hq
  · rw [hl, range_all]
    have I1 : Inv X pins σ H { s with heap := s.heap.push { cls := .type "list_iterator", data := .fields #[.ref p, .int 0 0] } } := I.kept (t' := s.toks) fun b o e => Heap.get?_push_of_some _ e
    have f := I.fpOk (b := s.heap.objs.size) (H' := H) (Nat.le_refl _) (I.hok.fresh (Nat.le_refl _))
    exact ⟨.bl _, H, I1.turned (fun b o hb e => hk b o (by simpa using hb) e) f.1 f.2.1 f.2.2.2.1 f.2.2.2.2.1 f.2.2.2.2.2, rfl, q⟩
theorem call_anyL (hc : X.calm = true) : CallR X (.builtin "any") (fun xs H Q => ∃ (p : Addr) (bs : List Bool), xs = [.ref p] ∧ SqL X.K H p (bs.map V.bl) ∧ Q (.bl (bs.any id)) H) := by
  intro pins s σ H xs us Q I r h
  obtain ⟨p, bs, rfl, hS, q⟩ := h
  obtain ⟨u, rfl, ru⟩ := vals1 r
  cases ru
  obtain ⟨its, rv, pl, hz⟩ := I.list hS
  have hp : p < s.heap.objs.size := by obtain ⟨o, e, _⟩ := pl.isList; exact Heap.lt_size e
  have hl : its.toArray.size = bs.length := by have := rv.length; rw [List.length_map] at this; simp [this]
  refine call_any_walk (wpAny_pyIter_list pl.isList ?_)
  refine ⟨s.heap.objs.size, _, _, _, _, _, fun i => bs.getD i true, rfl, Walks.list (A := X.A.in1) (I.ok.hd hc) _ p (Nat.ne_of_lt hp) its.toArray, ⟨⟨_, Heap.get?_push_size _ rfl, rfl, rfl⟩, ?_⟩, ?_, fun h' tk hk => ?_⟩
  · obtain ⟨o, e, z⟩ := pl.isList
    exact ⟨o, Heap.get?_push_of_some _ e, z⟩
  · intro i v s' Q' E' hv hq
    obtain ⟨b, e, rfl⟩ := bools_at rv hv
    refine wpAny_truthy_bool ?_
    have : bs.getD i true = b := by rw [List.getD_eq_getElem?_getD, e]; rfl
    rw [← this]
    exact hq
  · rw [hl, range_any]
    have I1 : Inv X pins σ H { s with heap := s.heap.push { cls := .type "list_iterator", data := .fields #[.ref p, .int 0 0] } } := I.kept (t' := s.toks) fun b o e => Heap.get?_push_of_some _ e
    have f := I.fpOk (b := s.heap.objs.size) (H' := H) (Nat.le_refl _) (I.hok.fresh (Nat.le_refl _))
    exact ⟨.bl _, H, I1.turned (fun b o hb e => hk b o (by simpa using hb) e) f.1 f.2.1 f.2.2.2.1 f.2.2.2.2.1 f.2.2.2.2.2, rfl, q⟩
end
/-! ### the signs of a text, walked -/
def Its (x : Str) : It := ⟨fun i _ => i < x.cps.size, fun i H v H' => H' = H ∧ ∃ c, x.cps[i]? = some c ∧ v = .str (sgn c), fun i _ => x.cps.size ≤ i⟩
theorem turn_strA {P : Program} {w : World} {K : PySem.W.Frag} {tg : Expr} (it : Addr) (x : Str) (t : Tok) : Turn P w K tg (Its x) [it] it (fun i h => h.IsStrIter it "str_ascii_iterator" x t i) where
  mem := by simp
  obj := fun i h st b hb => by
    have e : b = it := by simpa using hb
    subst e
    obtain ⟨o, e, c, d⟩ := st
    exact ⟨o, e, fun v z => by rw [d] at z; cases z⟩
  keep := fun i h h' st k => by
    obtain ⟨o, e, r⟩ := st
    exact ⟨o, k it (by simp) o e, r⟩
  item := by
    intro X hP hw hK hc i pins s σ H E I hf st hg
    subst hP hw hK
    have hg' : i < x.cps.size := hg
    obtain ⟨f0, f1, f2, f3, f4, f5⟩ := hf it (by simp)
    have hx : x.cps[i]? = some x.cps[i] := by simp [hg']
    refine wpAny_pyNext_ascii_item st hx fun h' st' sb => ?_
    have I1 : Inv X pins σ H { s with heap := h', toks := s.toks + 1 } := I.turned (fun b o hb e => (sb.2 b hb).trans e) f0 f1 f3 f4 f5
    obtain ⟨o, e, c, d⟩ := id st'
    exact ⟨_, rfl, go_of (s := { s with heap := h', toks := s.toks + 1 }) e c d (by decide) ⟨.str (sgn x.cps[i]), H, I1, ⟨_, rfl⟩, ⟨rfl, _, hx, rfl⟩, st', fun b hb => (hf b hb).1⟩⟩
  done := by
    intro X hP hw hK hc i pins s σ H E I hf st hg
    subst hP hw hK
    have hg' : x.cps.size ≤ i := hg
    obtain ⟨f0, f1, f2, f3, f4, f5⟩ := hf it (by simp)
    exact wpAny_pyNext_ascii_end (I.ok.hd hc) st (by simp [hg']) fun h' eb => ⟨rfl, I.turned (t' := s.toks) (fun b o hb e => eb b o hb e) f0 f1 f3 f4 f5⟩
  self := fun _ _ _ _ _ st h => wpAny_pyIter_striter_ascii st h
theorem turn_strW {P : Program} {w : World} {K : PySem.W.Frag} {tg : Expr} (it : Addr) (x : Str) (t : Tok) : Turn P w K tg (Its x) [it] it (fun i h => h.IsStrIter it "str_iterator" x t i) where
  mem := by simp
  obj := fun i h st b hb => by
    have e : b = it := by simpa using hb
    subst e
    obtain ⟨o, e, c, d⟩ := st
    exact ⟨o, e, fun v z => by rw [d] at z; cases z⟩
  keep := fun i h h' st k => by
    obtain ⟨o, e, r⟩ := st
    exact ⟨o, k it (by simp) o e, r⟩
  item := by
    intro X hP hw hK hc i pins s σ H E I hf st hg
    subst hP hw hK
    have hg' : i < x.cps.size := hg
    obtain ⟨f0, f1, f2, f3, f4, f5⟩ := hf it (by simp)
    have hx : x.cps[i]? = some x.cps[i] := by simp [hg']
    refine wpAny_pyNext_wide_item st hx fun h' st' sb => ?_
    have I1 : Inv X pins σ H { s with heap := h', toks := s.toks + 1 } := I.turned (fun b o hb e => (sb.2 b hb).trans e) f0 f1 f3 f4 f5
    obtain ⟨o, e, c, d⟩ := id st'
    exact ⟨_, rfl, go_of (s := { s with heap := h', toks := s.toks + 1 }) e c d (by decide) ⟨.str (sgn x.cps[i]), H, I1, ⟨_, rfl⟩, ⟨rfl, _, hx, rfl⟩, st', fun b hb => (hf b hb).1⟩⟩
  done := by
    intro X hP hw hK hc i pins s σ H E I hf st hg
    subst hP hw hK
    have hg' : x.cps.size ≤ i := hg
    obtain ⟨f0, f1, f2, f3, f4, f5⟩ := hf it (by simp)
    exact wpAny_pyNext_wide_end (I.ok.hd hc) st (by simp [hg']) fun h' eb => ⟨rfl, I.turned (t' := s.toks) (fun b o hb e => eb b o hb e) f0 f1 f3 f4 f5⟩
  self := fun _ _ _ _ _ st h => wpAny_pyIter_striter_wide st h
section
variable {X : Cx} {tg : Expr}
def iStr (tl : TE) : TI := fun σ H R => tl σ H fun v H1 => ∃ x, v = .str x ∧ R (Its x) H1
theorem pi_str {l : Expr} {tl : TE} (hl : PE X l tl) : PI X tg l (iStr tl) := by
  intro pins s σ H R I h
  refine thn (hl pins s σ H _ I h) fun v s1 ⟨y, H1, I1, r1, x, e, q⟩ => ?_
  subst e
  obtain ⟨tk, rfl⟩ := r1
  cases ha : x.cps.all (· < 128)
  · refine wpAny_pyIter_wide ha ⟨s1.heap.objs.size, [s1.heap.objs.size], _, _, H1, rfl, I1.kept (t' := s1.toks) fun b o e => Heap.get?_push_of_some _ e, turn_strW _ x tk, ⟨_, Heap.get?_push_size _ rfl, rfl, rfl⟩, fun b hb => ?_, q⟩
    have e : b = s1.heap.objs.size := by simpa using hb
    subst e
    exact I1.fpOk (Nat.le_refl _) (I1.hok.fresh (Nat.le_refl _))
  · refine wpAny_pyIter_ascii ha ⟨s1.heap.objs.size, [s1.heap.objs.size], _, _, H1, rfl, I1.kept (t' := s1.toks) fun b o e => Heap.get?_push_of_some _ e, turn_strA _ x tk, ⟨_, Heap.get?_push_size _ rfl, rfl, rfl⟩, fun b hb => ?_, q⟩
    have e : b = s1.heap.objs.size := by simpa using hb
    subst e
    exact I1.fpOk (Nat.le_refl _) (I1.hok.fresh (Nat.le_refl _))
end
section
variable {g : TG} {tc : TT} {te : TE} {D : Addr} {Q : VK} {σ0 : St} {H0 : Hp}
theorem comp_str {x : Str} (Pv : Nat → St → List V → Hp → Prop) (h0 : Pv 0 σ0 [] H0) (hD : ∀ i σ ys H, i ≤ x.cps.size → Pv i σ ys H → H D = some (.lst ys) ∧ ys.length ≤ i) (hz : x.cps.size ≤ sizeLine)
    (hs : ∀ i c σ ys H, x.cps[i]? = some c → Pv i σ ys H → g (.str (sgn c)) σ H fun σ2 H2 => tc σ2 H2 fun b H3 => if b = true then te σ2 H3 fun v H4 => H4 D = some (.lst ys) ∧ Pv (i + 1) σ2 (ys ++ [v]) (upd H4 D (.lst (ys ++ [v]))) else Pv (i + 1) σ2 ys H3)
    (hd : ∀ σ ys H, Pv x.cps.size σ ys H → Q (.ref D) H) : ∃ W : Nat → Nat → St → List V → Hp → Prop, (∃ m, W 0 m σ0 [] H0) ∧ compW (Its x) g tc te D Q W := by
  refine ⟨fun i m σ ys H => m = x.cps.size - i ∧ i ≤ x.cps.size ∧ Pv i σ ys H, ⟨x.cps.size, by simp, Nat.zero_le _, h0⟩, ?_⟩
  rintro i m σ ys H ⟨rfl, hi, p⟩
  refine ⟨(hD i σ ys H hi p).1, ?_⟩
  by_cases hlt : i < x.cps.size
  · refine .inr ⟨hlt, Nat.lt_of_le_of_lt (hD i σ ys H hi p).2 (Nat.lt_of_lt_of_le hlt hz), Pv (i + 1), fun σ' ys' H' p' => ⟨x.cps.size - (i + 1), by omega, rfl, hlt, p'⟩, fun v H' y => ?_⟩
    obtain ⟨e, c, hc, rfl⟩ := y
    subst e
    exact hs i c σ ys _ hc p
  · have e : i = x.cps.size := by omega
    subst e
    exact .inl ⟨Nat.le_refl _, hd σ ys H p⟩
end
end L2

set_option maxHeartbeats 4000000
namespace CS
open PySem L2
abbrev Spn := Option Int × Option Int
def eV : Option Int → V
  | none => .non
  | some n => .int n
inductive CSet where
  | num (sps : List Spn)
  | wrd (b : Bool) (ws : List Str)
structure SpansAt (H : Hp) (t : Addr) (as : List Addr) (sps : List Spn) : Prop where
  tup : H t = some (.tup (as.map V.ref))
  len : as.length = sps.length
  at_ : ∀ (i : Nat) a s, as[i]? = some a → sps[i]? = some s → H a = some (.tup [eV s.1, eV s.2])
def SetAt (H : Hp) (a : Addr) : CSet → Prop
  | .num sps => ∃ t as, H a = some (.tup [.str "n", .ref t]) ∧ SpansAt H t as sps
  | .wrd b ws => ∃ t, H a = some (.tup [.str "w", .bl b, .ref t]) ∧ H t = some (.tup (ws.map V.str))
theorem SpansAt.keep {H H' : Hp} {t : Addr} {as : List Addr} {sps : List Spn} (k : ∀ a xs, H a = some (.tup xs) → H' a = some (.tup xs)) (h : SpansAt H t as sps) : SpansAt H' t as sps :=
  ⟨k _ _ h.tup, h.len, fun i a s e1 e2 => k _ _ (h.at_ i a s e1 e2)⟩
theorem SetAt.keep {H H' : Hp} {a : Addr} {S : CSet} (k : ∀ a xs, H a = some (.tup xs) → H' a = some (.tup xs)) (h : SetAt H a S) : SetAt H' a S := by
  cases S with
  | num sps => obtain ⟨t, as, h1, h2⟩ := h; exact ⟨t, as, k _ _ h1, h2.keep k⟩
  | wrd b ws => obtain ⟨t, h1, h2⟩ := h; exact ⟨t, k _ _ h1, k _ _ h2⟩
theorem SetAt.same {H H' : Hp} {a : Addr} {S : CSet} (s : Same H H') (h : SetAt H a S) : SetAt H' a S := h.keep fun _ _ e => s _ _ e
theorem SpansAt.same {H H' : Hp} {t : Addr} {as : List Addr} {sps : List Spn} (s : Same H H') (h : SpansAt H t as sps) : SpansAt H' t as sps := h.keep fun _ _ e => s _ _ e
theorem SetAt.grow {p : Addr} {H H' : Hp} {a : Addr} {S : CSet} (hP : PotAt H p) (g : Grow p H H') (h : SetAt H a S) : SetAt H' a S := h.keep fun c xs e => g.keep c _ (fun z => by
  subst z
  obtain ⟨_, _, q, _⟩ := hP
  rw [q] at e
  cases e) e
def inSp (s : Spn) (n : Int) : Bool := s.1.all (fun l => decide (l ≤ n)) && s.2.all (fun h => decide (n ≤ h))
def hasV : CSet → V → Bool
  | .num sps, .int n => sps.any fun s => inSp s n
  | .num _, _ => false
  | .wrd b ws, .str x => decide (x ∈ ws) == b
  | .wrd _ _, _ => false
def relS (s s' : Spn) : Prop := ∃ h l, s.2 = some h ∧ s'.1 = some l ∧ h + 1 < l
def okSp (s : Spn) : Prop := (∀ l h, s.1 = some l → s.2 = some h → l ≤ h) ∧ ∀ n, s.1 = some n ∨ s.2 = some n → -(10 ^ 60) < n ∧ n < 10 ^ 60
def okS : CSet → Prop
  | .num sps => sps.length ≤ 40 ∧ sps.Pairwise relS ∧ ∀ s ∈ sps, okSp s
  | .wrd _ ws => ws.length ≤ 40 ∧ ws.Pairwise ltS ∧ ∀ x ∈ ws, isW x
def noneB : CSet → Bool
  | .num sps => decide ((sps.length : Int) = 0)
  | .wrd b ws => b && decide ((ws.length : Int) = 0)
def someSp : Spn → List Int
  | (none, none) => [0, 1]
  | (none, some h) => [h, h - 1]
  | (some l, hh) => if hh = some l then [l] else [l, l + 1]
def goW : Nat → Nat → List Nat → List Nat
  | 0, _, w => w
  | f + 1, l, w => if l = 0 then w else goW f ((l - 1) / 26) ((97 + (l - 1) % 26) :: w)
def wbn (n : Nat) : Str := ⟨(goW (n + 1) (n + 1) []).toArray⟩
theorem wbn_isW : ∀ n, n < 64 → isW (wbn n) := by
  have h : ∀ n ∈ List.range 64, 1 ≤ (wbn n).length ∧ (wbn n).length ≤ 8 ∧ ∀ c ∈ (wbn n).cps.toList, 97 ≤ c ∧ c ≤ 122 := by decide +kernel
  exact fun n hn => h n (List.mem_range.mpr hn)
theorem wbn_nodup : ((List.range 64).map wbn).Nodup := by decide +kernel
theorem wbn_inj {n m : Nat} (hn : n < 64) (hm : m < 64) (e : wbn n = wbn m) : n = m := by
  have h := List.pairwise_iff_getElem.mp wbn_nodup
  by_cases h1 : n < m
  · exact absurd (by rw [List.getElem_map, List.getElem_map, List.getElem_range, List.getElem_range]; exact e) (h n m (by simpa using hn) (by simpa using hm) h1)
  by_cases h2 : m < n
  · exact absurd (by rw [List.getElem_map, List.getElem_map, List.getElem_range, List.getElem_range]; exact e.symm) (h m n (by simpa using hm) (by simpa using hn) h2)
  omega
def besides (ws : List Str) : List Str := ((List.range (ws.length + 2)).map wbn).filter fun x => !decide (x ∈ ws)
def someV : CSet → List V
  | .num sps => (sps.flatMap someSp).map V.int
  | .wrd true ws => ws.map V.str
  | .wrd false ws => (besides ws).map V.str
def anotherV (S : CSet) (v : V) : V := ((someV S).find? fun x => !decide (x = v)).getD .non
def manyGo : Int → List Spn → Int
  | acc, [] => acc
  | acc, (some l, some h) :: r => manyGo (acc + if h - l + 1 < 3 then h - l + 1 else 3) r
  | _, _ :: _ => 3
def manyS : CSet → Int
  | .num sps => manyGo 0 sps
  | .wrd b ws => if b = true then ws.length else 3
def okCellOf : CSet → V → Prop
  | .num _, v => ∃ n, v = .int n
  | .wrd _ _, v => ∃ x, v = .str x ∧ isW x
/-! ### what is reckoned -/
theorem ltS_irrefl {x : Str} (h : ltS x x) : False := List.lt_irrefl _ h
theorem nodup_of {ws : List Str} (h : ws.Pairwise ltS) : ws.Nodup := h.imp fun hl e => by subst e; exact ltS_irrefl hl
structure GoodS (S : CSet) : Prop where
  mem : ∀ x ∈ someV S, hasV S x = true ∧ okCellOf S x
  tri : (manyS S = 0 ∧ someV S = [] ∧ ∀ v, hasV S v = false) ∨ (manyS S = 1 ∧ ∃ c, someV S = [c] ∧ ∀ v, hasV S v = true → v = c) ∨ (2 ≤ manyS S ∧ ∃ x ∈ someV S, ∃ y ∈ someV S, x ≠ y)
theorem someSp_in {s : Spn} (ok : okSp s) {n : Int} (h : n ∈ someSp s) : inSp s n = true := by
  obtain ⟨a, b⟩ := s
  cases a with
  | none =>
    cases b with
    | none => rfl
    | some b =>
      have h' : n = b ∨ n = b - 1 := by simpa [someSp] using h
      have : n ≤ b := by omega
      simp [inSp, this]
  | some a =>
    cases b with
    | none =>
      have h' : n = a ∨ n = a + 1 := by simpa [someSp] using h
      have : a ≤ n := by omega
      simp [inSp, this]
    | some b =>
      have hab := ok.1 a b rfl rfl
      have es : someSp (some a, some b) = if some b = some a then [a] else [a, a + 1] := rfl
      rw [es] at h
      by_cases e : b = a
      · subst e
        have h' : n = b := by simpa using h
        subst h'
        simp [inSp]
      · rw [if_neg (by simpa using e)] at h
        have h' : n = a ∨ n = a + 1 := by simpa using h
        have h1 : a ≤ n := by omega
        have h2 : n ≤ b := by omega
        simp [inSp, h1, h2]
theorem someSp_ne (s : Spn) : ∃ x, x ∈ someSp s := by
  obtain ⟨a, b⟩ := s
  cases a with
  | none => cases b <;> exact ⟨_, List.mem_cons_self⟩
  | some a =>
    have es : someSp (some a, b) = if b = some a then [a] else [a, a + 1] := rfl
    rw [es]
    refine ⟨a, ?_⟩
    split <;> exact List.mem_cons_self
theorem many_ge : ∀ (sps : List Spn) (acc : Int), (∀ s ∈ sps, okSp s) → 0 ≤ acc → (sps.length : Int) + acc ≤ manyGo acc sps ∨ 3 ≤ manyGo acc sps
  | [], acc, _, _ => .inl (by simp [manyGo])
  | (some l, some h) :: r, acc, ok, h0 => by
    have hlh := (ok _ List.mem_cons_self).1 l h rfl rfl
    have ih := many_ge r (acc + if h - l + 1 < 3 then h - l + 1 else 3) (fun s hs => ok s (List.mem_cons_of_mem _ hs)) (by split <;> omega)
    show _ ≤ manyGo (acc + if h - l + 1 < 3 then h - l + 1 else 3) r ∨ 3 ≤ manyGo (acc + if h - l + 1 < 3 then h - l + 1 else 3) r
    rw [List.length_cons]
    have : 1 ≤ (if h - l + 1 < 3 then h - l + 1 else 3) := by split <;> omega
    omega
  | (none, _) :: r, acc, _, _ => .inr (by simp [manyGo])
  | (some l, none) :: r, acc, _, _ => .inr (by simp [manyGo])
theorem good_num {sps : List Spn} (ok : okS (.num sps)) : GoodS (.num sps) := by
  obtain ⟨hl, hp, ho⟩ := ok
  refine ⟨fun x hx => ?_, ?_⟩
  · obtain ⟨n, hn, rfl⟩ := List.mem_map.mp hx
    obtain ⟨s, hs, hns⟩ := List.mem_flatMap.mp hn
    exact ⟨List.any_eq_true.mpr ⟨s, hs, someSp_in (ho s hs) hns⟩, n, rfl⟩
  · match sps, hp, ho with
    | [], _, _ => exact .inl ⟨rfl, rfl, fun v => by cases v <;> rfl⟩
    | [(none, b)], _, _ =>
      refine .inr (.inr ⟨by show (2 : Int) ≤ 3; decide, ?_⟩)
      cases b with
      | none => exact ⟨.int 0, by simp [someV, someSp], .int 1, by simp [someV, someSp], by simp⟩
      | some b => exact ⟨.int b, by simp [someV, someSp], .int (b - 1), by simp [someV, someSp], by simp; omega⟩
    | [(some a, none)], _, _ => exact .inr (.inr ⟨by show (2 : Int) ≤ 3; decide, .int a, by simp [someV, someSp], .int (a + 1), by simp [someV, someSp], by simp; omega⟩)
    | [(some a, some b)], _, ho =>
      have hab := (ho _ List.mem_cons_self).1 a b rfl rfl
      have em : manyS (.num [(some a, some b)]) = 0 + if b - a + 1 < 3 then b - a + 1 else 3 := rfl
      by_cases e : b = a
      · subst e
        refine .inr (.inl ⟨by rw [em]; split <;> omega, .int b, by simp [someV, someSp], fun v hv => ?_⟩)
        cases v with
        | int n =>
          have : inSp (some b, some b) n = true := by simpa [hasV] using hv
          simp [inSp] at this
          have : n = b := by omega
          rw [this]
        | _ => cases hv
      · exact .inr (.inr ⟨by rw [em]; split <;> omega, .int a, by simp [someV, someSp, e], .int (a + 1), by simp [someV, someSp, e], by simp; omega⟩)
    | s :: s' :: r, hp, ho =>
      refine .inr (.inr ⟨?_, ?_⟩)
      · have := many_ge (s :: s' :: r) 0 ho (by decide)
        simp only [List.length_cons] at this
        show 2 ≤ manyGo 0 (s :: s' :: r)
        omega
      · obtain ⟨x, hx⟩ := someSp_ne s
        obtain ⟨y, hy⟩ := someSp_ne s'
        refine ⟨.int x, List.mem_map.mpr ⟨x, List.mem_flatMap.mpr ⟨s, List.mem_cons_self, hx⟩, rfl⟩, .int y, List.mem_map.mpr ⟨y, List.mem_flatMap.mpr ⟨s', List.mem_cons_of_mem _ List.mem_cons_self, hy⟩, rfl⟩, fun e => ?_⟩
        injection e with e
        subst e
        obtain ⟨h, l, e1, e2, hlt⟩ := List.rel_of_pairwise_cons hp (a' := s') List.mem_cons_self
        have i1 := someSp_in (ho s List.mem_cons_self) hx
        have i2 := someSp_in (ho s' (List.mem_cons_of_mem _ List.mem_cons_self)) hy
        unfold inSp at i1 i2
        rw [Bool.and_eq_true] at i1 i2
        rw [e1] at i1
        rw [e2] at i2
        have j1 : x ≤ h := by simpa using i1.2
        have j2 : l ≤ x := by simpa using i2.1
        omega
theorem filter_two {α : Type} [DecidableEq α] : ∀ (ws : List α) (ts : List α), ts.Nodup → ws.length + 2 ≤ ts.length → ∃ x ∈ ts, ∃ y ∈ ts, x ≠ y ∧ x ∉ ws ∧ y ∉ ws
  | [], ts, nd, hl => by
    match ts, nd, hl with
    | x :: y :: r, nd, _ => exact ⟨x, List.mem_cons_self, y, List.mem_cons_of_mem _ List.mem_cons_self, (List.rel_of_pairwise_cons nd List.mem_cons_self), by simp, by simp⟩
  | w :: ws, ts, nd, hl => by
    have hl' : (ts.erase w).length + 1 ≥ ts.length := by
      rw [List.length_erase]
      split <;> omega
    obtain ⟨x, hx, y, hy, ne, n1, n2⟩ := filter_two ws (ts.erase w) (nd.erase w) (by simp only [List.length_cons] at hl; omega)
    have a1 := (nd.mem_erase_iff).mp hx
    have a2 := (nd.mem_erase_iff).mp hy
    exact ⟨x, a1.2, y, a2.2, ne, by simp [a1.1, n1], by simp [a2.1, n2]⟩
theorem good_wrd {b : Bool} {ws : List Str} (ok : okS (.wrd b ws)) : GoodS (.wrd b ws) := by
  obtain ⟨hl, hp, ho⟩ := ok
  cases b with
  | true =>
    refine ⟨fun x hx => ?_, ?_⟩
    · obtain ⟨n, hn, rfl⟩ := List.mem_map.mp hx
      exact ⟨by simp [hasV, hn], n, rfl, ho n hn⟩
    · match ws, hp with
      | [], _ => exact .inl ⟨rfl, rfl, fun v => by cases v <;> rfl⟩
      | [c], _ =>
        refine .inr (.inl ⟨rfl, .str c, rfl, fun v hv => ?_⟩)
        cases v with
        | str x => have : x = c := by simpa [hasV] using hv
                   rw [this]
        | _ => cases hv
      | c :: d :: r, hp =>
        refine .inr (.inr ⟨by show (2 : Int) ≤ ((c :: d :: r).length : Nat); simp only [List.length_cons]; omega, .str c, by simp [someV], .str d, by simp [someV], fun e => ?_⟩)
        injection e with e
        have := List.rel_of_pairwise_cons hp (a' := d) List.mem_cons_self
        rw [e] at this
        exact ltS_irrefl this
  | false =>
    have hb : ∀ x ∈ besides ws, x ∉ ws ∧ isW x := fun x hx => by
      have h1 := List.mem_filter.mp hx
      obtain ⟨n, hn, rfl⟩ := List.mem_map.mp h1.1
      have := List.mem_range.mp hn
      exact ⟨by simpa using h1.2, wbn_isW n (by omega)⟩
    refine ⟨fun x hx => ?_, .inr (.inr ⟨by show (2 : Int) ≤ 3; decide, ?_⟩)⟩
    · obtain ⟨n, hn, rfl⟩ := List.mem_map.mp hx
      have := hb n hn
      exact ⟨by simp [hasV, this.1], n, rfl, this.2⟩
    · have nd : ((List.range (ws.length + 2)).map wbn).Nodup := by
        have : (List.range (ws.length + 2)) = (List.range 64).take (ws.length + 2) := by
          rw [List.take_range, Nat.min_eq_left (by omega)]
        rw [this, List.map_take]
        exact wbn_nodup.sublist (List.take_sublist _ _)
      obtain ⟨x, hx, y, hy, ne, n1, n2⟩ := filter_two ws _ nd (by rw [List.length_map, List.length_range]; omega)
      refine ⟨.str x, List.mem_map.mpr ⟨x, List.mem_filter.mpr ⟨hx, by simp [n1]⟩, rfl⟩, .str y, List.mem_map.mpr ⟨y, List.mem_filter.mpr ⟨hy, by simp [n2]⟩, rfl⟩, fun e => ?_⟩
      injection e with e
      exact ne e
theorem good_set {S : CSet} (ok : okS S) : GoodS S := by
  cases S with
  | num sps => exact good_num ok
  | wrd b ws => exact good_wrd ok
theorem find_some {L : List V} {v z : V} (hz : z ∈ L) (ne : z ≠ v) : ∃ f ∈ L, f ≠ v ∧ (L.find? fun x => !decide (x = v)) = some f := by
  cases e : L.find? fun x => !decide (x = v) with
  | none =>
    have := List.find?_eq_none.mp e z hz
    simp at this
    exact absurd this ne
  | some f => exact ⟨f, List.mem_of_find?_eq_some e, by simpa using List.find?_some e, rfl⟩
/-- another cell is right -/
theorem another_ok {S : CSet} (ok : okS S) (v : V) :
    (manyS S - (if hasV S v = true then 1 else 0) = 0 → anotherV S v = .non) ∧
    (manyS S - (if hasV S v = true then 1 else 0) ≠ 0 → anotherV S v ≠ .non ∧ anotherV S v ≠ v ∧ okCellOf S (anotherV S v) ∧ hasV S (anotherV S v) = true) := by
  have G := good_set ok
  have nn : ∀ x, okCellOf S x → x ≠ .non := fun x h e => by
    subst e
    cases S with
    | num _ => obtain ⟨_, h⟩ := h; cases h
    | wrd _ _ => obtain ⟨_, h, _⟩ := h; cases h
  have yes : ∀ z, z ∈ someV S → z ≠ v → anotherV S v ≠ .non ∧ anotherV S v ≠ v ∧ okCellOf S (anotherV S v) ∧ hasV S (anotherV S v) = true := fun z hz ne => by
    obtain ⟨f, hf, nf, e⟩ := find_some hz ne
    have e' : anotherV S v = f := by unfold anotherV; rw [e]; rfl
    rw [e']
    exact ⟨nn f (G.mem f hf).2, nf, (G.mem f hf).2, (G.mem f hf).1⟩
  rcases G.tri with ⟨m0, e0, h0⟩ | ⟨m1, c, e1, h1⟩ | ⟨m2, x, hx, y, hy, ne⟩
  · refine ⟨fun _ => by unfold anotherV; rw [e0]; rfl, fun h => ?_⟩
    rw [m0, h0 v] at h
    exact absurd rfl h
  · refine ⟨fun h => ?_, fun h => ?_⟩
    · by_cases hv : hasV S v = true
      · have := h1 v hv
        subst this
        unfold anotherV
        rw [e1]
        simp
      · rw [if_neg hv] at h
        omega
    · by_cases hv : hasV S v = true
      · rw [if_pos hv, m1] at h
        exact absurd rfl h
      · refine yes c (by rw [e1]; exact List.mem_cons_self) fun e => hv ?_
        subst e
        exact (G.mem c (by rw [e1]; exact List.mem_cons_self)).1
  · refine ⟨fun h => ?_, fun _ => ?_⟩
    · split at h <;> omega
    · by_cases e : x = v
      · exact yes y hy fun e' => ne (e.trans e'.symm)
      · exact yes x hx e
theorem none_many {S : CSet} (ok : okS S) : noneB S = decide (manyS S = 0) := by
  cases S with
  | num sps =>
    cases sps with
    | nil => rfl
    | cons s r =>
      have := many_ge (s :: r) 0 ok.2.2 (by decide)
      have h1 : manyS (.num (s :: r)) ≠ 0 := by
        show manyGo 0 (s :: r) ≠ 0
        simp only [List.length_cons] at this
        omega
      have h2 : (((s :: r).length : Nat) : Int) ≠ 0 := by simp only [List.length_cons]; omega
      rw [decide_eq_false h1]
      exact decide_eq_false h2
  | wrd b ws =>
    cases b with
    | true => rfl
    | false => rfl
end CS

set_option maxHeartbeats 4000000
namespace CS
open PySem L2
/-! ### spans being built -/
structure SpL (H : Hp) (l : Addr) (as : List Addr) (sps : List Spn) : Prop where
  lst : H l = some (.lst (as.map V.ref))
  len : as.length = sps.length
  at_ : ∀ (i : Nat) a s, as[i]? = some a → sps[i]? = some s → H a = some (.tup [eV s.1, eV s.2])
theorem pot_ne_tup {H : Hp} {p a : Addr} {xs : List V} (hP : PotAt H p) (e : H a = some (.tup xs)) : a ≠ p := fun z => by
  subst z
  obtain ⟨_, _, q, _⟩ := hP
  rw [q] at e
  cases e
theorem SpL.grow {p : Addr} {H H' : Hp} {l : Addr} {as : List Addr} {sps : List Spn} (hP : PotAt H p) (n : l ≠ p) (g : Grow p H H') (h : SpL H l as sps) : SpL H' l as sps :=
  ⟨g.keep _ _ n h.lst, h.len, fun i a s e1 e2 => g.keep _ _ (pot_ne_tup hP (h.at_ i a s e1 e2)) (h.at_ i a s e1 e2)⟩
theorem SpL.same {H H' : Hp} {l : Addr} {as : List Addr} {sps : List Spn} (s : Same H H') (h : SpL H l as sps) : SpL H' l as sps :=
  ⟨s _ _ h.lst, h.len, fun i a sp e1 e2 => s _ _ (h.at_ i a sp e1 e2)⟩
theorem pair_snoc {as : List Addr} {sps : List Spn} (hl : as.length = sps.length) {R : Addr → Spn → Prop} (h : ∀ (i : Nat) a s, as[i]? = some a → sps[i]? = some s → R a s) {t : Addr} {s' : Spn} (ht : R t s') :
    ∀ (i : Nat) a s, (as ++ [t])[i]? = some a → (sps ++ [s'])[i]? = some s → R a s := by
  intro i a s e1 e2
  by_cases hi : i < as.length
  · rw [List.getElem?_append_left hi] at e1
    rw [List.getElem?_append_left (by omega)] at e2
    exact h i a s e1 e2
  · have hi' : i = as.length := by
      have := (List.getElem?_eq_some_iff.mp e1).1
      rw [List.length_append] at this
      simp at this
      omega
    subst hi'
    rw [List.getElem?_append_right (Nat.le_refl _), Nat.sub_self] at e1
    rw [hl, List.getElem?_append_right (Nat.le_refl _), Nat.sub_self] at e2
    cases e1
    cases e2
    exact ht
/-- the list is written anew -/
theorem SpL.put {H : Hp} {l : Addr} {as as2 : List Addr} {sps sps2 : List Spn} {old : List V} (h : H l = some (.lst old)) (hl : as2.length = sps2.length) (hat : ∀ (i : Nat) a s, as2[i]? = some a → sps2[i]? = some s → H a = some (.tup [eV s.1, eV s.2])) :
    SpL (upd H l (.lst (as2.map V.ref))) l as2 sps2 :=
  ⟨upd_same, hl, fun i a s e1 e2 => by rw [upd_ne (ne_of (hat i a s e1 e2) h (by intro z; cases z))]; exact hat i a s e1 e2⟩
theorem SpL.unsnoc {H : Hp} {l : Addr} {as : List Addr} {sps : List Spn} (h : SpL H l as sps) (ne : sps ≠ []) : ∃ as' a sps' s, as = as' ++ [a] ∧ sps = sps' ++ [s] ∧ as'.length = sps'.length ∧ (∀ (i : Nat) a s, as'[i]? = some a → sps'[i]? = some s → H a = some (.tup [eV s.1, eV s.2])) ∧ H a = some (.tup [eV s.1, eV s.2]) := by
  have ne2 : as ≠ [] := fun z => ne (List.eq_nil_of_length_eq_zero (by rw [← h.len, z]; rfl))
  have e1 := List.dropLast_concat_getLast ne2
  have e2 := List.dropLast_concat_getLast ne
  have hl : as.dropLast.length = sps.dropLast.length := by rw [List.length_dropLast, List.length_dropLast, h.len]
  have hpos : 0 < sps.length := List.length_pos_iff.mpr ne
  refine ⟨as.dropLast, as.getLast ne2, sps.dropLast, sps.getLast ne, e1.symm, e2.symm, hl, fun i a s g1 g2 => ?_, ?_⟩
  · refine h.at_ i a s ?_ ?_
    · rw [← e1, List.getElem?_append_left (List.getElem?_eq_some_iff.mp g1).1]; exact g1
    · rw [← e2, List.getElem?_append_left (List.getElem?_eq_some_iff.mp g2).1]; exact g2
  · refine h.at_ (sps.length - 1) _ _ ?_ ?_
    · rw [← h.len, ← List.getLast?_eq_getElem?]; exact List.getLast?_eq_some_getLast ne2
    · rw [← List.getLast?_eq_getElem?]; exact List.getLast?_eq_some_getLast ne
theorem ixN_last {α : Type} (xs : List α) (v : α) : ixN (xs ++ [v]).length (-1) = some xs.length := by
  unfold ixN
  rw [if_neg (by decide), List.length_append, List.length_singleton, if_pos (by omega)]
  congr 1
  omega
theorem set_last {α : Type} (xs : List α) (v w : α) : (xs ++ [v]).set xs.length w = xs ++ [w] := by
  rw [List.set_append_right _ _ (Nat.le_refl _), Nat.sub_self]
  rfl
/-! ### the spans that are built lie apart -/
/-- both ends are there, below all that is to come -/
def Bd (ms : List Int) (s : Spn) : Prop := ∃ l h, s = (some l, some h) ∧ l ≤ h ∧ (-(10 ^ 60) < l ∧ h < 10 ^ 60) ∧ ∀ m ∈ ms, h < m
structure GoodL (ms : List Int) (sps : List Spn) : Prop where
  pw : sps.Pairwise relS
  bd : ∀ s ∈ sps, Bd ms s
theorem GoodL.nil (ms : List Int) : GoodL ms [] := ⟨.nil, by simp⟩
theorem GoodL.merge {x : Int} {ms : List Int} {sps : List Spn} {l h : Int} (g : GoodL (x :: ms) (sps ++ [(some l, some h)])) (hx : ∀ m ∈ ms, x < m) (hb : -(10 ^ 60) < x ∧ x < 10 ^ 60) : GoodL ms (sps ++ [(some l, some x)]) := by
  obtain ⟨pw, bd⟩ := g
  rw [List.pairwise_append] at pw
  refine ⟨?_, fun s hs => ?_⟩
  · rw [List.pairwise_append]
    refine ⟨pw.1, List.pairwise_singleton _ _, fun a ha b hb' => ?_⟩
    have := pw.2.2 a ha _ (List.mem_singleton.mpr rfl)
    rw [List.mem_singleton.mp hb']
    exact this
  · rcases List.mem_append.mp hs with z | z
    · obtain ⟨l', h', e, h1, h2, h3⟩ := bd s (List.mem_append_left _ z)
      exact ⟨l', h', e, h1, h2, fun m hm => h3 m (List.mem_cons_of_mem _ hm)⟩
    · obtain ⟨l', h', e, h1, h2, h3⟩ := bd (some l, some h) (List.mem_append_right _ (List.mem_singleton.mpr rfl))
      cases e
      have := h3 x List.mem_cons_self
      exact ⟨l, x, List.mem_singleton.mp z, by omega, ⟨h2.1, hb.2⟩, hx⟩
theorem GoodL.snoc {x : Int} {ms : List Int} {sps : List Spn} (g : GoodL (x :: ms) sps) (hx : ∀ m ∈ ms, x < m) (hb : -(10 ^ 60) < x ∧ x < 10 ^ 60) (hlast : ∀ sps' l h, sps = sps' ++ [(some l, some h)] → h + 1 < x) : GoodL ms (sps ++ [(some x, some x)]) := by
  obtain ⟨pw, bd⟩ := g
  refine ⟨?_, fun s hs => ?_⟩
  · rw [List.pairwise_append]
    refine ⟨pw, List.pairwise_singleton _ _, fun a ha b hb' => ?_⟩
    rw [List.mem_singleton.mp hb']
    by_cases ne : sps = []
    · rw [ne] at ha; cases ha
    · have e2 := List.dropLast_concat_getLast ne
      obtain ⟨l, h, e, h1, h2, h3⟩ := bd _ (List.getLast_mem ne)
      rw [e] at e2
      have hh := hlast _ l h e2.symm
      rw [← e2] at ha pw
      rw [List.pairwise_append] at pw
      rcases List.mem_append.mp ha with z | z
      · obtain ⟨h', l', e3, e4, lt⟩ := pw.2.2 a z _ (List.mem_singleton.mpr rfl)
        have e4' : l = l' := Option.some.inj e4
        exact ⟨h', x, e3, rfl, by omega⟩
      · rw [List.mem_singleton.mp z]
        exact ⟨h, x, rfl, rfl, hh⟩
  · rcases List.mem_append.mp hs with z | z
    · obtain ⟨l', h', e, h1, h2, h3⟩ := bd s z
      exact ⟨l', h', e, h1, h2, fun m hm => h3 m (List.mem_cons_of_mem _ hm)⟩
    · exact ⟨x, x, List.mem_singleton.mp z, Int.le_refl _, hb, hx⟩
/-- the spans are a set's -/
structure OkL (sps : List Spn) : Prop where
  pw : sps.Pairwise relS
  ok : ∀ s ∈ sps, okSp s
theorem GoodL.ok {ms : List Int} {sps : List Spn} (g : GoodL ms sps) : OkL sps := ⟨g.pw, fun s hs => by
  obtain ⟨l, h, rfl, h1, h2, _⟩ := g.bd s hs
  refine ⟨fun a b e1 e2 => ?_, fun n hn => ?_⟩
  · cases e1; cases e2; exact h1
  · rcases hn with e | e
    · cases e
      exact ⟨h2.1, by omega⟩
    · cases e
      exact ⟨by omega, h2.2⟩⟩
theorem OkL.first {s : Spn} {r : List Spn} (g : OkL (s :: r)) : OkL ((none, s.2) :: r) := by
  refine ⟨?_, fun s' hs => ?_⟩
  · have h := List.pairwise_cons.mp g.pw
    exact List.pairwise_cons.mpr ⟨fun b hb => h.1 b hb, h.2⟩
  · rcases List.mem_cons.mp hs with rfl | z
    · refine ⟨fun l h e _ => (by cases e), fun n hn => (g.ok s List.mem_cons_self).2 n ?_⟩
      rcases hn with e | e
      · cases e
      · exact .inr e
    · exact g.ok s' (List.mem_cons_of_mem _ z)
theorem OkL.last {s : Spn} {r : List Spn} (g : OkL (r ++ [s])) : OkL (r ++ [(s.1, none)]) := by
  refine ⟨?_, fun s' hs => ?_⟩
  · have h := List.pairwise_append.mp g.pw
    refine List.pairwise_append.mpr ⟨h.1, List.pairwise_singleton _ _, fun a ha b hb => ?_⟩
    have := h.2.2 a ha s (List.mem_singleton.mpr rfl)
    rw [List.mem_singleton.mp hb]
    exact this
  · rcases List.mem_append.mp hs with z | z
    · exact g.ok s' (List.mem_append_left _ z)
    · rw [List.mem_singleton.mp z]
      refine ⟨fun l h _ e => (by cases e), fun n hn => (g.ok s (List.mem_append_right _ (List.mem_singleton.mpr rfl))).2 n ?_⟩
      rcases hn with e | e
      · exact .inl e
      · cases e
/-! ### sorted(set(..)) -/
theorem nodup_le {α : Type} [DecidableEq α] : ∀ {ms ns : List α}, ms.Nodup → (∀ m ∈ ms, m ∈ ns) → ms.length ≤ ns.length
  | [], _, _, _ => Nat.zero_le _
  | m :: ms, ns, nd, h => by
    have nd' := List.nodup_cons.mp nd
    have hm := h m List.mem_cons_self
    have ih := nodup_le (ms := ms) (ns := ns.erase m) nd'.2 fun x hx => (List.mem_erase_of_ne (fun e => nd'.1 (by rw [← e]; exact hx))).mpr (h x (List.mem_cons_of_mem _ hx))
    rw [List.length_erase_of_mem hm] at ih
    have : 0 < ns.length := List.length_pos_of_mem hm
    rw [List.length_cons]
    omega
theorem sorted_ints {ns : List Int} {ys : List V} (h : SortedOf (ns.map V.int) ys) : ∃ ms : List Int, ys = ms.map V.int ∧ ms.Pairwise (· < ·) ∧ (∀ n ∈ ms, n ∈ ns) ∧ ms.length ≤ ns.length := by
  rcases h with ⟨ns', ms, e1, e2, h1, h2⟩ | ⟨ss, ms, e1, e2, h1, h2⟩
  · have : ns = ns' := by
      have := congrArg (List.map fun v => match v with | V.int n => n | _ => 0) e1
      simpa [List.map_map, Function.comp_def] using this
    subst this
    refine ⟨ms, e2, h1, fun n hn => (h2 n).mp hn, nodup_le (h1.imp fun hl e => by omega) fun n hn => (h2 n).mp hn⟩
  · cases ns with
    | nil =>
      cases ss with
      | nil =>
        cases ms with
        | nil => exact ⟨[], e2, .nil, by simp, Nat.le_refl _⟩
        | cons m ms => exact absurd ((h2 m).mp List.mem_cons_self) (by simp)
      | cons s ss => cases e1
    | cons n ns =>
      cases ss with
      | nil => cases e1
      | cons s ss => simp at e1
theorem sorted_strs {ns : List Str} {ys : List V} (h : SortedOf (ns.map V.str) ys) : ∃ ms : List Str, ys = ms.map V.str ∧ ms.Pairwise ltS ∧ (∀ n ∈ ms, n ∈ ns) ∧ ms.length ≤ ns.length := by
  rcases h with ⟨ss, ms, e1, e2, h1, h2⟩ | ⟨ns', ms, e1, e2, h1, h2⟩
  · cases ns with
    | nil =>
      cases ss with
      | nil =>
        cases ms with
        | nil => exact ⟨[], e2, .nil, by simp, Nat.le_refl _⟩
        | cons m ms => exact absurd ((h2 m).mp List.mem_cons_self) (by simp)
      | cons s ss => cases e1
    | cons n ns =>
      cases ss with
      | nil => cases e1
      | cons s ss => simp at e1
  · have : ns = ns' := by
      have := congrArg (List.map fun v => match v with | V.str n => n | _ => "") e1
      simpa [List.map_map, Function.comp_def] using this
    subst this
    exact ⟨ms, e2, h1, fun n hn => (h2 n).mp hn, nodup_le (nodup_of h1) fun n hn => (h2 n).mp hn⟩
theorem mem_cutV {xs : List V} {lo hi : Option Int} {x : V} (h : x ∈ cutV xs lo hi) : x ∈ xs := List.mem_of_mem_drop (List.mem_of_mem_take h)
end CS

namespace My
open PySem L2
def top (i : Nat) : Stmt := PySem.Challenge.pw_rowpipes_k15_cells_of_sets.main.body.getD i (.Pass ⟨0, 0, 0, 0⟩)
abbrev sCell : Stmt := top 13
abbrev sPot : Stmt := top 14
abbrev sDraw : Stmt := top 15
abbrev sNumber : Stmt := top 16
abbrev sWord : Stmt := top 17
abbrev nCell : List Str := ["_law_script", "_law_k"]
abbrev nPot : List Str := ["_law_script", "_law_k", "_law_cell"]
abbrev nDraw : List Str := ["_law_pot_here", "_law_many_here", "_law_digit"]
abbrev nNumber : List Str := ["_law_pot_here", "_law_near", "_law_far"]
abbrev nWord : List Str := ["_law_pot_here", "_law_letters", "_law_some"]
theorem scCell : FnScope nCell ["_law_script", "_law_k"] (defScope sCell) := ⟨rfl, rfl, rfl, by decide +kernel, rfl, by decide +kernel, by decide +kernel⟩
theorem scPot : FnScope nPot ["_law_script", "_law_k"] (defScope sPot) := ⟨rfl, rfl, rfl, by decide +kernel, rfl, by decide +kernel, by decide +kernel⟩
theorem scDraw : FnScope nDraw ["_law_pot_here", "_law_many_here"] (defScope sDraw) := ⟨rfl, rfl, rfl, by decide +kernel, rfl, by decide +kernel, by decide +kernel⟩
theorem scNumber : FnScope nNumber ["_law_pot_here"] (defScope sNumber) := ⟨rfl, rfl, rfl, by decide +kernel, rfl, by decide +kernel, by decide +kernel⟩
theorem scWord : FnScope nWord ["_law_pot_here"] (defScope sWord) := ⟨rfl, rfl, rfl, by decide +kernel, rfl, by decide +kernel, by decide +kernel⟩
/-- the built-in names that the text leaves as they are -/
structure Blt (mg : Str → Option Value) : Prop where
  len : mg "len" = none
  max : mg "max" = none
  abs : mg "abs" = none
  divmod : mg "divmod" = none
  range : mg "range" = none
  tuple : mg "tuple" = none
  list : mg "list" = none
  isinstance : mg "isinstance" = none
section
variable {P : Program} {w : World} {K : PySem.W.Frag} {mg : Str → Option Value} {base : Heap} {f fCell fDraw : Addr} {fd dCell dDraw : FuncData}
theorem ok_cell (B : Blt mg) (F : Fun K "_law_cell_at" "_law_cell_at" sCell f fd) : FnOk P w K mg base CX0 1 f fd ["_law_script", "_law_k"] (spCell K) := by
  refine F.ok scCell (fun vs H Q E h => ?_) (fun cdv A outer s H vs Q E hr h => ?_)
  · obtain ⟨a, ns, k, rfl, _⟩ := h
    rfl
  obtain ⟨a, ns, k, rfl, hS, h0, q⟩ := h
  refine ⟨_, pss_cons (ps_if (pt_cmpR op_lt (pv 1) (pe_callB call_len_seq rfl B.len PySem.boot_len (pa_cons (pv 0) pa_nil)) (nomark _)) (pss_one (ps_ret (pe_ix ix_list (pv 0) (pv 1) (fun _ _ => rfl)))) pss_nil)
    (pss_one (ps_ret pe_int)), ?_⟩
  refine ⟨_, rfl, _, rfl, a, _, rfl, .inl hS, _, _, rfl, rfl, _, rfl, ?_⟩
  refine ite2 (fun c => ?_) (fun c => ?_)
  · have c' : k < (((ns.map V.int).length : Nat) : Int) := of_decide_eq_true c
    obtain ⟨v, hv, hg⟩ := atI_lt h0 c'
    rw [List.getElem?_map] at hg
    cases e : ns[k.toNat]? with
    | none => rw [e] at hg; cases hg
    | some n =>
      rw [e] at hg
      have hg' : V.int n = v := Option.some.inj hg
      subst hg'
      exact ⟨_, rfl, _, rfl, a, _, _, _, rfl, rfl, hS, hv, q n⟩
  · exact q 0
theorem ok_pot (B : Blt mg) (F : Fun K "_law_pot" "_law_pot" sPot f fd) (G : FnOk P w K mg base CX0 1 fCell dCell ["_law_script", "_law_k"] (spCell K)) (bG : Binds K dCell ["_law_script", "_law_k"] []) (kG : PySem.W.keepIn K (.ref fCell) = true) (mG : mg "_law_cell_at" = some (.ref fCell)) :
    FnOk P w K mg base CX0 2 f fd ["_law_script", "_law_k"] (spPot K) := by
  refine F.ok scPot (fun vs H Q E h => ?_) (fun cdv A outer s H vs Q E hr h => ?_)
  · obtain ⟨a, ns, k, rfl, _⟩ := h
    rfl
  obtain ⟨a, ns, k, rfl, hS, h0, h1, q⟩ := h
  refine ⟨_, pss_cons (ps_set (i := 2) scPot.nd rfl (Or.inl rfl) (pe_call G hr rfl mG kG bG .nil pass0 (pa_cons (pv 0) (pa_cons (pv 1) pa_nil))))
    (pss_one (ps_ret (pe_lst (pa_cons (pe_callB (call_max2 rfl) rfl B.max PyProof.Rows.boot_max (pa_cons pe_int (pa_cons (pe_op op_sub (pv 2) (pe_op op_pow pe_int pe_int)) pa_nil)))
      (pa_cons (pe_op op_add (pe_op op_mod (pe_op op_add (pe_op op_add (pe_callB call_abs rfl B.abs PyProof.Rows.boot_abs (pa_cons (pv 2) pa_nil)) (pe_op op_mul pe_int (pv 1))) pe_int) pe_int) pe_int) pa_nil))))), ?_⟩
  refine ⟨_, rfl, _, rfl, a, ns, k, rfl, hS, h0, fun n => ?_⟩
  refine ⟨_, rfl, _, _, rfl, rfl, ⟨by decide, by decide, by decide⟩, _, _, rfl, rfl, _, _, rfl, ?_⟩
  refine ⟨_, rfl, _, rfl, _, rfl, _, _, rfl, rfl, .inl ⟨by decide, by decide⟩, _, _, rfl, rfl, _, _, rfl, rfl, _, _, rfl, rfl, (by show (0 : Int) < 2147483629; decide), _, _, rfl, rfl, (by show 2 ≤ sizeLine; decide), fun p hp => ?_⟩
  refine q p _ hp (same_new hp _) ⟨_, _, upd_same, ?_, ?_, ?_⟩
  · split <;> omega
  · have := Int.emod_nonneg ((if n < 0 then -n else n) + 7919 * k + 3) (show (2147483629 : Int) ≠ 0 by decide)
    omega
  · have := Int.emod_lt_of_pos ((if n < 0 then -n else n) + 7919 * k + 3) (show (0 : Int) < 2147483629 by decide)
    omega
theorem ok_draw (B : Blt mg) (F : Fun K "_law_draw" "_law_draw" sDraw f fd) : FnOk P w K mg base CX0 1 f fd ["_law_pot_here", "_law_many_here"] spDraw := by
  refine F.ok scDraw (fun vs H Q E h => ?_) (fun cdv A outer s H vs Q E hr h => ?_)
  · obtain ⟨p, m, rfl, _⟩ := h
    rfl
  obtain ⟨p, m, rfl, ⟨a, b, hp, ha, hb, hb'⟩, hm, hm', q⟩ := h
  refine ⟨_, pss_cons (ps_if (pt_cmpR op_gt (pe_ix ix_list (pv 0) pe_int (fun _ _ => rfl)) pe_int (nomark _))
      (pss_cons (ps_asg (pe_callB call_divmodB rfl B.divmod PyProof.Rows.boot_divmod (pa_cons (pe_ix ix_list (pv 0) pe_int (fun _ _ => rfl)) (pa_cons (pv 1) pa_nil)))
        (pg_tup rfl (pgs_cons (pg_sub (pv 0) pe_int set_list) (pgs_cons (pg_name (i := 2) scDraw.nd rfl (Or.inl rfl)) pgs_nil))))
      (pss_one (ps_ret (pv 2)))) pss_nil)
    (pss_cons (ps_asg (pe_op op_mod (pe_op op_add (pe_op op_mul (pe_ix ix_list (pv 0) pe_int (fun _ _ => rfl)) pe_int) pe_int) pe_int) (pg_sub (pv 0) pe_int set_list))
    (pss_one (ps_ret (pe_op op_mod (pe_op op_fdiv (pe_op op_mod (pe_op op_mul (pe_ix ix_list (pv 0) pe_int (fun _ _ => rfl)) (pe_ix ix_list (pv 0) pe_int (fun _ _ => rfl))) pe_int) pe_int) (pv 1))))), ?_⟩
  refine ⟨_, rfl, p, _, _, _, rfl, rfl, SqL.of hp, rfl, _, _, rfl, rfl, _, rfl, ?_⟩
  refine ite2 (fun c => ?_) (fun c => ?_)
  · refine ⟨_, rfl, p, _, _, _, rfl, rfl, SqL.of hp, rfl, _, rfl, _, _, rfl, ⟨hm, hm'⟩, fun t ht => ?_⟩
    have np : p ≠ t := ne_of_none hp ht
    refine ⟨t, _, rfl, SqT.of upd_same, rfl, _, _, rfl, _, rfl, p, _, _, 0, rfl, rfl, (by rw [upd_ne np]; exact hp), rfl, _, _, rfl, rfl, ?_⟩
    refine ⟨_, rfl, q _ _ ⟨fun c o nc e => ?_, _, _, upd_same, Int.ediv_nonneg ha (by omega), hb, hb'⟩ (Int.emod_nonneg _ (by omega)) (Int.emod_lt_of_pos _ hm)⟩
    rw [upd_ne nc, upd_ne (ne_of_none e ht)]
    exact e
  · have h1 := Int.emod_nonneg (b * 48271 + 11) (show (2147483647 : Int) ≠ 0 by decide)
    have h2 := Int.emod_lt_of_pos (b * 48271 + 11) (show (0 : Int) < 2147483647 by decide)
    refine ⟨_, rfl, p, _, _, _, rfl, rfl, SqL.of hp, rfl, _, _, rfl, rfl, .inr ⟨by decide, by decide⟩, _, _, rfl, rfl, _, _, rfl, rfl, (by show (0 : Int) < 2147483647; decide), _, rfl, p, _, _, 1, rfl, rfl, hp, rfl, ?_⟩
    refine ⟨_, rfl, p, _, _, _, rfl, rfl, SqL.of upd_same, rfl, _, rfl, p, _, _, _, rfl, rfl, SqL.of upd_same, rfl, _, _, rfl, rfl, .inl ⟨?_, ?_⟩, _, _, rfl, rfl, (by show (0 : Int) < 2147483629; decide), _, _, rfl, rfl, ⟨by decide, by decide⟩, _, rfl, _, _, rfl, rfl, hm, ?_⟩
    · have e : ((2 : Int) ^ 64) = 18446744073709551616 := by decide
      rw [e]; omega
    · have e : ((2 : Int) ^ 64) = 18446744073709551616 := by decide
      rw [e]; omega
    · exact q _ _ ⟨fun c o nc e => by rw [upd_ne nc]; exact e, _, _, upd_same, ha, h1, by omega⟩ (Int.emod_nonneg _ (by omega)) (Int.emod_lt_of_pos _ hm)
end
end My

set_option maxHeartbeats 4000000
namespace My
open PySem L2
section
variable {P : Program} {w : World} {K : PySem.W.Frag} {mg : Str → Option Value} {base : Heap} {f fDraw : Addr} {fd dDraw : FuncData}
theorem ok_number (F : Fun K "_law_number" "_law_number" sNumber f fd) (G : FnOk P w K mg base CX0 1 fDraw dDraw ["_law_pot_here", "_law_many_here"] spDraw) (bG : Binds K dDraw ["_law_pot_here", "_law_many_here"] []) (kG : PySem.W.keepIn K (.ref fDraw) = true) (mG : mg "_law_draw" = some (.ref fDraw)) :
    FnOk P w K mg base CX0 2 f fd ["_law_pot_here"] spNumber := by
  refine F.ok scNumber (fun vs H Q E h => ?_) (fun cdv A outer s H vs Q E hr h => ?_)
  · obtain ⟨p, rfl, _⟩ := h
    rfl
  obtain ⟨p, rfl, hP, q⟩ := h
  refine ⟨_, pss_cons (ps_set (i := 1) scNumber.nd rfl (Or.inl rfl) (pe_op op_sub (pe_call G hr rfl mG kG bG .nil pass0 (pa_cons (pv 0) (pa_cons pe_int pa_nil))) pe_int))
    (pss_cons (ps_if (pt_cmpR op_gt (pe_call G hr rfl mG kG bG .nil pass0 (pa_cons (pv 0) (pa_cons pe_int pa_nil))) pe_int (nomark _)) (pss_one (ps_ret (pv 1))) pss_nil)
    (pss_cons (ps_set (i := 2) scNumber.nd rfl (Or.inl rfl) (pe_lst (pa_cons (pe_op op_add (pe_op op_sub (pe_call G hr rfl mG kG bG .nil pass0 (pa_cons (pv 0) (pa_cons (pe_op op_sub (pe_op op_mul pe_int (pe_op op_pow pe_int pe_int)) pe_int) pa_nil))) (pe_op op_pow pe_int pe_int)) pe_int)
      (pa_cons (pe_op op_sub (pe_op op_pow pe_int pe_int) pe_int) (pa_cons (pe_op op_sub pe_int (pe_op op_pow pe_int pe_int)) pa_nil)))))
    (pss_one (ps_ret (pe_ix ix_list (pv 2) (pe_op op_add (pe_op op_fdiv (pe_call G hr rfl mG kG bG .nil pass0 (pa_cons (pv 0) (pa_cons pe_int pa_nil))) pe_int) (pe_op op_mod (pv 1) pe_int)) (fun _ _ => rfl)))))), ?_⟩
  refine ⟨_, rfl, p, _, rfl, hP, by decide, by decide, fun d1 H1 g1 a1 b1 => ⟨_, _, rfl, rfl, ?_⟩⟩
  refine ⟨_, rfl, p, _, rfl, g1.pot, by decide, by decide, fun d2 H2 g2 a2 b2 => ⟨_, _, rfl, rfl, _, rfl, ?_⟩⟩
  have e60 : ((10 : Int) ^ (60 : Nat)) = 1000000000000000000000000000000000000000000000000000000000000 := by decide
  refine ite2 (fun c => ?_) (fun c => ?_)
  · exact ⟨_, rfl, q _ _ (g1.trans g2) (by rw [e60]; omega) (by rw [e60]; omega)⟩
  · refine ⟨_, rfl, _, _, rfl, rfl, ⟨by decide, by decide, by decide⟩, _, _, rfl, rfl, .inl ⟨by decide, by decide⟩, _, _, rfl, rfl, p, _, rfl, g2.pot, by decide +kernel, by decide +kernel, fun d3 H3 g3 a3 b3 => ?_⟩
    have b3' : d3 < 1999999999999999999999999999999999999999999999999999999999999 := b3
    refine ⟨_, _, rfl, rfl, ⟨by decide, by decide, by decide⟩, _, _, rfl, rfl, _, _, rfl, rfl, _, _, rfl, rfl, ⟨by decide, by decide, by decide⟩, _, _, rfl, rfl, _, _, rfl, rfl, ⟨by decide, by decide, by decide⟩, _, _, rfl, rfl, (by show 3 ≤ sizeLine; decide), fun l hl => ?_⟩
    have g3' := (g1.trans g2).trans g3
    have n1 : l ≠ p := fun e => by subst e; obtain ⟨_, _, z, _⟩ := g3'.pot; rw [z] at hl; cases hl
    refine ⟨_, rfl, _, rfl, p, _, rfl, (g3'.new hl).pot, by decide, by decide, fun d4 H4 g4 a4 b4 => ?_⟩
    have hl4 := g4.keep l _ n1 upd_same
    refine ⟨_, _, rfl, rfl, ⟨by decide, by decide⟩, _, rfl, _, _, rfl, rfl, (by show (0 : Int) < 2; decide), _, _, rfl, rfl, ?_⟩
    have i0 : 0 ≤ d4 / 2 + (d1 - 15) % 2 := by omega
    have i1 : d4 / 2 + (d1 - 15) % 2 < (3 : Nat) := by omega
    obtain ⟨v, hv, hm⟩ := atI_mem (xs := [V.int (d3 - 10 ^ (60 : Int).toNat + 1), V.int (10 ^ (60 : Int).toNat - 1), V.int (1 - 10 ^ (60 : Int).toNat)]) i0 i1
    have good : ∃ n : Int, v = .int n ∧ -(10 ^ 60) < n ∧ n < 10 ^ 60 := by
      have e60' : ((10 : Int) ^ ((60 : Int).toNat)) = 1000000000000000000000000000000000000000000000000000000000000 := by decide
      simp only [List.mem_cons, List.not_mem_nil, or_false] at hm
      rcases hm with rfl | rfl | rfl
      · exact ⟨_, rfl, by rw [e60, e60']; omega, by rw [e60, e60']; omega⟩
      · exact ⟨_, rfl, by rw [e60, e60']; omega, by rw [e60, e60']; omega⟩
      · exact ⟨_, rfl, by rw [e60, e60']; omega, by rw [e60, e60']; omega⟩
    obtain ⟨n, rfl, q1, q2⟩ := good
    exact ⟨l, _, _, _, rfl, rfl, SqL.of hl4, hv, q n _ ((g3'.new hl).trans g4) q1 q2⟩

def letters : Str := "abcdefghijklmnopqrstuvwxyz"
theorem letters_ok : ∀ c ∈ letters.cps.toList, 97 ≤ c ∧ c ≤ 122 := by decide +kernel
theorem letters_len : letters.cps.toList.length = 26 := by decide +kernel
theorem ok_word (B : Blt mg) (F : Fun K "_law_word" "_law_word" sWord f fd) (G : FnOk P w K mg base CX0 1 fDraw dDraw ["_law_pot_here", "_law_many_here"] spDraw) (bG : Binds K dDraw ["_law_pot_here", "_law_many_here"] []) (kG : PySem.W.keepIn K (.ref fDraw) = true) (mG : mg "_law_draw" = some (.ref fDraw)) :
    FnOk P w K mg base CX0 2 f fd ["_law_pot_here"] spWord := by
  refine F.ok scWord (fun vs H Q E h => ?_) (fun cdv A outer s H vs Q E hr h => ?_)
  · obtain ⟨p, rfl, _⟩ := h
    rfl
  obtain ⟨p, rfl, hP, q⟩ := h
  refine ⟨_, pss_cons (ps_set (i := 1) scWord.nd rfl (Or.inr rfl) pe_str)
    (pss_cons (ps_set (i := 2) scWord.nd rfl (Or.inr rfl) (pe_ix ix_list (pe_lst (pa_cons pe_int (pa_cons pe_int pa_nil))) (pe_call G hr rfl mG kG bG .nil pass0 (pa_cons (pv 0) (pa_cons pe_int pa_nil))) (fun _ _ => rfl)))
    (pss_one (ps_ret (pe_bm PySem.F.plainAttrs_str PySem.F.slot_str_join PySem.F.type_str_join mt_join pe_str
      (pa_cons (pe_lcomp (N' := ["_law_k", "_law_pot_here", "_law_letters", "_law_some"]) (src := [none, some 0, some 1, some 2]) rfl (CompSc.ofB (by kernel_rfl))
        (pi_range1 rfl B.range (pa_cons (pe_op op_add pe_int (pe_op op_mul (pe_call G hr rfl mG kG bG .nil pass0 (pa_cons (pv 0) (pa_cons pe_int pa_nil))) (pe_call G hr rfl mG kG bG .nil pass0 (pa_cons (pv 0) (pa_cons pe_int pa_nil))))) pa_nil))
        (fun cl C s H fp => pgl (i := 0))
        (fun cl C s H fp => pifs_nil)
        (fun cl C s H fp => pe_ix ix_str (pvf 2) (pe_call G hr glc mG kG bG .nil pass0 (pa_cons (pvf 1) (pa_cons (pvf 3) pa_nil))) (fun _ _ => rfl))) pa_nil))))), ?_⟩
  refine ⟨(by show 2 ≤ sizeLine; decide), fun l hl => ?_⟩
  have n1 : l ≠ p := fun e => by subst e; obtain ⟨_, _, z, _⟩ := hP; rw [z] at hl; cases hl
  refine ⟨_, rfl, p, _, rfl, ((Grow.refl hP).new hl).pot, by decide, by decide, fun d1 H1 g1 a1 b1 => ?_⟩
  have g1' := ((Grow.refl hP).new hl).trans g1
  obtain ⟨v, hv, hm⟩ := atI_mem (xs := [V.int 3, V.int 26]) a1 b1
  have good : ∃ n : Int, v = .int n ∧ 0 < n ∧ n ≤ 26 := by
    simp only [List.mem_cons, List.not_mem_nil, or_false] at hm
    rcases hm with rfl | rfl
    · exact ⟨3, rfl, by decide, by decide⟩
    · exact ⟨26, rfl, by decide, by decide⟩
  obtain ⟨n, rfl, n0, n26⟩ := good
  refine ⟨l, _, _, _, rfl, rfl, SqL.of (g1.keep l _ n1 upd_same), hv, rfl, ?_⟩
  refine ⟨_, rfl, p, _, rfl, g1'.pot, by decide, by decide, fun d2 H2 g2 a2 b2 => ?_⟩
  refine ⟨_, rfl, p, _, rfl, g2.pot, by decide, by decide, fun d3 H3 g3 a3 b3 => ?_⟩
  have g3' := (g1'.trans g2).trans g3
  have d23 : 0 ≤ d2 * d3 ∧ d2 * d3 ≤ 7 := by
    have e : d2 = 0 ∨ d2 = 1 := by omega
    rcases e with rfl | rfl <;> omega
  refine ⟨_, _, rfl, rfl, .inl ⟨?_, ?_⟩, _, _, rfl, rfl, _, rfl, ?_, ?_, fun D hD => ?_⟩
  · have e : ((2 : Int) ^ 64) = 18446744073709551616 := by decide
    rw [e]; omega
  · have e : ((2 : Int) ^ 64) = 18446744073709551616 := by decide
    rw [e]; omega
  · have e : ((2 : Int) ^ 62) = 4611686018427387904 := by decide
    rw [e]; omega
  · have e : ((2 : Int) ^ 62) = 4611686018427387904 := by decide
    rw [e]; omega
  have n2 : D ≠ p := fun e => by subst e; obtain ⟨_, _, z, _⟩ := g3'.pot; rw [z] at hD; cases hD
  have log : n.natAbs.log2 < 9000 := Nat.lt_of_le_of_lt (Nat.log2_le_self _) (by omega)
  refine comp_range (fun i σ ys H' => ∃ (o : Option V) (zs : List Nat), σ = [o, some (.ref p), some (.str letters), some (.int n)] ∧ ys = zs.map (fun c => V.str (sgn c)) ∧ zs.length = i ∧ (∀ c ∈ zs, 97 ≤ c ∧ c ≤ 122) ∧ H' D = some (.lst ys) ∧ Grow p H H')
    ⟨none, [], rfl, rfl, rfl, (fun _ z => nomatch z), upd_same, g3'.new hD⟩ ?_ ?_ ?_ ?_
  · rintro i σ ys H' _ ⟨o, zs, _, rfl, rfl, _, h, _⟩
    exact ⟨h, by rw [List.length_map]; exact Nat.le_refl _⟩
  · exact Nat.le_trans (show (1 + d2 * d3).toNat ≤ 8 by omega) (by decide)
  · rintro i σ ys H' hi ⟨o, zs, rfl, rfl, rfl, hz, hD', g'⟩
    refine ⟨_, rfl, _, rfl, _, rfl, p, n, rfl, g'.pot, n0, log, fun d H4 g4 a4 b4 => ?_⟩
    obtain ⟨c, hc, cm⟩ := atS_mem (z := letters) a4 (by rw [letters_len]; omega)
    refine ⟨letters, _, c, rfl, rfl, ?_, hc, g4.keep D _ n2 hD', some (.int (0 + (zs.length : Nat))), zs ++ [c], rfl, ?_, ?_, ?_, upd_same, ?_⟩
    · exact Nat.le_trans (show letters.length ≤ 26 by decide +kernel) (by decide)
    · rw [List.map_append]; rfl
    · rw [List.length_append]; rfl
    · intro y hy
      rcases List.mem_append.mp hy with z | z
      · exact hz y z
      · have : y = c := by simpa using z
        subst this
        exact letters_ok y cm
    · exact g3'.put hD n2 (g'.trans g4)
  · rintro σ ys H' ⟨o, zs, _, rfl, hl', hz, hD', g'⟩
    refine ⟨"", D, zs.map sgn, rfl, rfl, ?_, ?_, ?_⟩
    · rw [List.map_map]; exact SqL.of hD'
    · rw [sgn_len, List.length_map]
      have : zs.length ≤ 8 := by omega
      have e : ("" : Str).length = 0 := by decide +kernel
      rw [e]; omega
    · exact q _ _ g' (isW_of (join_signs zs) (by omega) (by omega) hz)
end
end My

set_option maxHeartbeats 4000000
namespace My
open PySem L2 CS
abbrev sIsNumber : Stmt := top 2
abbrev sInSpan : Stmt := top 4
abbrev sHas : Stmt := top 5
abbrev sIsNone : Stmt := top 6
abbrev sSomeSpan : Stmt := top 7
abbrev sWordBy : Stmt := top 8
abbrev sBesides : Stmt := top 9
abbrev sSomeOf : Stmt := top 10
abbrev sAnother : Stmt := top 11
abbrev sSpans : Stmt := top 18
abbrev sWords : Stmt := top 19
abbrev sSet : Stmt := top 20
abbrev sCells : Stmt := top 21
abbrev sLHas : Stmt := top 22
abbrev sMany : Stmt := top 23
abbrev sIsCell : Stmt := top 24
abbrev sIsTold : Stmt := top 25
abbrev sRight : Stmt := top 26
abbrev sLaw : Stmt := top 27
structure Blt2 (mg : Str → Option Value) : Prop where
  str : mg "str" = none
  int : mg "int" = none
  bool : mg "bool" = none
  any : mg "any" = none
  min : mg "min" = none
  sorted : mg "sorted" = none
  set : mg "set" = none
structure Kit (K : PySem.W.Frag) : Prop where
  ib : PySem.W.kitOne K (.type "int") (.type "bool") = some false
  si : PySem.W.kitOne K (.type "str") (.type "int") = some false
  is_ : PySem.W.kitOne K (.type "int") (.type "str") = some false
theorem kit_same {K : PySem.W.Frag} {t : Value} (h : (t == t) = true) : PySem.W.kitOne K t t = some true := by
  unfold PySem.W.kitOne
  exact if_pos h
/-- a number or a word -/
def isCl (v : V) : Prop := (∃ n, v = .int n) ∨ ∃ x, v = .str x
def isI : V → Bool
  | .int _ => true
  | _ => false
theorem scIsNumber : FnScope ["cell"] ["cell"] (defScope sIsNumber) := ⟨rfl, rfl, rfl, by decide +kernel, rfl, by decide +kernel, by decide +kernel⟩
theorem scInSpan : FnScope ["span", "number", "low", "high"] ["span", "number"] (defScope sInSpan) := ⟨rfl, rfl, rfl, by decide +kernel, rfl, by decide +kernel, by decide +kernel⟩
theorem scHas : FnScope ["told", "cell"] ["told", "cell"] (defScope sHas) := ⟨rfl, rfl, rfl, by decide +kernel, rfl, by decide +kernel, by decide +kernel⟩
theorem scIsNone : FnScope ["told"] ["told"] (defScope sIsNone) := ⟨rfl, rfl, rfl, by decide +kernel, rfl, by decide +kernel, by decide +kernel⟩
theorem scSomeSpan : FnScope ["span", "low", "high"] ["span"] (defScope sSomeSpan) := ⟨rfl, rfl, rfl, by decide +kernel, rfl, by decide +kernel, by decide +kernel⟩
def spIsNumber : Sp := fun vs H Q _ => ∃ v, vs = [v] ∧ isCl v ∧ Q (.bl (isI v)) H
def spInSpan : Sp := fun vs H Q _ => ∃ a s n, vs = [.ref a, .int n] ∧ H a = some (.tup [eV s.1, eV s.2]) ∧ Q (.bl (inSp s n)) H
def spHas : Sp := fun vs H Q _ => ∃ a S v, vs = [.ref a, v] ∧ SetAt H a S ∧ okS S ∧ isCl v ∧ ∀ H', Same H H' → Q (.bl (hasV S v)) H'
def spIsNone : Sp := fun vs H Q _ => ∃ a S, vs = [.ref a] ∧ SetAt H a S ∧ Q (.bl (noneB S)) H
def spSomeSpan : Sp := fun vs H Q _ => ∃ a s, vs = [.ref a] ∧ H a = some (.tup [eV s.1, eV s.2]) ∧ ∀ t, H t = none → Q (.ref t) (upd H t (.tup ((someSp s).map V.int)))
theorem eV_non {o : Option Int} : decide (eV o = .non) = o.isNone := by cases o <;> simp [eV]
section
variable {P : Program} {w : World} {K : PySem.W.Frag} {mg : Str → Option Value} {base : Heap} {f g1 g2 : Addr} {fd d1 d2 : FuncData}
theorem ok_isnumber (B : Blt mg) (B2 : Blt2 mg) (Kt : Kit K) (F : Fun K "is_number" "is_number" sIsNumber f fd) : FnOk P w K mg base CX0 1 f fd ["cell"] spIsNumber := by
  refine F.ok scIsNumber (fun vs H Q E h => ?_) (fun cdv A outer s H vs Q E hr h => ?_)
  · obtain ⟨x, rfl, _⟩ := h
    rfl
  obtain ⟨x, rfl, hx, q⟩ := h
  refine ⟨_, pss_one (ps_ret (pe_and (pe_callB call_isinst rfl B.isinstance PyProof.Rows.boot_isinstance (pa_cons (pv 0) (pa_cons (pe_bty (n := "int") rfl B2.int PyProof.Rows.boot_int) pa_nil)))
    (pe_one (pe_not (pe_callB call_isinst rfl B.isinstance PyProof.Rows.boot_isinstance (pa_cons (pv 0) (pa_cons (pe_bty (n := "bool") rfl B2.bool (by decide +kernel)) pa_nil))))))), ?_⟩
  rcases hx with ⟨n, rfl⟩ | ⟨y, rfl⟩
  · refine ⟨_, rfl, _, _, _, _, _, rfl, rfl, .inl (.int n), kit_same (by decide), true, rfl, ?_⟩
    refine iteT ?_
    exact ⟨_, rfl, _, _, _, _, _, rfl, rfl, .inl (.int n), Kt.ib, false, rfl, q⟩
  · refine ⟨_, rfl, _, _, _, _, _, rfl, rfl, .inl (.str y), Kt.si, false, rfl, ?_⟩
    exact iteF q
theorem ok_inspan (F : Fun K "in_span" "in_span" sInSpan f fd) : FnOk P w K mg base CX0 1 f fd ["span", "number"] spInSpan := by
  refine F.ok scInSpan (fun vs H Q E h => ?_) (fun cdv A outer s H vs Q E hr h => ?_)
  · obtain ⟨a, sp, n, rfl, _⟩ := h
    rfl
  obtain ⟨a, ⟨l, h⟩, n, rfl, ha, q⟩ := h
  refine ⟨_, pss_cons (ps_asg (pv 0) (pg_tup rfl (pgs_cons (pg_name (i := 2) scInSpan.nd rfl (Or.inl rfl)) (pgs_cons (pg_name (i := 3) scInSpan.nd rfl (Or.inl rfl)) pgs_nil))))
    (pss_one (ps_ret (pe_and (pe_or (pe_cmpR op_isN (pv 2) pe_non (nomark _)) (pe_one (pe_cmpR op_le (pv 2) (pv 1) (nomark _)))) (pe_one (pe_or (pe_cmpR op_isN (pv 3) pe_non (nomark _)) (pe_one (pe_cmpR op_le (pv 1) (pv 3) (nomark _)))))))), ?_⟩
  refine ⟨_, rfl, a, _, rfl, SqT.of ha, rfl, _, _, rfl, _, _, rfl, rfl, ?_⟩
  have second : ∀ c : Bool, (c = true → inSp (l, h) n = h.all fun h => decide (n ≤ h)) → (c = false → inSp (l, h) n = false) → ∃ c', V.bl c = .bl c' ∧ if c' = true then
      tOrV (tOp (fun x y H Q => y = .non ∧ Q (.bl (decide (x = .non))) H) (tVar 3) (tC .non)) (tOp (rI0 fun i j => .bl (decide (i ≤ j))) (tVar 1) (tVar 3)) [some (.ref a), some (.int n), some (eV l), some (eV h)] H Q else Q (.bl false) H := fun c h1 h2 => by
    refine ⟨c, rfl, ?_⟩
    cases c with
    | false => rw [h2 rfl] at q; exact iteF q
    | true =>
      rw [h1 rfl] at q
      refine iteT ⟨_, rfl, rfl, _, rfl, ?_⟩
      rw [eV_non]
      cases h with
      | none => exact iteT q
      | some h => exact iteF ⟨_, rfl, _, rfl, _, _, rfl, rfl, q⟩
  refine ⟨_, rfl, rfl, _, rfl, ?_⟩
  have q' := q
  rw [eV_non]
  cases l with
  | none => exact iteT (second true (fun _ => by simp [inSp]) (fun z => by cases z))
  | some l => exact iteF ⟨_, rfl, _, rfl, _, _, rfl, rfl, second _ (fun z => by unfold inSp; simp only [Option.all_some, z, Bool.true_and]) (fun z => by unfold inSp; simp only [Option.all_some, z, Bool.false_and])⟩
theorem ok_isnone (B : Blt mg) (F : Fun K "is_none" "is_none" sIsNone f fd) : FnOk P w K mg base CX0 1 f fd ["told"] spIsNone := by
  refine F.ok scIsNone (fun vs H Q E h => ?_) (fun cdv A outer s H vs Q E hr h => ?_)
  · obtain ⟨a, S, rfl, _⟩ := h
    rfl
  obtain ⟨a, S, rfl, ha, q⟩ := h
  refine ⟨_, pss_cons (ps_if (pt_cmpR op_eq (pe_ixt (pv 0) pe_int (fun _ _ => rfl)) pe_str (nomark _)) (pss_one (ps_ret (pe_cmpR op_eq (pe_callB call_len_seq rfl B.len PySem.boot_len (pa_cons (pe_ixt (pv 0) pe_int (fun _ _ => rfl)) pa_nil)) pe_int (nomark _)))) pss_nil)
    (pss_one (ps_ret (pe_and (pe_ixt (pv 0) pe_int (fun _ _ => rfl)) (pe_one (pe_cmpR op_eq (pe_callB call_len_seq rfl B.len PySem.boot_len (pa_cons (pe_ixt (pv 0) pe_int (fun _ _ => rfl)) pa_nil)) pe_int (nomark _)))))), ?_⟩
  cases S with
  | num sps =>
    obtain ⟨t, as, h1, h2⟩ := ha
    refine ⟨_, rfl, a, _, _, _, rfl, rfl, SqT.of h1, rfl, rfl, _, rfl, ?_⟩
    refine ite2 (fun _ => ?_) (fun c => absurd (decide_eq_true rfl) c)
    refine ⟨_, rfl, a, _, _, _, rfl, rfl, SqT.of h1, rfl, t, _, rfl, .inr (SqT.of h2.tup), rfl, ?_⟩
    have e : decide (V.int ((as.map V.ref).length : Nat) = V.int 0) = noneB (.num sps) := by
      rw [List.length_map, h2.len]
      simp [noneB]
    show Q (.bl (decide (V.int ((as.map V.ref).length : Nat) = V.int 0))) H
    rw [e]
    exact q
  | wrd b ws =>
    obtain ⟨t, h1, h2⟩ := ha
    refine ⟨_, rfl, a, _, _, _, rfl, rfl, SqT.of h1, rfl, rfl, _, rfl, ?_⟩
    refine ite2 (fun c => absurd (of_decide_eq_true c) (by decide +kernel)) (fun _ => ?_)
    refine ⟨_, rfl, a, _, _, _, rfl, rfl, SqT.of h1, rfl, b, rfl, ?_⟩
    cases b with
    | false => exact iteF q
    | true =>
      refine iteT ⟨_, rfl, a, _, _, _, rfl, rfl, SqT.of h1, rfl, t, _, rfl, .inr (SqT.of h2), rfl, ?_⟩
      have e : decide (V.int ((ws.map V.str).length : Nat) = V.int 0) = noneB (.wrd true ws) := by
        rw [List.length_map]
        simp [noneB]
      show Q (.bl (decide (V.int ((ws.map V.str).length : Nat) = V.int 0))) H
      rw [e]
      exact q
theorem ok_somespan (F : Fun K "some_of_span" "some_of_span" sSomeSpan f fd) : FnOk P w K mg base CX0 1 f fd ["span"] spSomeSpan := by
  refine F.ok scSomeSpan (fun vs H Q E h => ?_) (fun cdv A outer s H vs Q E hr h => ?_)
  · obtain ⟨a, sp, rfl, _⟩ := h
    rfl
  obtain ⟨a, ⟨l, h⟩, rfl, ha, q⟩ := h
  refine ⟨_, pss_cons (ps_asg (pv 0) (pg_tup rfl (pgs_cons (pg_name (i := 1) scSomeSpan.nd rfl (Or.inl rfl)) (pgs_cons (pg_name (i := 2) scSomeSpan.nd rfl (Or.inl rfl)) pgs_nil))))
    (pss_cons (ps_if (PW.pt (pw_and (pt_cmpR op_isN (pv 1) pe_non (nomark _)) (pw_and1 (pt_cmpR op_isN (pv 2) pe_non (nomark _))))) (pss_one (ps_ret (pe_tup (pa_cons pe_int (pa_cons pe_int pa_nil))))) pss_nil)
    (pss_cons (ps_if (pt_cmpR op_isN (pv 1) pe_non (nomark _)) (pss_one (ps_ret (pe_tup (pa_cons (pv 2) (pa_cons (pe_op op_sub (pv 2) pe_int) pa_nil))))) pss_nil)
    (pss_cons (ps_if (pt_cmpR op_eq (pv 1) (pv 2) (nomark _)) (pss_one (ps_ret (pe_tup (pa_cons (pv 1) pa_nil)))) pss_nil)
    (pss_one (ps_ret (pe_tup (pa_cons (pv 1) (pa_cons (pe_op op_add (pv 1) pe_int) pa_nil)))))))), ?_⟩
  refine ⟨_, rfl, a, _, rfl, SqT.of ha, rfl, _, _, rfl, _, _, rfl, rfl, ?_⟩
  refine ⟨_, rfl, rfl, _, rfl, ?_⟩
  rw [eV_non]
  cases l with
  | none =>
    refine iteT ⟨_, rfl, rfl, _, rfl, ?_⟩
    rw [eV_non]
    cases h with
    | none => exact iteT ⟨(by show 2 ≤ sizeLine; decide), fun t ht => q t ht⟩
    | some h => exact iteF ⟨_, rfl, rfl, _, rfl, iteT ⟨_, rfl, _, rfl, _, _, rfl, rfl, (by show 2 ≤ sizeLine; decide), fun t ht => q t ht⟩⟩
  | some l =>
    refine iteF (iteF ⟨_, rfl, rfl, _, rfl, iteF ⟨_, rfl, _, rfl, ?_, _, rfl, ?_⟩⟩)
    · cases h <;> rfl
    have es : someSp (some l, h) = if h = some l then [l] else [l, l + 1] := rfl
    refine ite2 (fun c => ?_) (fun c => ?_)
    · have c' := of_decide_eq_true c
      have e : h = some l := by
        cases h with
        | none => cases c'
        | some h => injection c' with c'; rw [c']
      rw [es, if_pos e] at q
      exact ⟨_, rfl, (by show 1 ≤ sizeLine; decide), fun t ht => q t ht⟩
    · have e : h ≠ some l := fun z => c (by rw [z]; exact decide_eq_true rfl)
      rw [es, if_neg e] at q
      exact ⟨_, rfl, _, rfl, _, _, rfl, rfl, (by show 2 ≤ sizeLine; decide), fun t ht => q t ht⟩
end
end My

set_option maxHeartbeats 4000000
namespace My
open PySem L2 CS
theorem scWordBy : FnScope ["number", "word", "left", "place"] ["number"] (defScope sWordBy) := ⟨rfl, rfl, rfl, by decide +kernel, rfl, by decide +kernel, by decide +kernel⟩
theorem scBesides : FnScope ["words", "tried"] ["words"] (defScope sBesides) := ⟨rfl, rfl, rfl, by decide +kernel, rfl, by decide +kernel, by decide +kernel⟩
theorem scSomeOf : FnScope ["told"] ["told"] (defScope sSomeOf) := ⟨rfl, rfl, rfl, by decide +kernel, rfl, by decide +kernel, by decide +kernel⟩
theorem scAnother : FnScope ["told", "cell", "found"] ["told", "cell"] (defScope sAnother) := ⟨rfl, rfl, rfl, by decide +kernel, rfl, by decide +kernel, by decide +kernel⟩
def spWordBy : Sp := fun vs H Q _ => ∃ n : Nat, vs = [.int n] ∧ n < 64 ∧ ∀ H', Same H H' → Q (.str (wbn n)) H'
def spBesides : Sp := fun vs H Q _ => ∃ t ws, vs = [.ref t] ∧ H t = some (.tup (ws.map V.str)) ∧ ws.length ≤ 40 ∧ ∀ l H', Same H H' → H l = none → H' l = some (.lst ((besides ws).map V.str)) → Q (.ref l) H'
def spSomeOf : Sp := fun vs H Q _ => ∃ a S, vs = [.ref a] ∧ SetAt H a S ∧ okS S ∧ ∀ l H', Same H H' → H l = none → H' l = some (.lst (someV S)) → Q (.ref l) H'
def spAnother : Sp := fun vs H Q _ => ∃ a S v, vs = [.ref a, v] ∧ SetAt H a S ∧ okS S ∧ (isCl v ∨ v = .non) ∧ ∀ H', Same H H' → Q (anotherV S v) H'
structure Cst (mg : Str → Option Value) : Prop where
  le : ∃ t, mg "LETTERS" = some (.str letters t)
theorem inV_str {x : Str} {ws : List Str} : inV (.str x) (ws.map V.str) = decide (x ∈ ws) := by
  unfold inV
  rw [List.any_map, Bool.eq_iff_iff, List.any_eq_true, decide_eq_true_eq]
  constructor
  · rintro ⟨y, hy, e⟩
    have : y = x := by simpa [eqV] using e
    rw [← this]
    exact hy
  · exact fun h => ⟨x, h, by simp [eqV]⟩
theorem flat_str (ws : List Str) : (ws.map V.str).all flatV = true := by
  rw [List.all_eq_true]
  intro v hv
  obtain ⟨x, _, rfl⟩ := List.mem_map.mp hv
  rfl
theorem same_put {H H1 : Hp} {D : Addr} {o : HO} (hD : H D = none) (s : Same H H1) : Same H (upd H1 D o) := fun b u eb => by
  by_cases hb : b = D
  · subst hb
    exact absurd eb (by rw [hD]; simp)
  · rw [upd_ne hb]; exact s _ _ eb
theorem take_snocG {α β : Type} {l : List α} {i : Nat} {c : α} (h : l[i]? = some c) (p : α → β) : (l.take (i + 1)).map p = (l.take i).map p ++ [p c] := by
  rw [List.take_add_one, h, List.map_append]
  rfl
theorem letter_at : ∀ i : Nat, i < 26 → letters.cps.toList[i]? = some (97 + i) := by
  have h : ∀ i ∈ List.range 26, letters.cps.toList[i]? = some (97 + i) := by decide +kernel
  exact fun i hi => h i (List.mem_range.mpr hi)
theorem sgn_cat (c : Nat) (w : List Nat) : (sgn c ++ (⟨w.toArray⟩ : Str)) = ⟨(c :: w).toArray⟩ := by
  show (⟨#[c] ++ w.toArray⟩ : Str) = _
  simp
theorem goW_zero (f : Nat) (w : List Nat) : goW f 0 w = w := by cases f <;> rfl
section
variable {P : Program} {w : World} {K : PySem.W.Frag} {mg : Str → Option Value} {base : Heap} {f g1 g2 : Addr} {fd d1 d2 : FuncData}
theorem ok_has (B : Blt mg) (B2 : Blt2 mg) (Kt : Kit K) (F : Fun K "has" "has" sHas f fd)
    (G1 : FnOk P w K mg base CX0 1 g1 d1 ["cell"] spIsNumber) (b1 : Binds K d1 ["cell"] []) (k1 : PySem.W.keepIn K (.ref g1) = true) (m1 : mg "is_number" = some (.ref g1))
    (G2 : FnOk P w K mg base CX0 1 g2 d2 ["span", "number"] spInSpan) (b2 : Binds K d2 ["span", "number"] []) (k2 : PySem.W.keepIn K (.ref g2) = true) (m2 : mg "in_span" = some (.ref g2)) :
    FnOk P w K mg base CX0 2 f fd ["told", "cell"] spHas := by
  refine F.ok scHas (fun vs H Q E h => ?_) (fun cdv A outer s H vs Q E hr h => ?_)
  · obtain ⟨a, S, v, rfl, _⟩ := h
    rfl
  obtain ⟨a, S, v, rfl, ha, ho, hv, q⟩ := h
  refine ⟨_, pss_cons (ps_if (pt_cmpR op_eq (pe_ixt (pv 0) pe_int (fun _ _ => rfl)) pe_str (nomark _)) (pss_one (ps_ret (pe_and (pe_call G1 hr rfl m1 k1 b1 .nil pass0 (pa_cons (pv 1) pa_nil))
      (pe_one (pe_callB (call_anyL rfl) rfl B2.any PyProof.Rows.boot_any (pa_cons (pe_lcomp (N' := ["span", "cell"]) (src := [none, some 1]) rfl (CompSc.ofB (by kernel_rfl)) (pi_tup (pe_ixt (pv 0) pe_int (fun _ _ => rfl))) (fun cl C s H fp => pgl (i := 0)) (fun cl C s H fp => pifs_nil)
        (fun cl C s H fp => pe_call G2 hr glc m2 k2 b2 .nil pass0 (pa_cons (pvl 0) (pa_cons (pvf 1) pa_nil)))) pa_nil)))))) pss_nil)
    (pss_one (ps_ret (pe_and (pe_callB call_isinst rfl B.isinstance PyProof.Rows.boot_isinstance (pa_cons (pv 1) (pa_cons (pe_bty (n := "str") rfl B2.str PyProof.Rows.boot_str) pa_nil)))
      (pe_one (pe_cmpR op_eq (pe_cmpR op_in_seq (pv 1) (pe_ixt (pv 0) pe_int (fun _ _ => rfl)) rfl) (pe_ixt (pv 0) pe_int (fun _ _ => rfl)) (nomark _)))))), ?_⟩
  cases S with
  | num sps =>
    obtain ⟨t, as, h1, h2⟩ := ha
    refine ⟨_, rfl, a, _, _, _, rfl, rfl, SqT.of h1, rfl, rfl, _, rfl, ?_⟩
    refine ite2 (fun _ => ?_) (fun c => absurd (decide_eq_true rfl) c)
    refine ⟨_, rfl, v, rfl, hv, _, rfl, ?_⟩
    rcases hv with ⟨n, rfl⟩ | ⟨y, rfl⟩
    · refine iteT ⟨_, rfl, a, _, _, _, rfl, rfl, SqT.of h1, rfl, t, rfl, ⟨_, SqT.of h2.tup⟩, fun D hD => ?_⟩
      have hl : (as.map V.ref).length = sps.length := by rw [List.length_map, h2.len]
      refine comp_tup (xs := as.map V.ref) (fun i σ ys H' => (∃ o, σ = [o, some (.int n)]) ∧ ys = ((sps.take i).map fun s => inSp s n).map V.bl ∧ H' D = some (.lst ys) ∧ Same H H') ⟨⟨none, rfl⟩, rfl, upd_same, same_new hD _⟩ ?_ ?_ ?_ ?_ ?_
      · rintro i σ ys H' _ ⟨_, rfl, h, _⟩
        refine ⟨h, ?_⟩
        rw [List.length_map, List.length_map, List.length_take]
        exact Nat.min_le_left _ _
      · rintro i σ ys H' _ ⟨_, _, _, sm⟩
        exact SqT.of (sm _ _ h2.tup)
      · rw [hl]; exact Nat.le_trans ho.1 (by decide)
      · rintro i x σ ys H' hx ⟨⟨o, rfl⟩, rfl, h, sm⟩
        rw [List.getElem?_map] at hx
        cases e : as[i]? with
        | none => rw [e] at hx; cases hx
        | some b =>
          rw [e] at hx
          have hx' : V.ref b = x := Option.some.inj hx
          subst hx'
          have hi : i < sps.length := by rw [← h2.len]; exact (List.getElem?_eq_some_iff.mp e).1
          have er : sps[i]? = some sps[i] := List.getElem?_eq_getElem hi
          refine ⟨_, rfl, _, rfl, b, sps[i], n, rfl, sm _ _ (h2.at_ i b _ e er), h, ⟨_, rfl⟩, ?_, upd_same, same_put hD sm⟩
          rw [take_snocG er, List.map_append]
          rfl
      · rintro σ ys H' ⟨_, rfl, h, sm⟩
        refine ⟨D, _, rfl, SqL.of h, ?_⟩
        have e : ((sps.take (as.map V.ref).length).map fun s => inSp s n).any id = hasV (.num sps) (.int n) := by
          rw [hl, List.take_of_length_le (Nat.le_refl _), List.any_map]
          rfl
        rw [e]
        exact q H' sm
    · exact iteF (q H (Same.refl H))
  | wrd b ws =>
    obtain ⟨t, h1, h2⟩ := ha
    refine ⟨_, rfl, a, _, _, _, rfl, rfl, SqT.of h1, rfl, rfl, _, rfl, ?_⟩
    refine ite2 (fun c => absurd (of_decide_eq_true c) (by decide +kernel)) (fun _ => ?_)
    rcases hv with ⟨n, rfl⟩ | ⟨y, rfl⟩
    · refine ⟨_, rfl, _, _, _, _, _, rfl, rfl, .inl (.int n), Kt.is_, false, rfl, ?_⟩
      exact iteF (q H (Same.refl H))
    · refine ⟨_, rfl, _, _, _, _, _, rfl, rfl, .inl (.str y), kit_same (by decide), true, rfl, ?_⟩
      refine iteT ⟨_, rfl, _, rfl, a, _, _, _, rfl, rfl, SqT.of h1, rfl, t, _, rfl, .inr (SqT.of h2), rfl, flat_str ws, _, rfl, a, _, _, _, rfl, rfl, SqT.of h1, rfl, rfl, ?_⟩
      show Q (.bl (decide (V.bl (inV (.str y) (ws.map V.str)) = V.bl b))) H
      have e : decide (V.bl (inV (.str y) (ws.map V.str)) = V.bl b) = hasV (.wrd b ws) (.str y) := by
        rw [dec_bl, inV_str]
        rfl
      rw [e]
      exact q H (Same.refl H)
theorem ok_wordby (B : Blt mg) (Z : Cst mg) (F : Fun K "word_by_number" "word_by_number" sWordBy f fd) : FnOk P w K mg base CX0 1 f fd ["number"] spWordBy := by
  refine F.ok scWordBy (fun vs H Q E h => ?_) (fun cdv A outer s H vs Q E hr h => ?_)
  · obtain ⟨n, rfl, _⟩ := h
    rfl
  obtain ⟨n, rfl, hn, q⟩ := h
  obtain ⟨tl, ml⟩ := Z.le
  refine ⟨_, pss_cons (ps_set (i := 1) scWordBy.nd rfl (Or.inl rfl) pe_str)
    (pss_cons (ps_set (i := 2) scWordBy.nd rfl (Or.inl rfl) (pe_op op_add (pv 0) pe_int))
    (pss_cons (ps_while PassesOwn.never (pt_cmpR op_gt (pv 2) pe_int (nomark _))
      (pss_cons (ps_asg (pe_callB call_divmod rfl B.divmod PyProof.Rows.boot_divmod (pa_cons (pe_op op_sub (pv 2) pe_int) (pa_cons (pe_callB call_len_str rfl B.len PySem.boot_len (pa_cons (pe_glob (v := .str letters) rfl ml ⟨tl, rfl⟩) pa_nil)) pa_nil)))
          (pg_tup rfl (pgs_cons (pg_name (i := 2) scWordBy.nd rfl (Or.inl rfl)) (pgs_cons (pg_name (i := 3) scWordBy.nd rfl (Or.inl rfl)) pgs_nil))))
      (pss_one (ps_set (i := 1) scWordBy.nd rfl (Or.inl rfl) (pe_op op_add_str (pe_ix ix_str (pe_glob (v := .str letters) rfl ml ⟨tl, rfl⟩) (pv 3) (fun _ _ => rfl)) (pv 1))))))
    (pss_one (ps_ret (pv 1))))), ?_⟩
  refine ⟨_, rfl, _, _, rfl, rfl, ?_⟩
  refine ⟨fun m σ H' => ∃ (l fu : Nat) (wd : List Nat) (o : Option V), m = l ∧ σ = [some (.int n), some (.str ⟨wd.toArray⟩), some (.int l), o] ∧ Same H H' ∧ l ≤ fu ∧ goW fu l wd = goW (n + 1) (n + 1) [] ∧ wd.length + l ≤ 100,
    ⟨n + 1, n + 1, n + 1, [], none, rfl, rfl, Same.refl H, Nat.le_refl _, rfl, by simp; omega⟩, ?_⟩
  rintro m σ H' ⟨l, fu, wd, o, rfl, rfl, sm, hf, hg, hl⟩
  refine ⟨_, rfl, _, _, rfl, rfl, _, rfl, ?_⟩
  refine ite2 (fun c => ?_) (fun c => ?_)
  · have c' : (0 : Int) < (m : Nat) := of_decide_eq_true c
    have hm : 0 < m := by omega
    obtain ⟨f', rfl⟩ : ∃ f', fu = f' + 1 := ⟨fu - 1, by omega⟩
    have eg : goW (f' + 1) m wd = goW f' ((m - 1) / 26) ((97 + (m - 1) % 26) :: wd) := by
      show (if m = 0 then wd else goW f' ((m - 1) / 26) ((97 + (m - 1) % 26) :: wd)) = _
      rw [if_neg (by omega)]
    rw [eg] at hg
    have el : letters.length = 26 := by decide +kernel
    refine ⟨fun σ' H'' => ∃ (wd' : List Nat) (o : Option V), σ' = [some (.int n), some (.str ⟨wd'.toArray⟩), some (.int (((m - 1) / 26 : Nat) : Int)), o] ∧ Same H H'' ∧ wd' = (97 + (m - 1) % 26) :: wd,
      fun σ' H'' ⟨wd', o, e1, e2, e3⟩ => ⟨(m - 1) / 26, by omega, (m - 1) / 26, f', wd', o, rfl, e1, e2, by omega, by rw [e3]; exact hg, by rw [e3, List.length_cons]; omega⟩, ?_⟩
    refine ⟨_, rfl, _, _, rfl, rfl, letters, rfl, by rw [el]; decide, _, _, rfl, ⟨by rw [el]; decide, by rw [el]; decide⟩, fun t ht => ?_⟩
    refine ⟨t, _, rfl, SqT.of upd_same, rfl, _, _, rfl, _, _, rfl, rfl, ?_⟩
    have e1 : ((m : Int) - 1) / (letters.length : Nat) = (((m - 1) / 26 : Nat) : Int) := by rw [el]; omega
    have e2 : ((m : Int) - 1) % (letters.length : Nat) = (((m - 1) % 26 : Nat) : Int) := by rw [el]; omega
    have hi : (m - 1) % 26 < 26 := Nat.mod_lt _ (by decide)
    refine ⟨_, rfl, letters, _, 97 + (m - 1) % 26, rfl, rfl, ?_, ?_, _, rfl, sgn (97 + (m - 1) % 26), _, rfl, rfl, ?_, ?_⟩
    · exact Nat.le_trans (show letters.length ≤ 26 by rw [el]; exact Nat.le_refl _) (by decide)
    · rw [e2]; exact atI_nat (letter_at _ hi)
    · show 1 + wd.toArray.size ≤ sizeLine
      rw [List.size_toArray]
      exact Nat.le_trans (show 1 + wd.length ≤ 101 by omega) (by decide)
    · refine ⟨(97 + (m - 1) % 26) :: wd, some (.int (((m - 1) % 26 : Nat) : Int)), ?_, sm.trans (same_new ht _), rfl⟩
      rw [sgn_cat]
      show [some (V.int n), some _, some (V.int (((m : Int) - 1) / (letters.length : Nat))), some (V.int (((m : Int) - 1) % (letters.length : Nat)))] = _
      rw [e1, e2]
  · have c' : ¬ (0 : Int) < (m : Nat) := fun z => c (decide_eq_true z)
    have hm : m = 0 := by omega
    subst hm
    rw [goW_zero] at hg
    subst hg
    exact ⟨_, rfl, q H' sm⟩
end
end My

set_option maxHeartbeats 4000000
namespace My
open PySem L2 CS
theorem find_at {L : List V} {v x : V} {i : Nat} (h : ∀ y ∈ L.take i, y = v) (e : L[i]? = some x) (ne : x ≠ v) : (L.find? fun x => !decide (x = v)) = some x := by
  have hi : i < L.length := (List.getElem?_eq_some_iff.mp e).1
  have : L = L.take i ++ x :: L.drop (i + 1) := by
    have e' : L[i] = x := (List.getElem?_eq_some_iff.mp e).2
    rw [← e', ← List.drop_eq_getElem_cons hi, List.take_append_drop]
  rw [this, List.find?_append]
  have n1 : (L.take i).find? (fun x => !decide (x = v)) = none := by
    rw [List.find?_eq_none]
    intro y hy
    simp [h y hy]
  rw [n1]
  simp [ne]
theorem mem_take_succ {α : Type} {L : List α} {i : Nat} {x : α} (e : L[i]? = some x) {p : α → Prop} (h : ∀ y ∈ L.take i, p y) (hx : p x) : ∀ y ∈ L.take (i + 1), p y := by
  intro y hy
  rw [List.take_add_one, e] at hy
  rcases List.mem_append.mp hy with z | z
  · exact h y z
  · have : y = x := by simpa using z
    rw [this]; exact hx
section
variable {P : Program} {w : World} {K : PySem.W.Frag} {mg : Str → Option Value} {base : Heap} {f g1 g2 : Addr} {fd d1 d2 : FuncData}
theorem ok_besides (B : Blt mg) (F : Fun K "some_besides" "some_besides" sBesides f fd)
    (G1 : FnOk P w K mg base CX0 1 g1 d1 ["number"] spWordBy) (b1 : Binds K d1 ["number"] []) (k1 : PySem.W.keepIn K (.ref g1) = true) (m1 : mg "word_by_number" = some (.ref g1)) :
    FnOk P w K mg base CX0 2 f fd ["words"] spBesides := by
  refine F.ok scBesides (fun vs H Q E h => ?_) (fun cdv A outer s H vs Q E hr h => ?_)
  · obtain ⟨t, ws, rfl, _⟩ := h
    rfl
  obtain ⟨t, ws, rfl, ht, hl, q⟩ := h
  refine ⟨_, pss_cons (ps_setComp (i := 1) (N' := ["number"]) (src := [none]) scBesides.nd rfl (Or.inl rfl) rfl rfl (CompSc.ofB (by kernel_rfl))
      (pi_range1 rfl B.range (pa_cons (pe_op op_add (pe_callB call_len_seq rfl B.len PySem.boot_len (pa_cons (pv 0) pa_nil)) pe_int) pa_nil)) (fun cl C s H fp => pgl (i := 0)) (fun cl C s H fp => pifs_nil)
      (fun cl C s H fp => pe_call G1 hr glc m1 k1 b1 .nil pass0 (pa_cons (pvl 0) pa_nil)))
    (pss_one (ps_ret (pe_lcomp (N' := ["word", "words"]) (src := [none, some 0]) rfl (CompSc.ofB (by kernel_rfl)) (pi_list (pv 1)) (fun cl C s H fp => pgl (i := 0))
      (tc := tTest (tOp (rIn K true) (tVar 0) (tVar 1))) (fun cl C s H fp => pifs_one (pt_cmpR op_notIn_seq (pvl 0) (pvf 1) rfl)) (fun cl C s H fp => pvl 0)))), ?_⟩
  have hlm : (ws.map V.str).length = ws.length := List.length_map _
  refine ⟨_, rfl, t, _, rfl, .inr (SqT.of ht), _, _, rfl, rfl, _, rfl, ?_, ?_, fun D hD => ?_⟩
  · have e : ((2 : Int) ^ 62) = 4611686018427387904 := by decide
    rw [e, hlm]; omega
  · have e : ((2 : Int) ^ 62) = 4611686018427387904 := by decide
    rw [e, hlm]; omega
  have en : (((ws.map V.str).length : Nat) + 2 : Int).toNat = ws.length + 2 := by rw [hlm]; omega
  rw [en]
  refine comp_range (n := ws.length + 2) (fun i σ ys H' => (∃ o, σ = [o]) ∧ ys = ((List.range i).map wbn).map V.str ∧ H' D = some (.lst ys) ∧ Same H H') ⟨⟨none, rfl⟩, rfl, upd_same, same_new hD _⟩ ?_ ?_ ?_ ?_
  · rintro i σ ys H' _ ⟨_, rfl, h, _⟩
    exact ⟨h, by rw [List.length_map, List.length_map, List.length_range]; exact Nat.le_refl _⟩
  · exact Nat.le_trans (show ws.length + 2 ≤ 42 by omega) (by decide)
  · rintro i σ ys H' hi ⟨⟨o, rfl⟩, rfl, h, sm⟩
    refine ⟨_, rfl, i, by simp, by omega, fun H2 s2 => ⟨s2 _ _ h, ⟨_, rfl⟩, ?_, upd_same, same_put hD (sm.trans s2)⟩⟩
    rw [List.range_succ, List.map_append, List.map_append]
    rfl
  rintro σ0 ys0 H3 ⟨_, rfl, h3, sm3⟩
  refine ⟨_, rfl, D, rfl, ⟨_, SqL.of h3⟩, fun D2 hD2 => ?_⟩
  have nD2 : D ≠ D2 := ne_of_none h3 hD2
  have hD2' : H D2 = none := sm3.free hD2
  refine comp_list (xs := ((List.range (ws.length + 2)).map wbn).map V.str) (fun i σ ys H' => (∃ o, σ = [o, some (.ref t)]) ∧ ys = ((((List.range (ws.length + 2)).map wbn).take i).filter fun x => !decide (x ∈ ws)).map V.str ∧ H' D2 = some (.lst ys) ∧ Same H3 H')
    ⟨⟨none, rfl⟩, rfl, upd_same, same_new hD2 _⟩ ?_ ?_ ?_ ?_ ?_
  · rintro i σ ys H' _ ⟨_, rfl, h, _⟩
    refine ⟨h, ?_⟩
    rw [List.length_map]
    exact Nat.le_trans (List.length_filter_le _ _) (by rw [List.length_take]; exact Nat.min_le_left _ _)
  · rintro i σ ys H' _ ⟨_, _, _, sm⟩
    exact SqL.of (sm _ _ h3)
  · rw [List.length_map, List.length_map, List.length_range]
    exact Nat.le_trans (show ws.length + 2 ≤ 42 by omega) (by decide)
  · rintro i x σ ys H' hx ⟨⟨o, rfl⟩, rfl, h, sm⟩
    rw [List.getElem?_map] at hx
    cases e : ((List.range (ws.length + 2)).map wbn)[i]? with
    | none => rw [e] at hx; cases hx
    | some y =>
      rw [e] at hx
      have hx' : V.str y = x := Option.some.inj hx
      subst hx'
      have et : (((List.range (ws.length + 2)).map wbn).take (i + 1)).filter (fun x => !decide (x ∈ ws)) = (((List.range (ws.length + 2)).map wbn).take i).filter (fun x => !decide (x ∈ ws)) ++ (if (!decide (y ∈ ws)) = true then [y] else []) := by
        rw [List.take_add_one, e, List.filter_append]
        congr 1
        show List.filter _ [y] = _
        rw [List.filter_cons]
        split <;> rfl
      refine ⟨_, rfl, _, rfl, t, _, rfl, .inr (SqT.of (sm _ _ (sm3 _ _ ht))), rfl, flat_str ws, _, rfl, ?_⟩
      show if (!inV (.str y) (ws.map V.str)) = true then _ else _
      rw [inV_str]
      refine ite2 (fun c => ?_) (fun c => ?_)
      · rw [if_pos c] at et
        refine ⟨_, rfl, h, ⟨_, rfl⟩, ?_, upd_same, same_put hD2 sm⟩
        rw [et, List.map_append]
        rfl
      · rw [if_neg c, List.append_nil] at et
        exact ⟨⟨_, rfl⟩, by rw [et], h, sm⟩
  · rintro σ ys H' ⟨_, rfl, h, sm⟩
    refine q D2 H' (sm3.trans sm) hD2' ?_
    rw [h, List.length_map, List.take_of_length_le (Nat.le_refl _)]
    rfl
theorem ok_someof (B : Blt mg) (F : Fun K "some_of" "some_of" sSomeOf f fd)
    (G1 : FnOk P w K mg base CX0 2 g1 d1 ["span"] spSomeSpan) (b1 : Binds K d1 ["span"] []) (k1 : PySem.W.keepIn K (.ref g1) = true) (m1 : mg "some_of_span" = some (.ref g1))
    (G2 : FnOk P w K mg base CX0 2 g2 d2 ["words"] spBesides) (b2 : Binds K d2 ["words"] []) (k2 : PySem.W.keepIn K (.ref g2) = true) (m2 : mg "some_besides" = some (.ref g2)) :
    FnOk P w K mg base CX0 3 f fd ["told"] spSomeOf := by
  refine F.ok scSomeOf (fun vs H Q E h => ?_) (fun cdv A outer s H vs Q E hr h => ?_)
  · obtain ⟨a, S, rfl, _⟩ := h
    rfl
  obtain ⟨a, S, rfl, ha, ho, q⟩ := h
  refine ⟨_, pss_cons (ps_if (pt_cmpR op_eq (pe_ixt (pv 0) pe_int (fun _ _ => rfl)) pe_str (nomark _)) (pss_one (ps_ret (pe_lcomp2 (wi2 := iTup K (tCall spSomeSpan [] E0 (tCons (tVar 0) tNil))) (N' := ["span", "number"]) (src := [none, none]) rfl (CompSc.ofB (by kernel_rfl)) (pi_tup (pe_ixt (pv 0) pe_int (fun _ _ => rfl)))
        (fun cl C s H fp => pgl (i := 0)) (fun cl C s H fp => pifs_nil) (fun cl C s H fp => pi_tup (pe_call G1 hr glc m1 k1 b1 .nil pass0 (pa_cons (pvl 0) pa_nil))) (fun cl C s H fp => pgl (i := 1)) (fun cl C s H fp => pifs_nil) (fun cl C s H fp => pvl 1)))) pss_nil)
    (pss_cons (ps_if (pt_val (pe_ixt (pv 0) pe_int (fun _ _ => rfl))) (pss_one (ps_ret (pe_callTy call_list_of rfl B.list PyProof.Rows.boot_list (pa_cons (pe_ixt (pv 0) pe_int (fun _ _ => rfl)) pa_nil)))) pss_nil)
    (pss_one (ps_ret (pe_call G2 hr rfl m2 k2 b2 .nil pass0 (pa_cons (pe_ixt (pv 0) pe_int (fun _ _ => rfl)) pa_nil))))), ?_⟩
  cases S with
  | num sps =>
    obtain ⟨t, as, h1, h2⟩ := ha
    refine ⟨_, rfl, a, _, _, _, rfl, rfl, SqT.of h1, rfl, rfl, _, rfl, ?_⟩
    refine ite2 (fun _ => ?_) (fun c => absurd (decide_eq_true rfl) c)
    refine ⟨_, rfl, a, _, _, _, rfl, rfl, SqT.of h1, rfl, t, rfl, ⟨_, SqT.of h2.tup⟩, fun D hD => ?_⟩
    have hl : (as.map V.ref).length = sps.length := by rw [List.length_map, h2.len]
    have hsp2 : ∀ s : Spn, (someSp s).length ≤ 2 := fun s => by
      obtain ⟨x, y⟩ := s
      cases x with
      | none => cases y <;> exact Nat.le_refl 2
      | some x =>
        show (if y = some x then [x] else [x, x + 1]).length ≤ 2
        split
        · show 1 ≤ 2; decide
        · show 2 ≤ 2; decide
    have hfm : ∀ l : List Spn, (l.flatMap someSp).length ≤ 2 * l.length := fun l => by
      induction l with
      | nil => exact Nat.le_refl _
      | cons s r ih => rw [List.flatMap_cons, List.length_append, List.length_cons]; have := hsp2 s; omega
    refine ⟨fun i m σ ys H' => m = sps.length - i ∧ i ≤ sps.length ∧ (∃ o o', σ = [o, o']) ∧ ys = ((sps.take i).flatMap someSp).map V.int ∧ H' D = some (.lst ys) ∧ Same H H', ⟨_, rfl, Nat.zero_le _, ⟨none, none, rfl⟩, rfl, upd_same, same_new hD _⟩, ?_⟩
    rintro i m σ ys H' ⟨rfl, hi, ⟨o, o', rfl⟩, rfl, h, sm⟩
    refine ⟨h, ?_⟩
    by_cases hlt : i < sps.length
    · have hla : i < as.length := by rw [h2.len]; exact hlt
      refine .inr ⟨⟨_, V.ref as[i], SqT.of (sm _ _ h2.tup), by rw [List.getElem?_map, List.getElem?_eq_getElem (by rw [h2.len]; exact hlt)]; rfl⟩, fun σ' ys' H'' => (∃ o o', σ' = [o, o']) ∧ ys' = ((sps.take (i + 1)).flatMap someSp).map V.int ∧ H'' D = some (.lst ys') ∧ Same H H'', ?_, ?_⟩
      · rintro σ' ys' H'' ⟨e1, e2, e3, e4⟩
        exact ⟨sps.length - (i + 1), by omega, rfl, hlt, e1, e2, e3, e4⟩
      · rintro x H2 ⟨rfl, hx⟩
        have hx' := hx _ (SqT.of (sm _ _ h2.tup))
        rw [List.getElem?_map, List.getElem?_eq_getElem (by rw [h2.len]; exact hlt)] at hx'
        have ex : V.ref as[i] = x := Option.some.inj hx'
        subst ex
        have er : sps[i]? = some sps[i] := List.getElem?_eq_getElem hlt
        have ea := List.getElem?_eq_getElem (l := as) (i := i) (by rw [h2.len]; exact hlt)
        refine ⟨_, rfl, as[i], sps[i], rfl, sm _ _ (h2.at_ i _ _ ea er), fun t2 ht2 => ⟨t2, rfl, ⟨_, SqT.of upd_same⟩, ?_⟩⟩
        have hft : ((sps.take (i + 1)).flatMap someSp) = ((sps.take i).flatMap someSp) ++ someSp sps[i] := by
          rw [List.take_add_one, er, List.flatMap_append]
          congr 1
          show List.flatMap someSp [sps[i]] = _
          simp
        have nDt : D ≠ t2 := ne_of_none h ht2
        refine ⟨fun j m σ' ys' H'' => m = (someSp sps[i]).length - j ∧ j ≤ (someSp sps[i]).length ∧ (∃ o', σ' = [some (.ref as[i]), o']) ∧ ys' = (((sps.take i).flatMap someSp) ++ (someSp sps[i]).take j).map V.int ∧ H'' D = some (.lst ys') ∧ Same H H'' ∧ H'' t2 = some (.tup ((someSp sps[i]).map V.int)),
          ⟨_, rfl, Nat.zero_le _, ⟨o', rfl⟩, by simp, by rw [upd_ne nDt]; exact h, sm.trans (same_new ht2 _), upd_same⟩, ?_⟩
        rintro j m σ' ys' H3 ⟨rfl, hj, ⟨o2, rfl⟩, rfl, h3, sm3, ht3⟩
        refine ⟨h3, ?_⟩
        by_cases hjl : j < (someSp sps[i]).length
        · refine .inr ⟨⟨_, V.int (someSp sps[i])[j], SqT.of ht3, by rw [List.getElem?_map, List.getElem?_eq_getElem hjl]; rfl⟩, ?_, fun σ' ys' H'' => (∃ o', σ' = [some (.ref as[i]), o']) ∧ ys' = (((sps.take i).flatMap someSp) ++ (someSp sps[i]).take (j + 1)).map V.int ∧ H'' D = some (.lst ys') ∧ Same H H'' ∧ H'' t2 = some (.tup ((someSp sps[i]).map V.int)), ?_, ?_⟩
          · rw [List.length_map, List.length_append, List.length_take]
            have a1 := hfm (sps.take i)
            have a2 := hsp2 sps[i]
            rw [List.length_take] at a1
            have a3 := ho.1
            exact Nat.lt_of_le_of_lt (show _ ≤ 1000 by omega) (by decide)
          · rintro σ' ys' H'' ⟨e1, e2, e3, e4, e5⟩
            exact ⟨(someSp sps[i]).length - (j + 1), by omega, rfl, hjl, e1, e2, e3, e4, e5⟩
          · rintro x H4 ⟨rfl, hx⟩
            have hx' := hx _ (SqT.of ht3)
            rw [List.getElem?_map, List.getElem?_eq_getElem hjl] at hx'
            have ex : V.int (someSp sps[i])[j] = x := Option.some.inj hx'
            subst ex
            refine ⟨_, rfl, h3, ⟨_, rfl⟩, ?_, upd_same, same_put hD sm3, ?_⟩
            · rw [List.take_add_one, List.getElem?_eq_getElem hjl, ← List.append_assoc]
              rw [List.map_append (l₁ := _ ++ _)]
              rfl
            · rw [upd_ne (Ne.symm nDt)]; exact ht3
        · have ej : j = (someSp sps[i]).length := by omega
          subst ej
          refine .inl ⟨⟨_, SqT.of ht3, by rw [List.length_map]; exact Nat.le_refl _⟩, ⟨_, _, rfl⟩, ?_, h3, sm3⟩
          rw [hft, List.take_of_length_le (Nat.le_refl _)]
    · have ei : i = sps.length := by omega
      subst ei
      refine .inl ⟨⟨_, SqT.of (sm _ _ h2.tup), by rw [hl]; exact Nat.le_refl _⟩, ?_⟩
      refine q D H' sm hD ?_
      rw [h, List.take_of_length_le (Nat.le_refl _)]
      rfl
  | wrd b ws =>
    obtain ⟨t, h1, h2⟩ := ha
    refine ⟨_, rfl, a, _, _, _, rfl, rfl, SqT.of h1, rfl, rfl, _, rfl, ?_⟩
    refine ite2 (fun c => absurd (of_decide_eq_true c) (by decide +kernel)) (fun _ => ?_)
    refine ⟨_, rfl, a, _, _, _, rfl, rfl, SqT.of h1, rfl, b, rfl, ?_⟩
    cases b with
    | true => exact iteT ⟨_, rfl, a, _, _, _, rfl, rfl, SqT.of h1, rfl, t, _, rfl, .inr (SqT.of h2), fun l hl => q l _ (same_new hl _) hl upd_same⟩
    | false => exact iteF ⟨_, rfl, a, _, _, _, rfl, rfl, SqT.of h1, rfl, t, ws, rfl, h2, ho.1, fun l H' s' hl e => q l H' s' hl e⟩
theorem ok_another (F : Fun K "another" "another" sAnother f fd)
    (G1 : FnOk P w K mg base CX0 3 g1 d1 ["told"] spSomeOf) (b1 : Binds K d1 ["told"] []) (k1 : PySem.W.keepIn K (.ref g1) = true) (m1 : mg "some_of" = some (.ref g1)) :
    FnOk P w K mg base CX0 4 f fd ["told", "cell"] spAnother := by
  refine F.ok scAnother (fun vs H Q E h => ?_) (fun cdv A outer s H vs Q E hr h => ?_)
  · obtain ⟨a, S, v, rfl, _⟩ := h
    rfl
  obtain ⟨a, S, v, rfl, ha, ho, hv, q⟩ := h
  refine ⟨_, pss_cons (ps_for PassesOwn.never rfl (pi_list (pe_call G1 hr rfl m1 k1 b1 .nil pass0 (pa_cons (pv 0) pa_nil))) (pg_name (i := 2) scAnother.nd rfl (Or.inl rfl))
      (pss_one (ps_if (pt_cmpR op_ne (pv 2) (pv 1) (nomark _)) (pss_one (ps_ret (pv 2))) pss_nil)))
    (pss_one (ps_ret pe_non)), ?_⟩
  refine ⟨_, rfl, a, S, rfl, ha, ho, fun l H1 s1 hl h1 => ⟨l, rfl, ⟨_, SqL.of h1⟩, ?_⟩⟩
  refine for_list (xs := someV S) (fun i σ H' => (∃ o, σ = [some (.ref a), some v, o]) ∧ H' = H1 ∧ ∀ y ∈ (someV S).take i, y = v) ⟨⟨none, rfl⟩, rfl, by simp⟩ ?_ ?_ ?_
  · rintro i σ H' _ ⟨_, rfl, _⟩
    exact SqL.of h1
  · rintro i x σ H' hx ⟨⟨o, rfl⟩, rfl, hall⟩
    have sc : scal x v = true := by
      have hok := ((good_set ho).mem x (List.mem_of_getElem? hx)).2
      have hx2 : isCl x := by
        cases S with
        | num _ => obtain ⟨n, rfl⟩ := hok; exact .inl ⟨n, rfl⟩
        | wrd _ _ => obtain ⟨y, rfl, _⟩ := hok; exact .inr ⟨y, rfl⟩
      rcases hx2 with ⟨n, rfl⟩ | ⟨y, rfl⟩ <;> rcases hv with (⟨m, rfl⟩ | ⟨z, rfl⟩) | rfl <;> rfl
    refine ⟨_, rfl, _, rfl, sc, _, rfl, ?_⟩
    refine ite2 (fun c => ?_) (fun c => ?_)
    · have ne : x ≠ v := by simpa using c
      have e : anotherV S v = x := by unfold anotherV; rw [find_at hall hx ne]; rfl
      refine ⟨_, rfl, ?_⟩
      rw [← e]
      exact q H' s1
    · have e : x = v := by
        have : ¬ (!decide (x = v)) = true := c
        simpa using this
      exact ⟨⟨_, rfl⟩, rfl, mem_take_succ hx hall e⟩
  · rintro σ H' ⟨_, rfl, hall⟩
    rw [List.take_of_length_le (Nat.le_refl _)] at hall
    have e : anotherV S v = .non := by
      unfold anotherV
      rw [List.find?_eq_none.mpr (fun y hy => by simp [hall y hy])]
      rfl
    show Q .non H'
    rw [← e]
    exact q H' s1
end
end My

set_option maxHeartbeats 4000000
namespace My
open PySem L2 CS
theorem scLHas : FnScope ["_law_tale", "_law_cell", "_law_low", "_law_high"] ["_law_tale", "_law_cell"] (defScope sLHas) := ⟨rfl, rfl, rfl, by decide +kernel, rfl, by decide +kernel, by decide +kernel⟩
theorem scMany : FnScope ["_law_tale", "_law_many_here", "_law_low", "_law_high"] ["_law_tale"] (defScope sMany) := ⟨rfl, rfl, rfl, by decide +kernel, rfl, by decide +kernel, by decide +kernel⟩
theorem scIsCell : FnScope ["_law_tale", "_law_cell"] ["_law_tale", "_law_cell"] (defScope sIsCell) := ⟨rfl, rfl, rfl, by decide +kernel, rfl, by decide +kernel, by decide +kernel⟩
theorem scIsTold : FnScope ["_law_found", "_law_due"] ["_law_found", "_law_due"] (defScope sIsTold) := ⟨rfl, rfl, rfl, by decide +kernel, rfl, by decide +kernel, by decide +kernel⟩
theorem scRight : FnScope ["_law_tale", "_law_cell", "_law_found"] ["_law_tale", "_law_cell"] (defScope sRight) := ⟨rfl, rfl, rfl, by decide +kernel, rfl, by decide +kernel, by decide +kernel⟩
def spMany : Sp := fun vs H Q _ => ∃ a S, vs = [.ref a] ∧ SetAt H a S ∧ ∀ H', Same H H' → Q (.int (manyS S)) H'
def spIsCell : Sp := fun vs H Q _ => ∃ a S v, vs = [.ref a, v] ∧ SetAt H a S ∧ okCellOf S v ∧ ∀ H', Same H H' → Q (.bl true) H'
def spIsTold : Sp := fun vs H Q _ => ∃ x y, vs = [.bl x, .bl y] ∧ Q (.bl (x == y)) H
def spRight : Sp := fun vs H Q _ => ∃ a S v, vs = [.ref a, v] ∧ SetAt H a S ∧ okS S ∧ (isCl v ∨ v = .non) ∧ ∀ H', Same H H' → Q (.bl true) H'
/-- (low is None or low <= n) and (high is None or n <= high), as a test -/
theorem rd_inspan {l h : Option Int} {n : Int} {i j k : Nat} {σ : St} {H : Hp} {Q : Bool → Hp → Prop} (e1 : σ[i]? = some (some (eV l))) (e2 : σ[j]? = some (some (eV h))) (e3 : σ[k]? = some (some (.int n))) (q : Q (inSp (l, h) n) H) :
    tAnd (tOr (tTest (tOp (fun x y H Q => y = .non ∧ Q (.bl (decide (x = .non))) H) (tVar i) (tC .non))) (tTest (tOp (rI0 fun i j => .bl (decide (i ≤ j))) (tVar i) (tVar k))))
      (tOr (tTest (tOp (fun x y H Q => y = .non ∧ Q (.bl (decide (x = .non))) H) (tVar j) (tC .non))) (tTest (tOp (rI0 fun i j => .bl (decide (i ≤ j))) (tVar k) (tVar j)))) σ H Q := by
  have second : ∀ c : Bool, (c = true → inSp (l, h) n = h.all fun h => decide (n ≤ h)) → (c = false → inSp (l, h) n = false) → if c = true then
      tOr (tTest (tOp (fun x y H Q => y = .non ∧ Q (.bl (decide (x = .non))) H) (tVar j) (tC .non))) (tTest (tOp (rI0 fun i j => .bl (decide (i ≤ j))) (tVar k) (tVar j))) σ H Q else Q false H := fun c h1 h2 => by
    cases c with
    | false => rw [h2 rfl] at q; exact iteF q
    | true =>
      rw [h1 rfl] at q
      refine iteT ⟨_, e2, rfl, _, rfl, ?_⟩
      rw [eV_non]
      cases h with
      | none => exact iteT q
      | some h => exact iteF ⟨_, e3, _, e2, _, _, rfl, rfl, _, rfl, q⟩
  refine ⟨_, e1, rfl, _, rfl, ?_⟩
  rw [eV_non]
  cases l with
  | none => exact iteT (second true (fun _ => by simp [inSp]) (fun z => by cases z))
  | some l => exact iteF ⟨_, e1, _, e3, _, _, rfl, rfl, _, rfl, second _ (fun z => by unfold inSp; simp only [Option.all_some, z, Bool.true_and]) (fun z => by unfold inSp; simp only [Option.all_some, z, Bool.false_and])⟩
theorem spans_at {H : Hp} {t : Addr} {as : List Addr} {sps : List Spn} (h : SpansAt H t as sps) {i : Nat} {x : V} (hx : (as.map V.ref)[i]? = some x) : ∃ (b : Addr) (s : Spn), x = .ref b ∧ sps[i]? = some s ∧ H b = some (.tup [eV s.1, eV s.2]) := by
  rw [List.getElem?_map] at hx
  cases e : as[i]? with
  | none => rw [e] at hx; cases hx
  | some b =>
    rw [e] at hx
    have hx' : V.ref b = x := Option.some.inj hx
    subst hx'
    have hi : i < sps.length := by rw [← h.len]; exact (List.getElem?_eq_some_iff.mp e).1
    have er : sps[i]? = some sps[i] := List.getElem?_eq_getElem hi
    exact ⟨b, sps[i], rfl, er, h.at_ i b _ e er⟩
section
variable {P : Program} {w : World} {K : PySem.W.Frag} {mg : Str → Option Value} {base : Heap} {f g1 g2 g3 g4 : Addr} {fd d1 d2 d3 d4 : FuncData}
theorem ok_lhas (B : Blt mg) (B2 : Blt2 mg) (Kt : Kit K) (F : Fun K "_law_has" "_law_has" sLHas f fd) : FnOk P w K mg base CX0 1 f fd ["_law_tale", "_law_cell"] spHas := by
  refine F.ok scLHas (fun vs H Q E h => ?_) (fun cdv A outer s H vs Q E hr h => ?_)
  · obtain ⟨a, S, v, rfl, _⟩ := h
    rfl
  obtain ⟨a, S, v, rfl, ha, ho, hv, q⟩ := h
  refine ⟨_, pss_cons (ps_if (pt_cmpR op_eq (pe_ixt (pv 0) pe_int (fun _ _ => rfl)) pe_str (nomark _)) (pss_one (ps_ret (pe_and (pe_callB call_isinst rfl B.isinstance PyProof.Rows.boot_isinstance (pa_cons (pv 1) (pa_cons (pe_bty (n := "str") rfl B2.str PyProof.Rows.boot_str) pa_nil)))
      (pe_one (pe_cmpR op_eq (pe_cmpR op_in_seq (pv 1) (pe_ixt (pv 0) pe_int (fun _ _ => rfl)) rfl) (pe_ixt (pv 0) pe_int (fun _ _ => rfl)) (nomark _)))))) pss_nil)
    (pss_cons (ps_if (pt_val (pe_callB call_isinst rfl B.isinstance PyProof.Rows.boot_isinstance (pa_cons (pv 1) (pa_cons (pe_bty (n := "str") rfl B2.str PyProof.Rows.boot_str) pa_nil)))) (pss_one (ps_ret pe_bl)) pss_nil)
    (pss_cons (ps_for PassesOwn.never rfl (pi_tup (pe_ixt (pv 0) pe_int (fun _ _ => rfl))) (pg_tup rfl (pgs_cons (pg_name (i := 2) scLHas.nd rfl (Or.inl rfl)) (pgs_cons (pg_name (i := 3) scLHas.nd rfl (Or.inl rfl)) pgs_nil)))
      (pss_one (ps_if (PW.pt (pw_and (PW.pt (pw_or (pt_cmpR op_isN (pv 2) pe_non (nomark _)) (pw_or1 (pt_cmpR op_le (pv 2) (pv 1) (nomark _))))) (pw_and1 (PW.pt (pw_or (pt_cmpR op_isN (pv 3) pe_non (nomark _)) (pw_or1 (pt_cmpR op_le (pv 1) (pv 3) (nomark _)))))))) (pss_one (ps_ret pe_bl)) pss_nil)))
    (pss_one (ps_ret pe_bl)))), ?_⟩
  cases S with
  | num sps =>
    obtain ⟨t, as, h1, h2⟩ := ha
    refine ⟨_, rfl, a, _, _, _, rfl, rfl, SqT.of h1, rfl, rfl, _, rfl, ?_⟩
    refine ite2 (fun c => absurd (of_decide_eq_true c) (by decide +kernel)) (fun _ => ?_)
    rcases hv with ⟨n, rfl⟩ | ⟨y, rfl⟩
    · refine ⟨_, rfl, _, _, _, _, _, rfl, rfl, .inl (.int n), Kt.is_, false, rfl, ?_⟩
      refine iteF ⟨_, rfl, a, _, _, _, rfl, rfl, SqT.of h1, rfl, t, rfl, ⟨_, SqT.of h2.tup⟩, ?_⟩
      refine for_tup (xs := as.map V.ref) (fun i σ H' => (∃ o o', σ = [some (.ref a), some (.int n), o, o']) ∧ H' = H ∧ ∀ s ∈ sps.take i, inSp s n = false) ⟨⟨none, none, rfl⟩, rfl, by simp⟩ ?_ ?_ ?_
      · rintro i σ H' _ ⟨_, rfl, _⟩
        exact SqT.of h2.tup
      · rintro i x σ H' hx ⟨⟨o, o', rfl⟩, rfl, hall⟩
        obtain ⟨b, ⟨l, h⟩, rfl, er, hb⟩ := spans_at h2 hx
        refine ⟨b, _, rfl, SqT.of hb, rfl, _, _, rfl, _, _, rfl, rfl, ?_⟩
        refine rd_inspan (l := l) (h := h) (n := n) rfl rfl rfl ?_
        refine ite2 (fun c => ?_) (fun c => ?_)
        · have e : hasV (.num sps) (.int n) = true := List.any_eq_true.mpr ⟨(l, h), List.mem_of_getElem? er, c⟩
          show Q (.bl true) H'
          rw [← e]
          exact q H' (Same.refl H')
        · exact ⟨⟨_, _, rfl⟩, rfl, mem_take_succ er hall (Bool.eq_false_iff.mpr c)⟩
      · rintro σ H' ⟨_, rfl, hall⟩
        have hl : (as.map V.ref).length = sps.length := by rw [List.length_map, h2.len]
        rw [hl, List.take_of_length_le (Nat.le_refl _)] at hall
        have e : hasV (.num sps) (.int n) = false := List.any_eq_false.mpr fun s hs => by rw [hall s hs]; decide
        show Q (.bl false) H'
        rw [← e]
        exact q H' (Same.refl H')
    · refine ⟨_, rfl, _, _, _, _, _, rfl, rfl, .inl (.str y), kit_same (by decide), true, rfl, ?_⟩
      exact iteT (q H (Same.refl H))
  | wrd b ws =>
    obtain ⟨t, h1, h2⟩ := ha
    refine ⟨_, rfl, a, _, _, _, rfl, rfl, SqT.of h1, rfl, rfl, _, rfl, ?_⟩
    refine ite2 (fun _ => ?_) (fun c => absurd (decide_eq_true rfl) c)
    rcases hv with ⟨n, rfl⟩ | ⟨y, rfl⟩
    · refine ⟨_, rfl, _, _, _, _, _, rfl, rfl, .inl (.int n), Kt.is_, false, rfl, ?_⟩
      exact iteF (q H (Same.refl H))
    · refine ⟨_, rfl, _, _, _, _, _, rfl, rfl, .inl (.str y), kit_same (by decide), true, rfl, ?_⟩
      refine iteT ⟨_, rfl, _, rfl, a, _, _, _, rfl, rfl, SqT.of h1, rfl, t, _, rfl, .inr (SqT.of h2), rfl, flat_str ws, _, rfl, a, _, _, _, rfl, rfl, SqT.of h1, rfl, rfl, ?_⟩
      show Q (.bl (decide (V.bl (inV (.str y) (ws.map V.str)) = V.bl b))) H
      have e : decide (V.bl (inV (.str y) (ws.map V.str)) = V.bl b) = hasV (.wrd b ws) (.str y) := by
        rw [dec_bl, inV_str]
        rfl
      rw [e]
      exact q H (Same.refl H)
theorem ok_many (B : Blt mg) (B2 : Blt2 mg) (F : Fun K "_law_many" "_law_many" sMany f fd) : FnOk P w K mg base CX0 1 f fd ["_law_tale"] spMany := by
  refine F.ok scMany (fun vs H Q E h => ?_) (fun cdv A outer s H vs Q E hr h => ?_)
  · obtain ⟨a, S, rfl, _⟩ := h
    rfl
  obtain ⟨a, S, rfl, ha, q⟩ := h
  refine ⟨_, pss_cons (ps_if (pt_cmpR op_eq (pe_ixt (pv 0) pe_int (fun _ _ => rfl)) pe_str (nomark _)) (pss_one (ps_ret (pe_ix ix_list (pe_lst (pa_cons pe_int (pa_cons (pe_callB call_len_seq rfl B.len PySem.boot_len (pa_cons (pe_ixt (pv 0) pe_int (fun _ _ => rfl)) pa_nil)) pa_nil)))
        (pe_callTy call_int1 rfl B2.int PyProof.Rows.boot_int (pa_cons (pe_ixt (pv 0) pe_int (fun _ _ => rfl)) pa_nil)) (fun _ _ => rfl)))) pss_nil)
    (pss_cons (ps_set (i := 1) scMany.nd rfl (Or.inl rfl) pe_int)
    (pss_cons (ps_for PassesOwn.never rfl (pi_tup (pe_ixt (pv 0) pe_int (fun _ _ => rfl))) (pg_tup rfl (pgs_cons (pg_name (i := 2) scMany.nd rfl (Or.inl rfl)) (pgs_cons (pg_name (i := 3) scMany.nd rfl (Or.inl rfl)) pgs_nil)))
      (pss_cons (ps_if (PW.pt (pw_or (pt_cmpR op_isN (pv 2) pe_non (nomark _)) (pw_or1 (pt_cmpR op_isN (pv 3) pe_non (nomark _))))) (pss_one (ps_ret pe_int)) pss_nil)
      (pss_one (ps_set (i := 1) scMany.nd rfl (Or.inl rfl) (pe_op op_add (pv 1) (pe_callB (call_min2 rfl) rfl B2.min PyProof.Rows.boot_min (pa_cons pe_int (pa_cons (pe_op op_add (pe_op op_sub (pv 3) (pv 2)) pe_int) pa_nil))))))))
    (pss_one (ps_ret (pv 1))))), ?_⟩
  cases S with
  | num sps =>
    obtain ⟨t, as, h1, h2⟩ := ha
    refine ⟨_, rfl, a, _, _, _, rfl, rfl, SqT.of h1, rfl, rfl, _, rfl, ?_⟩
    refine ite2 (fun c => absurd (of_decide_eq_true c) (by decide +kernel)) (fun _ => ?_)
    refine ⟨_, rfl, a, _, _, _, rfl, rfl, SqT.of h1, rfl, t, rfl, ⟨_, SqT.of h2.tup⟩, ?_⟩
    refine for_tup (xs := as.map V.ref) (fun i σ H' => (∃ acc o o', σ = [some (.ref a), some (.int acc), o, o'] ∧ manyGo acc (sps.drop i) = manyGo 0 sps) ∧ H' = H) ⟨⟨0, none, none, rfl, rfl⟩, rfl⟩ ?_ ?_ ?_
    · rintro i σ H' _ ⟨_, rfl⟩
      exact SqT.of h2.tup
    · rintro i x σ H' hx ⟨⟨acc, o, o', rfl, hm⟩, rfl⟩
      obtain ⟨b, ⟨l, h⟩, rfl, er, hb⟩ := spans_at h2 hx
      have hi := (List.getElem?_eq_some_iff.mp er).1
      have ed : sps.drop i = (l, h) :: sps.drop (i + 1) := by
        rw [List.drop_eq_getElem_cons hi, (List.getElem?_eq_some_iff.mp er).2]
      rw [ed] at hm
      refine ⟨b, _, rfl, SqT.of hb, rfl, _, _, rfl, _, _, rfl, rfl, ?_⟩
      have three : manyGo acc ((l, h) :: sps.drop (i + 1)) = 3 → Q (.int 3) H' := fun e => by
        have : manyS (.num sps) = 3 := hm.symm.trans e
        rw [← this]
        exact q H' (Same.refl H')
      refine ⟨_, rfl, rfl, _, rfl, ?_⟩
      rw [eV_non]
      cases l with
      | none => exact iteT (iteT (three rfl))
      | some l =>
        refine iteF ⟨_, rfl, rfl, _, rfl, ?_⟩
        rw [eV_non]
        cases h with
        | none => exact iteT (three rfl)
        | some h => exact iteF ⟨_, rfl, _, rfl, _, rfl, _, _, rfl, rfl, _, _, rfl, rfl, _, _, rfl, _, _, rfl, rfl, ⟨_, _, _, rfl, hm⟩, rfl⟩
    · rintro σ H' ⟨⟨acc, o, o', rfl, hm⟩, rfl⟩
      have hl : (as.map V.ref).length = sps.length := by rw [List.length_map, h2.len]
      rw [hl, List.drop_of_length_le (Nat.le_refl _)] at hm
      refine ⟨_, rfl, ?_⟩
      have e : manyS (.num sps) = acc := hm.symm
      rw [← e]
      exact q H' (Same.refl H')
  | wrd b ws =>
    obtain ⟨t, h1, h2⟩ := ha
    refine ⟨_, rfl, a, _, _, _, rfl, rfl, SqT.of h1, rfl, rfl, _, rfl, ?_⟩
    refine ite2 (fun _ => ?_) (fun c => absurd (decide_eq_true rfl) c)
    refine ⟨_, rfl, a, _, _, _, rfl, rfl, SqT.of h1, rfl, t, _, rfl, .inr (SqT.of h2), (by show 2 ≤ sizeLine; decide), fun l hl => ?_⟩
    have s1 := same_new hl (.lst [.int 3, .int ((ws.map V.str).length : Nat)])
    refine ⟨_, rfl, a, _, _, _, rfl, rfl, SqT.of (s1 _ _ h1), rfl, .inr ⟨b, rfl, l, _, _, .int (manyS (.wrd b ws)), rfl, rfl, SqL.of upd_same, ?_, q _ s1⟩⟩
    cases b with
    | true => show _ = some (V.int ((ws.length : Nat) : Int)); rw [List.length_map]; rfl
    | false => rfl
theorem ok_istold (B : Blt mg) (B2 : Blt2 mg) (F : Fun K "_law_is_told" "_law_is_told" sIsTold f fd) : FnOk P w K mg base CX0 1 f fd ["_law_found", "_law_due"] spIsTold := by
  refine F.ok scIsTold (fun vs H Q E h => ?_) (fun cdv A outer s H vs Q E hr h => ?_)
  · obtain ⟨x, y, rfl, _⟩ := h
    rfl
  obtain ⟨x, y, rfl, q⟩ := h
  refine ⟨_, pss_one (ps_ret (pe_and (pe_callB call_isinst rfl B.isinstance PyProof.Rows.boot_isinstance (pa_cons (pv 0) (pa_cons (pe_bty (n := "bool") rfl B2.bool (by decide +kernel)) pa_nil))) (pe_one (pe_cmpR op_eq (pv 0) (pv 1) (nomark _))))), ?_⟩
  refine ⟨_, rfl, _, _, _, _, _, rfl, rfl, .inl (.bl x), kit_same (by decide), true, rfl, iteT ⟨_, rfl, _, rfl, rfl, ?_⟩⟩
  show Q (.bl (decide (V.bl x = V.bl y))) H
  rw [dec_bl]
  exact q
theorem ok_iscell (B : Blt mg) (B2 : Blt2 mg) (Kt : Kit K) (F : Fun K "_law_is_cell" "_law_is_cell" sIsCell f fd) : FnOk P w K mg base CX0 1 f fd ["_law_tale", "_law_cell"] spIsCell := by
  refine F.ok scIsCell (fun vs H Q E h => ?_) (fun cdv A outer s H vs Q E hr h => ?_)
  · obtain ⟨a, S, v, rfl, _⟩ := h
    rfl
  obtain ⟨a, S, v, rfl, ha, hv, q⟩ := h
  have hu : (A.deeper (PyProof.Rows.envOfC "_law_is_cell" (defScope sIsCell) s.heap.objs.size f cdv)).units + 1 + 0 < cLine := by have := hr.units; omega
  refine ⟨_, pss_cons (ps_if (pt_cmpR op_eq (pe_ixt (pv 0) pe_int (fun _ _ => rfl)) pe_str (nomark _)) (pss_one (ps_ret (pe_and (pe_callB call_isinst rfl B.isinstance PyProof.Rows.boot_isinstance (pa_cons (pv 1) (pa_cons (pe_bty (n := "int") rfl B2.int PyProof.Rows.boot_int) pa_nil)))
      (pe_one (pe_not (pe_callB call_isinst rfl B.isinstance PyProof.Rows.boot_isinstance (pa_cons (pv 1) (pa_cons (pe_bty (n := "bool") rfl B2.bool (by decide +kernel)) pa_nil)))))))) pss_nil)
    (pss_cons (ps_if (PW.pt (pw_or (pt_not (pt_val (pe_callB call_isinst rfl B.isinstance PyProof.Rows.boot_isinstance (pa_cons (pv 1) (pa_cons (pe_bty (n := "str") rfl B2.str PyProof.Rows.boot_str) pa_nil)))))
        (pw_or (pt_cmpR op_lt (pe_callB call_len_str rfl B.len PySem.boot_len (pa_cons (pv 1) pa_nil)) pe_int (nomark _)) (pw_or1 (pt_cmpR op_gt (pe_callB call_len_str rfl B.len PySem.boot_len (pa_cons (pv 1) pa_nil)) pe_int (nomark _)))))) pss_never pss_nil)
    (pss_one (ps_ret (pe_cmpR op_eqT (pe_lcomp (N' := ["_law_sign"]) (src := [none]) rfl (CompSc.ofB (by kernel_rfl)) (pi_str (pv 1)) (fun cl C s H fp => pgl (i := 0))
      (fun cl C s H fp => pifs_one (pt_cmpR op_notIn_str (pvl 0) pe_str rfl)) (fun cl C s H fp => pvl 0)) (pe_lst pa_nil) (nomark _))))), ?_⟩
  cases S with
  | num sps =>
    obtain ⟨t, as, h1, h2⟩ := ha
    obtain ⟨n, rfl⟩ := hv
    refine ⟨_, rfl, a, _, _, _, rfl, rfl, SqT.of h1, rfl, rfl, _, rfl, ?_⟩
    refine ite2 (fun _ => ?_) (fun c => absurd (decide_eq_true rfl) c)
    refine ⟨_, rfl, _, _, _, _, _, rfl, rfl, .inl (.int n), kit_same (by decide), true, rfl, iteT ?_⟩
    exact ⟨_, rfl, _, _, _, _, _, rfl, rfl, .inl (.int n), Kt.ib, false, rfl, q H (Same.refl H)⟩
  | wrd b ws =>
    obtain ⟨t, h1, h2⟩ := ha
    obtain ⟨x, rfl, hw⟩ := hv
    have hx : x.length ≤ sizeLine := Nat.le_trans hw.2.1 (by decide)
    refine ⟨_, rfl, a, _, _, _, rfl, rfl, SqT.of h1, rfl, rfl, _, rfl, ?_⟩
    refine ite2 (fun c => absurd (of_decide_eq_true c) (by decide +kernel)) (fun _ => ?_)
    refine ⟨_, rfl, _, _, _, _, _, rfl, rfl, .inl (.str x), kit_same (by decide), true, rfl, iteF ?_⟩
    refine ⟨_, rfl, x, rfl, hx, _, _, rfl, rfl, _, rfl, ?_⟩
    refine ite2 (fun c => absurd (of_decide_eq_true c) (by have := hw.1; omega)) (fun _ => ?_)
    refine ⟨_, rfl, x, rfl, hx, _, _, rfl, rfl, _, rfl, ?_⟩
    refine ite2 (fun c => absurd (of_decide_eq_true c) (by have := hw.2.1; omega)) (fun _ => ?_)
    refine ⟨_, rfl, x, rfl, fun D hD => ?_⟩
    refine comp_str (fun i σ ys H' => (∃ o, σ = [o]) ∧ ys = [] ∧ H' D = some (.lst ys) ∧ Same H H') ⟨⟨none, rfl⟩, rfl, upd_same, same_new hD _⟩ ?_ hx ?_ ?_
    · rintro i σ ys H' _ ⟨_, rfl, h, _⟩
      exact ⟨h, Nat.zero_le _⟩
    · rintro i c σ ys H' hc ⟨⟨o, rfl⟩, rfl, h, sm⟩
      refine ⟨_, rfl, sgn c, letters, rfl, rfl, _, rfl, ?_⟩
      have fo : (!(Builtin.Str.occurrences letters (sgn c) 0 letters.length 1).isEmpty) = decide (c ∈ letters.cps.toList) := PySem.StrLaws.found_one letters c
      rw [fo]
      have hc' : c ∈ x.cps.toList := List.mem_of_getElem? (i := i) (by simpa using hc)
      have hcc := hw.2.2 c hc'
      have hm : c ∈ letters.cps.toList := by
        have := letter_at (c - 97) (by omega)
        rw [show 97 + (c - 97) = c by omega] at this
        exact List.mem_of_getElem? this
      rw [decide_eq_true hm]
      exact iteF ⟨⟨_, rfl⟩, rfl, h, sm⟩
    · rintro σ ys H' ⟨_, rfl, h, sm⟩
      refine ⟨Nat.zero_le _, fun l hl => ?_⟩
      have s2 := same_new hl (.lst [])
      exact ⟨0, hu, .inl ⟨D, l, [], [], rfl, rfl, SqL.of (s2 _ _ h), SqL.of upd_same, rfl, fun i x y e => by cases e⟩, q _ (sm.trans s2)⟩
theorem ok_right (B2 : Blt2 mg) (F : Fun K "_law_another_right" "_law_another_right" sRight f fd)
    (G1 : FnOk P w K mg base CX0 4 g1 d1 ["told", "cell"] spAnother) (b1 : Binds K d1 ["told", "cell"] []) (k1 : PySem.W.keepIn K (.ref g1) = true) (m1 : mg "another" = some (.ref g1))
    (G2 : FnOk P w K mg base CX0 4 g2 d2 ["_law_tale"] spMany) (b2 : Binds K d2 ["_law_tale"] []) (k2 : PySem.W.keepIn K (.ref g2) = true) (m2 : mg "_law_many" = some (.ref g2))
    (G3 : FnOk P w K mg base CX0 4 g3 d3 ["_law_tale", "_law_cell"] spHas) (b3 : Binds K d3 ["_law_tale", "_law_cell"] []) (k3 : PySem.W.keepIn K (.ref g3) = true) (m3 : mg "_law_has" = some (.ref g3))
    (G4 : FnOk P w K mg base CX0 4 g4 d4 ["_law_tale", "_law_cell"] spIsCell) (b4 : Binds K d4 ["_law_tale", "_law_cell"] []) (k4 : PySem.W.keepIn K (.ref g4) = true) (m4 : mg "_law_is_cell" = some (.ref g4)) :
    FnOk P w K mg base CX0 5 f fd ["_law_tale", "_law_cell"] spRight := by
  refine F.ok scRight (fun vs H Q E h => ?_) (fun cdv A outer s H vs Q E hr h => ?_)
  · obtain ⟨a, S, v, rfl, _⟩ := h
    rfl
  obtain ⟨a, S, v, rfl, ha, ho, hv, q⟩ := h
  refine ⟨_, pss_cons (ps_set (i := 2) scRight.nd rfl (Or.inl rfl) (pe_call G1 hr rfl m1 k1 b1 .nil pass0 (pa_cons (pv 0) (pa_cons (pv 1) pa_nil))))
    (pss_cons (ps_if (pt_cmpR op_eq (pe_op op_sub (pe_call G2 hr rfl m2 k2 b2 .nil pass0 (pa_cons (pv 0) pa_nil)) (pe_callTy call_int1 rfl B2.int PyProof.Rows.boot_int (pa_cons (pe_and (pe_cmpR op_notN (pv 1) pe_non (nomark _)) (pe_one (pe_call G3 hr rfl m3 k3 b3 .nil pass0 (pa_cons (pv 0) (pa_cons (pv 1) pa_nil))))) pa_nil))) pe_int (nomark _))
      (pss_one (ps_ret (pe_cmpR op_isN (pv 2) pe_non (nomark _)))) pss_nil)
    (pss_one (ps_ret (pe_and (pe_cmpR op_notN (pv 2) pe_non (nomark _)) (pe_and (pe_cmpR op_ne (pv 2) (pv 1) (nomark _)) (pe_and (pe_call G4 hr rfl m4 k4 b4 .nil pass0 (pa_cons (pv 0) (pa_cons (pv 2) pa_nil))) (pe_one (pe_call G3 hr rfl m3 k3 b3 .nil pass0 (pa_cons (pv 0) (pa_cons (pv 2) pa_nil)))))))))), ?_⟩
  have hok := another_ok ho v
  refine ⟨_, rfl, _, rfl, a, S, v, rfl, ha, ho, hv, fun H1 s1 => ?_⟩
  refine ⟨_, rfl, a, S, rfl, ha.same s1, fun H2 s2 => ?_⟩
  have s12 := s1.trans s2
  have fin : ∀ H3, Same H H3 → ∃ i j : Int, V.int (manyS S) = .int i ∧ V.int (if hasV S v = true then 1 else 0) = .int j ∧ (tC (.int 0) [some (.ref a), some v, some (anotherV S v)] H3 fun y H4 => rEq (.int (i - j)) y H4 fun x H' => ∃ k, x = .bl k ∧ (fun b H1 => if b = true then
        tRet (tOp (fun x y H Q => y = .non ∧ Q (.bl (decide (x = .non))) H) (tVar 2) (tC .non)) { nx := fun _ H' => Q .non H', rt := Q } [some (.ref a), some v, some (anotherV S v)] H1
      else tSeq tNext (tRet (tAndV (tOp (fun x y H Q => y = .non ∧ Q (.bl (!decide (x = .non))) H) (tVar 2) (tC .non)) (tAndV (tOp rNe (tVar 2) (tVar 1)) (tAndV (tCall spIsCell [] E0 (tCons (tVar 0) (tCons (tVar 2) tNil))) (tCall spHas [] E0 (tCons (tVar 0) (tCons (tVar 2) tNil))))))) { nx := fun _ H' => Q .non H', rt := Q } [some (.ref a), some v, some (anotherV S v)] H1) k H') := fun H3 s3 => by
    refine ⟨_, _, rfl, rfl, rfl, _, rfl, ?_⟩
    refine ite2 (fun c => ?_) (fun c => ?_)
    · have c' : manyS S - (if hasV S v = true then 1 else 0) = 0 := by
        have := of_decide_eq_true c
        injection this
      have e := hok.1 c'
      refine ⟨_, rfl, rfl, ?_⟩
      rw [e]
      exact q H3 s3
    · have c' : manyS S - (if hasV S v = true then 1 else 0) ≠ 0 := fun z => c (by rw [z]; exact decide_eq_true rfl)
      obtain ⟨n1, n2, n3, n4⟩ := hok.2 c'
      have hcl : isCl (anotherV S v) := by
        generalize anotherV S v = x at n3
        cases S with
        | num _ => obtain ⟨n, rfl⟩ := n3; exact .inl ⟨n, rfl⟩
        | wrd _ _ => obtain ⟨y, rfl, _⟩ := n3; exact .inr ⟨y, rfl⟩
      refine ⟨_, rfl, rfl, _, rfl, ?_⟩
      rw [decide_eq_false n1]
      refine iteT ⟨_, rfl, _, rfl, ?_, _, rfl, ?_⟩
      · rcases hcl with ⟨n, e⟩ | ⟨y, e⟩ <;> rw [e] <;> rcases hv with (⟨m, rfl⟩ | ⟨z, rfl⟩) | rfl <;> rfl
      rw [decide_eq_false n2]
      refine iteT ⟨_, rfl, _, rfl, a, S, _, rfl, ha.same s3, n3, fun H4 s4 => ⟨true, rfl, iteT ⟨_, rfl, _, rfl, a, S, _, rfl, (ha.same s3).same s4, ho, hcl, fun H5 s5 => ?_⟩⟩⟩
      rw [n4]
      exact q H5 (s3.trans (s4.trans s5))
  refine ⟨_, rfl, rfl, _, rfl, ?_⟩
  by_cases hnon : v = .non
  · have eh : hasV S v = false := by rw [hnon]; cases S <;> rfl
    rw [decide_eq_true hnon]
    refine iteF (.inr ⟨false, rfl, ?_⟩)
    have := fin H2 s12
    rw [eh] at this
    exact this
  · rw [decide_eq_false hnon]
    refine iteT ⟨_, rfl, _, rfl, a, S, v, rfl, (ha.same s12), ho, hv.resolve_right hnon, fun H3 s3 => .inr ⟨_, rfl, ?_⟩⟩
    exact fin H3 (s12.trans s3)
end
end My

set_option maxHeartbeats 8000000
namespace My
open PySem L2 CS
theorem scSpans : FnScope ["_law_pot_here", "_law_some", "_law_spans_here", "_law_low"] ["_law_pot_here"] (defScope sSpans) := ⟨rfl, rfl, rfl, by decide +kernel, rfl, by decide +kernel, by decide +kernel⟩
theorem scWords : FnScope ["_law_pot_here", "_law_some"] ["_law_pot_here"] (defScope sWords) := ⟨rfl, rfl, rfl, by decide +kernel, rfl, by decide +kernel, by decide +kernel⟩
theorem scSet : FnScope ["_law_pot_here"] ["_law_pot_here"] (defScope sSet) := ⟨rfl, rfl, rfl, by decide +kernel, rfl, by decide +kernel, by decide +kernel⟩
def spSet : Sp := fun vs H Q _ => ∃ (p : Addr), vs = [.ref p] ∧ PotAt H p ∧ ∀ a S H', Grow p H H' → SetAt H' a S → okS S → Q (.ref a) H'
abbrev tDraw (m : Int) : TE := tCall spDraw [] E0 (tCons (tVar 0) (tCons (tC (.int m)) tNil))
theorem log_small {m : Int} (h0 : 0 < m) (h1 : m ≤ 1000) : m.natAbs.log2 < 9000 := Nat.lt_of_le_of_lt (Nat.log2_le_self _) (by omega)
/-- [draw(m1), draw(m2)][int(draw(m3) == c)] -/
theorem rd_pick {K : PySem.W.Frag} {σ : St} {H : Hp} {Q : VK} {p : Addr} {m1 m2 m3 c : Int} (e : σ[0]? = some (some (.ref p))) (hP : PotAt H p) (h1 : 0 < m1 ∧ m1 ≤ 1000) (h2 : 0 < m2 ∧ m2 ≤ 1000) (h3 : 0 < m3 ∧ m3 ≤ 1000)
    (q : ∀ j H', Grow p H H' → 0 ≤ j → j < m1 ∨ j < m2 → Q (.int j) H') :
    tOp (rIxL K) (tLst (tCons (tDraw m1) (tCons (tDraw m2) tNil))) (tCB (fun xs H Q => (∃ i, xs = [.int i] ∧ Q (.int i) H) ∨ ∃ k, xs = [.bl k] ∧ Q (.int (if k then 1 else 0)) H) (tCons (tOp rEq (tDraw m3) (tC (.int c))) tNil)) σ H Q := by
  refine ⟨_, e, p, _, rfl, hP, h1.1, log_small h1.1 h1.2, fun e1 H2 g2 a2 b2 => ⟨_, e, p, _, rfl, g2.pot, h2.1, log_small h2.1 h2.2, fun e2 H3 g3 a3 b3 => ⟨(by show 2 ≤ sizeLine; decide), fun ll hll => ?_⟩⟩⟩
  have nll : ll ≠ p := g3.ne hll
  have G3 := (g2.trans g3).new (o := .lst [.int e1, .int e2]) hll
  refine ⟨_, e, p, _, rfl, G3.pot, h3.1, log_small h3.1 h3.2, fun e3 H4 g4 a4 b4 => ⟨rfl, .inr ⟨_, rfl, ?_⟩⟩⟩
  have G4 := G3.trans g4
  have hidx : ∀ k : Bool, ∃ v, atI [V.int e1, V.int e2] (if k then 1 else 0) = some v ∧ ∃ j : Int, v = .int j ∧ 0 ≤ j ∧ (j < m1 ∨ j < m2) := fun k => by
    cases k with
    | true => exact ⟨_, rfl, e2, rfl, a3, .inr b3⟩
    | false => exact ⟨_, rfl, e1, rfl, a2, .inl b2⟩
  obtain ⟨v, hv, j, rfl, j0, j1⟩ := hidx (decide (V.int e3 = V.int c))
  exact ⟨ll, _, _, _, rfl, rfl, SqL.of (g4.keep ll _ nll upd_same), hv, q j H4 G4 j0 j1⟩
theorem p62a {j : Int} (h : 0 ≤ j) (h1 : j ≤ 1000) : -(2 ^ 62) ≤ j ∧ j < 2 ^ 62 := by
  have e : ((2 : Int) ^ 62) = 4611686018427387904 := by decide
  rw [e]; omega
/-- xs != [] as a test -/
theorem rd_ne {K : PySem.W.Frag} {A : Around} {σ : St} {H : Hp} {Q : Bool → Hp → Prop} {i : Nat} {l : Addr} {xs : List V} (hu : A.units + 0 < cLine) (e : σ[i]? = some (some (.ref l))) (h : H l = some (.lst xs)) (q : ∀ z, H z = none → Q (!decide (xs = [])) (upd H z (.lst []))) :
    tTest (tOp (fun x y H Q => rEqT K A false x y H Q ∨ ∃ a b xs ys, x = .ref a ∧ y = .ref b ∧ SqL K H a xs ∧ SqL K H b ys ∧ xs.length ≠ ys.length ∧ Q (.bl true) H) (tVar i) (tLst tNil)) σ H Q := by
  refine ⟨_, e, Nat.zero_le _, fun z hz => ?_⟩
  have q' := q z hz
  have hl := same_new hz (.lst []) _ _ h
  cases xs with
  | nil => exact .inl ⟨0, hu, .inl ⟨l, z, [], [], rfl, rfl, SqL.of hl, SqL.of upd_same, rfl, fun i x y e => by cases e⟩, _, rfl, q'⟩
  | cons x xs => exact .inr ⟨l, z, _, [], rfl, rfl, SqL.of hl, SqL.of upd_same, by simp, _, rfl, q'⟩
section
variable {P : Program} {w : World} {K : PySem.W.Frag} {mg : Str → Option Value} {base : Heap} {f g1 g2 g3 : Addr} {fd d1 d2 d3 : FuncData}
theorem ok_spans (B : Blt mg) (B2 : Blt2 mg) (F : Fun K "_law_spans" "_law_spans" sSpans f fd) (G : FnOk P w K mg base CX0 2 g1 d1 ["_law_pot_here", "_law_many_here"] spDraw) (bG : Binds K d1 ["_law_pot_here", "_law_many_here"] []) (kG : PySem.W.keepIn K (.ref g1) = true) (mG : mg "_law_draw" = some (.ref g1))
    (G2 : FnOk P w K mg base CX0 2 g2 d2 ["_law_pot_here"] spNumber) (b2 : Binds K d2 ["_law_pot_here"] []) (k2 : PySem.W.keepIn K (.ref g2) = true) (m2 : mg "_law_number" = some (.ref g2)) :
    FnOk P w K mg base CX0 3 f fd ["_law_pot_here"] spSet := by
  refine F.ok scSpans (fun vs H Q E h => ?_) (fun cdv A outer s H vs Q E hr h => ?_)
  · obtain ⟨p, rfl, _⟩ := h
    rfl
  obtain ⟨p, rfl, hP, q⟩ := h
  have hu0 : (A.deeper (PyProof.Rows.envOfC "_law_spans" (defScope sSpans) s.heap.objs.size f cdv)).units < cLine := by have := hr.units; omega
  have hu1 : (A.deeper (PyProof.Rows.envOfC "_law_spans" (defScope sSpans) s.heap.objs.size f cdv)).units + 1 + 0 < cLine := by have := hr.units; omega
  refine ⟨_, pss_cons (ps_setComp (i := 1) (N' := ["_law_k", "_law_pot_here"]) (src := [none, some 0]) scSpans.nd rfl (Or.inl rfl) rfl rfl (CompSc.ofB (by kernel_rfl))
      (pi_range1 rfl B.range (pa_cons (pe_ix ix_list (pe_lst (pa_cons (pe_call G hr rfl mG kG bG .nil pass0 (pa_cons (pv 0) (pa_cons pe_int pa_nil))) (pa_cons (pe_call G hr rfl mG kG bG .nil pass0 (pa_cons (pv 0) (pa_cons pe_int pa_nil))) pa_nil)))
        (pe_callTy call_int1 rfl B2.int PyProof.Rows.boot_int (pa_cons (pe_cmpR op_eq (pe_call G hr rfl mG kG bG .nil pass0 (pa_cons (pv 0) (pa_cons pe_int pa_nil))) pe_int (nomark _)) pa_nil)) (fun _ _ => rfl)) pa_nil)) (fun cl C s H fp => pgl (i := 0)) (fun cl C s H fp => pifs_nil)
      (fun cl C s H fp => pe_call G2 hr glc m2 k2 b2 .nil pass0 (pa_cons (pvf 1) pa_nil)))
    (pss_cons (ps_set (i := 2) scSpans.nd rfl (Or.inl rfl) (pe_lst pa_nil))
    (pss_cons (ps_for PassesOwn.never rfl (pi_list (pe_sortset rfl rfl B2.sorted rfl B2.set (pv 1))) (pg_name (i := 3) scSpans.nd rfl (Or.inl rfl))
      (pss_one (ps_if (PW.pt (pw_and (pt_cmpR (op_neT.or (op_neLen hu0)) (pv 2) (pe_lst pa_nil) (nomark _)) (pw_and1 (PW.pt (pw_or (pt_cmpR op_eq (pe_call G hr rfl mG kG bG .nil pass0 (pa_cons (pv 0) (pa_cons pe_int pa_nil))) pe_int (nomark _))
          (pw_or1 (pt_cmpR op_lt (pv 3) (pe_op op_add (pe_ix ix_tup (pe_ix ix_list (pv 2) (pe_un un_neg pe_int) (fun _ _ => rfl)) pe_int (fun _ _ => rfl)) pe_int) (nomark _))))))))
        (pss_one (ps_asg (pe_tup (pa_cons (pe_ix ix_tup (pe_ix ix_list (pv 2) (pe_un un_neg pe_int) (fun _ _ => rfl)) pe_int (fun _ _ => rfl)) (pa_cons (pv 3) pa_nil))) (pg_sub (pv 2) (pe_un un_neg pe_int) set_list)))
        (pss_one (ps_expr (pe_bm PySem.F.plainAttrs_list PySem.F.slot_list_append PySem.F.type_list_append mt_append (pv 2) (pa_cons (pe_tup (pa_cons (pv 3) (pa_cons (pv 3) pa_nil))) pa_nil)))))))
    (pss_cons (ps_if (PW.pt (pw_and (pt_cmpR (op_neT.or (op_neLen hu0)) (pv 2) (pe_lst pa_nil) (nomark _)) (pw_and1 (pt_cmpR op_eq (pe_call G hr rfl mG kG bG .nil pass0 (pa_cons (pv 0) (pa_cons pe_int pa_nil))) pe_int (nomark _)))))
      (pss_one (ps_asg (pe_tup (pa_cons pe_non (pa_cons (pe_ix ix_tup (pe_ix ix_list (pv 2) pe_int (fun _ _ => rfl)) pe_int (fun _ _ => rfl)) pa_nil))) (pg_sub (pv 2) pe_int set_list))) pss_nil)
    (pss_cons (ps_if (PW.pt (pw_and (pt_cmpR (op_neT.or (op_neLen hu0)) (pv 2) (pe_lst pa_nil) (nomark _)) (pw_and1 (pt_cmpR op_eq (pe_call G hr rfl mG kG bG .nil pass0 (pa_cons (pv 0) (pa_cons pe_int pa_nil))) pe_int (nomark _)))))
      (pss_one (ps_asg (pe_tup (pa_cons (pe_ix ix_tup (pe_ix ix_list (pv 2) (pe_un un_neg pe_int) (fun _ _ => rfl)) pe_int (fun _ _ => rfl)) (pa_cons pe_non pa_nil))) (pg_sub (pv 2) (pe_un un_neg pe_int) set_list))) pss_nil)
    (pss_one (ps_ret (pe_tup (pa_cons pe_str (pa_cons (pe_callTy call_tuple_of rfl B.tuple PyProof.Rows.boot_tuple (pa_cons (pv 2) pa_nil)) pa_nil))))))))), ?_⟩
  refine rd_pick (p := p) rfl hP (by decide) (by decide) (by decide) fun j H1 G1 j0 j1 => ?_
  have j40 : j ≤ 40 := by omega
  refine ⟨j, rfl, (p62a j0 (by omega)).1, (p62a j0 (by omega)).2, fun D hD => ?_⟩
  have nD : D ≠ p := G1.ne hD
  refine comp_range (n := j.toNat) (fun i σ ys H' => ∃ (o : Option V) (ns : List Int), σ = [o, some (.ref p)] ∧ ys = ns.map V.int ∧ ns.length = i ∧ (∀ n ∈ ns, -(10 ^ 60) < n ∧ n < 10 ^ 60) ∧ H' D = some (.lst ys) ∧ Grow p H H')
    ⟨none, [], rfl, rfl, rfl, by simp, upd_same, G1.new hD⟩ ?_ ?_ ?_ ?_
  · rintro i σ ys H' _ ⟨o, ns, _, rfl, rfl, _, h, _⟩
    exact ⟨h, by rw [List.length_map]; exact Nat.le_refl _⟩
  · exact Nat.le_trans (show j.toNat ≤ 40 by omega) (by decide)
  · rintro i σ ys H' hi ⟨o, ns, rfl, rfl, rfl, hn, h, g'⟩
    refine ⟨_, rfl, p, rfl, g'.pot, fun n H2 g2 n1 n2 => ⟨g2.keep D _ nD h, some (.int (0 + (ns.length : Nat))), ns ++ [n], rfl, by rw [List.map_append]; rfl, by rw [List.length_append]; rfl, ?_, upd_same, G1.put hD nD (g'.trans g2)⟩⟩
    intro y hy
    rcases List.mem_append.mp hy with z | z
    · exact hn y z
    · rw [List.mem_singleton.mp z]; exact ⟨n1, n2⟩
  rintro σ0 ys0 H2 ⟨o0, ns, _, rfl, hns, hbn, hD2, g2⟩
  -- the list of spans
  refine ⟨Nat.zero_le _, fun L hL => ?_⟩
  have nL : L ≠ p := g2.ne hL
  have s3 := same_new hL (.lst [])
  have g3 := g2.new (o := .lst []) hL
  have hD3 := s3 _ _ hD2
  refine ⟨_, rfl, D, _, rfl, .inl (SqL.of hD3), by rw [List.length_map, hns]; omega, .inl ⟨ns, rfl⟩, fun SA ys hSA hso => ?_⟩
  obtain ⟨ms, rfl, hms, hsub, hml⟩ := sorted_ints hso
  have s4 := same_new hSA (.lst (ms.map V.int))
  have nSA : SA ≠ p := g3.ne hSA
  have nLS : L ≠ SA := fun z => by rw [← z, upd_same] at hSA; cases hSA
  have g4 := g3.new (o := .lst (ms.map V.int)) hSA
  have g2n := g2
  refine ⟨SA, rfl, ⟨_, SqL.of upd_same⟩, ?_⟩
  -- the last spans and what is written in their place
  have ng : ∀ {H' : Hp} {o : HO}, Grow p H H' → Grow p H (upd H' L o) := fun {H' o} g' => g2.put hL nL g'
  refine for_list (xs := ms.map V.int) (fun i σ H' => ∃ (o : Option V) (as : List Addr) (sps : List Spn), σ = [some (.ref p), some (.ref D), some (.ref L), o] ∧ SpL H' L as sps ∧ sps.length ≤ i ∧ GoodL (ms.drop i) sps ∧ Grow p H H' ∧ H' SA = some (.lst (ms.map V.int)))
    ⟨none, [], [], rfl, ⟨s4 _ _ upd_same, rfl, fun i a s e => by cases e⟩, Nat.zero_le _, GoodL.nil _, g4, upd_same⟩ ?_ ?_ ?_
  · rintro i σ H' _ ⟨_, _, _, _, _, _, _, _, h⟩
    exact SqL.of h
  · rintro i v σ H' hv ⟨o, as, sps, rfl, hS, hlen, hgood, g', hSA'⟩
    rw [List.getElem?_map] at hv
    cases ex : ms[i]? with
    | none => rw [ex] at hv; cases hv
    | some x =>
      rw [ex] at hv
      have hv' : V.int x = v := Option.some.inj hv
      subst hv'
      have hi := (List.getElem?_eq_some_iff.mp ex).1
      have ed : ms.drop i = x :: ms.drop (i + 1) := by rw [List.drop_eq_getElem_cons hi, (List.getElem?_eq_some_iff.mp ex).2]
      rw [ed] at hgood
      have hxm : ∀ m ∈ ms.drop (i + 1), x < m := fun m hm => by
        have pw := hms.drop (i := i)
        rw [ed] at pw
        exact List.rel_of_pairwise_cons pw hm
      have hxb := hbn x (hsub x (List.mem_of_getElem? ex))
      have hi40 : ms.length ≤ 40 := by omega
      have big40 : ∀ n : Nat, n ≤ 45 → n < sizeLine := fun n hn => Nat.lt_of_le_of_lt (Nat.le_trans hn (by decide : 45 ≤ 1000)) (by decide)
      -- appending
      have app : ∀ H5, SpL H5 L as sps → Grow p H H5 → H5 SA = some (.lst (ms.map V.int)) → (∀ sps' l h, sps = sps' ++ [(some l, some h)] → h + 1 < x) →
          tDrop (tBM K "list" rAppend (tVar 2) (tCons (tTup (tCons (tVar 3) (tCons (tVar 3) tNil))) tNil)) { nx := fun σ H' => ∃ (o : Option V) (as : List Addr) (sps : List Spn), σ = [some (.ref p), some (.ref D), some (.ref L), o] ∧ SpL H' L as sps ∧ sps.length ≤ i + 1 ∧ GoodL (ms.drop (i + 1)) sps ∧ Grow p H H' ∧ H' SA = some (.lst (ms.map V.int)), ct := fun σ H' => ∃ (o : Option V) (as : List Addr) (sps : List Spn), σ = [some (.ref p), some (.ref D), some (.ref L), o] ∧ SpL H' L as sps ∧ sps.length ≤ i + 1 ∧ GoodL (ms.drop (i + 1)) sps ∧ Grow p H H' ∧ H' SA = some (.lst (ms.map V.int)), bk := fun _ _ => False, rt := Q } [some (.ref p), some (.ref D), some (.ref L), some (.int x)] H5 := fun H5 hS5 g5 hSA5 hlast => by
        refine ⟨_, rfl, .inl ⟨rfl, _, SqL.of hS5.lst⟩, _, rfl, _, rfl, (by show 2 ≤ sizeLine; decide), fun t ht => ?_⟩
        have s5 := same_new ht (.tup [.int x, .int x])
        have hS6 := hS5.same s5
        refine ⟨L, _, _, rfl, rfl, hS6.lst, ?_, some (.int x), as ++ [t], sps ++ [(some x, some x)], rfl, ?_, ?_, hgood.snoc hxm hxb hlast, ng (g5.new ht), ?_⟩
        · rw [List.length_map, hS5.len]; exact big40 _ (by omega)
        · have := SpL.put (as := as) (sps := sps) (as2 := as ++ [t]) (sps2 := sps ++ [(some x, some x)]) hS6.lst (by rw [List.length_append, List.length_append, hS5.len]; rfl) (pair_snoc hS6.len (R := fun a s => _ = some (HO.tup [eV s.1, eV s.2])) hS6.at_ upd_same)
          rw [List.map_append] at this
          exact this
        · rw [List.length_append]; exact Nat.add_le_add_right hlen 1
        · rw [upd_ne (Ne.symm nLS)]; exact s5 _ _ hSA5
      -- the last one made longer
      have mer : ∀ H5, SpL H5 L as sps → Grow p H H5 → H5 SA = some (.lst (ms.map V.int)) → sps ≠ [] →
          tAsg (tTup (tCons (tOp (rIxT K) (tOp (rIxL K) (tVar 2) (tUn (rU fun i => .int (-i)) (tC (.int 1)))) (tC (.int 0))) (tCons (tVar 3) tNil))) (gSub (tVar 2) (tUn (rU fun i => .int (-i)) (tC (.int 1))) rSetL) { nx := fun σ H' => ∃ (o : Option V) (as : List Addr) (sps : List Spn), σ = [some (.ref p), some (.ref D), some (.ref L), o] ∧ SpL H' L as sps ∧ sps.length ≤ i + 1 ∧ GoodL (ms.drop (i + 1)) sps ∧ Grow p H H' ∧ H' SA = some (.lst (ms.map V.int)), ct := fun σ H' => ∃ (o : Option V) (as : List Addr) (sps : List Spn), σ = [some (.ref p), some (.ref D), some (.ref L), o] ∧ SpL H' L as sps ∧ sps.length ≤ i + 1 ∧ GoodL (ms.drop (i + 1)) sps ∧ Grow p H H' ∧ H' SA = some (.lst (ms.map V.int)), bk := fun _ _ => False, rt := Q } [some (.ref p), some (.ref D), some (.ref L), some (.int x)] H5 := fun H5 hS5 g5 hSA5 ne => by
        obtain ⟨as', a, sps', sp, rfl, rfl, hl', hat', ha⟩ := hS5.unsnoc ne
        obtain ⟨l, h, rfl, _⟩ := hgood.bd sp (List.mem_append_right _ (List.mem_singleton.mpr rfl))
        have em : (as' ++ [a]).map V.ref = as'.map V.ref ++ [.ref a] := by rw [List.map_append]; rfl
        have hlst : H5 L = some (.lst (as'.map V.ref ++ [.ref a])) := by rw [← em]; exact hS5.lst
        refine ⟨_, rfl, _, rfl, L, _, _, .ref a, rfl, rfl, SqL.of hlst, atI_last _ _, a, _, _, _, rfl, rfl, SqT.of ha, rfl, _, rfl, (by show 2 ≤ sizeLine; decide), fun t ht => ?_⟩
        have s5 := same_new ht (.tup [eV (some l), .int x])
        refine ⟨_, rfl, _, rfl, L, _, _, as'.length, rfl, rfl, s5 _ _ hlst, ?_, ?_⟩
        · have := ixN_last (as'.map V.ref) (V.ref a)
          rw [List.length_map] at this
          exact this
        have es : (as'.map V.ref ++ [V.ref a]).set as'.length (.ref t) = (as' ++ [t]).map V.ref := by
          have := set_last (as'.map V.ref) (V.ref a) (V.ref t)
          rw [List.length_map] at this
          rw [this, List.map_append]
          rfl
        rw [es]
        refine ⟨some (.int x), as' ++ [t], sps' ++ [(some l, some x)], rfl, ?_, ?_, hgood.merge hxm hxb, ng (g5.new ht), ?_⟩
        · exact SpL.put (as := as') (sps := sps') (s5 _ _ hlst) (by rw [List.length_append, List.length_append, hl']; rfl) (pair_snoc hl' (R := fun a s => _ = some (HO.tup [eV s.1, eV s.2])) (fun i a s e1 e2 => s5 _ _ (hat' i a s e1 e2)) upd_same)
        · rw [List.length_append] at hlen ⊢
          exact Nat.le_succ_of_le hlen
        · rw [upd_ne (Ne.symm nLS)]; exact s5 _ _ hSA5
      refine rd_ne (A := (A.deeper (PyProof.Rows.envOfC "_law_spans" (defScope sSpans) s.heap.objs.size f cdv)).in1) hu1 rfl hS.lst fun z hz => ?_
      have sz := same_new hz (.lst [])
      have gz := g'.new (o := .lst []) hz
      have hSz := hS.same sz
      have hSAz := sz _ _ hSA'
      by_cases ne : sps = []
      · have na : as.map V.ref = [] := by
          have : as.length = 0 := by rw [hS.len, ne]; rfl
          rw [List.eq_nil_of_length_eq_zero this]; rfl
        rw [decide_eq_true na]
        refine iteF (iteF ?_)
        exact app _ hSz gz hSAz fun sps' l h e => absurd (ne.symm.trans e) (by simp)
      · have na : as.map V.ref ≠ [] := fun e => ne (List.eq_nil_of_length_eq_zero (by rw [← hS.len]; simpa using congrArg List.length e))
        rw [decide_eq_false na]
        refine iteT ⟨_, rfl, p, _, rfl, gz.pot, by decide, by decide, fun d H5 g5 a5 b5 => ⟨rfl, _, rfl, ?_⟩⟩
        have hS5 := hSz.grow gz.pot nL g5
        have G5 := gz.trans g5
        have hSA5 := g5.keep _ _ nSA hSAz
        refine ite2 (fun c => ?_) (fun c => ?_)
        · exact iteT (mer _ hS5 G5 hSA5 ne)
        · obtain ⟨as', a, sps', sp, ea, esp, hl', hat', ha⟩ := hS5.unsnoc ne
          obtain ⟨l, h, rfl, _⟩ := hgood.bd sp (by rw [esp]; exact List.mem_append_right _ (List.mem_singleton.mpr rfl))
          have hlst : H5 L = some (.lst (as'.map V.ref ++ [.ref a])) := by
            have := hS5.lst
            rw [ea, List.map_append] at this
            exact this
          refine ⟨_, rfl, _, rfl, _, rfl, L, _, _, .ref a, rfl, rfl, SqL.of hlst, atI_last _ _, a, _, _, _, rfl, rfl, SqT.of ha, rfl, _, _, rfl, rfl, _, _, rfl, rfl, _, rfl, ?_⟩
          refine ite2 (fun c => ?_) (fun c => ?_)
          · exact mer _ hS5 G5 hSA5 ne
          · have c' : ¬ x < h + 2 := fun z => c (decide_eq_true z)
            refine app _ hS5 G5 hSA5 fun sps2 l2 h2 e => ?_
            rw [esp] at e
            have := List.append_inj_right' e rfl
            cases this
            omega
  · rintro σ H5 ⟨o, as, sps, rfl, hS, hlen, hgood, g5, _⟩
    rw [List.length_map] at hlen
    have ok5 := hgood.ok
    clear hgood
    have hlen40 : sps.length ≤ 40 := by omega
    -- the first end, the last end
    have fin : ∀ (H' : Hp) (as : List Addr) (sps : List Spn), SpL H' L as sps → sps.length ≤ 40 → OkL sps → Grow p H H' →
        tRet (tTup (tCons (tC (.str "n")) (tCons (tCB (fun xs H Q => ∃ p ys, xs = [.ref p] ∧ ((SqL K H p ys ∧ ∀ l, H l = none → Q (.ref l) (upd H l (.tup ys))) ∨ (SqT K H p ys ∧ Q (.ref p) H))) (tCons (tVar 2) tNil)) tNil))) { nx := fun _ H' => Q .non H', rt := Q } [some (.ref p), some (.ref D), some (.ref L), o] H' := fun H' as sps hS hl ok g' => by
      refine ⟨_, rfl, L, _, rfl, .inl ⟨SqL.of hS.lst, fun t ht => ⟨(by show 2 ≤ sizeLine; decide), fun a ha => ?_⟩⟩⟩
      have s1 := same_new ht (.tup (as.map V.ref))
      have s2 := same_new ha (.tup [.str "n", .ref t])
      refine q a (.num sps) _ ((g'.new ht).new ha) ⟨t, as, upd_same, s2 _ _ upd_same, hS.len, fun i b sp e1 e2 => s2 _ _ (s1 _ _ (hS.at_ i b sp e1 e2))⟩ ⟨hl, ok.pw, ok.ok⟩
    have second : ∀ (H' : Hp) (as : List Addr) (sps : List Spn), SpL H' L as sps → sps.length ≤ 40 → OkL sps → Grow p H H' → ∀ D' : Ends, D'.nx = (fun σ H' => tRet (tTup (tCons (tC (.str "n")) (tCons (tCB (fun xs H Q => ∃ p ys, xs = [.ref p] ∧ ((SqL K H p ys ∧ ∀ l, H l = none → Q (.ref l) (upd H l (.tup ys))) ∨ (SqT K H p ys ∧ Q (.ref p) H))) (tCons (tVar 2) tNil)) tNil))) { nx := fun _ H' => Q .non H', rt := Q } σ H') →
        tIfS (tAnd (tTest (tOp (fun x y H Q => rEqT K ((A.deeper (PyProof.Rows.envOfC "_law_spans" (defScope sSpans) s.heap.objs.size f cdv)).in1) false x y H Q ∨ ∃ a b xs ys, x = .ref a ∧ y = .ref b ∧ SqL K H a xs ∧ SqL K H b ys ∧ xs.length ≠ ys.length ∧ Q (.bl true) H) (tVar 2) (tLst tNil))) (tTest (tOp rEq (tDraw 4) (tC (.int 0)))))
          (tAsg (tTup (tCons (tOp (rIxT K) (tOp (rIxL K) (tVar 2) (tUn (rU fun i => .int (-i)) (tC (.int 1)))) (tC (.int 0))) (tCons (tC .non) tNil))) (gSub (tVar 2) (tUn (rU fun i => .int (-i)) (tC (.int 1))) rSetL)) tNext D' [some (.ref p), some (.ref D), some (.ref L), o] H' := fun H' as sps hS hl ok g' D' eD => by
      refine rd_ne (A := (A.deeper (PyProof.Rows.envOfC "_law_spans" (defScope sSpans) s.heap.objs.size f cdv)).in1) hu1 rfl hS.lst fun z hz => ?_
      have sz := same_new hz (.lst [])
      have gz := g'.new (o := .lst []) hz
      have hSz := hS.same sz
      by_cases ne : sps = []
      · have na : as.map V.ref = [] := by
          have : as.length = 0 := by rw [hS.len, ne]; rfl
          rw [List.eq_nil_of_length_eq_zero this]; rfl
        rw [decide_eq_true na]
        refine iteF (iteF ?_)
        show D'.nx _ _
        rw [eD]
        exact fin _ as sps hSz hl ok gz
      · have na : as.map V.ref ≠ [] := fun e => ne (List.eq_nil_of_length_eq_zero (by rw [← hS.len]; simpa using congrArg List.length e))
        rw [decide_eq_false na]
        refine iteT ⟨_, rfl, p, _, rfl, gz.pot, by decide, by decide, fun d H6 g6 a6 b6 => ⟨rfl, _, rfl, ?_⟩⟩
        have hS6 := hSz.grow gz.pot nL g6
        have G6 := gz.trans g6
        refine ite2 (fun c => ?_) (fun c => ?_)
        · obtain ⟨as', a, sps', sp, rfl, rfl, hl', hat', ha⟩ := hS6.unsnoc ne
          have em : (as' ++ [a]).map V.ref = as'.map V.ref ++ [.ref a] := by rw [List.map_append]; rfl
          have hlst : H6 L = some (.lst (as'.map V.ref ++ [.ref a])) := by rw [← em]; exact hS6.lst
          refine ⟨_, rfl, _, rfl, L, _, _, .ref a, rfl, rfl, SqL.of hlst, atI_last _ _, a, _, _, _, rfl, rfl, SqT.of ha, rfl, (by show 2 ≤ sizeLine; decide), fun t ht => ?_⟩
          have s5 := same_new ht (.tup [eV sp.1, .non])
          refine ⟨_, rfl, _, rfl, L, _, _, as'.length, rfl, rfl, s5 _ _ hlst, ?_, ?_⟩
          · have := ixN_last (as'.map V.ref) (V.ref a)
            rw [List.length_map] at this
            exact this
          have es : (as'.map V.ref ++ [V.ref a]).set as'.length (.ref t) = (as' ++ [t]).map V.ref := by
            have := set_last (as'.map V.ref) (V.ref a) (V.ref t)
            rw [List.length_map] at this
            rw [this, List.map_append]
            rfl
          rw [es, eD]
          refine fin _ (as' ++ [t]) (sps' ++ [(sp.1, none)]) ?_ (by rw [List.length_append] at hl ⊢; exact hl) ok.last (ng (G6.new ht))
          exact SpL.put (as := as') (sps := sps') (s5 _ _ hlst) (by rw [List.length_append, List.length_append, hl']; rfl) (pair_snoc hl' (R := fun a s => _ = some (HO.tup [eV s.1, eV s.2])) (fun i a s e1 e2 => s5 _ _ (hat' i a s e1 e2)) upd_same)
        · show D'.nx _ _
          rw [eD]
          exact fin _ as sps hS6 hl ok G6
    refine rd_ne (A := (A.deeper (PyProof.Rows.envOfC "_law_spans" (defScope sSpans) s.heap.objs.size f cdv)).in1) hu1 rfl hS.lst fun z hz => ?_
    have sz := same_new hz (.lst [])
    have gz := g5.new (o := .lst []) hz
    have hSz := hS.same sz
    by_cases ne : sps = []
    · have na : as.map V.ref = [] := by
        have : as.length = 0 := by rw [hS.len, ne]; rfl
        rw [List.eq_nil_of_length_eq_zero this]; rfl
      rw [decide_eq_true na]
      exact iteF (iteF (second _ as sps hSz hlen40 ok5 gz _ rfl))
    · have na : as.map V.ref ≠ [] := fun e => ne (List.eq_nil_of_length_eq_zero (by rw [← hS.len]; simpa using congrArg List.length e))
      rw [decide_eq_false na]
      refine iteT ⟨_, rfl, p, _, rfl, gz.pot, by decide, by decide, fun d H6 g6 a6 b6 => ⟨rfl, _, rfl, ?_⟩⟩
      have hS6 := hSz.grow gz.pot nL g6
      have G6 := gz.trans g6
      refine ite2 (fun c => ?_) (fun c => ?_)
      · match as, sps, hS6, ne, hlen40, ok5 with
        | [], [], _, ne, _, _ => exact absurd rfl ne
        | [], _ :: _, hS6, _, _, _ => exact absurd hS6.len (by simp)
        | _ :: _, [], hS6, _, _, _ => exact absurd hS6.len (by simp)
        | a :: as, sp :: sps, hS6, _, hl, ok =>
          have ha := hS6.at_ 0 a sp rfl rfl
          have h0 : atI ((a :: as).map V.ref) 0 = some (.ref a) := atI_nat (j := 0) rfl
          refine ⟨_, rfl, L, _, _, _, rfl, rfl, SqL.of hS6.lst, h0, a, _, _, _, rfl, rfl, SqT.of ha, rfl, (by show 2 ≤ sizeLine; decide), fun t ht => ?_⟩
          have s5 := same_new ht (.tup [.non, eV sp.2])
          refine ⟨_, rfl, L, _, _, 0, rfl, rfl, s5 _ _ hS6.lst, ?_, ?_⟩
          · unfold ixN
            rw [if_pos (by decide), if_pos (by simp)]
            rfl
          refine second _ (t :: as) ((none, sp.2) :: sps) ?_ hl ok.first (ng (G6.new ht)) _ rfl
          refine SpL.put (as := as) (sps := sps) (as2 := t :: as) (s5 _ _ hS6.lst) (by simpa using hS6.len) fun i b s' e1 e2 => ?_
          cases i with
          | zero => cases e1; cases e2; exact upd_same
          | succ i => exact s5 _ _ (hS6.at_ (i + 1) b s' (by simpa using e1) (by simpa using e2))
      · exact second _ as sps hS6 hlen40 ok5 G6 _ rfl
end
end My

set_option maxHeartbeats 8000000
namespace My
open PySem L2 CS
theorem scCells : FnScope ["_law_pot_here", "_law_tale", "_law_some", "_law_span", "_law_end"] ["_law_pot_here", "_law_tale"] (defScope sCells) := ⟨rfl, rfl, rfl, by decide +kernel, rfl, by decide +kernel, by decide +kernel⟩
def spCells : Sp := fun vs H Q _ => ∃ (p a : Addr) (S : CSet), vs = [.ref p, .ref a] ∧ PotAt H p ∧ SetAt H a S ∧ okS S ∧ ∀ l vs' H', Grow p H H' → H' l = some (.lst vs') → (∀ v ∈ vs', isCl v) → Q (.ref l) H'
theorem letters_isW : ∀ c ∈ letters.cps.toList, isW ⟨#[c]⟩ := fun c hc => by
  have := letters_ok c hc
  exact isW_of (zs := [c]) rfl (by show 1 ≤ 1; decide) (by show 1 ≤ 8; decide) (by simpa using this)
theorem rd_slT {K : PySem.W.Frag} {H : Hp} {Q : VK} {a : Addr} {xs : List V} {lo hi : Option Int} (h : H a = some (.tup xs)) (q : ∀ H' r, Same H H' → H' r = some (.tup (cutV xs lo hi)) → Q (.ref r) H') : rSlT K (.ref a) lo hi H Q ∨ rSlTW K (.ref a) lo hi H Q :=
  sl_tupB rfl (SqT.of h) (fun e => q H a (Same.refl H) (by rw [e]; exact h)) fun r hr => q _ r (same_new hr _) upd_same
theorem rd_catT {K : PySem.W.Frag} {H : Hp} {Q : VK} {r1 r2 : Addr} {ys1 ys2 : List V} (h1 : H r1 = some (.tup ys1)) (h2 : H r2 = some (.tup ys2)) (hl : ys1.length + ys2.length ≤ sizeLine) (q : ∀ H' r, Same H H' → H' r = some (.tup (ys1 ++ ys2)) → Q (.ref r) H') :
    rCatT K (.ref r1) (.ref r2) H Q ∨ ∃ a b ys, V.ref r1 = .ref a ∧ V.ref r2 = .ref b ∧ SqT K H a [] ∧ SqT K H b ys ∧ Q (.ref b) H := by
  by_cases e : ys1 = []
  · subst e
    exact .inr ⟨r1, r2, ys2, rfl, rfl, SqT.of h1, SqT.of h2, q H r2 (Same.refl H) h2⟩
  · exact .inl ⟨r1, r2, ys1, ys2, rfl, rfl, SqT.of h1, SqT.of h2, e, hl, fun e2 => q H r1 (Same.refl H) (by rw [e2, List.append_nil]; exact h1), fun _ r hr => q _ r (same_new hr _) upd_same⟩
section
variable {P : Program} {w : World} {K : PySem.W.Frag} {mg : Str → Option Value} {base : Heap} {f g1 g2 g3 : Addr} {fd d1 d2 d3 : FuncData}
theorem ok_words (B : Blt mg) (B2 : Blt2 mg) (F : Fun K "_law_words" "_law_words" sWords f fd) (G : FnOk P w K mg base CX0 2 g1 d1 ["_law_pot_here", "_law_many_here"] spDraw) (bG : Binds K d1 ["_law_pot_here", "_law_many_here"] []) (kG : PySem.W.keepIn K (.ref g1) = true) (mG : mg "_law_draw" = some (.ref g1))
    (G2 : FnOk P w K mg base CX0 2 g2 d2 ["_law_pot_here"] spWord) (b2 : Binds K d2 ["_law_pot_here"] []) (k2 : PySem.W.keepIn K (.ref g2) = true) (m2 : mg "_law_word" = some (.ref g2)) :
    FnOk P w K mg base CX0 3 f fd ["_law_pot_here"] spSet := by
  refine F.ok scWords (fun vs H Q E h => ?_) (fun cdv A outer s H vs Q E hr h => ?_)
  · obtain ⟨p, rfl, _⟩ := h
    rfl
  obtain ⟨p, rfl, hP, q⟩ := h
  refine ⟨_, pss_cons (ps_setComp (i := 1) (N' := ["_law_k", "_law_pot_here"]) (src := [none, some 0]) scWords.nd rfl (Or.inl rfl) rfl rfl (CompSc.ofB (by kernel_rfl))
      (pi_range1 rfl B.range (pa_cons (pe_ix ix_list (pe_lst (pa_cons (pe_call G hr rfl mG kG bG .nil pass0 (pa_cons (pv 0) (pa_cons pe_int pa_nil))) (pa_cons (pe_call G hr rfl mG kG bG .nil pass0 (pa_cons (pv 0) (pa_cons pe_int pa_nil))) pa_nil)))
        (pe_callTy call_int1 rfl B2.int PyProof.Rows.boot_int (pa_cons (pe_cmpR op_eq (pe_call G hr rfl mG kG bG .nil pass0 (pa_cons (pv 0) (pa_cons pe_int pa_nil))) pe_int (nomark _)) pa_nil)) (fun _ _ => rfl)) pa_nil)) (fun cl C s H fp => pgl (i := 0)) (fun cl C s H fp => pifs_nil)
      (fun cl C s H fp => pe_call G2 hr glc m2 k2 b2 .nil pass0 (pa_cons (pvf 1) pa_nil)))
    (pss_cons (ps_if (pt_cmpR op_eq (pe_call G hr rfl mG kG bG .nil pass0 (pa_cons (pv 0) (pa_cons pe_int pa_nil))) pe_int (nomark _))
      (pss_one (ps_set (i := 1) scWords.nd rfl (Or.inl rfl) (pe_op op_cat (pe_callTy (call_list_sgn rfl) rfl B.list PyProof.Rows.boot_list (pa_cons pe_str pa_nil)) (pe_slice sl_list (pv 1) po_none (po_some pe_int))))) pss_nil)
    (pss_one (ps_ret (pe_tup (pa_cons pe_str (pa_cons (pe_cmpR op_eq (pe_call G hr rfl mG kG bG .nil pass0 (pa_cons (pv 0) (pa_cons pe_int pa_nil))) pe_int (nomark _)) (pa_cons (pe_callTy call_tuple_of rfl B.tuple PyProof.Rows.boot_tuple (pa_cons (pe_sortset rfl rfl B2.sorted rfl B2.set (pv 1)) pa_nil)) pa_nil))))))), ?_⟩
  refine rd_pick (p := p) rfl hP (by decide) (by decide) (by decide) fun j H1 G1 j0 j1 => ?_
  have j40 : j ≤ 40 := by omega
  refine ⟨j, rfl, (p62a j0 (by omega)).1, (p62a j0 (by omega)).2, fun D hD => ?_⟩
  have nD : D ≠ p := G1.ne hD
  refine comp_range (n := j.toNat) (fun i σ ys H' => ∃ (o : Option V) (ns : List Str), σ = [o, some (.ref p)] ∧ ys = ns.map V.str ∧ ns.length = i ∧ (∀ n ∈ ns, isW n) ∧ H' D = some (.lst ys) ∧ Grow p H H')
    ⟨none, [], rfl, rfl, rfl, by simp, upd_same, G1.new hD⟩ ?_ ?_ ?_ ?_
  · rintro i σ ys H' _ ⟨o, ns, _, rfl, rfl, _, h, _⟩
    exact ⟨h, by rw [List.length_map]; exact Nat.le_refl _⟩
  · exact Nat.le_trans (show j.toNat ≤ 40 by omega) (by decide)
  · rintro i σ ys H' hi ⟨o, ns, rfl, rfl, rfl, hn, h, g'⟩
    refine ⟨_, rfl, p, rfl, g'.pot, fun n H2 g2 n1 => ⟨g2.keep D _ nD h, some (.int (0 + (ns.length : Nat))), ns ++ [n], rfl, by rw [List.map_append]; rfl, by rw [List.length_append]; rfl, ?_, upd_same, G1.put hD nD (g'.trans g2)⟩⟩
    intro y hy
    rcases List.mem_append.mp hy with z | z
    · exact hn y z
    · rw [List.mem_singleton.mp z]; exact n1
  rintro σ0 ys0 H2 ⟨o0, ns, _, rfl, hns, hbn, hD2, g2⟩
  have fin : ∀ (H' : Hp) (l : Addr) (ns : List Str), H' l = some (.lst (ns.map V.str)) → ns.length ≤ 40 → (∀ n ∈ ns, isW n) → l ≠ p → Grow p H H' →
      tRet (tTup (tCons (tC (.str "w")) (tCons (tOp rEq (tDraw 2) (tC (.int 0))) (tCons (tCB (fun xs H Q => ∃ p ys, xs = [.ref p] ∧ ((SqL K H p ys ∧ ∀ l, H l = none → Q (.ref l) (upd H l (.tup ys))) ∨ (SqT K H p ys ∧ Q (.ref p) H))) (tCons (tSortSet K (tVar 1)) tNil)) tNil)))) { nx := fun _ H' => Q .non H', rt := Q } [some (.ref p), some (.ref l)] H' := fun H' l ns hl hln hw nl g' => by
    refine ⟨_, rfl, p, _, rfl, g'.pot, by decide, by decide, fun d H5 g5 a5 b5 => ⟨rfl, _, rfl, l, _, rfl, .inl (SqL.of (g5.keep _ _ nl hl)), by rw [List.length_map]; omega, .inr ⟨ns, rfl⟩, fun SA ys hSA hso => ?_⟩⟩
    obtain ⟨ms, rfl, hms, hsub, hml⟩ := sorted_strs hso
    refine ⟨SA, _, rfl, .inl ⟨SqL.of upd_same, fun t ht => ⟨(by show 3 ≤ sizeLine; decide), fun a ha => ?_⟩⟩⟩
    exact q a (.wrd _ ms) _ (((((g'.trans g5).new hSA).new ht)).new ha) ⟨t, upd_same, same_new ha _ _ _ upd_same⟩ ⟨by omega, hms, fun x hx => hw x (hsub x hx)⟩
  refine ⟨_, rfl, p, _, rfl, g2.pot, by decide, by decide, fun d H3 g3 a3 b3 => ⟨rfl, _, rfl, ?_⟩⟩
  have hD3 := g3.keep _ _ nD hD2
  have G3 := g2.trans g3
  refine ite2 (fun c => ?_) (fun c => ?_)
  · refine ⟨letters, rfl, by decide +kernel, fun l1 hl1 => ?_⟩
    have s1 := same_new hl1 (.lst (letters.cps.toList.map fun c => V.str ⟨#[c]⟩))
    refine ⟨_, rfl, _, rfl, D, _, rfl, SqL.of (s1 _ _ hD3), fun l2 hl2 => ?_⟩
    have s2 := same_new hl2 (.lst (cutV (ns.map V.str) none (some 9)))
    have hc9 : (cutV (ns.map V.str) none (some 9)).length ≤ 9 := by
      unfold cutV
      rw [List.length_take]
      have : HT.sIx (ns.map V.str).length (ns.map V.str).length (some 9) ≤ 9 := by
        have := HT.sIx_nat (ns.map V.str).length (ns.map V.str).length 9
        rw [show ((9 : Nat) : Int) = 9 from rfl] at this
        rw [this]
        exact Nat.min_le_left _ _
      omega
    obtain ⟨cs, ecs, hcs⟩ : ∃ cs : List Str, cutV (ns.map V.str) none (some 9) = cs.map V.str ∧ ∀ x ∈ cs, x ∈ ns := by
      refine ⟨(ns.drop (HT.sIx (ns.map V.str).length 0 none)).take (HT.sIx (ns.map V.str).length (ns.map V.str).length (some 9) - HT.sIx (ns.map V.str).length 0 none), ?_, fun x hx => List.mem_of_mem_drop (List.mem_of_mem_take hx)⟩
      unfold cutV
      rw [List.map_take, List.map_drop]
    have ll : letters.cps.toList.length = 26 := letters_len
    refine ⟨l1, l2, _, _, rfl, rfl, s2 _ _ upd_same, upd_same, ?_, fun l3 hl3 => ?_⟩
    · rw [List.length_map, ll]
      exact Nat.le_trans (show _ ≤ 35 by omega) (by decide)
    have em : (letters.cps.toList.map fun c => V.str ⟨#[c]⟩) ++ cutV (ns.map V.str) none (some 9) = ((letters.cps.toList.map fun c => (⟨#[c]⟩ : Str)) ++ cs).map V.str := by
      rw [List.map_append, List.map_map, ecs]
      rfl
    rw [em]
    have gg := ((G3.new (o := .lst (letters.cps.toList.map fun c => V.str ⟨#[c]⟩)) hl1).new (o := .lst (cutV (ns.map V.str) none (some 9))) hl2)
    refine fin _ l3 _ upd_same ?_ ?_ (gg.ne hl3) (gg.new hl3)
    · rw [List.length_append, List.length_map, ll]
      rw [ecs, List.length_map] at hc9
      omega
    · intro x hx
      rcases List.mem_append.mp hx with z | z
      · obtain ⟨c, hc, rfl⟩ := List.mem_map.mp z
        exact letters_isW c hc
      · exact hbn x (hcs x z)
  · exact fin _ D ns hD3 (by omega) hbn nD G3
theorem ok_set (F : Fun K "_law_set" "_law_set" sSet f fd) (G : FnOk P w K mg base CX0 3 g1 d1 ["_law_pot_here", "_law_many_here"] spDraw) (bG : Binds K d1 ["_law_pot_here", "_law_many_here"] []) (kG : PySem.W.keepIn K (.ref g1) = true) (mG : mg "_law_draw" = some (.ref g1))
    (G2 : FnOk P w K mg base CX0 3 g2 d2 ["_law_pot_here"] spSet) (b2 : Binds K d2 ["_law_pot_here"] []) (k2 : PySem.W.keepIn K (.ref g2) = true) (m2 : mg "_law_spans" = some (.ref g2))
    (G3 : FnOk P w K mg base CX0 3 g3 d3 ["_law_pot_here"] spSet) (b3 : Binds K d3 ["_law_pot_here"] []) (k3 : PySem.W.keepIn K (.ref g3) = true) (m3 : mg "_law_words" = some (.ref g3)) :
    FnOk P w K mg base CX0 4 f fd ["_law_pot_here"] spSet := by
  refine F.ok scSet (fun vs H Q E h => ?_) (fun cdv A outer s H vs Q E hr h => ?_)
  · obtain ⟨p, rfl, _⟩ := h
    rfl
  obtain ⟨p, rfl, hP, q⟩ := h
  refine ⟨_, pss_cons (ps_if (pt_cmpR op_eq (pe_call G hr rfl mG kG bG .nil pass0 (pa_cons (pv 0) (pa_cons pe_int pa_nil))) pe_int (nomark _)) (pss_one (ps_ret (pe_call G2 hr rfl m2 k2 b2 .nil pass0 (pa_cons (pv 0) pa_nil)))) pss_nil)
    (pss_one (ps_ret (pe_call G3 hr rfl m3 k3 b3 .nil pass0 (pa_cons (pv 0) pa_nil)))), ?_⟩
  refine ⟨_, rfl, p, _, rfl, hP, by decide, by decide, fun d1 H1 g1 a1 b1 => ⟨rfl, _, rfl, ?_⟩⟩
  refine ite2 (fun c => ?_) (fun c => ?_)
  · exact ⟨_, rfl, p, rfl, g1.pot, fun a S H2 g2 h1 h2 => q a S H2 (g1.trans g2) h1 h2⟩
  · exact ⟨_, rfl, p, rfl, g1.pot, fun a S H2 g2 h1 h2 => q a S H2 (g1.trans g2) h1 h2⟩
theorem ok_cells (B : Blt mg) (B2 : Blt2 mg) (F : Fun K "_law_cells" "_law_cells" sCells f fd)
    (G2 : FnOk P w K mg base CX0 2 g2 d2 ["_law_pot_here"] spNumber) (b2 : Binds K d2 ["_law_pot_here"] []) (k2 : PySem.W.keepIn K (.ref g2) = true) (m2 : mg "_law_number" = some (.ref g2))
    (G3 : FnOk P w K mg base CX0 2 g3 d3 ["_law_pot_here"] spWord) (b3 : Binds K d3 ["_law_pot_here"] []) (k3 : PySem.W.keepIn K (.ref g3) = true) (m3 : mg "_law_word" = some (.ref g3)) :
    FnOk P w K mg base CX0 3 f fd ["_law_pot_here", "_law_tale"] spCells := by
  refine F.ok scCells (fun vs H Q E h => ?_) (fun cdv A outer s H vs Q E hr h => ?_)
  · obtain ⟨p, a, S, rfl, _⟩ := h
    rfl
  obtain ⟨p, a, S, rfl, hP, ha, ho, q⟩ := h
  refine ⟨_, pss_cons (ps_set (i := 2) scCells.nd rfl (Or.inl rfl) (pe_lst (pa_cons (pe_call G2 hr rfl m2 k2 b2 .nil pass0 (pa_cons (pv 0) pa_nil)) (pa_cons (pe_call G3 hr rfl m3 k3 b3 .nil pass0 (pa_cons (pv 0) pa_nil)) (pa_cons pe_int (pa_cons pe_str (pa_cons (pe_call G3 hr rfl m3 k3 b3 .nil pass0 (pa_cons (pv 0) pa_nil)) pa_nil)))))))
    (pss_cons (ps_if (pt_cmpR op_eq (pe_ixt (pv 1) pe_int (fun _ _ => rfl)) pe_str (nomark _)) (pss_one (ps_ret (pe_op op_cat (pv 2) (pe_callTy call_list_of rfl B.list PyProof.Rows.boot_list (pa_cons (pe_slice (sl_tup.or sl_tupW) (pe_ixt (pv 1) pe_int (fun _ _ => rfl)) po_none (po_some pe_int)) pa_nil))))) pss_nil)
    (pss_cons (ps_for PassesOwn.never rfl (pi_tup (pe_op (op_catT.or op_catT0) (pe_slice (sl_tup.or sl_tupW) (pe_ixt (pv 1) pe_int (fun _ _ => rfl)) po_none (po_some pe_int)) (pe_slice (sl_tup.or sl_tupW) (pe_ixt (pv 1) pe_int (fun _ _ => rfl)) (po_some (pe_un un_neg pe_int)) po_none))) (pg_name (i := 3) scCells.nd rfl (Or.inl rfl))
      (pss_one (ps_for PassesOwn.never rfl (pi_tup (pv 3)) (pg_name (i := 4) scCells.nd rfl (Or.inl rfl))
        (pss_one (ps_if (pt_cmpR op_notN (pv 4) pe_non (nomark _)) (pss_one (ps_set (i := 2) scCells.nd rfl (Or.inl rfl) (pe_op op_cat (pv 2) (pe_lst (pa_cons (pv 4) (pa_cons (pe_callB (call_max2 rfl) rfl B.max PyProof.Rows.boot_max (pa_cons (pe_op op_sub pe_int (pe_op op_pow pe_int pe_int)) (pa_cons (pe_op op_sub (pv 4) pe_int) pa_nil)))
          (pa_cons (pe_callB (call_min2 rfl) rfl B2.min PyProof.Rows.boot_min (pa_cons (pe_op op_sub (pe_op op_pow pe_int pe_int) pe_int) (pa_cons (pe_op op_add (pv 4) pe_int) pa_nil))) pa_nil))))))) pss_nil)))))
    (pss_one (ps_ret (pv 2))))), ?_⟩
  refine ⟨_, rfl, p, rfl, hP, fun n1 H1 g1 _ _ => ⟨_, rfl, p, rfl, g1.pot, fun x1 H2 g2 hx1 => ⟨_, rfl, p, rfl, g2.pot, fun x2 H3 g3 hx2 => ⟨(by show 5 ≤ sizeLine; decide), fun l hl => ?_⟩⟩⟩⟩
  have G3' := (g1.trans g2).trans g3
  have ha3 := ha.grow hP G3'
  have s4 := same_new hl (.lst [.int n1, .str x1, .int 0, .str "a", .str x2])
  have ha4 := ha3.same s4
  have G4 := G3'.new (o := .lst [.int n1, .str x1, .int 0, .str "a", .str x2]) hl
  have nl : l ≠ p := G3'.ne hl
  have hl4 : (upd H3 l (.lst [.int n1, .str x1, .int 0, .str "a", .str x2])) l = some (.lst [.int n1, .str x1, .int 0, .str "a", .str x2]) := upd_same
  have hcl : ∀ v ∈ [V.int n1, V.str x1, V.int 0, V.str "a", V.str x2], isCl v := by
    intro v hv
    simp only [List.mem_cons, List.not_mem_nil, or_false] at hv
    rcases hv with rfl | rfl | rfl | rfl | rfl
    · exact .inl ⟨_, rfl⟩
    · exact .inr ⟨_, rfl⟩
    · exact .inl ⟨_, rfl⟩
    · exact .inr ⟨_, rfl⟩
    · exact .inr ⟨_, rfl⟩
  generalize upd H3 l (.lst [.int n1, .str x1, .int 0, .str "a", .str x2]) = H4 at *
  generalize hL5 : [V.int n1, V.str x1, V.int 0, V.str "a", V.str x2] = L5 at *
  have len5 : L5.length = 5 := by rw [← hL5]; rfl
  cases S with
  | wrd b ws =>
    obtain ⟨t, h1, h2⟩ := ha4
    refine ⟨_, rfl, a, _, _, _, rfl, rfl, SqT.of h1, rfl, rfl, _, rfl, ?_⟩
    refine ite2 (fun _ => ?_) (fun c => absurd (decide_eq_true rfl) c)
    refine ⟨_, rfl, _, rfl, a, _, _, _, rfl, rfl, SqT.of h1, rfl, _, rfl, ?_⟩
    have go : ∀ (H5 : Hp) (r : Addr) (ys : List V), Same H4 H5 → H5 r = some (.tup ys) → (∀ y ∈ ys, y ∈ ws.map V.str) → ys.length ≤ 40 → ∃ p_1 ys_1, [V.ref r] ++ [] = [V.ref p_1] ∧ (SqL K H5 p_1 ys_1 ∨ SqT K H5 p_1 ys_1) ∧ ∀ l_1, H5 l_1 = none → rCat (.ref l) (.ref l_1) (upd H5 l_1 (.lst ys_1)) Q := fun H5 r ys s5 hr5 hys hyl => by
      refine ⟨r, ys, rfl, .inr (SqT.of hr5), fun l2 hl2 => ?_⟩
      have s6 := same_new hl2 (.lst ys)
      refine ⟨l, l2, _, _, rfl, rfl, s6 _ _ (s5 _ _ hl4), upd_same, ?_, fun l3 hl3 => ?_⟩
      · rw [len5]; exact Nat.le_trans (show _ ≤ 45 by omega) (by decide)
      have G5 := G4.trans (Grow.same G4.pot (s5.trans s6))
      refine q l3 _ _ (G5.new hl3) upd_same (fun v hv => ?_)
      rcases List.mem_append.mp hv with z | z
      · exact hcl v z
      · obtain ⟨x, _, rfl⟩ := List.mem_map.mp (hys v z)
        exact .inr ⟨x, rfl⟩
    refine sl_tupB rfl (SqT.of h2) (fun e => ?_) (fun r hr5 => ?_)
    · exact go H4 t _ (Same.refl _) h2 (fun y hy => hy) (by rw [List.length_map]; exact ho.1)
    · exact go _ r _ (same_new hr5 _) upd_same (fun y hy => mem_cutV hy) (Nat.le_trans (cutV_length _ _ _) (by rw [List.length_map]; exact ho.1))
  | num sps =>
    obtain ⟨t, as, h1, h2⟩ := ha4
    refine ⟨_, rfl, a, _, _, _, rfl, rfl, SqT.of h1, rfl, rfl, _, rfl, ?_⟩
    refine ite2 (fun c => absurd (of_decide_eq_true c) (by decide +kernel)) (fun _ => ?_)
    have hal : (as.map V.ref).length ≤ 40 := by rw [List.length_map, h2.len]; exact ho.1
    -- the loops over the spans that were picked
    have loop : ∀ (H5 : Hp) (r : Addr) (ys : List V), Same H4 H5 → H5 r = some (.tup ys) → (∀ y ∈ ys, y ∈ as.map V.ref) → ys.length ≤ 80 → ∃ a_1, V.ref r = .ref a_1 ∧ (∃ xs, SqT K H5 a_1 xs) ∧ ∃ W : Nat → Nat → St → Hp → Prop, (∃ m, W 0 m [some (.ref p), some (.ref a), some (.ref l), none, none] H5) ∧ ∀ i m σ H, W i m σ H →
        ((Itt K a_1).stop i H ∧ tRet (tVar 2) { nx := fun _ H' => Q .non H', rt := Q } σ H) ∨ ((Itt K a_1).go i H ∧ ∃ N : St → Hp → Prop, (∀ σ' H', N σ' H' → ∃ m', m' < m ∧ W (i + 1) m' σ' H') ∧ ∀ x H', (Itt K a_1).yld i H x H' → gName 3 x σ H' fun σ2 H2 =>
          tFor (iTup K (tVar 3)) (gName 4) (tIfS (tTest (tOp (fun x y H Q => y = .non ∧ Q (.bl (!decide (x = .non))) H) (tVar 4) (tC .non))) (tAsg (tOp rCat (tVar 2) (tLst (tCons (tVar 4) (tCons (tCB (fun xs H Q => ∃ i j, xs = [.int i, .int j] ∧ Q (.int (if j > i then j else i)) H) (tCons (tOp (rI0 fun i j => .int (i - j)) (tC (.int 1)) (tOp (rI CPow fun i j => .int (i ^ j.toNat)) (tC (.int 10)) (tC (.int 60)))) (tCons (tOp (rI0 fun i j => .int (i - j)) (tVar 4) (tC (.int 1))) tNil)))
              (tCons (tCB (fun xs H Q => ∃ i j, xs = [.int i, .int j] ∧ Q (.int (if j < i then j else i)) H) (tCons (tOp (rI0 fun i j => .int (i - j)) (tOp (rI CPow fun i j => .int (i ^ j.toNat)) (tC (.int 10)) (tC (.int 60))) (tC (.int 1))) (tCons (tOp (rI0 fun i j => .int (i + j)) (tVar 4) (tC (.int 1))) tNil))) tNil))))) (gName 2)) tNext)
            { nx := N, ct := N, bk := tRet (tVar 2) { nx := fun _ H' => Q .non H', rt := Q }, rt := Q } σ2 H2) := fun H5 r ys s5 hr5 hys hyl => by
      refine ⟨r, rfl, ⟨_, SqT.of hr5⟩, ?_⟩
      refine for_tup (D := { nx := tRet (tVar 2) { nx := fun _ H' => Q .non H', rt := Q }, rt := Q }) (xs := ys) (fun i σ H' => ∃ (l' : Addr) (vs' : List V) (o3 o4 : Option V), σ = [some (.ref p), some (.ref a), some (.ref l'), o3, o4] ∧ Same H4 H' ∧ H' r = some (.tup ys) ∧ H' l' = some (.lst vs') ∧ vs'.length ≤ 5 + 6 * i ∧ ∀ v ∈ vs', isCl v)
        ⟨l, L5, none, none, rfl, s5, hr5, s5 _ _ hl4, by omega, hcl⟩ ?_ ?_ ?_
      · rintro i σ H' _ ⟨_, _, _, _, _, _, h, _⟩
        exact SqT.of h
      · rintro i x σ H' hx ⟨l', vs', o3, o4, rfl, sm, hr', hl', hlen, hall⟩
        have hi := (List.getElem?_eq_some_iff.mp hx).1
        obtain ⟨j, hj⟩ := List.getElem?_of_mem (hys x (List.mem_of_getElem? hx))
        obtain ⟨b, ⟨lo, hi'⟩, rfl, er, hb⟩ := spans_at h2 hj
        have hb' := sm _ _ hb
        refine ⟨_, rfl, b, rfl, ⟨_, SqT.of hb'⟩, ?_⟩
        refine for_tup (xs := [eV lo, eV hi']) (fun k σ H'' => ∃ (l' : Addr) (vs' : List V) (o4 : Option V), σ = [some (.ref p), some (.ref a), some (.ref l'), some (.ref b), o4] ∧ Same H4 H'' ∧ H'' r = some (.tup ys) ∧ H'' l' = some (.lst vs') ∧ vs'.length ≤ 5 + 6 * i + 3 * k ∧ ∀ v ∈ vs', isCl v)
          ⟨l', vs', o4, rfl, sm, hr', hl', by omega, hall⟩ ?_ ?_ ?_
        · rintro k σ H'' _ ⟨_, _, _, _, s'', _⟩
          exact SqT.of (s'' _ _ hb)
        · rintro k y σ H'' hy ⟨l', vs', o4, rfl, sm, hr', hl', hlen, hall⟩
          have hk := (List.getElem?_eq_some_iff.mp hy).1
          have hk2 : k < 2 := hk
          have hy' : ∃ o : Option Int, y = eV o := by
            have := List.mem_of_getElem? hy
            simp only [List.mem_cons, List.not_mem_nil, or_false] at this
            rcases this with rfl | rfl
            · exact ⟨_, rfl⟩
            · exact ⟨_, rfl⟩
          obtain ⟨o, rfl⟩ := hy'
          refine ⟨_, rfl, rfl, _, rfl, ?_⟩
          rw [eV_non]
          cases o with
          | none => exact iteF ⟨l', vs', _, rfl, sm, hr', hl', by omega, hall⟩
          | some n =>
            refine iteT ⟨_, rfl, _, rfl, _, _, rfl, rfl, ⟨by decide, by decide, by decide⟩, _, _, rfl, rfl, _, rfl, _, _, rfl, rfl, _, _, rfl, _, _, rfl, rfl, ⟨by decide, by decide, by decide⟩, _, _, rfl, rfl, _, rfl, _, _, rfl, rfl, _, _, rfl, (by show 3 ≤ sizeLine; decide), fun l2 hl2 => ?_⟩
            have s2 := same_new hl2
            refine ⟨l', l2, _, _, rfl, rfl, s2 _ _ _ hl', upd_same, ?_, fun l3 hl3 => ?_⟩
            · exact Nat.le_trans (show vs'.length + 3 ≤ 1000 by omega) (by decide)
            refine ⟨l3, _, _, rfl, sm.trans ((s2 _).trans (same_new hl3 _)), same_new hl3 _ _ _ (s2 _ _ _ hr'), upd_same, ?_, fun v hv => ?_⟩
            · rw [List.length_append]
              show vs'.length + 3 ≤ _
              omega
            · rcases List.mem_append.mp hv with z | z
              · exact hall v z
              · simp only [List.mem_cons, List.not_mem_nil, or_false] at z
                rcases z with rfl | rfl | rfl <;> exact .inl ⟨_, rfl⟩
        · rintro σ H'' ⟨l', vs', o4, rfl, sm, hr', hl', hlen, hall⟩
          exact ⟨l', vs', _, _, rfl, sm, hr', hl', by simp at hlen; omega, hall⟩
      · rintro σ H' ⟨l', vs', o3, o4, rfl, sm, hr', hl', hlen, hall⟩
        have G5 := G4.trans (Grow.same G4.pot sm)
        exact ⟨_, rfl, q l' vs' H' G5 hl' hall⟩
    refine ⟨_, rfl, a, _, _, _, rfl, rfl, SqT.of h1, rfl, _, rfl, ?_⟩
    refine rd_slT h2.tup fun H5 r1 s5 h5 => ?_
    refine ⟨_, rfl, a, _, _, _, rfl, rfl, SqT.of (s5 _ _ h1), rfl, _, rfl, _, rfl, ?_⟩
    refine rd_slT (s5 _ _ h2.tup) fun H6 r2 s6 h6 => ?_
    have c1 := cutV_length (as.map V.ref) none (some 4)
    have c2 := cutV_length (as.map V.ref) (some (-1)) none
    refine rd_catT (s6 _ _ h5) h6 (Nat.le_trans (show _ ≤ 80 by omega) (by decide)) fun H7 r s7 h7 => ?_
    refine loop H7 r _ (s5.trans (s6.trans s7)) h7 (fun y hy => ?_) ?_
    · rcases List.mem_append.mp hy with z | z
      · exact mem_cutV z
      · exact mem_cutV z
    · rw [List.length_append]; omega
end
end My

set_option maxHeartbeats 8000000
namespace My
open PySem L2 CS
abbrev nLaw : List Str := ["_law_script", "_law_k", "_law_pot_here", "_law_tale", "_law_cell"]
theorem scLaw : FnScope nLaw ["_law_script"] (defScope sLaw) := ⟨rfl, rfl, rfl, by decide +kernel, rfl, by decide +kernel, by decide +kernel⟩
def spLaw (K : PySem.W.Frag) : Sp := fun vs H Q _ => ∃ (a : Addr) (ns : List Int), vs = [.ref a] ∧ SqL K H a (ns.map V.int) ∧ ns.length ≤ 63 ∧ ∀ H', Q (.bl true) H'
section
variable {P : Program} {w : World} {K : PySem.W.Frag} {mg : Str → Option Value} {base : Heap} {f fP fS fT fN fM fC fH fL fR : Addr} {fd dP dS dT dN dM dC dH dL dR : FuncData}
theorem ok_law (B : Blt mg) (B2 : Blt2 mg) (F : Fun K "law" "law" sLaw f fd)
    (GP : FnOk P w K mg base CX0 5 fP dP ["_law_script", "_law_k"] (spPot K)) (bP : Binds K dP ["_law_script", "_law_k"] []) (kP : PySem.W.keepIn K (.ref fP) = true) (mP : mg "_law_pot" = some (.ref fP))
    (GS : FnOk P w K mg base CX0 5 fS dS ["_law_pot_here"] spSet) (bS : Binds K dS ["_law_pot_here"] []) (kS : PySem.W.keepIn K (.ref fS) = true) (mS : mg "_law_set" = some (.ref fS))
    (GT : FnOk P w K mg base CX0 5 fT dT ["_law_found", "_law_due"] spIsTold) (bT : Binds K dT ["_law_found", "_law_due"] []) (kT : PySem.W.keepIn K (.ref fT) = true) (mT : mg "_law_is_told" = some (.ref fT))
    (GN : FnOk P w K mg base CX0 5 fN dN ["told"] spIsNone) (bN : Binds K dN ["told"] []) (kN : PySem.W.keepIn K (.ref fN) = true) (mN : mg "is_none" = some (.ref fN))
    (GM : FnOk P w K mg base CX0 5 fM dM ["_law_tale"] spMany) (bM : Binds K dM ["_law_tale"] []) (kM : PySem.W.keepIn K (.ref fM) = true) (mM : mg "_law_many" = some (.ref fM))
    (GC : FnOk P w K mg base CX0 5 fC dC ["_law_pot_here", "_law_tale"] spCells) (bC : Binds K dC ["_law_pot_here", "_law_tale"] []) (kC : PySem.W.keepIn K (.ref fC) = true) (mC : mg "_law_cells" = some (.ref fC))
    (GH : FnOk P w K mg base CX0 5 fH dH ["told", "cell"] spHas) (bH : Binds K dH ["told", "cell"] []) (kH : PySem.W.keepIn K (.ref fH) = true) (mH : mg "has" = some (.ref fH))
    (GL : FnOk P w K mg base CX0 5 fL dL ["_law_tale", "_law_cell"] spHas) (bL : Binds K dL ["_law_tale", "_law_cell"] []) (kL : PySem.W.keepIn K (.ref fL) = true) (mL : mg "_law_has" = some (.ref fL))
    (GR : FnOk P w K mg base CX0 5 fR dR ["_law_tale", "_law_cell"] spRight) (bR : Binds K dR ["_law_tale", "_law_cell"] []) (kR : PySem.W.keepIn K (.ref fR) = true) (mR : mg "_law_another_right" = some (.ref fR)) :
    FnOk P w K mg base CX0 6 f fd ["_law_script"] (spLaw K) := by
  refine F.ok scLaw (fun vs H Q E h => ?_) (fun cdv A outer s H vs Q E hr h => ?_)
  · obtain ⟨a, ns, rfl, _⟩ := h
    rfl
  obtain ⟨a, ns, rfl, hS, h63, q⟩ := h
  refine ⟨_, pss_cons (ps_for PassesOwn.never rfl (pi_range1 rfl B.range (pa_cons (pe_op op_add pe_int (pe_callB (call_min2 rfl) rfl B2.min PyProof.Rows.boot_min (pa_cons pe_int (pa_cons (pe_callB call_len_seq rfl B.len PySem.boot_len (pa_cons (pv 0) pa_nil)) pa_nil)))) pa_nil)) (pg_name (i := 1) scLaw.nd rfl (Or.inl rfl))
      (pss_cons (ps_set (i := 2) scLaw.nd rfl (Or.inl rfl) (pe_call GP hr rfl mP kP bP .nil pass0 (pa_cons (pv 0) (pa_cons (pv 1) pa_nil))))
      (pss_cons (ps_set (i := 3) scLaw.nd rfl (Or.inl rfl) (pe_call GS hr rfl mS kS bS .nil pass0 (pa_cons (pv 2) pa_nil)))
      (pss_cons (ps_if (pt_not (pt_val (pe_call GT hr rfl mT kT bT .nil pass0 (pa_cons (pe_call GN hr rfl mN kN bN .nil pass0 (pa_cons (pv 3) pa_nil)) (pa_cons (pe_cmpR op_eq (pe_call GM hr rfl mM kM bM .nil pass0 (pa_cons (pv 3) pa_nil)) pe_int (nomark _)) pa_nil))))) pss_never pss_nil)
      (pss_cons (ps_for PassesOwn.never rfl (pi_list (pe_call GC hr rfl mC kC bC .nil pass0 (pa_cons (pv 2) (pa_cons (pv 3) pa_nil)))) (pg_name (i := 4) scLaw.nd rfl (Or.inl rfl))
        (pss_one (ps_if (PW.pt (pw_or (pt_not (pt_val (pe_call GT hr rfl mT kT bT .nil pass0 (pa_cons (pe_call GH hr rfl mH kH bH .nil pass0 (pa_cons (pv 3) (pa_cons (pv 4) pa_nil))) (pa_cons (pe_call GL hr rfl mL kL bL .nil pass0 (pa_cons (pv 3) (pa_cons (pv 4) pa_nil))) pa_nil)))))
          (pw_or1 (pt_not (pt_val (pe_call GR hr rfl mR kR bR .nil pass0 (pa_cons (pv 3) (pa_cons (pv 4) pa_nil)))))))) pss_never pss_nil)))
      (pss_one (ps_if (PW.pt (pw_or (pt_not (pt_val (pe_call GR hr rfl mR kR bR .nil pass0 (pa_cons (pv 3) (pa_cons pe_non pa_nil)))))
        (pw_or1 (pt_not (pt_val (pe_call GT hr rfl mT kT bT .nil pass0 (pa_cons (pe_call GN hr rfl mN kN bN .nil pass0 (pa_cons (pv 3) pa_nil)) (pa_cons (pe_cmpR op_eq (pe_call GM hr rfl mM kM bM .nil pass0 (pa_cons (pv 3) pa_nil)) pe_int (nomark _)) pa_nil)))))))) pss_never pss_nil)))))))
    (pss_one (ps_ret pe_bl)), ?_⟩
  have hl : (ns.map V.int).length = ns.length := List.length_map _
  refine ⟨_, rfl, a, _, rfl, .inl hS, _, _, rfl, _, _, rfl, rfl, _, rfl, ?_, ?_, ?_⟩
  · have e : ((2 : Int) ^ 62) = 4611686018427387904 := by decide
    rw [e, hl]
    split <;> omega
  · have e : ((2 : Int) ^ 62) = 4611686018427387904 := by decide
    rw [e, hl]
    split <;> omega
  have hm : (2 + if (((ns.map V.int).length : Nat) : Int) < 14 then (((ns.map V.int).length : Nat) : Int) else 14).toNat ≤ 16 := by
    split <;> omega
  refine for_range (n := (2 + if (((ns.map V.int).length : Nat) : Int) < 14 then (((ns.map V.int).length : Nat) : Int) else 14).toNat) (fun i σ H' => (∃ o1 o2 o3 o4, σ = [some (.ref a), o1, o2, o3, o4]) ∧ Same H H') ⟨⟨none, none, none, none, rfl⟩, Same.refl _⟩ ?_ ?_
  · rintro i σ H0 hi ⟨⟨o1, o2, o3, o4, rfl⟩, s0⟩
    refine ⟨_, rfl, _, rfl, a, ns, _, rfl, s0.seq hS, by omega, by omega, fun p H1 hp s1 hP => ?_⟩
    refine ⟨_, rfl, p, rfl, hP, fun t S H2 g2 hT ho => ?_⟩
    have s2 : Same H0 H2 := fun b o e => g2.keep b o (ne_of_none e hp) (s1 _ _ e)
    have told : ∀ {m : Int}, noneB S = decide (m = 0) → (noneB S == decide (V.int m = V.int 0)) = true := fun {m} e => by
      rw [e, beq_iff_eq]
      simp
    refine ⟨_, rfl, t, S, rfl, hT, _, rfl, t, S, rfl, hT, fun H3 s3 => ⟨rfl, _, _, rfl, ?_⟩⟩
    refine ⟨_, rfl, ?_⟩
    rw [told (none_many ho)]
    refine ite2 (fun c => absurd c (by decide)) (fun _ => ?_)
    have hT3 := hT.same s3
    have g3 := g2.trans (Grow.same g2.pot s3)
    refine ⟨_, rfl, _, rfl, p, t, S, rfl, g3.pot, hT3, ho, fun l vs' H4 g4 hl4 hcl => ⟨l, rfl, ⟨_, SqL.of hl4⟩, ?_⟩⟩
    have hT4 := hT3.grow g3.pot g4
    have s4 : Same H0 H4 := fun b o e => g4.keep b o (ne_of_none e hp) (s3 _ _ (s2 _ _ e))
    refine for_list (xs := vs') (fun j σ H' => (∃ o1 o4, σ = [some (.ref a), o1, some (.ref p), some (.ref t), o4]) ∧ Same H4 H') ⟨⟨_, _, rfl⟩, Same.refl _⟩ ?_ ?_ ?_
    · rintro j σ H' _ ⟨_, sm⟩
      exact SqL.of (sm _ _ hl4)
    · rintro j v σ H' hv ⟨⟨o1, o4, rfl⟩, sm⟩
      have hv' := hcl v (List.mem_of_getElem? hv)
      have hT5 := hT4.same sm
      refine ⟨_, rfl, _, rfl, t, S, v, rfl, hT5, ho, hv', fun H6 s6 => ?_⟩
      refine ⟨_, rfl, _, rfl, t, S, v, rfl, hT5.same s6, ho, hv', fun H7 s7 => ⟨_, _, rfl, _, rfl, ?_⟩⟩
      rw [beq_self_eq_true]
      refine ite2 (fun c => absurd c (by decide)) (fun _ => ?_)
      refine ⟨_, rfl, _, rfl, t, S, v, rfl, (hT5.same s6).same s7, ho, .inl hv', fun H8 s8 => ⟨true, rfl, ?_⟩⟩
      refine ite2 (fun c => absurd c (by decide)) (fun _ => ?_)
      exact ⟨⟨_, _, rfl⟩, sm.trans (s6.trans (s7.trans s8))⟩
    · rintro σ H' ⟨⟨o1, o4, rfl⟩, sm⟩
      have hT5 := hT4.same sm
      refine ⟨_, rfl, t, S, _, rfl, hT5, ho, .inr rfl, fun H6 s6 => ⟨true, rfl, ?_⟩⟩
      refine ite2 (fun c => absurd c (by decide)) (fun _ => ?_)
      have hT6 := hT5.same s6
      refine ⟨_, rfl, t, S, rfl, hT6, _, rfl, t, S, rfl, hT6, fun H7 s7 => ⟨rfl, _, _, rfl, _, rfl, ?_⟩⟩
      rw [told (none_many ho)]
      refine ite2 (fun c => absurd c (by decide)) (fun _ => ?_)
      exact ⟨⟨_, _, _, _, rfl⟩, s0.trans (s4.trans (sm.trans (s6.trans s7)))⟩
  · rintro σ H' _
    exact q H'
end
end My

set_option maxHeartbeats 8000000
namespace My
open PySem L2 CS
theorem all_mk {l : PySem.W.OpenLaw} {w : World} {K : PySem.W.Frag} {h : Heap} {mg : Str → Option Value} {fa : Addr} (X : K.In h) (G : h.Ns mainGlobals mg) (hfa : mg "law" = some (.ref fa))
    {f_cell : Addr} {od_cell an_cell : Option Addr} {sl_cell : Array (Option Value)} {oc_cell kV_cell dc_cell pm_cell cd_cell ct_cell : Value}
    {f_pot : Addr} {od_pot an_pot : Option Addr} {sl_pot : Array (Option Value)} {oc_pot kV_pot dc_pot pm_pot cd_pot ct_pot : Value}
    {f_draw : Addr} {od_draw an_draw : Option Addr} {sl_draw : Array (Option Value)} {oc_draw kV_draw dc_draw pm_draw cd_draw ct_draw : Value}
    {f_number : Addr} {od_number an_number : Option Addr} {sl_number : Array (Option Value)} {oc_number kV_number dc_number pm_number cd_number ct_number : Value}
    {f_word : Addr} {od_word an_word : Option Addr} {sl_word : Array (Option Value)} {oc_word kV_word dc_word pm_word cd_word ct_word : Value}
    {f_isnumber : Addr} {od_isnumber an_isnumber : Option Addr} {sl_isnumber : Array (Option Value)} {oc_isnumber kV_isnumber dc_isnumber pm_isnumber cd_isnumber ct_isnumber : Value}
    {f_inspan : Addr} {od_inspan an_inspan : Option Addr} {sl_inspan : Array (Option Value)} {oc_inspan kV_inspan dc_inspan pm_inspan cd_inspan ct_inspan : Value}
    {f_has : Addr} {od_has an_has : Option Addr} {sl_has : Array (Option Value)} {oc_has kV_has dc_has pm_has cd_has ct_has : Value}
    {f_isnone : Addr} {od_isnone an_isnone : Option Addr} {sl_isnone : Array (Option Value)} {oc_isnone kV_isnone dc_isnone pm_isnone cd_isnone ct_isnone : Value}
    {f_somespan : Addr} {od_somespan an_somespan : Option Addr} {sl_somespan : Array (Option Value)} {oc_somespan kV_somespan dc_somespan pm_somespan cd_somespan ct_somespan : Value}
    {f_wordby : Addr} {od_wordby an_wordby : Option Addr} {sl_wordby : Array (Option Value)} {oc_wordby kV_wordby dc_wordby pm_wordby cd_wordby ct_wordby : Value}
    {f_besides : Addr} {od_besides an_besides : Option Addr} {sl_besides : Array (Option Value)} {oc_besides kV_besides dc_besides pm_besides cd_besides ct_besides : Value}
    {f_someof : Addr} {od_someof an_someof : Option Addr} {sl_someof : Array (Option Value)} {oc_someof kV_someof dc_someof pm_someof cd_someof ct_someof : Value}
    {f_another : Addr} {od_another an_another : Option Addr} {sl_another : Array (Option Value)} {oc_another kV_another dc_another pm_another cd_another ct_another : Value}
    {f_spans : Addr} {od_spans an_spans : Option Addr} {sl_spans : Array (Option Value)} {oc_spans kV_spans dc_spans pm_spans cd_spans ct_spans : Value}
    {f_words : Addr} {od_words an_words : Option Addr} {sl_words : Array (Option Value)} {oc_words kV_words dc_words pm_words cd_words ct_words : Value}
    {f_set : Addr} {od_set an_set : Option Addr} {sl_set : Array (Option Value)} {oc_set kV_set dc_set pm_set cd_set ct_set : Value}
    {f_cells : Addr} {od_cells an_cells : Option Addr} {sl_cells : Array (Option Value)} {oc_cells kV_cells dc_cells pm_cells cd_cells ct_cells : Value}
    {f_lhas : Addr} {od_lhas an_lhas : Option Addr} {sl_lhas : Array (Option Value)} {oc_lhas kV_lhas dc_lhas pm_lhas cd_lhas ct_lhas : Value}
    {f_many : Addr} {od_many an_many : Option Addr} {sl_many : Array (Option Value)} {oc_many kV_many dc_many pm_many cd_many ct_many : Value}
    {f_iscell : Addr} {od_iscell an_iscell : Option Addr} {sl_iscell : Array (Option Value)} {oc_iscell kV_iscell dc_iscell pm_iscell cd_iscell ct_iscell : Value}
    {f_istold : Addr} {od_istold an_istold : Option Addr} {sl_istold : Array (Option Value)} {oc_istold kV_istold dc_istold pm_istold cd_istold ct_istold : Value}
    {f_right : Addr} {od_right an_right : Option Addr} {sl_right : Array (Option Value)} {oc_right kV_right dc_right pm_right cd_right ct_right : Value}
    {f_law : Addr} {od_law an_law : Option Addr} {sl_law : Array (Option Value)} {oc_law kV_law dc_law pm_law cd_law ct_law : Value}
    (a_cell : PySem.W.nsIn K mainGlobals "_law_cell_at" = some (some (.ref f_cell)))
    (a_pot : PySem.W.nsIn K mainGlobals "_law_pot" = some (some (.ref f_pot)))
    (a_draw : PySem.W.nsIn K mainGlobals "_law_draw" = some (some (.ref f_draw)))
    (a_number : PySem.W.nsIn K mainGlobals "_law_number" = some (some (.ref f_number)))
    (a_word : PySem.W.nsIn K mainGlobals "_law_word" = some (some (.ref f_word)))
    (a_isnumber : PySem.W.nsIn K mainGlobals "is_number" = some (some (.ref f_isnumber)))
    (a_inspan : PySem.W.nsIn K mainGlobals "in_span" = some (some (.ref f_inspan)))
    (a_has : PySem.W.nsIn K mainGlobals "has" = some (some (.ref f_has)))
    (a_isnone : PySem.W.nsIn K mainGlobals "is_none" = some (some (.ref f_isnone)))
    (a_somespan : PySem.W.nsIn K mainGlobals "some_of_span" = some (some (.ref f_somespan)))
    (a_wordby : PySem.W.nsIn K mainGlobals "word_by_number" = some (some (.ref f_wordby)))
    (a_besides : PySem.W.nsIn K mainGlobals "some_besides" = some (some (.ref f_besides)))
    (a_someof : PySem.W.nsIn K mainGlobals "some_of" = some (some (.ref f_someof)))
    (a_another : PySem.W.nsIn K mainGlobals "another" = some (some (.ref f_another)))
    (a_spans : PySem.W.nsIn K mainGlobals "_law_spans" = some (some (.ref f_spans)))
    (a_words : PySem.W.nsIn K mainGlobals "_law_words" = some (some (.ref f_words)))
    (a_set : PySem.W.nsIn K mainGlobals "_law_set" = some (some (.ref f_set)))
    (a_cells : PySem.W.nsIn K mainGlobals "_law_cells" = some (some (.ref f_cells)))
    (a_lhas : PySem.W.nsIn K mainGlobals "_law_has" = some (some (.ref f_lhas)))
    (a_many : PySem.W.nsIn K mainGlobals "_law_many" = some (some (.ref f_many)))
    (a_iscell : PySem.W.nsIn K mainGlobals "_law_is_cell" = some (some (.ref f_iscell)))
    (a_istold : PySem.W.nsIn K mainGlobals "_law_is_told" = some (some (.ref f_istold)))
    (a_right : PySem.W.nsIn K mainGlobals "_law_another_right" = some (some (.ref f_right)))
    (a_law : PySem.W.nsIn K mainGlobals "law" = some (some (.ref f_law)))
    (l_cell : K.lookup f_cell = some ⟨oc_cell, od_cell, .func (PySem.W.fnOf "_law_cell_at" "_law_cell_at" (defArgs sCell) (defBody sCell) (defScope sCell) .none kV_cell dc_cell pm_cell an_cell cd_cell ct_cell), sl_cell⟩) (c_cell : PySem.W.codeIn K cd_cell "_law_cell_at" = true) (k_cell : PySem.W.keepIn K (.ref f_cell) = true)
    (l_pot : K.lookup f_pot = some ⟨oc_pot, od_pot, .func (PySem.W.fnOf "_law_pot" "_law_pot" (defArgs sPot) (defBody sPot) (defScope sPot) .none kV_pot dc_pot pm_pot an_pot cd_pot ct_pot), sl_pot⟩) (c_pot : PySem.W.codeIn K cd_pot "_law_pot" = true) (k_pot : PySem.W.keepIn K (.ref f_pot) = true)
    (l_draw : K.lookup f_draw = some ⟨oc_draw, od_draw, .func (PySem.W.fnOf "_law_draw" "_law_draw" (defArgs sDraw) (defBody sDraw) (defScope sDraw) .none kV_draw dc_draw pm_draw an_draw cd_draw ct_draw), sl_draw⟩) (c_draw : PySem.W.codeIn K cd_draw "_law_draw" = true) (k_draw : PySem.W.keepIn K (.ref f_draw) = true)
    (l_number : K.lookup f_number = some ⟨oc_number, od_number, .func (PySem.W.fnOf "_law_number" "_law_number" (defArgs sNumber) (defBody sNumber) (defScope sNumber) .none kV_number dc_number pm_number an_number cd_number ct_number), sl_number⟩) (c_number : PySem.W.codeIn K cd_number "_law_number" = true) (k_number : PySem.W.keepIn K (.ref f_number) = true)
    (l_word : K.lookup f_word = some ⟨oc_word, od_word, .func (PySem.W.fnOf "_law_word" "_law_word" (defArgs sWord) (defBody sWord) (defScope sWord) .none kV_word dc_word pm_word an_word cd_word ct_word), sl_word⟩) (c_word : PySem.W.codeIn K cd_word "_law_word" = true) (k_word : PySem.W.keepIn K (.ref f_word) = true)
    (l_isnumber : K.lookup f_isnumber = some ⟨oc_isnumber, od_isnumber, .func (PySem.W.fnOf "is_number" "is_number" (defArgs sIsNumber) (defBody sIsNumber) (defScope sIsNumber) .none kV_isnumber dc_isnumber pm_isnumber an_isnumber cd_isnumber ct_isnumber), sl_isnumber⟩) (c_isnumber : PySem.W.codeIn K cd_isnumber "is_number" = true) (k_isnumber : PySem.W.keepIn K (.ref f_isnumber) = true)
    (l_inspan : K.lookup f_inspan = some ⟨oc_inspan, od_inspan, .func (PySem.W.fnOf "in_span" "in_span" (defArgs sInSpan) (defBody sInSpan) (defScope sInSpan) .none kV_inspan dc_inspan pm_inspan an_inspan cd_inspan ct_inspan), sl_inspan⟩) (c_inspan : PySem.W.codeIn K cd_inspan "in_span" = true) (k_inspan : PySem.W.keepIn K (.ref f_inspan) = true)
    (l_has : K.lookup f_has = some ⟨oc_has, od_has, .func (PySem.W.fnOf "has" "has" (defArgs sHas) (defBody sHas) (defScope sHas) .none kV_has dc_has pm_has an_has cd_has ct_has), sl_has⟩) (c_has : PySem.W.codeIn K cd_has "has" = true) (k_has : PySem.W.keepIn K (.ref f_has) = true)
    (l_isnone : K.lookup f_isnone = some ⟨oc_isnone, od_isnone, .func (PySem.W.fnOf "is_none" "is_none" (defArgs sIsNone) (defBody sIsNone) (defScope sIsNone) .none kV_isnone dc_isnone pm_isnone an_isnone cd_isnone ct_isnone), sl_isnone⟩) (c_isnone : PySem.W.codeIn K cd_isnone "is_none" = true) (k_isnone : PySem.W.keepIn K (.ref f_isnone) = true)
    (l_somespan : K.lookup f_somespan = some ⟨oc_somespan, od_somespan, .func (PySem.W.fnOf "some_of_span" "some_of_span" (defArgs sSomeSpan) (defBody sSomeSpan) (defScope sSomeSpan) .none kV_somespan dc_somespan pm_somespan an_somespan cd_somespan ct_somespan), sl_somespan⟩) (c_somespan : PySem.W.codeIn K cd_somespan "some_of_span" = true) (k_somespan : PySem.W.keepIn K (.ref f_somespan) = true)
    (l_wordby : K.lookup f_wordby = some ⟨oc_wordby, od_wordby, .func (PySem.W.fnOf "word_by_number" "word_by_number" (defArgs sWordBy) (defBody sWordBy) (defScope sWordBy) .none kV_wordby dc_wordby pm_wordby an_wordby cd_wordby ct_wordby), sl_wordby⟩) (c_wordby : PySem.W.codeIn K cd_wordby "word_by_number" = true) (k_wordby : PySem.W.keepIn K (.ref f_wordby) = true)
    (l_besides : K.lookup f_besides = some ⟨oc_besides, od_besides, .func (PySem.W.fnOf "some_besides" "some_besides" (defArgs sBesides) (defBody sBesides) (defScope sBesides) .none kV_besides dc_besides pm_besides an_besides cd_besides ct_besides), sl_besides⟩) (c_besides : PySem.W.codeIn K cd_besides "some_besides" = true) (k_besides : PySem.W.keepIn K (.ref f_besides) = true)
    (l_someof : K.lookup f_someof = some ⟨oc_someof, od_someof, .func (PySem.W.fnOf "some_of" "some_of" (defArgs sSomeOf) (defBody sSomeOf) (defScope sSomeOf) .none kV_someof dc_someof pm_someof an_someof cd_someof ct_someof), sl_someof⟩) (c_someof : PySem.W.codeIn K cd_someof "some_of" = true) (k_someof : PySem.W.keepIn K (.ref f_someof) = true)
    (l_another : K.lookup f_another = some ⟨oc_another, od_another, .func (PySem.W.fnOf "another" "another" (defArgs sAnother) (defBody sAnother) (defScope sAnother) .none kV_another dc_another pm_another an_another cd_another ct_another), sl_another⟩) (c_another : PySem.W.codeIn K cd_another "another" = true) (k_another : PySem.W.keepIn K (.ref f_another) = true)
    (l_spans : K.lookup f_spans = some ⟨oc_spans, od_spans, .func (PySem.W.fnOf "_law_spans" "_law_spans" (defArgs sSpans) (defBody sSpans) (defScope sSpans) .none kV_spans dc_spans pm_spans an_spans cd_spans ct_spans), sl_spans⟩) (c_spans : PySem.W.codeIn K cd_spans "_law_spans" = true) (k_spans : PySem.W.keepIn K (.ref f_spans) = true)
    (l_words : K.lookup f_words = some ⟨oc_words, od_words, .func (PySem.W.fnOf "_law_words" "_law_words" (defArgs sWords) (defBody sWords) (defScope sWords) .none kV_words dc_words pm_words an_words cd_words ct_words), sl_words⟩) (c_words : PySem.W.codeIn K cd_words "_law_words" = true) (k_words : PySem.W.keepIn K (.ref f_words) = true)
    (l_set : K.lookup f_set = some ⟨oc_set, od_set, .func (PySem.W.fnOf "_law_set" "_law_set" (defArgs sSet) (defBody sSet) (defScope sSet) .none kV_set dc_set pm_set an_set cd_set ct_set), sl_set⟩) (c_set : PySem.W.codeIn K cd_set "_law_set" = true) (k_set : PySem.W.keepIn K (.ref f_set) = true)
    (l_cells : K.lookup f_cells = some ⟨oc_cells, od_cells, .func (PySem.W.fnOf "_law_cells" "_law_cells" (defArgs sCells) (defBody sCells) (defScope sCells) .none kV_cells dc_cells pm_cells an_cells cd_cells ct_cells), sl_cells⟩) (c_cells : PySem.W.codeIn K cd_cells "_law_cells" = true) (k_cells : PySem.W.keepIn K (.ref f_cells) = true)
    (l_lhas : K.lookup f_lhas = some ⟨oc_lhas, od_lhas, .func (PySem.W.fnOf "_law_has" "_law_has" (defArgs sLHas) (defBody sLHas) (defScope sLHas) .none kV_lhas dc_lhas pm_lhas an_lhas cd_lhas ct_lhas), sl_lhas⟩) (c_lhas : PySem.W.codeIn K cd_lhas "_law_has" = true) (k_lhas : PySem.W.keepIn K (.ref f_lhas) = true)
    (l_many : K.lookup f_many = some ⟨oc_many, od_many, .func (PySem.W.fnOf "_law_many" "_law_many" (defArgs sMany) (defBody sMany) (defScope sMany) .none kV_many dc_many pm_many an_many cd_many ct_many), sl_many⟩) (c_many : PySem.W.codeIn K cd_many "_law_many" = true) (k_many : PySem.W.keepIn K (.ref f_many) = true)
    (l_iscell : K.lookup f_iscell = some ⟨oc_iscell, od_iscell, .func (PySem.W.fnOf "_law_is_cell" "_law_is_cell" (defArgs sIsCell) (defBody sIsCell) (defScope sIsCell) .none kV_iscell dc_iscell pm_iscell an_iscell cd_iscell ct_iscell), sl_iscell⟩) (c_iscell : PySem.W.codeIn K cd_iscell "_law_is_cell" = true) (k_iscell : PySem.W.keepIn K (.ref f_iscell) = true)
    (l_istold : K.lookup f_istold = some ⟨oc_istold, od_istold, .func (PySem.W.fnOf "_law_is_told" "_law_is_told" (defArgs sIsTold) (defBody sIsTold) (defScope sIsTold) .none kV_istold dc_istold pm_istold an_istold cd_istold ct_istold), sl_istold⟩) (c_istold : PySem.W.codeIn K cd_istold "_law_is_told" = true) (k_istold : PySem.W.keepIn K (.ref f_istold) = true)
    (l_right : K.lookup f_right = some ⟨oc_right, od_right, .func (PySem.W.fnOf "_law_another_right" "_law_another_right" (defArgs sRight) (defBody sRight) (defScope sRight) .none kV_right dc_right pm_right an_right cd_right ct_right), sl_right⟩) (c_right : PySem.W.codeIn K cd_right "_law_another_right" = true) (k_right : PySem.W.keepIn K (.ref f_right) = true)
    (l_law : K.lookup f_law = some ⟨oc_law, od_law, .func (PySem.W.fnOf "law" "law" (defArgs sLaw) (defBody sLaw) (defScope sLaw) .none kV_law dc_law pm_law an_law cd_law ct_law), sl_law⟩) (c_law : PySem.W.codeIn K cd_law "law" = true) (k_law : PySem.W.keepIn K (.ref f_law) = true)
    (z_len : PySem.W.nsIn K mainGlobals "len" = some none)
    (z_max : PySem.W.nsIn K mainGlobals "max" = some none)
    (z_abs : PySem.W.nsIn K mainGlobals "abs" = some none)
    (z_divmod : PySem.W.nsIn K mainGlobals "divmod" = some none)
    (z_range : PySem.W.nsIn K mainGlobals "range" = some none)
    (z_tuple : PySem.W.nsIn K mainGlobals "tuple" = some none)
    (z_list : PySem.W.nsIn K mainGlobals "list" = some none)
    (z_isinstance : PySem.W.nsIn K mainGlobals "isinstance" = some none)
    (z_str : PySem.W.nsIn K mainGlobals "str" = some none)
    (z_int : PySem.W.nsIn K mainGlobals "int" = some none)
    (z_bool : PySem.W.nsIn K mainGlobals "bool" = some none)
    (z_any : PySem.W.nsIn K mainGlobals "any" = some none)
    (z_min : PySem.W.nsIn K mainGlobals "min" = some none)
    (z_sorted : PySem.W.nsIn K mainGlobals "sorted" = some none)
    (z_set : PySem.W.nsIn K mainGlobals "set" = some none)
    {t_le : _} (v_le : PySem.W.nsIn K mainGlobals "LETTERS" = some (some (.str "abcdefghijklmnopqrstuvwxyz" t_le)))
    (kib : PySem.W.kitOne K (.type "int") (.type "bool") = some false)
    (ksi : PySem.W.kitOne K (.type "str") (.type "int") = some false)
    (kis : PySem.W.kitOne K (.type "int") (.type "str") = some false) :
    ∃ fd : FuncData, (∀ (s : Shared) (v : Value), BindsTo s fd ⟨[v], []⟩ [("_law_script", v)]) ∧ ∀ base : Heap, K.In base → base.Ns mainGlobals mg → FnOk l.prog w K mg base CX0 6 fa fd ["_law_script"] (spLaw K) := by
  have e := hfa.symm.trans (PySem.W.mg_of X G a_law)
  cases e
  have F_cell := fun_mk (st := sCell) l_cell c_cell k_cell
  have h_cell := PySem.W.mg_of X G a_cell
  have b_cell := F_cell.binds (ps := ["_law_script", "_law_k"]) fun _ _ _ _ _ _ us hl => match us, hl with | [_, _], _ => rfl
  have F_pot := fun_mk (st := sPot) l_pot c_pot k_pot
  have h_pot := PySem.W.mg_of X G a_pot
  have b_pot := F_pot.binds (ps := ["_law_script", "_law_k"]) fun _ _ _ _ _ _ us hl => match us, hl with | [_, _], _ => rfl
  have F_draw := fun_mk (st := sDraw) l_draw c_draw k_draw
  have h_draw := PySem.W.mg_of X G a_draw
  have b_draw := F_draw.binds (ps := ["_law_pot_here", "_law_many_here"]) fun _ _ _ _ _ _ us hl => match us, hl with | [_, _], _ => rfl
  have F_number := fun_mk (st := sNumber) l_number c_number k_number
  have h_number := PySem.W.mg_of X G a_number
  have b_number := F_number.binds (ps := ["_law_pot_here"]) fun _ _ _ _ _ _ us hl => match us, hl with | [_], _ => rfl
  have F_word := fun_mk (st := sWord) l_word c_word k_word
  have h_word := PySem.W.mg_of X G a_word
  have b_word := F_word.binds (ps := ["_law_pot_here"]) fun _ _ _ _ _ _ us hl => match us, hl with | [_], _ => rfl
  have F_isnumber := fun_mk (st := sIsNumber) l_isnumber c_isnumber k_isnumber
  have h_isnumber := PySem.W.mg_of X G a_isnumber
  have b_isnumber := F_isnumber.binds (ps := ["cell"]) fun _ _ _ _ _ _ us hl => match us, hl with | [_], _ => rfl
  have F_inspan := fun_mk (st := sInSpan) l_inspan c_inspan k_inspan
  have h_inspan := PySem.W.mg_of X G a_inspan
  have b_inspan := F_inspan.binds (ps := ["span", "number"]) fun _ _ _ _ _ _ us hl => match us, hl with | [_, _], _ => rfl
  have F_has := fun_mk (st := sHas) l_has c_has k_has
  have h_has := PySem.W.mg_of X G a_has
  have b_has := F_has.binds (ps := ["told", "cell"]) fun _ _ _ _ _ _ us hl => match us, hl with | [_, _], _ => rfl
  have F_isnone := fun_mk (st := sIsNone) l_isnone c_isnone k_isnone
  have h_isnone := PySem.W.mg_of X G a_isnone
  have b_isnone := F_isnone.binds (ps := ["told"]) fun _ _ _ _ _ _ us hl => match us, hl with | [_], _ => rfl
  have F_somespan := fun_mk (st := sSomeSpan) l_somespan c_somespan k_somespan
  have h_somespan := PySem.W.mg_of X G a_somespan
  have b_somespan := F_somespan.binds (ps := ["span"]) fun _ _ _ _ _ _ us hl => match us, hl with | [_], _ => rfl
  have F_wordby := fun_mk (st := sWordBy) l_wordby c_wordby k_wordby
  have h_wordby := PySem.W.mg_of X G a_wordby
  have b_wordby := F_wordby.binds (ps := ["number"]) fun _ _ _ _ _ _ us hl => match us, hl with | [_], _ => rfl
  have F_besides := fun_mk (st := sBesides) l_besides c_besides k_besides
  have h_besides := PySem.W.mg_of X G a_besides
  have b_besides := F_besides.binds (ps := ["words"]) fun _ _ _ _ _ _ us hl => match us, hl with | [_], _ => rfl
  have F_someof := fun_mk (st := sSomeOf) l_someof c_someof k_someof
  have h_someof := PySem.W.mg_of X G a_someof
  have b_someof := F_someof.binds (ps := ["told"]) fun _ _ _ _ _ _ us hl => match us, hl with | [_], _ => rfl
  have F_another := fun_mk (st := sAnother) l_another c_another k_another
  have h_another := PySem.W.mg_of X G a_another
  have b_another := F_another.binds (ps := ["told", "cell"]) fun _ _ _ _ _ _ us hl => match us, hl with | [_, _], _ => rfl
  have F_spans := fun_mk (st := sSpans) l_spans c_spans k_spans
  have h_spans := PySem.W.mg_of X G a_spans
  have b_spans := F_spans.binds (ps := ["_law_pot_here"]) fun _ _ _ _ _ _ us hl => match us, hl with | [_], _ => rfl
  have F_words := fun_mk (st := sWords) l_words c_words k_words
  have h_words := PySem.W.mg_of X G a_words
  have b_words := F_words.binds (ps := ["_law_pot_here"]) fun _ _ _ _ _ _ us hl => match us, hl with | [_], _ => rfl
  have F_set := fun_mk (st := sSet) l_set c_set k_set
  have h_set := PySem.W.mg_of X G a_set
  have b_set := F_set.binds (ps := ["_law_pot_here"]) fun _ _ _ _ _ _ us hl => match us, hl with | [_], _ => rfl
  have F_cells := fun_mk (st := sCells) l_cells c_cells k_cells
  have h_cells := PySem.W.mg_of X G a_cells
  have b_cells := F_cells.binds (ps := ["_law_pot_here", "_law_tale"]) fun _ _ _ _ _ _ us hl => match us, hl with | [_, _], _ => rfl
  have F_lhas := fun_mk (st := sLHas) l_lhas c_lhas k_lhas
  have h_lhas := PySem.W.mg_of X G a_lhas
  have b_lhas := F_lhas.binds (ps := ["_law_tale", "_law_cell"]) fun _ _ _ _ _ _ us hl => match us, hl with | [_, _], _ => rfl
  have F_many := fun_mk (st := sMany) l_many c_many k_many
  have h_many := PySem.W.mg_of X G a_many
  have b_many := F_many.binds (ps := ["_law_tale"]) fun _ _ _ _ _ _ us hl => match us, hl with | [_], _ => rfl
  have F_iscell := fun_mk (st := sIsCell) l_iscell c_iscell k_iscell
  have h_iscell := PySem.W.mg_of X G a_iscell
  have b_iscell := F_iscell.binds (ps := ["_law_tale", "_law_cell"]) fun _ _ _ _ _ _ us hl => match us, hl with | [_, _], _ => rfl
  have F_istold := fun_mk (st := sIsTold) l_istold c_istold k_istold
  have h_istold := PySem.W.mg_of X G a_istold
  have b_istold := F_istold.binds (ps := ["_law_found", "_law_due"]) fun _ _ _ _ _ _ us hl => match us, hl with | [_, _], _ => rfl
  have F_right := fun_mk (st := sRight) l_right c_right k_right
  have h_right := PySem.W.mg_of X G a_right
  have b_right := F_right.binds (ps := ["_law_tale", "_law_cell"]) fun _ _ _ _ _ _ us hl => match us, hl with | [_, _], _ => rfl
  have F_law := fun_mk (st := sLaw) l_law c_law k_law
  have h_law := PySem.W.mg_of X G a_law
  have B : Blt mg := ⟨PySem.W.mg_none_of X G z_len, PySem.W.mg_none_of X G z_max, PySem.W.mg_none_of X G z_abs, PySem.W.mg_none_of X G z_divmod, PySem.W.mg_none_of X G z_range, PySem.W.mg_none_of X G z_tuple, PySem.W.mg_none_of X G z_list, PySem.W.mg_none_of X G z_isinstance⟩
  have B2 : Blt2 mg := ⟨PySem.W.mg_none_of X G z_str, PySem.W.mg_none_of X G z_int, PySem.W.mg_none_of X G z_bool, PySem.W.mg_none_of X G z_any, PySem.W.mg_none_of X G z_min, PySem.W.mg_none_of X G z_sorted, PySem.W.mg_none_of X G z_set⟩
  have Z : Cst mg := ⟨⟨_, PySem.W.mg_of X G v_le⟩⟩
  have Kt : Kit K := ⟨kib, ksi, kis⟩
  refine ⟨PySem.W.fnOf "law" "law" (defArgs sLaw) (defBody sLaw) (defScope sLaw) .none kV_law dc_law pm_law an_law cd_law ct_law, fun s v => .of_eq rfl, fun base _ _ => ?_⟩
  have g_cell := ok_cell (P := l.prog) (w := w) (mg := mg) (base := base) B F_cell 
  have g_pot := ok_pot (P := l.prog) (w := w) (mg := mg) (base := base) B F_pot (g_cell.mono (by decide)) b_cell k_cell h_cell
  have g_draw := ok_draw (P := l.prog) (w := w) (mg := mg) (base := base) B F_draw 
  have g_number := ok_number (P := l.prog) (w := w) (mg := mg) (base := base)  F_number (g_draw.mono (by decide)) b_draw k_draw h_draw
  have g_word := ok_word (P := l.prog) (w := w) (mg := mg) (base := base) B F_word (g_draw.mono (by decide)) b_draw k_draw h_draw
  have g_isnumber := ok_isnumber (P := l.prog) (w := w) (mg := mg) (base := base) B B2 Kt F_isnumber 
  have g_inspan := ok_inspan (P := l.prog) (w := w) (mg := mg) (base := base)  F_inspan 
  have g_has := ok_has (P := l.prog) (w := w) (mg := mg) (base := base) B B2 Kt F_has (g_isnumber.mono (by decide)) b_isnumber k_isnumber h_isnumber (g_inspan.mono (by decide)) b_inspan k_inspan h_inspan
  have g_isnone := ok_isnone (P := l.prog) (w := w) (mg := mg) (base := base) B F_isnone 
  have g_somespan := ok_somespan (P := l.prog) (w := w) (mg := mg) (base := base)  F_somespan 
  have g_wordby := ok_wordby (P := l.prog) (w := w) (mg := mg) (base := base) B Z F_wordby 
  have g_besides := ok_besides (P := l.prog) (w := w) (mg := mg) (base := base) B F_besides (g_wordby.mono (by decide)) b_wordby k_wordby h_wordby
  have g_someof := ok_someof (P := l.prog) (w := w) (mg := mg) (base := base) B F_someof (g_somespan.mono (by decide)) b_somespan k_somespan h_somespan (g_besides.mono (by decide)) b_besides k_besides h_besides
  have g_another := ok_another (P := l.prog) (w := w) (mg := mg) (base := base)  F_another (g_someof.mono (by decide)) b_someof k_someof h_someof
  have g_spans := ok_spans (P := l.prog) (w := w) (mg := mg) (base := base) B B2 F_spans (g_draw.mono (by decide)) b_draw k_draw h_draw (g_number.mono (by decide)) b_number k_number h_number
  have g_words := ok_words (P := l.prog) (w := w) (mg := mg) (base := base) B B2 F_words (g_draw.mono (by decide)) b_draw k_draw h_draw (g_word.mono (by decide)) b_word k_word h_word
  have g_set := ok_set (P := l.prog) (w := w) (mg := mg) (base := base)  F_set (g_draw.mono (by decide)) b_draw k_draw h_draw (g_spans.mono (by decide)) b_spans k_spans h_spans (g_words.mono (by decide)) b_words k_words h_words
  have g_cells := ok_cells (P := l.prog) (w := w) (mg := mg) (base := base) B B2 F_cells (g_number.mono (by decide)) b_number k_number h_number (g_word.mono (by decide)) b_word k_word h_word
  have g_lhas := ok_lhas (P := l.prog) (w := w) (mg := mg) (base := base) B B2 Kt F_lhas 
  have g_many := ok_many (P := l.prog) (w := w) (mg := mg) (base := base) B B2 F_many 
  have g_iscell := ok_iscell (P := l.prog) (w := w) (mg := mg) (base := base) B B2 Kt F_iscell 
  have g_istold := ok_istold (P := l.prog) (w := w) (mg := mg) (base := base) B B2 F_istold 
  have g_right := ok_right (P := l.prog) (w := w) (mg := mg) (base := base) B2 F_right (g_another.mono (by decide)) b_another k_another h_another (g_many.mono (by decide)) b_many k_many h_many (g_lhas.mono (by decide)) b_lhas k_lhas h_lhas (g_iscell.mono (by decide)) b_iscell k_iscell h_iscell
  exact ok_law B B2 F_law (g_pot.mono (by decide)) b_pot k_pot h_pot (g_set.mono (by decide)) b_set k_set h_set (g_istold.mono (by decide)) b_istold k_istold h_istold (g_isnone.mono (by decide)) b_isnone k_isnone h_isnone (g_many.mono (by decide)) b_many k_many h_many (g_cells.mono (by decide)) b_cells k_cells h_cells (g_has.mono (by decide)) b_has k_has h_has (g_lhas.mono (by decide)) b_lhas k_lhas h_lhas (g_right.mono (by decide)) b_right k_right h_right
theorem walk {l : PySem.W.OpenLaw} {q : Program} {loose : List Str} {XP : (Str → Option Value) → Heap → Prop} {YP : World → Heap → Prop} {d : DefRec} {K : Params → PySem.W.Frag} (hn : l.most = some 63) (hdf : d.params.defaults = [])
    (hY : ∀ (w : World) (h : Heap), YP w h → (K w.params).In h)
    (F : ∀ (w : World) (mg : Str → Option Value) (fa : Addr) (h : Heap), (K w.params).In h → h.Ns mainGlobals mg → mg d.name = some (.ref fa) →
      ∃ fd : FuncData, (∀ (s : Shared) (u : Value), BindsTo s fd ⟨[u], []⟩ [("_law_script", u)]) ∧ ∀ base : Heap, (K w.params).In base → base.Ns mainGlobals mg → FnOk l.prog w (K w.params) mg base CX0 6 fa fd ["_law_script"] (spLaw (K w.params))) :
    PySem.W.WalkO q loose XP YP l.row.toRowW d [] (fun f vs => PySem.call f vs) :=
  L2.walk_of (n := 63) (k := 6) (x := "_law_script") (CX := fun _ => CX0) (sp := fun w => spLaw (K w.params)) hn (by decide) hdf ⟨rfl, by decide, by decide⟩ hY F (fun _ _ a ns hl _ hS => ⟨a, ns, rfl, hS, hl, fun _ => rfl⟩) fun _ _ _ _ _ z => z
end My

open PySem PySem.W PyProof.Rows
set_option maxRecDepth 100000 in
set_option maxHeartbeats 0 in
theorem PySem.Challenge.cw_rowpipes_k15_cells_of_sets_holds : PySem.Challenge.rw_rowpipes_k15_cells_of_sets.Holds := by
  w_on; o_law; k_head; (case hw => w_witness2)
  k_fill
  refine My.walk (l := PySem.Challenge.rw_rowpipes_k15_cells_of_sets) rfl rfl (fun w h Y => PySem.W.kIn_of Y) ?F
  case F =>
    intro w mg fa h KX G hmg
    refine' My.all_mk KX G hmg ?a_cell ?a_pot ?a_draw ?a_number ?a_word ?a_isnumber ?a_inspan ?a_has ?a_isnone ?a_somespan ?a_wordby ?a_besides ?a_someof ?a_another ?a_spans ?a_words ?a_set ?a_cells ?a_lhas ?a_many ?a_iscell ?a_istold ?a_right ?a_law ?l_cell ?c_cell ?k_cell ?l_pot ?c_pot ?k_pot ?l_draw ?c_draw ?k_draw ?l_number ?c_number ?k_number ?l_word ?c_word ?k_word ?l_isnumber ?c_isnumber ?k_isnumber ?l_inspan ?c_inspan ?k_inspan ?l_has ?c_has ?k_has ?l_isnone ?c_isnone ?k_isnone ?l_somespan ?c_somespan ?k_somespan ?l_wordby ?c_wordby ?k_wordby ?l_besides ?c_besides ?k_besides ?l_someof ?c_someof ?k_someof ?l_another ?c_another ?k_another ?l_spans ?c_spans ?k_spans ?l_words ?c_words ?k_words ?l_set ?c_set ?k_set ?l_cells ?c_cells ?k_cells ?l_lhas ?c_lhas ?k_lhas ?l_many ?c_many ?k_many ?l_iscell ?c_iscell ?k_iscell ?l_istold ?c_istold ?k_istold ?l_right ?c_right ?k_right ?l_law ?c_law ?k_law ?z_len ?z_max ?z_abs ?z_divmod ?z_range ?z_tuple ?z_list ?z_isinstance ?z_str ?z_int ?z_bool ?z_any ?z_min ?z_sorted ?z_set ?v_le ?kib ?ksi ?kis
    (case a_cell => k_is)
    (case a_pot => k_is)
    (case a_draw => k_is)
    (case a_number => k_is)
    (case a_word => k_is)
    (case a_isnumber => k_is)
    (case a_inspan => k_is)
    (case a_has => k_is)
    (case a_isnone => k_is)
    (case a_somespan => k_is)
    (case a_wordby => k_is)
    (case a_besides => k_is)
    (case a_someof => k_is)
    (case a_another => k_is)
    (case a_spans => k_is)
    (case a_words => k_is)
    (case a_set => k_is)
    (case a_cells => k_is)
    (case a_lhas => k_is)
    (case a_many => k_is)
    (case a_iscell => k_is)
    (case a_istold => k_is)
    (case a_right => k_is)
    (case a_law => k_is)
    (case l_cell => k_is)
    (case c_cell => k_is)
    (case k_cell => k_is)
    (case l_pot => k_is)
    (case c_pot => k_is)
    (case k_pot => k_is)
    (case l_draw => k_is)
    (case c_draw => k_is)
    (case k_draw => k_is)
    (case l_number => k_is)
    (case c_number => k_is)
    (case k_number => k_is)
    (case l_word => k_is)
    (case c_word => k_is)
    (case k_word => k_is)
    (case l_isnumber => k_is)
    (case c_isnumber => k_is)
    (case k_isnumber => k_is)
    (case l_inspan => k_is)
    (case c_inspan => k_is)
    (case k_inspan => k_is)
    (case l_has => k_is)
    (case c_has => k_is)
    (case k_has => k_is)
    (case l_isnone => k_is)
    (case c_isnone => k_is)
    (case k_isnone => k_is)
    (case l_somespan => k_is)
    (case c_somespan => k_is)
    (case k_somespan => k_is)
    (case l_wordby => k_is)
    (case c_wordby => k_is)
    (case k_wordby => k_is)
    (case l_besides => k_is)
    (case c_besides => k_is)
    (case k_besides => k_is)
    (case l_someof => k_is)
    (case c_someof => k_is)
    (case k_someof => k_is)
    (case l_another => k_is)
    (case c_another => k_is)
    (case k_another => k_is)
    (case l_spans => k_is)
    (case c_spans => k_is)
    (case k_spans => k_is)
    (case l_words => k_is)
    (case c_words => k_is)
    (case k_words => k_is)
    (case l_set => k_is)
    (case c_set => k_is)
    (case k_set => k_is)
    (case l_cells => k_is)
    (case c_cells => k_is)
    (case k_cells => k_is)
    (case l_lhas => k_is)
    (case c_lhas => k_is)
    (case k_lhas => k_is)
    (case l_many => k_is)
    (case c_many => k_is)
    (case k_many => k_is)
    (case l_iscell => k_is)
    (case c_iscell => k_is)
    (case k_iscell => k_is)
    (case l_istold => k_is)
    (case c_istold => k_is)
    (case k_istold => k_is)
    (case l_right => k_is)
    (case c_right => k_is)
    (case k_right => k_is)
    (case l_law => k_is)
    (case c_law => k_is)
    (case k_law => k_is)
    (case z_len => k_is)
    (case z_max => k_is)
    (case z_abs => k_is)
    (case z_divmod => k_is)
    (case z_range => k_is)
    (case z_tuple => k_is)
    (case z_list => k_is)
    (case z_isinstance => k_is)
    (case z_str => k_is)
    (case z_int => k_is)
    (case z_bool => k_is)
    (case z_any => k_is)
    (case z_min => k_is)
    (case z_sorted => k_is)
    (case z_set => k_is)
    (case v_le => k_is)
    (case kib => kernel_rfl)
    (case ksi => kernel_rfl)
    (case kis => kernel_rfl)
