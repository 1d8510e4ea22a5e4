import PyProof.Rows.All
import Wide.All
import OpenK.AllK
import Wide.FinOn
import Lean
import PyProof.EqAt
import PyProof.EqKinds
import PyProof.TupleCall
import PyProof.NeKinds
import PySem.Challenge.RW_rowpipes_k23_places
set_option Elab.async false
set_option linter.all false
set_option maxRecDepth 100000

/-! THE HAND LAYER, for ints, bools, texts, own classes, LISTS and tuples (index, slices, in, append, pop ..), calls, loops. Paste it whole ahead of your own text; what your proof does not reach may be deleted. -/
namespace L2
open PySem PySem.Spec PyProof.Rows

/-- a key: an int or a str -/
abbrev Key := Sum Int Str
def keyIs : Key → Value → Bool
  | .inl k, v => Value.isInt k v
  | .inr x, v => Value.isStrOf x v
def keyH (w : World) : Key → Int
  | .inl k => hashInt k
  | .inr x => hashStr w x
theorem keyIs_shape : ∀ {k : Key} {v : Value}, keyIs k v = true → (∃ i t, k = Sum.inl i ∧ v = Value.int i t) ∨ (∃ x t, k = Sum.inr x ∧ v = Value.str x t)
  | .inl i, v, h => by
    obtain ⟨t, e⟩ := Value.isInt_shape (k := i) (v := v) h
    exact .inl ⟨i, t, rfl, e⟩
  | .inr x, v, h => by
    obtain ⟨t, e⟩ := Value.isStrOf_shape (x := x) (v := v) h
    exact .inr ⟨x, t, rfl, e⟩
theorem keyIs_int (i : Int) (t : Tok) : keyIs (.inl i) (.int i t) = true := by simp [keyIs, Value.isInt]
theorem keyIs_str (x : Str) (t : Tok) : keyIs (.inr x) (.str x t) = true := by simp [keyIs, Value.isStrOf]
theorem key_ll (a b : Int) : decide ((Sum.inl a : Key) = Sum.inl b) = (a == b) := by
  by_cases e : a = b
  · subst e; simp
  · have h : ¬ (Sum.inl a : Key) = Sum.inl b := fun q => e (Sum.inl.inj q)
    rw [decide_eq_false h]
    exact (beq_eq_false_iff_ne.mpr e).symm
theorem key_rr (a b : Str) : decide ((Sum.inr a : Key) = Sum.inr b) = decide (a = b) := by
  by_cases e : a = b
  · subst e; simp
  · have h : ¬ (Sum.inr a : Key) = Sum.inr b := fun q => e (Sum.inr.inj q)
    rw [decide_eq_false h, decide_eq_false e]
theorem key_lr (a : Int) (b : Str) : decide ((Sum.inl a : Key) = Sum.inr b) = false := decide_eq_false (fun q => nomatch q)
theorem key_rl (a : Str) (b : Int) : decide ((Sum.inr a : Key) = Sum.inl b) = false := decide_eq_false (fun q => nomatch q)

def mixKind (prog : Program) (w : World) : PySem.KeyKind prog w Key where
  is := keyIs
  hash := keyH w
  inj := fun v a b ha hb => by
    rcases keyIs_shape ha with ⟨i, t, rfl, rfl⟩ | ⟨x, t, rfl, rfl⟩
    · rcases keyIs_shape hb with ⟨j, u, rfl, e⟩ | ⟨y, u, rfl, e⟩
      · injection e with e1 _; rw [e1]
      · exact nomatch e
    · rcases keyIs_shape hb with ⟨j, u, rfl, e⟩ | ⟨y, u, rfl, e⟩
      · exact nomatch e
      · injection e with e1 _; rw [e1]
  byValue := fun k v h => by
    rcases keyIs_shape h with ⟨i, t, rfl, rfl⟩ | ⟨x, t, rfl, rfl⟩ <;> rfl
  pyHash := fun hv h => by
    rcases keyIs_shape hv with ⟨i, t, rfl, rfl⟩ | ⟨x, t, rfl, rfl⟩
    · exact wpAny_pyHash_int h
    · exact wpAny_pyHash_str h
  eqBool := fun hu hv h => by
    rcases keyIs_shape hu with ⟨i, t, rfl, rfl⟩ | ⟨x, t, rfl, rfl⟩
    · rcases keyIs_shape hv with ⟨j, u, rfl, rfl⟩ | ⟨y, u, rfl, rfl⟩
      · rw [key_ll] at h; exact wpAny_eqBool_int h
      · rw [key_lr] at h; exact SeqAt.EqAt.int_str i t y u _ _ _ _ h
    · rcases keyIs_shape hv with ⟨j, u, rfl, rfl⟩ | ⟨y, u, rfl, rfl⟩
      · rw [key_rl] at h; exact SeqAt.EqAt.str_int x t j u _ _ _ _ h
      · rw [key_rr] at h; exact wpAny_eqBool_str h
  «strs» := fun k x t v h => by
    rcases keyIs_shape h with ⟨i, u, rfl, e⟩ | ⟨y, u, rfl, e⟩
    · exact nomatch e
    · injection e with e1 _
      subst e1
      cases v <;> rfl

end L2

namespace L2
open PySem PySem.Spec PyProof.Rows

/-- a value, without the heap -/
inductive V where
  | non | bl (b : Bool) | int (i : Int) | str (x : Str) | byt (b : Array UInt8) | flt (b : UInt64) | ref (a : Addr) | ty (n : String)
  deriving DecidableEq

def RelV : V → Value → Prop
  | .non, u => u = Value.none
  | .bl b, u => u = Value.bool b
  | .int i, u => ∃ t, u = Value.int i t
  | .str x, u => ∃ t, u = Value.str x t
  | .byt b, u => ∃ t, u = Value.bytes b t
  | .flt b, u => ∃ t, u = Value.float b t
  | .ref a, u => u = Value.ref a
  | .ty n, u => u = Value.type n

abbrev Vals : List V → List Value → Prop := Paired RelV
theorem Vals.length {xs : List V} {us : List Value} (r : Vals xs us) : xs.length = us.length := Paired.length r
theorem Vals.get : ∀ {xs : List V} {us : List Value} {i : Nat} {x : V}, Vals xs us → xs[i]? = some x → ∃ u, us[i]? = some u ∧ RelV x u
  | _, _, _, _, .nil, e => by simp at e
  | _, _, 0, _, .cons r _, e => by simp at e; subst e; exact ⟨_, rfl, r⟩
  | _, _, i + 1, x, .cons _ t, e => by
    obtain ⟨u, h1, h2⟩ := Vals.get (i := i) (x := x) t (by simpa using e)
    exact ⟨u, by simpa using h1, h2⟩
theorem Vals.set {x : V} {u : Value} (r : RelV x u) : ∀ {xs : List V} {us : List Value} (i : Nat), Vals xs us → Vals (xs.set i x) (us.set i u)
  | _, _, _, .nil => .nil
  | _, _, 0, .cons _ t => .cons r t
  | _, _, i + 1, .cons q t => .cons q (Vals.set r i t)
theorem Vals.append : ∀ {xs ys : List V} {us ws : List Value}, Vals xs us → Vals ys ws → Vals (xs ++ ys) (us ++ ws)
  | _, _, _, _, .nil, s => s
  | _, _, _, _, .cons r t, s => .cons r (Vals.append t s)
theorem Vals.take : ∀ {xs : List V} {us : List Value} (n : Nat), Vals xs us → Vals (xs.take n) (us.take n)
  | _, _, 0, _ => .nil
  | _, _, _ + 1, .nil => .nil
  | _, _, n + 1, .cons r t => .cons r (Vals.take n t)
theorem Vals.drop : ∀ {xs : List V} {us : List Value} (n : Nat), Vals xs us → Vals (xs.drop n) (us.drop n)
  | _, _, 0, r => r
  | _, _, _ + 1, .nil => .nil
  | _, _, n + 1, .cons _ t => Vals.drop n t
def RelO : Option V → Option Value → Prop
  | some v, some u => RelV v u
  | none, none => True
  | _, _ => False
def KV {κ : Type} : List (κ × V) → List (κ × Value) → Prop := Paired fun (p : κ × V) (q : κ × Value) => p.1 = q.1 ∧ RelV p.2 q.2

/-- a key of a dict (00_mix): an int or a text -/
def kV : Key → V
  | .inl i => .int i
  | .inr x => .str x

/-- what stands at a tracked address -/
inductive HO where
  /-- a list -/
  | lst (xs : List V)
  /-- a tuple (never changes) -/
  | tup (xs : List V)
  /-- a dict whose keys are ints and texts; one whose keys are tuples of ints and texts (the empty one is both) -/
  | dK (kvs : List (Key × V)) | dT (kvs : List (List Key × V))
  /-- a set of ints: its members, its size -/
  | set (S : Int → Bool) (n : Nat)
  /-- an instance of the class at C, its dict at dx, its attributes -/
  | ins (C dx : Addr) (fs : List (Str × V))
  /-- the dict of the instance at x -/
  | own (x : Addr)
  /-- the dict of an exception -/
  | xd (fs : List (Str × V))
  /-- a bound method, f of x -/
  | met (f x : Addr)
  /-- a range object lo, lo + 1, .. below hi -/
  | rng (lo hi : Int)
  /-- a thing that is known to the object (the script; a dict while a loop walks it): read, never written while it is so -/
  | frz (o : Obj) (u : HO)
  /-- a code object's table -/
  | tbl (ps : Array Value)
  /-- any other thing, by what is true of its one object (a def of one's own: SetO a S n := HO.ext fun h => ..) -/
  | ext (φ : Heap → Prop)

abbrev Hp := Addr → Option HO
def upd (H : Hp) (a : Addr) (o : HO) : Hp := fun b => if b = a then some o else H b
theorem upd_same {H : Hp} {a : Addr} {o : HO} : upd H a o a = some o := by unfold upd; rw [if_pos rfl]
theorem upd_ne {H : Hp} {a b : Addr} {o : HO} (h : b ≠ a) : upd H a o b = H b := by unfold upd; rw [if_neg h]
/-- two objects of different content stand apart -/
theorem ne_of {H : Hp} {a b : Addr} {o u : HO} (h : H a = some o) (h' : H b = some u) (d : o ≠ u) : a ≠ b := by
  intro e; subst e; rw [h] at h'; exact d (Option.some.inj h')
theorem ne_of_none {H : Hp} {a b : Addr} {o : HO} (h : H a = some o) (h' : H b = none) : a ≠ b := by
  intro e; subst e; rw [h] at h'; cases h'

section
variable (P : Program) (w : World)
def ObjOk (H : Hp) (h : Heap) (a : Addr) : HO → Prop
  | .lst xs => xs.length ≤ sizeLine ∧ ∃ (its : List Value) (n : Nat), Vals xs its ∧ h.get? a = some { cls := .type "list", data := .seq its.toArray n }
  | .tup xs => xs.length ≤ sizeLine ∧ ∃ its : List Value, Vals xs its ∧ IsTup h a its.toArray
  | .dK kvs => kvs.length ≤ sizeLine ∧ (a == sysModules) = false ∧ ∃ vs, KV kvs vs ∧ h.DictOf (mixKind P w) a vs
  | .dT kvs => kvs.length ≤ sizeLine ∧ (a == sysModules) = false ∧ ∃ xs : List (List Key × Addr × Value),
      Paired (fun (p : List Key × V) (q : List Key × Addr × Value) => p.1 = q.1 ∧ H q.2.1 = some (.tup (p.1.map kV)) ∧ RelV p.2 q.2.2) kvs xs ∧
      ∃ o es ep, h.get? a = some o ∧ o.ExactDict ∧ o.data = .dict es ep ∧ es.toList = xs.map (entryOfKey (tupleKind (mixKind P w))) ∧ (xs.map (·.1)).Nodup
  | .set S n => h.SetOf (intKind P w) a S n
  | .ins C dx fs => H dx = some (.own a) ∧ fs.length ≤ 1000 ∧ dx ≠ a ∧ h.get? a = some (PySem.W.instObj C dx) ∧
      ∃ mA, h.Ns1 dx mA ∧ (∀ f, RelO (fs.lookup f) (mA f)) ∧ PySem.Within mA (fs.map (·.1))
  | .own _ => ∃ o, h.get? a = some o
  | .xd fs => ∃ mA, h.Ns1 a mA ∧ ∀ f, RelO (fs.lookup f) (mA f)
  | .rng lo hi => ∃ t u v, h.get? a = some { cls := .type "range", data := .fields #[.int lo t, .int hi u, .int 1 v] }
  | .frz o u => h.get? a = some o ∧ ObjOk H h a u
  | .tbl ps => h.get? a = some { cls := .none, data := .fields ps }
  | .met f x => h.get? a = some (PySem.W.methodObj (.ref f) (.ref x))
  | .ext φ => φ h ∧ (∃ o, h.get? a = some o) ∧ ∀ h1 h2 : Heap, φ h1 → (∀ o, h1.get? a = some o → h2.get? a = some o) → φ h2
/-- the abstract heap is held -/
def HOk (H : Hp) (h : Heap) : Prop := ∀ a o, H a = some o → ObjOk P w H h a o
end

section
variable {P : Program} {w : World} {H H' : Hp} {h h' : Heap} {a : Addr} {o : HO}
theorem ObjOk.lt (x : ObjOk P w H h a o) : a < h.objs.size := by
  cases o with
  | lst xs => obtain ⟨_, _, _, _, e⟩ := x; exact Heap.lt_size e
  | tup xs => obtain ⟨_, _, _, p⟩ := x; exact p.lt
  | dK kvs => obtain ⟨_, _, _, _, o, _, _, e, _⟩ := x; exact Heap.lt_size e
  | dT kvs => obtain ⟨_, _, _, _, o, _, _, e, _⟩ := x; exact Heap.lt_size e
  | set S n => obtain ⟨o, _, _, _, e, _⟩ := x; exact Heap.lt_size e
  | ins C dx fs => obtain ⟨_, _, _, e, _⟩ := x; exact Heap.lt_size e
  | own y => obtain ⟨_, e⟩ := x; exact Heap.lt_size e
  | xd fs => obtain ⟨_, ⟨_, _, _, e, _⟩, _⟩ := x; exact Heap.lt_size e
  | rng lo hi => obtain ⟨_, _, _, e⟩ := x; exact Heap.lt_size e
  | frz ob u => obtain ⟨e, _⟩ := x; exact Heap.lt_size e
  | tbl ps => exact Heap.lt_size (show h.get? a = some _ from x)
  | met f y => exact Heap.lt_size (show h.get? a = some _ from x)
  | ext φ => obtain ⟨_, ⟨_, e⟩, _⟩ := x; exact Heap.lt_size e
theorem Paired.mapP {α β : Type} {F G : α → β → Prop} : ∀ {l₁ : List α} {l₂ : List β}, Paired F l₁ l₂ → (∀ a b, F a b → G a b) → Paired G l₁ l₂
  | _, _, .nil, _ => .nil
  | _, _, .cons r t, f => .cons (f _ _ r) (Paired.mapP t f)
/-- what an object's description leans on: its own object, its own dict, the tuples -/
theorem ObjOk.stay (x : ObjOk P w H h a o) (k : ∀ b u, (b = a ∨ H b = some (.own a)) → h.get? b = some u → h'.get? b = some u)
    (ho : ∀ b, H b = some (.own a) → H' b = some (.own a)) (ht : ∀ b xs, H b = some (.tup xs) → H' b = some (.tup xs)) : ObjOk P w H' h' a o := by
  induction o with
  | lst xs => obtain ⟨z, its, n, r, e⟩ := x; exact ⟨z, its, n, r, k _ _ (.inl rfl) e⟩
  | tup xs => obtain ⟨z, its, r, ob, e, c⟩ := x; exact ⟨z, its, r, ob, k _ _ (.inl rfl) e, c⟩
  | dK kvs => obtain ⟨z, y, vs, r, ob, es, ep, e, c⟩ := x; exact ⟨z, y, vs, r, ob, es, ep, k _ _ (.inl rfl) e, c⟩
  | dT kvs =>
    obtain ⟨z, y, xs, r, ob, es, ep, e, c⟩ := x
    exact ⟨z, y, xs, Paired.mapP r fun p q z => ⟨z.1, ht _ _ z.2.1, z.2.2⟩, ob, es, ep, k _ _ (.inl rfl) e, c⟩
  | set S n => obtain ⟨ob, es, ep, t, e, c⟩ := x; exact ⟨ob, es, ep, t, k _ _ (.inl rfl) e, c⟩
  | ins C dx fs =>
    obtain ⟨d, z, ne, e, mA, ⟨od, es, ep, e2, c⟩, r⟩ := x
    exact ⟨ho _ d, z, ne, k _ _ (.inl rfl) e, mA, ⟨od, es, ep, k _ _ (.inr d) e2, c⟩, r⟩
  | own y => obtain ⟨ob, e⟩ := x; exact ⟨ob, k _ _ (.inl rfl) e⟩
  | xd fs => obtain ⟨mA, ⟨od, es, ep, e, c⟩, r⟩ := x; exact ⟨mA, ⟨od, es, ep, k _ _ (.inl rfl) e, c⟩, r⟩
  | rng lo hi => obtain ⟨t, u, v, e⟩ := x; exact ⟨t, u, v, k _ _ (.inl rfl) e⟩
  | frz ob u ih => obtain ⟨e, q⟩ := x; exact ⟨k _ _ (.inl rfl) e, ih q⟩
  | tbl ps =>
    have e : h.get? a = some { cls := .none, data := .fields ps } := x
    show h'.get? a = some { cls := .none, data := .fields ps }
    exact k a _ (.inl rfl) e
  | met f y =>
    have e : h.get? a = some (PySem.W.methodObj (.ref f) (.ref y)) := x
    show h'.get? a = some (PySem.W.methodObj (.ref f) (.ref y))
    exact k a _ (.inl rfl) e
  | ext φ => obtain ⟨p, ⟨o, e⟩, st⟩ := x; exact ⟨st _ _ p fun o q => k _ _ (.inl rfl) q, ⟨o, k _ _ (.inl rfl) e⟩, st⟩
theorem HOk.lt (x : HOk P w H h) (e : H a = some o) : a < h.objs.size := (x a o e).lt
theorem HOk.fresh (x : HOk P w H h) (e : h.objs.size ≤ a) : H a = none := by
  cases q : H a with
  | none => rfl
  | some u => exact absurd (Nat.lt_of_lt_of_le (x.lt q) e) (Nat.lt_irrefl _)
/-- every object of the heap is kept -/
theorem HOk.kept (x : HOk P w H h) (k : ∀ b u, h.get? b = some u → h'.get? b = some u) : HOk P w H h' := fun a o e =>
  (x a o e).stay (fun b u _ q => k b u q) (fun _ q => q) fun _ _ q => q
/-- a new object is laid and tracked -/
theorem HOk.laid (x : HOk P w H h) (k : ∀ b u, h.get? b = some u → h'.get? b = some u) (hp : h.objs.size ≤ a) (new : ObjOk P w (upd H a o) h' a o) : HOk P w (upd H a o) h' := fun b u e => by
  have hn := x.fresh hp
  by_cases hb : b = a
  · subst hb; rw [upd_same] at e; cases e; exact new
  · rw [upd_ne hb] at e
    exact (x b u e).stay (fun c v _ q => k c v q) (fun c q => by rw [upd_ne (ne_of_none q hn)]; exact q) fun c xs q => by rw [upd_ne (ne_of_none q hn)]; exact q
end

/-- what may be read as u: it is u, or a known u -/
def Rd (H : Hp) (a : Addr) (u : HO) : Prop := H a = some u ∨ ∃ o, H a = some (.frz o u)
theorem Rd.of {H : Hp} {a : Addr} {u : HO} (h : H a = some u) : Rd H a u := .inl h
theorem Rd.ok {P : Program} {w : World} {H : Hp} {h : Heap} {a : Addr} {u : HO} (r : Rd H a u) (x : HOk P w H h) : ObjOk P w H h a u := by
  rcases r with r | ⟨o, r⟩
  · exact x a u r
  · obtain ⟨_, q⟩ := x a _ r
    exact q
/-- what may be written -/
def Mut : Option HO → Prop
  | some (.lst _) => True
  | some (.dK _) => True
  | some (.dT _) => True
  | some (.set _ _) => True
  | some (.ins _ _ _) => True
  | some (.ext _) => True
  | _ => False
section
variable {P : Program} {w : World} {H : Hp} {h h' : Heap} {x e : Addr} {o' : HO}
/-- the object at e is changed: x itself, or the dict of the instance x -/
theorem HOk.write (ok : HOk P w H h) (mu : Mut (H x)) (he : e = x ∨ H e = some (.own x)) (k : ∀ b u, b ≠ e → h.get? b = some u → h'.get? b = some u) (heo : ∃ u, h'.get? e = some u)
    (new : ObjOk P w (upd H x o') h' x o') : HOk P w (upd H x o') h' := fun b u q => by
  have nown : ∀ c y, H c = some (.own y) → c ≠ x := fun c y r z => by subst z; rw [r] at mu; exact mu
  have ntup : ∀ c xs, H c = some (.tup xs) → c ≠ x := fun c xs r z => by subst z; rw [r] at mu; exact mu
  by_cases hb : b = x
  · subst hb; rw [upd_same] at q; cases q; exact new
  · rw [upd_ne hb] at q
    by_cases hbe : b = e
    · have q' : H b = some (.own x) := by
        rcases he with z | z
        · exact absurd (hbe.trans z) hb
        · rw [hbe]; exact z
      rw [q] at q'; cases q'
      obtain ⟨v, hv⟩ := heo
      exact ⟨v, by rw [hbe]; exact hv⟩
    · refine (ok b u q).stay (fun c v hc r => k c v ?_ r) (fun c r => by rw [upd_ne (nown c b r)]; exact r) fun c xs r => by rw [upd_ne (ntup c xs r)]; exact r
      rcases hc with rfl | hc
      · exact hbe
      · rintro rfl
        rcases he with z | z
        · exact nown c b hc z
        · rw [hc] at z; cases z; exact hb rfl
end

/-! ### kept unless tracked; of the frames at fs (the callers') the slots may change (an exception that passes writes there); of the records at ex (iterators) nothing is said -/
structure Un (fs ex : List Addr) (H H' : Hp) (h h' : Heap) : Prop where
  keep : ∀ b o, h.get? b = some o → H b = none → b ∉ fs → b ∉ ex → h'.get? b = some o
  slot : ∀ b o, h.get? b = some o → H b = none → b ∈ fs → b ∉ ex → ∃ sl, h'.get? b = some { o with slots := sl }
  free : ∀ b o, h.get? b = some o → H b = none → b ∉ ex → H' b = none
  there : ∀ b o, h.get? b = some o → b ∉ ex → ∃ o', h'.get? b = some o'
  tups : ∀ b xs, H b = some (.tup xs) → H' b = some (.tup xs)
  frzs : ∀ b o u, H b = some (.frz o u) → H' b = some (.frz o u)
  tbls : ∀ b ps, H b = some (.tbl ps) → ∃ more, H' b = some (.tbl (ps ++ more))
section
variable {fs fs' ex ex' : List Addr} {H H1 H2 : Hp} {h h1 h2 h' : Heap} {a x e : Addr} {o : HO}
theorem Un.any (u : Un fs ex H H1 h h1) {b : Addr} {ob : Obj} (q : h.get? b = some ob) (n : H b = none) (hx : b ∉ ex) : ∃ sl, h1.get? b = some { ob with slots := sl } := by
  by_cases hb : b ∈ fs
  · exact u.slot b ob q n hb hx
  · exact ⟨ob.slots, u.keep b ob q n hb hx⟩
theorem Un.trans (a : Un fs ex H H1 h h1) (b : Un fs ex H1 H2 h1 h2) : Un fs ex H H2 h h2 where
  keep := fun c ob q n hc hx => b.keep c ob (a.keep c ob q n hc hx) (a.free c ob q n hx) hc hx
  slot := fun c ob q n hc hx => by
    obtain ⟨sl, e1⟩ := a.slot c ob q n hc hx
    obtain ⟨sl', e2⟩ := b.slot c _ e1 (a.free c ob q n hx) hc hx
    exact ⟨sl', e2⟩
  free := fun c ob q n hx => by
    obtain ⟨o', e1⟩ := a.there c ob q hx
    exact b.free c o' e1 (a.free c ob q n hx) hx
  there := fun c ob q hx => by
    obtain ⟨o', e1⟩ := a.there c ob q hx
    exact b.there c o' e1 hx
  tups := fun c xs q => b.tups c xs (a.tups c xs q)
  frzs := fun c ob xs q => b.frzs c ob xs (a.frzs c ob xs q)
  tbls := fun c ps q => by
    obtain ⟨m1, e1⟩ := a.tbls c ps q
    obtain ⟨m2, e2⟩ := b.tbls c _ e1
    exact ⟨m1 ++ m2, by rw [e2, Array.append_assoc]⟩
theorem Un.kept (k : ∀ b u, h.get? b = some u → h'.get? b = some u) : Un fs ex H H h h' :=
  ⟨fun b ob q _ _ _ => k b ob q, fun b ob q _ _ _ => ⟨ob.slots, k b ob q⟩, fun _ _ _ n _ => n, fun b ob q _ => ⟨ob, k b ob q⟩, fun _ _ q => q, fun _ _ _ q => q, fun _ ps q => ⟨#[], by rw [q]; simp⟩⟩
theorem Un.refl : Un fs ex H H h h := Un.kept fun _ _ q => q
theorem Un.laid (k : ∀ b u, h.get? b = some u → h'.get? b = some u) (hp : h.objs.size ≤ a) (hn : H a = none) : Un fs ex H (upd H a o) h h' where
  keep := fun b u q _ _ _ => k b u q
  slot := fun b u q _ _ _ => ⟨u.slots, k b u q⟩
  free := fun b u q n _ => by rw [upd_ne (Nat.ne_of_lt (Nat.lt_of_lt_of_le (Heap.lt_size q) hp))]; exact n
  there := fun b u q _ => ⟨u, k b u q⟩
  tups := fun b xs q => by rw [upd_ne (ne_of_none q hn)]; exact q
  frzs := fun b u xs q => by rw [upd_ne (ne_of_none q hn)]; exact q
  tbls := fun b ps q => ⟨#[], by rw [upd_ne (ne_of_none q hn), q]; simp⟩
theorem Un.write (mu : Mut (H x)) (he : e = x ∨ H e = some (.own x)) (k : ∀ b u, b ≠ e → h.get? b = some u → h'.get? b = some u) (heo : ∃ u, h'.get? e = some u) : Un fs ex H (upd H x o) h h' := by
  have hx : ∀ b, H b = none → b ≠ x := fun b n z => by subst z; rw [n] at mu; exact mu
  have hb : ∀ b, H b = none → b ≠ e := fun b n z => by
    subst z
    rcases he with r | r
    · exact hx b n r
    · rw [n] at r; cases r
  have hm : ∀ b u, H b = some u → ¬ Mut (some u) → b ≠ x := fun b u q nm z => by subst z; rw [q] at mu; exact nm mu
  refine ⟨fun b u q n _ _ => k b u (hb b n) q, fun b u q n _ _ => ⟨u.slots, k b u (hb b n) q⟩, fun b u q n _ => by rw [upd_ne (hx b n)]; exact n, fun b u q _ => ?_,
    fun b xs q => by rw [upd_ne (hm b _ q fun z => z)]; exact q, fun b u xs q => by rw [upd_ne (hm b _ q fun z => z)]; exact q, fun b ps q => ⟨#[], by rw [upd_ne (hm b _ q fun z => z), q]; simp⟩⟩
  by_cases hbe : b = e
  · subst hbe; exact heo
  · exact ⟨u, k b u hbe q⟩
theorem Un.mono (u : Un fs ex H H1 h h1) (hs : ∀ b ∈ fs, b ∈ fs') (hx : ∀ b ∈ ex, b ∈ ex') : Un fs' ex' H H1 h h1 :=
  ⟨fun b ob q n hb he => u.keep b ob q n (fun z => hb (hs b z)) fun z => he (hx b z), fun _ _ q n _ he => u.any q n fun z => he (hx _ z), fun b ob q n he => u.free b ob q n fun z => he (hx b z), fun b ob q he => u.there b ob q fun z => he (hx b z), u.tups, u.frzs, u.tbls⟩
end

/-! ### the heap without what is tracked -/
def trk (h : Heap) (H : Hp) : List Addr := (List.range h.objs.size).filter fun a => (H a).isSome
def hidT (h : Heap) (H : Hp) : Heap := PySem.W.hideAll h (trk h H)
theorem hidT_size (h : Heap) (H : Hp) : (hidT h H).objs.size = h.objs.size := PySem.W.hideAll_size _ _
theorem hidT_get {h : Heap} {H : Hp} {b : Addr} {o : Obj} (e : h.get? b = some o) (n : H b = none) : (hidT h H).get? b = some o :=
  PySem.W.hideAll_get _ e fun hm => by
    have q : (H b).isSome = true := (List.mem_filter.mp hm).2
    rw [n] at q; simp at q
theorem of_hidT {h : Heap} {H : Hp} {b : Addr} {o : Obj} (e : (hidT h H).get? b = some o) : h.get? b = some o ∧ H b = none := by
  have e' : h.get? b = some o := PySem.W.of_hideAll (trk h H) e
  refine ⟨e', ?_⟩
  cases q : H b with
  | none => rfl
  | some x =>
    have hm : b ∈ trk h H := List.mem_filter.mpr ⟨List.mem_range.mpr (Heap.lt_size e'), by simp [q]⟩
    have z : (hidT h H).get? b = none := PySem.W.hideAll_none (trk h H) hm
    rw [z] at e; cases e

/-! ### OpenK's ledger, filled with every new object but one -/
def allNews (g h : Heap) (L : Addr) : List (Addr × Obj) := (List.range h.objs.size).filterMap fun a => if a = L ∨ (g.get? a).isSome = true then none else (h.get? a).map fun o => (a, o)
def rest (g h : Heap) (L d : Addr) : List (Addr × Obj) := (allNews g h L).filter fun p => decide (p.1 ≠ d)
end L2

namespace L2
open PySem PySem.Spec PyProof.Rows

/-- the module's facts, over the base: the heap at the law's entry without what is tracked there -/
structure Mod (K : PySem.W.Frag) (mg : Str → Option Value) (base : Heap) : Prop where
  kin : K.In base
  glob : base.Ns mainGlobals mg
  blt : ∃ mb, base.Ns builtinsNs mb ∧ ∀ x : Str, x ≠ "__name__" → mb x = bootBuiltins x
  nolimit : base.NoLimit

/-- the context: a def's body (or a comprehension's block) running. base: fixed through the whole law; s₀, H₀: the entry; outer: the frames whose slots others may change (a def's callers); stack: all frames that run;
   ex: iterators that were made ahead of the entry and are walked here (a comprehension's); fn: the names whose cells were made at the entry (a def: all; a comprehension's block: its own); calm: not within an except suite; pn: pins that every state bears; xe: what is wanted of an exception that leaves the code -/
structure Cx where
  prog : Program
  w : World
  K : PySem.W.Frag
  mg : Str → Option Value
  base : Heap
  A : Around
  N : List Str
  s₀ : Shared
  H₀ : Hp
  env : Env
  outer : List Env
  stack : List Env
  ex : List Addr
  fn : Str → Bool
  calm : Bool
  pn : List (Addr × Obj)
  xe : Value → Shared → Prop
/-- the callers' frames -/
def frs (l : List Env) : List Addr := l.filterMap (·.frame)
abbrev Cx.fs (X : Cx) : List Addr := frs X.outer

def Vis (sc : Scope) (x : Str) : Prop := sc.names.lookup x = some .local ∨ sc.names.lookup x = some .cell ∨ sc.names.lookup x = some .free
def Loc (sc : Scope) (x : Str) : Prop := sc.names.lookup x = some .local ∨ sc.names.lookup x = some .cell
def Look (env : Env) (h : Heap) (m : Str → Option Value) (x : Str) (u : Value) : Prop :=
  (env.kindOf x = some .local ∧ m x = some u) ∨ ((env.kindOf x = some .cell ∨ env.kindOf x = some .free) ∧ ∃ c, env.cells.lookup x = some c ∧ h.IsCell c (some u))

structure Cx.Ok (X : Cx) : Prop where
  mod : Mod X.K X.mg X.base
  kind : X.env.scope.kind = .function
  glob : X.env.globals = mainGlobals
  blt : X.env.builtins = builtinsNs
  above : X.s₀.heap.objs.size ≤ X.env.locals
  inj : ∀ x y c, X.env.cells.lookup x = some c → X.env.cells.lookup y = some c → x = y
  has : ∀ x, (X.env.kindOf x = some .cell ∨ X.env.kindOf x = some .free) → ∃ c, X.env.cells.lookup x = some c
  cab : ∀ x c, X.fn x = true → X.env.cells.lookup x = some c → X.s₀.heap.objs.size ≤ c
  hd : X.calm = true → X.A.handled = none
  frames : X.A.frames = some X.stack
  stk : X.stack = X.outer ∨ (X.stack = X.env :: X.outer ∧ X.env.frame = some X.env.locals)
  exf : ∀ b ∈ X.ex, b ≠ X.env.locals ∧ ∀ x c, X.env.cells.lookup x = some c → c ≠ b
  bs : ∀ b o, X.base.get? b = some o → X.s₀.heap.get? b = some o ∧ X.H₀ b = none
  bsz : X.base.objs.size ≤ X.s₀.heap.objs.size
  noex : ∀ b o, X.base.get? b = some o → b ∉ X.ex
  exfs : ∀ b ∈ X.ex, b ∉ X.fs
  funs : X.s₀.heap.FunFrames X.base X.outer
  frf : ∀ b ∈ X.fs, X.H₀ b = none

structure Inv (X : Cx) (pins : List (Addr × Obj)) (σ : List (Option V)) (H : Hp) (s : Shared) : Prop where
  ok : X.Ok
  os : s.os = X.s₀.os
  bare : AllBare s.gens
  base : Un X.fs X.ex X.H₀ H X.s₀.heap s.heap
  loc : ∃ m, s.heap.Ns X.env.locals m ∧ ∀ (i : Nat) (x : Str) (v : V), X.N[i]? = some x → σ[i]? = some (some v) → Vis X.env.scope x → ∃ u, RelV v u ∧ Look X.env s.heap m x u
  cell : ∀ x c, X.env.cells.lookup x = some c → ∃ v, s.heap.IsCell c v
  free : H X.env.locals = none
  freeC : ∀ x c, X.env.cells.lookup x = some c → H c = none
  pin : ∀ p ∈ X.pn ++ pins, s.heap.get? p.1 = some p.2 ∧ H p.1 = none ∧ p.1 ≠ X.env.locals ∧ p.1 ∉ X.fs ∧ ∀ v, p.2.data ≠ .cell v
  hok : HOk X.prog X.w H s.heap
  len : σ.length = X.N.length

section
variable {X : Cx} {pins : List (Addr × Obj)} {σ : List (Option V)} {H H' : Hp} {s : Shared} {h' : Heap}

theorem Cx.Ok.nofr (ok : X.Ok) {b : Addr} {o : Obj} (e : X.base.get? b = some o) : b ∉ X.fs := fun hb => by
  have := (ok.funs.mem hb).1
  rw [e] at this; cases this
theorem Inv.bs (I : Inv X pins σ H s) : ∀ b o, X.base.get? b = some o → s.heap.get? b = some o ∧ H b = none := fun b o e =>
  ⟨I.base.keep b o (I.ok.bs b o e).1 (I.ok.bs b o e).2 (I.ok.nofr e) (I.ok.noex b o e), I.base.free b o (I.ok.bs b o e).1 (I.ok.bs b o e).2 (I.ok.noex b o e)⟩
theorem Inv.bk (I : Inv X pins σ H s) : ∀ b o, X.base.get? b = some o → s.heap.get? b = some o := fun b o e => (I.bs b o e).1
theorem Inv.mod (I : Inv X pins σ H s) : Mod X.K X.mg X.base := I.ok.mod
theorem Inv.kIn (I : Inv X pins σ H s) : X.K.In s.heap := I.ok.mod.kin.keeps I.bk
theorem Inv.nolimit (I : Inv X pins σ H s) : s.heap.NoLimit := I.ok.mod.nolimit.keeps I.bk
theorem Inv.lt (I : Inv X pins σ H s) : X.env.locals < s.heap.objs.size := let ⟨_, hn, _⟩ := I.loc; hn.lt
theorem Inv.sz (I : Inv X pins σ H s) : X.s₀.heap.objs.size ≤ s.heap.objs.size := Nat.le_trans I.ok.above (Nat.le_of_lt I.lt)
theorem Inv.nofs (I : Inv X pins σ H s) {a : Addr} (h : s.heap.objs.size ≤ a) : a ∉ X.fs := fun hb => by
  obtain ⟨_, o, ho, _⟩ := I.ok.funs.mem hb
  exact absurd (Nat.lt_of_lt_of_le (Heap.lt_size ho) (Nat.le_trans I.sz h)) (Nat.lt_irrefl _)
theorem Inv.cne (I : Inv X pins σ H s) : ∀ x c, X.env.cells.lookup x = some c → c ≠ X.env.locals := fun x c e z => by
  obtain ⟨v, o, ho, hd⟩ := I.cell x c e
  obtain ⟨m, ⟨o', es, ep, ho', hd', _⟩, _⟩ := I.loc
  rw [z, ho'] at ho; cases ho; rw [hd'] at hd; cases hd
theorem Inv.funs (I : Inv X pins σ H s) : s.heap.FunFrames X.base X.outer := by
  have all : ∀ (l : List Env), (∀ b ∈ frs l, b ∈ X.fs) → X.s₀.heap.FunFrames X.base l → s.heap.FunFrames X.base l := by
    intro l
    induction l with
    | nil => intro _ _; trivial
    | cons env r ih =>
      intro hs hl
      obtain ⟨hk, ⟨L, o, hf, hn, ho, hd⟩, hr⟩ := hl
      have hL : L ∈ X.fs := hs L (by unfold frs; rw [List.filterMap_cons, hf]; exact List.mem_cons_self)
      obtain ⟨sl, e⟩ := I.base.slot L o ho (I.ok.frf L hL) hL fun z => I.ok.exfs L z hL
      exact ⟨hk, ⟨L, _, hf, hn, e, hd⟩, ih (fun b hb => hs b (by unfold frs; rw [List.filterMap_cons, hf]; exact List.mem_cons_of_mem _ hb)) hr⟩
  exact all X.outer (fun _ hb => hb) I.ok.funs

/-- the frames that run, for a call -/
theorem Inv.stack (I : Inv X pins σ H s) : s.heap.FunFrames X.base X.stack := by
  rcases I.ok.stk with e | ⟨e, hf⟩
  · rw [e]; exact I.funs
  · rw [e]
    obtain ⟨m, hn, _⟩ := I.loc
    refine .cons (by rw [I.ok.kind]; decide) hf hn ?_ I.funs
    exact Heap.get?_none_of_le (Nat.le_trans I.ok.bsz I.ok.above)
theorem Inv.stkSub (I : Inv X pins σ H s) : ∀ b ∈ frs X.stack, b ∈ X.env.locals :: X.fs := fun b hb => by
  rcases I.ok.stk with e | ⟨e, hf⟩
  · rw [e] at hb; exact List.mem_cons_of_mem _ hb
  · rw [e] at hb
    unfold frs at hb
    rw [List.filterMap_cons, hf] at hb
    exact hb
theorem Inv.stkFree (I : Inv X pins σ H s) : ∀ b ∈ frs X.stack, H b = none := fun b hb => by
  rcases List.mem_cons.mp (I.stkSub b hb) with e | hb
  · rw [e]; exact I.free
  · obtain ⟨_, o, ho, _⟩ := I.ok.funs.mem hb
    exact I.base.free b o ho (I.ok.frf b hb) fun z => I.ok.exfs b z hb

/-- THE STEP: the untracked objects but the frame and the records at ch are kept (the callers' frames up to slots), the frame's map is kept, the new abstract heap is held -/
theorem Inv.step {g' : Array GenState} {t' : Nat} {d' : Drawn} {ch : List Addr} (I : Inv X pins σ H s)
    (hch : ∀ b ∈ ch, (b ∈ X.ex ∨ X.s₀.heap.objs.size ≤ b) ∧ b ≠ X.env.locals ∧ (∀ x c, X.env.cells.lookup x = some c → c ≠ b) ∧ ∀ p ∈ X.pn ++ pins, p.1 ≠ b)
    (keep : ∀ b o, b ≠ X.env.locals → b ∉ X.fs → b ∉ ch → s.heap.get? b = some o → H b = none → h'.get? b = some o)
    (slot : ∀ b o, b ≠ X.env.locals → b ∈ X.fs → b ∉ ch → s.heap.get? b = some o → H b = none → ∃ sl, h'.get? b = some { o with slots := sl }) (free : ∀ b o, b ∉ ch → s.heap.get? b = some o → H b = none → H' b = none)
    (there : ∀ b o, b ∉ ch → s.heap.get? b = some o → ∃ o', h'.get? b = some o')
    (tups : ∀ b xs, H b = some (.tup xs) → H' b = some (.tup xs)) (frzs : ∀ b o u, H b = some (.frz o u) → H' b = some (.frz o u)) (tbls : ∀ b ps, H b = some (.tbl ps) → ∃ more, H' b = some (.tbl (ps ++ more)))
    (ns : ∀ m, s.heap.Ns X.env.locals m → h'.Ns X.env.locals m) (hok : HOk X.prog X.w H' h') (hg : AllBare g') :
    Inv X pins σ H' { s with heap := h', gens := g', drawn := d', toks := t' } := by
  have neL : ∀ b o, X.s₀.heap.get? b = some o → b ≠ X.env.locals := fun b o e => Nat.ne_of_lt (Nat.lt_of_lt_of_le (Heap.lt_size e) I.ok.above)
  have neC : ∀ b o, X.s₀.heap.get? b = some o → b ∉ X.ex → b ∉ ch := fun b o e hx hb => by
    rcases (hch b hb).1 with z | z
    · exact hx z
    · exact absurd (Nat.lt_of_lt_of_le (Heap.lt_size e) z) (Nat.lt_irrefl _)
  have cellK : ∀ x c, X.env.cells.lookup x = some c → ∀ v, s.heap.IsCell c v → h'.IsCell c v := fun x c e v ⟨o, ho, hd⟩ => by
    have nch : c ∉ ch := fun z => (hch c z).2.2.1 x c e rfl
    by_cases hc : c ∈ X.fs
    · obtain ⟨sl, q⟩ := slot c o (I.cne x c e) hc nch ho (I.freeC x c e)
      exact ⟨_, q, hd⟩
    · exact ⟨o, keep c o (I.cne x c e) hc nch ho (I.freeC x c e), hd⟩
  refine ⟨I.ok, I.os, hg, ⟨fun b o e n hb hx => ?_, fun b o e n hb hx => ?_, fun b o e n hx => ?_, fun b o e hx => ?_, fun b xs e => tups b xs (I.base.tups b xs e), fun b o xs e => frzs b o xs (I.base.frzs b o xs e), fun b ps e => ?_⟩, ?_, fun x c e => ?_, ?_, fun x c e => ?_, fun p hp => ?_, hok, I.len⟩
  · exact keep b o (neL b o e) hb (neC b o e hx) (I.base.keep b o e n hb hx) (I.base.free b o e n hx)
  · obtain ⟨sl, e1⟩ := I.base.slot b o e n hb hx
    obtain ⟨sl', e2⟩ := slot b _ (neL b o e) hb (neC b o e hx) e1 (I.base.free b o e n hx)
    exact ⟨sl', e2⟩
  · obtain ⟨o', e1⟩ := I.base.there b o e hx
    exact free b o' (neC b o e hx) e1 (I.base.free b o e n hx)
  · obtain ⟨o', e1⟩ := I.base.there b o e hx
    exact there b o' (neC b o e hx) e1
  · obtain ⟨m1, e1⟩ := I.base.tbls b ps e
    obtain ⟨m2, e2⟩ := tbls b _ e1
    exact ⟨m1 ++ m2, by rw [e2, Array.append_assoc]⟩
  · obtain ⟨m, hn, hl⟩ := I.loc
    refine ⟨m, ns m hn, fun i x v e1 e2 e3 => ?_⟩
    obtain ⟨u, r, l⟩ := hl i x v e1 e2 e3
    refine ⟨u, r, ?_⟩
    rcases l with l | ⟨k, c, e, z⟩
    · exact .inl l
    · exact .inr ⟨k, c, e, cellK x c e _ z⟩
  · obtain ⟨v, z⟩ := I.cell x c e
    exact ⟨v, cellK x c e v z⟩
  · obtain ⟨m, ⟨o, _, _, ho, _⟩, _⟩ := I.loc
    exact free _ o (fun z => (hch _ z).2.1 rfl) ho I.free
  · obtain ⟨v, o, ho, hd⟩ := I.cell x c e
    exact free c o (fun z => (hch c z).2.2.1 x c e rfl) ho (I.freeC x c e)
  · obtain ⟨e, n, ne, nf, d⟩ := I.pin p hp
    have nch : p.1 ∉ ch := fun z => (hch p.1 z).2.2.2 p hp rfl
    exact ⟨keep p.1 p.2 ne nf nch e n, free p.1 p.2 nch e n, ne, nf, d⟩
/-- .. where the frame's own object is kept too -/
theorem Inv.un {t' : Nat} (I : Inv X pins σ H s) (u : Un X.fs [] H H' s.heap h') (hok : HOk X.prog X.w H' h') : Inv X pins σ H' { s with heap := h', toks := t' } := by
  obtain ⟨m, ⟨o, es, ep, ho, r⟩, _⟩ := id I.loc
  obtain ⟨sl, hL⟩ := u.any ho I.free (by simp)
  exact I.step (g' := s.gens) (d' := s.drawn) (ch := []) (fun _ z => nomatch z) (fun b o _ hb _ e n => u.keep b o e n hb (by simp)) (fun b o _ hb _ e n => u.slot b o e n hb (by simp)) (fun b o _ e n => u.free b o e n (by simp)) (fun b o _ e => u.there b o e (by simp)) u.tups u.frzs u.tbls (fun m' hm => by
    obtain ⟨o', es', ep', ho', r'⟩ := hm
    rw [ho] at ho'; cases ho'
    exact ⟨_, es', ep', hL, r'⟩) hok I.bare
/-- behind a call (or a comprehension's block): the slots of this frame may have changed too, the records at ch may have turned -/
theorem Inv.call {g' : Array GenState} {t' : Nat} {d' : Drawn} {ch : List Addr} (I : Inv X pins σ H s) (u : Un (frs X.stack) ch H H' s.heap h') (hok : HOk X.prog X.w H' h') (hg : AllBare g')
    (hch : ∀ b ∈ ch, (b ∈ X.ex ∨ X.s₀.heap.objs.size ≤ b) ∧ b ≠ X.env.locals ∧ (∀ x c, X.env.cells.lookup x = some c → c ≠ b) ∧ ∀ p ∈ X.pn ++ pins, p.1 ≠ b) :
    Inv X pins σ H' { s with heap := h', gens := g', drawn := d', toks := t' } := by
  obtain ⟨m, ⟨o, es, ep, ho, r⟩, _⟩ := id I.loc
  obtain ⟨sl, hL⟩ := u.any ho I.free fun z => (hch _ z).2.1 rfl
  exact I.step (ch := ch) hch (fun b o hL hb hc e n => u.keep b o e n (fun z => (List.mem_cons.mp (I.stkSub b z)).elim hL hb) hc) (fun b o _ _ hc e n => u.any e n hc) (fun b o hc e n => u.free b o e n hc) (fun b o hc e => u.there b o e hc) u.tups u.frzs u.tbls (fun m' hm => by
    obtain ⟨o', es', ep', ho', r'⟩ := hm
    rw [ho] at ho'; cases ho'
    exact ⟨_, es', ep', hL, r'⟩) hok hg
/-- an untracked record of ours (an iterator) has turned -/
theorem Inv.turned {t' : Nat} {it : Addr} (I : Inv X pins σ H s) (k : ∀ b o, b ≠ it → s.heap.get? b = some o → h'.get? b = some o) (hn : H it = none) (hL : it ≠ X.env.locals)
    (h1 : it ∈ X.ex ∨ X.s₀.heap.objs.size ≤ it) (h2 : ∀ x c, X.env.cells.lookup x = some c → c ≠ it) (h3 : ∀ p ∈ X.pn ++ pins, p.1 ≠ it) : Inv X pins σ H { s with heap := h', toks := t' } := by
  have nit : ∀ b u, H b = some u → b ≠ it := fun b u e z => by rw [z, hn] at e; cases e
  refine I.step (g' := s.gens) (d' := s.drawn) (ch := [it]) (fun b hb => ?_) (fun b o _ _ hc e _ => k b o (fun z => hc (by simp [z])) e) (fun b o _ _ hc e _ => ⟨o.slots, k b o (fun z => hc (by simp [z])) e⟩) (fun _ _ _ _ n => n)
    (fun b o hc e => ⟨o, k b o (fun z => hc (by simp [z])) e⟩) (fun _ _ e => e) (fun _ _ _ e => e) (fun b ps e => ⟨#[], by rw [e]; simp⟩) (fun m hm => ?_) (fun b u e => ?_) I.bare
  · have e : b = it := by simpa using hb
    subst e
    exact ⟨h1, hL, h2, h3⟩
  · obtain ⟨o, es, ep, ho, r⟩ := hm
    exact ⟨o, es, ep, k _ o (Ne.symm hL) ho, r⟩
  · refine (I.hok b u e).stay (fun c v hc q => k c v ?_ q) (fun _ q => q) fun _ _ q => q
    rcases hc with z | z
    · rw [z]; exact nit b u e
    · exact nit c _ z
theorem Inv.tok (I : Inv X pins σ H s) (t : Nat) : Inv X pins σ H { s with toks := t } := I.un (h' := s.heap) (t' := t) Un.refl I.hok
/-- all objects kept -/
theorem Inv.kept {t' : Nat} (I : Inv X pins σ H s) (k : ∀ b u, s.heap.get? b = some u → h'.get? b = some u) : Inv X pins σ H { s with heap := h', toks := t' } := I.un (Un.kept k) (I.hok.kept k)
/-- a new object laid and tracked -/
theorem Inv.laid {a : Addr} {o : HO} {t' : Nat} (I : Inv X pins σ H s) (k : ∀ b u, s.heap.get? b = some u → h'.get? b = some u) (hp : s.heap.objs.size ≤ a) (new : ObjOk X.prog X.w (upd H a o) h' a o) :
    Inv X pins σ (upd H a o) { s with heap := h', toks := t' } := I.un (Un.laid k hp (I.hok.fresh hp)) (I.hok.laid k hp new)
/-- an object written -/
theorem Inv.write {x e : Addr} {o : HO} {t' : Nat} (I : Inv X pins σ H s) (mu : Mut (H x)) (he : e = x ∨ H e = some (.own x)) (k : ∀ b u, b ≠ e → s.heap.get? b = some u → h'.get? b = some u) (heo : ∃ u, h'.get? e = some u)
    (new : ObjOk X.prog X.w (upd H x o) h' x o) : Inv X pins σ (upd H x o) { s with heap := h', toks := t' } := I.un (Un.write mu he k heo) (I.hok.write mu he k heo new)
theorem Inv.pins_of {pins' : List (Addr × Obj)} (I : Inv X pins σ H s) (h : ∀ p ∈ pins', s.heap.get? p.1 = some p.2 ∧ H p.1 = none ∧ p.1 ≠ X.env.locals ∧ p.1 ∉ X.fs ∧ ∀ v, p.2.data ≠ .cell v) : Inv X pins' σ H s :=
  ⟨I.ok, I.os, I.bare, I.base, I.loc, I.cell, I.free, I.freeC, fun p hp => (List.mem_append.mp hp).elim (fun z => I.pin p (List.mem_append_left _ z)) (h p), I.hok, I.len⟩

theorem nodup_ix {N : List Str} (hN : N.Nodup) {i j : Nat} {x : Str} (a : N[i]? = some x) (b : N[j]? = some x) : i = j := by
  obtain ⟨h1, e1⟩ := List.getElem?_eq_some_iff.mp a
  obtain ⟨h2, e2⟩ := List.getElem?_eq_some_iff.mp b
  exact (List.getElem_inj hN).mp (e1.trans e2.symm)

/-- a name is stored; what changed -/
theorem store_ok2 {M : Model} {A : Around} {E : Value → Shared → Prop} {i : Nat} {x : Str} {v : V} {u : Value} {Q : Unit → Shared → Prop} (I : Inv X pins σ H s) (hN : X.N.Nodup) (hi : X.N[i]? = some x) (hx : Loc X.env.scope x) (r : RelV v u)
    (h : ∀ s', Inv X pins (σ.set i (some v)) H s' → (∃ a, Heap.SameBut a s.heap s'.heap ∧ (a = X.env.locals ∨ X.env.cells.lookup x = some a)) → Q () s') (hf : X.fn x = true ∨ X.env.scope.names.lookup x = some .local := by first | exact .inl rfl | exact .inr rfl | assumption) : wpAny M A (storeName X.env x u) Q E s := by
  obtain ⟨m, hn, hl⟩ := id I.loc
  have hcls : (X.env.scope.kind == .class || (X.env.scope.kind == .module && X.env.locals != X.env.globals)) = false := by rw [I.ok.kind]; rfl
  have hiσ : i < σ.length := by rw [I.len]; exact (List.getElem?_eq_some_iff.mp hi).1
  have cne := I.cne
  have tracked : ∀ {a : Addr} {h' : Heap}, (∃ o, s.heap.get? a = some o ∧ H a = none) → Heap.SameBut a s.heap h' → HOk X.prog X.w H h' := fun {a h'} ha hs b ob e => by
    obtain ⟨_, _, hfree⟩ := ha
    refine (I.hok b ob e).stay (fun c w' hc q => (hs.2 c ?_).trans q) (fun _ q => q) fun _ _ q => q
    rintro rfl
    rcases hc with rfl | hc
    · rw [hfree] at e; cases e
    · rw [hfree] at hc; cases hc
  rcases hx with hk | hk
  · refine wpAny_storeName_local hk hn (fun h' hn' hs => ?_) hcls
    obtain ⟨oL, _, _, hoL, _⟩ := id hn
    refine h _ ⟨I.ok, I.os, I.bare, ⟨fun b o e n hb hx => ?_, fun b o e n hb hx => ?_, I.base.free, fun b o e hx => ?_, I.base.tups, I.base.frzs, I.base.tbls⟩, ⟨_, hn', fun j y v' e1 e2 e3 => ?_⟩, fun y c e => ?_, I.free, I.freeC, fun p hp => ?_, tracked ⟨oL, hoL, I.free⟩ hs, by simpa using I.len⟩ ⟨_, hs, .inl rfl⟩
    · exact (hs.2 b (Nat.ne_of_lt (Nat.lt_of_lt_of_le (Heap.lt_size e) I.ok.above))).trans (I.base.keep b o e n hb hx)
    · obtain ⟨sl, e1⟩ := I.base.slot b o e n hb hx
      exact ⟨sl, (hs.2 b (Nat.ne_of_lt (Nat.lt_of_lt_of_le (Heap.lt_size e) I.ok.above))).trans e1⟩
    · obtain ⟨o', e1⟩ := I.base.there b o e hx
      exact ⟨o', (hs.2 b (Nat.ne_of_lt (Nat.lt_of_lt_of_le (Heap.lt_size e) I.ok.above))).trans e1⟩
    · by_cases hj : j = i
      · subst hj
        rw [hi] at e1; cases e1
        rw [List.getElem?_set_self hiσ] at e2
        cases e2
        exact ⟨u, r, .inl ⟨hk, by simp⟩⟩
      · rw [List.getElem?_set_ne (Ne.symm hj)] at e2
        obtain ⟨u', r', q⟩ := hl j y v' e1 e2 e3
        refine ⟨u', r', ?_⟩
        rcases q with ⟨k, e⟩ | ⟨k, c, e, z⟩
        · refine .inl ⟨k, ?_⟩
          have : y ≠ x := fun e => hj (nodup_ix hN e1 (e ▸ hi))
          simp [this, e]
        · exact .inr ⟨k, c, e, z.sameBut hs (cne y c e)⟩
    · obtain ⟨w', z⟩ := I.cell y c e
      exact ⟨w', z.sameBut hs (cne y c e)⟩
    · obtain ⟨e, n, ne, nf, d⟩ := I.pin p hp
      exact ⟨(hs.2 p.1 ne).trans e, n, ne, nf, d⟩
  · have hfn : X.fn x = true := by
      rcases hf with z | z
      · exact z
      · rw [z] at hk; cases hk
    obtain ⟨c, hc⟩ := I.ok.has x (.inl hk)
    obtain ⟨w', z⟩ := I.cell x c hc
    refine wpAny_storeName_cell I.ok.kind hk hc z (fun h' hc' hs => ?_)
    obtain ⟨oc, hoc, hocd⟩ := id z
    refine h { s with heap := h' } ⟨I.ok, I.os, I.bare, ⟨fun b o e n hb hx => ?_, fun b o e n hb hx => ?_, I.base.free, fun b o e hx => ?_, I.base.tups, I.base.frzs, I.base.tbls⟩, ⟨m, hn.sameBut hs (Ne.symm (cne x c hc)), fun j y v' e1 e2 e3 => ?_⟩, fun y c' e => ?_, I.free, I.freeC, fun p hp => ?_, tracked ⟨oc, hoc, I.freeC x c hc⟩ hs, by simpa using I.len⟩ ⟨c, hs, .inr hc⟩
    · exact (hs.2 b (Nat.ne_of_lt (Nat.lt_of_lt_of_le (Heap.lt_size e) (I.ok.cab x c hfn hc)))).trans (I.base.keep b o e n hb hx)
    · obtain ⟨sl, e1⟩ := I.base.slot b o e n hb hx
      exact ⟨sl, (hs.2 b (Nat.ne_of_lt (Nat.lt_of_lt_of_le (Heap.lt_size e) (I.ok.cab x c hfn hc)))).trans e1⟩
    · obtain ⟨o', e1⟩ := I.base.there b o e hx
      exact ⟨o', (hs.2 b (Nat.ne_of_lt (Nat.lt_of_lt_of_le (Heap.lt_size e) (I.ok.cab x c hfn hc)))).trans e1⟩
    · by_cases hj : j = i
      · subst hj
        rw [hi] at e1; cases e1
        rw [List.getElem?_set_self hiσ] at e2
        cases e2
        exact ⟨u, r, .inr ⟨.inl hk, c, hc, hc'⟩⟩
      · rw [List.getElem?_set_ne (Ne.symm hj)] at e2
        obtain ⟨u', r', q⟩ := hl j y v' e1 e2 e3
        refine ⟨u', r', ?_⟩
        rcases q with q | ⟨k, c', e, z'⟩
        · exact .inl q
        · refine .inr ⟨k, c', e, z'.sameBut hs ?_⟩
          rintro rfl
          exact hj (nodup_ix hN e1 (I.ok.inj _ _ _ e hc ▸ hi))
    · by_cases hcc : c' = c
      · subst hcc; exact ⟨_, hc'⟩
      · obtain ⟨w2, z2⟩ := I.cell y c' e
        exact ⟨w2, z2.sameBut hs hcc⟩
    · obtain ⟨e, n, ne, nf, d⟩ := I.pin p hp
      refine ⟨(hs.2 p.1 ?_).trans e, n, ne, nf, d⟩
      intro q
      rw [q, hoc] at e
      have q' : oc = p.2 := Option.some.inj e
      exact d w' (by rw [← q']; exact hocd)
theorem store_ok {M : Model} {A : Around} {E : Value → Shared → Prop} {i : Nat} {x : Str} {v : V} {u : Value} {Q : Unit → Shared → Prop} (I : Inv X pins σ H s) (hN : X.N.Nodup) (hi : X.N[i]? = some x) (hx : Loc X.env.scope x) (r : RelV v u)
    (h : ∀ s', Inv X pins (σ.set i (some v)) H s' → Q () s') (hf : X.fn x = true ∨ X.env.scope.names.lookup x = some .local := by first | exact .inl rfl | exact .inr rfl | assumption) : wpAny M A (storeName X.env x u) Q E s :=
  store_ok2 I hN hi hx r (fun s' I' _ => h s' I') hf
/-- behind a call or a block, the state as it is -/
theorem Inv.call' {s' : Shared} {ch : List Addr} (I : Inv X pins σ H s) (ho : s'.os = s.os) (u : Un (frs X.stack) ch H H' s.heap s'.heap) (hok : HOk X.prog X.w H' s'.heap) (hg : AllBare s'.gens)
    (hch : ∀ b ∈ ch, (b ∈ X.ex ∨ X.s₀.heap.objs.size ≤ b) ∧ b ≠ X.env.locals ∧ (∀ x c, X.env.cells.lookup x = some c → c ≠ b) ∧ ∀ p ∈ X.pn ++ pins, p.1 ≠ b) : Inv X pins σ H' s' := by
  obtain ⟨h', g', d', t', o'⟩ := s'
  have e : o' = s.os := ho
  subst e
  exact I.call (g' := g') (t' := t') (d' := d') u hok hg hch
end

/-! ### the judgements -/
/-- an exception: its class, its own dict's address (where it has one), the abstract heap behind it -/
abbrev XK := Value → Option Addr → Hp → Prop
abbrev St := List (Option V)
abbrev VK := V → Hp → Prop
/-- an expression's reading; a test's; an argument list's -/
abbrev TE := St → Hp → VK → Prop
abbrev TT := St → Hp → (Bool → Hp → Prop) → Prop
abbrev TA := St → Hp → (List V → Hp → Prop) → Prop
/-- what is wanted behind a statement -/
structure Ends where
  nx : St → Hp → Prop
  rt : VK
  bk : St → Hp → Prop := fun _ _ => False
  ct : St → Hp → Prop := fun _ _ => False
abbrev TS := Ends → St → Hp → Prop

def EP (X : Cx) (pins : List (Addr × Obj)) (σ : St) (Q : VK) (u : Value) (s' : Shared) : Prop := ∃ v H', Inv X pins σ H' s' ∧ RelV v u ∧ Q v H'
def TP (X : Cx) (pins : List (Addr × Obj)) (σ : St) (Q : Bool → Hp → Prop) (b : Bool) (s' : Shared) : Prop := ∃ H', Inv X pins σ H' s' ∧ Q b H'
def AP (X : Cx) (pins : List (Addr × Obj)) (σ : St) (Q : List V → Hp → Prop) (us : List Value) (s' : Shared) : Prop := ∃ vs H', Inv X pins σ H' s' ∧ Vals vs us ∧ Q vs H'
def SP (X : Cx) (pins : List (Addr × Obj)) (D : Ends) (f : Flow) (s' : Shared) : Prop :=
  match f with
  | .next => ∃ σ' H', Inv X pins σ' H' s' ∧ D.nx σ' H'
  | .brk => ∃ σ' H', Inv X pins σ' H' s' ∧ D.bk σ' H'
  | .cont => ∃ σ' H', Inv X pins σ' H' s' ∧ D.ct σ' H'
  | .ret u => ∃ v σ' H', Inv X pins σ' H' s' ∧ RelV v u ∧ D.rt v H'

def PE (X : Cx) (e : Expr) (t : TE) : Prop :=
  ∀ (pins : List (Addr × Obj)) (s : Shared) (σ : St) (H : Hp) (Q : VK), Inv X pins σ H s → t σ H Q → wpAny (model X.prog X.w) X.A (eval e X.env) (EP X pins σ Q) X.xe s
def PT (X : Cx) (e : Expr) (t : TT) : Prop :=
  ∀ (pins : List (Addr × Obj)) (s : Shared) (σ : St) (H : Hp) (Q : Bool → Hp → Prop), Inv X pins σ H s → t σ H Q → wpAny (model X.prog X.w) X.A (isTrue e X.env (eval e X.env)) (TP X pins σ Q) X.xe s
/-- a test whatever its 'whole' is (and, or) -/
def PW (X : Cx) (e : Expr) (t : TT) : Prop :=
  ∀ (whole : Sem Value) (pins : List (Addr × Obj)) (s : Shared) (σ : St) (H : Hp) (Q : Bool → Hp → Prop), Inv X pins σ H s → t σ H Q → wpAny (model X.prog X.w) X.A (isTrue e X.env whole) (TP X pins σ Q) X.xe s
theorem PW.pt {X : Cx} {e : Expr} {t : TT} (h : PW X e t) : PT X e t := h _
/-- an argument list (no star), from the left -/
def PA (X : Cx) (es : List Expr) (t : TA) : Prop :=
  ∀ (pos : Pos) (pins : List (Addr × Obj)) (s : Shared) (σ : St) (H : Hp) (Q : List V → Hp → Prop), Inv X pins σ H s → t σ H Q → wpAny (model X.prog X.w) X.A (spliced (backTo pos (starEach es X.env))) (AP X pins σ Q) X.xe s
def PS (X : Cx) (st : Stmt) (t : TS) : Prop :=
  ∀ (pins : List (Addr × Obj)) (s : Shared) (σ : St) (H : Hp) (D : Ends), Inv X pins σ H s → t D σ H → wpAny (model X.prog X.w) X.A (exec st X.env) (SP X pins D) X.xe s
def PSs (X : Cx) (st : List Stmt) (t : TS) : Prop :=
  ∀ (pins : List (Addr × Obj)) (s : Shared) (σ : St) (H : Hp) (D : Ends), Inv X pins σ H s → t D σ H → wpAny (model X.prog X.w) X.A (execs st X.env) (SP X pins D) X.xe s
/-- weaken the end -/
theorem thn {α : Type} {t : Sem α} {Q Q' : α → Shared → Prop} {M : Model} {A : Around} {E : Value → Shared → Prop} {s : Shared} (h : wpAny M A t Q E s) (hQ : ∀ a s, Q a s → Q' a s) : wpAny M A t Q' E s := wpAny_mono h hQ fun _ _ x => x
end L2

namespace L2
open PySem PySem.Spec PyProof.Rows
section
variable {X : Cx}

/-! ### names and constants -/
def tVar (i : Nat) : TE := fun σ H Q => ∃ v, σ[i]? = some (some v) ∧ Q v H
def tC (v : V) : TE := fun _ H Q => Q v H
theorem pe_var {i : Nat} {x : Str} {pos : Pos} (hN : X.N[i]? = some x) (hv : Vis X.env.scope x) (hd : (x == ("__debug__" : Str)) = false := by decide) (hcd : (x == ("__classdict__" : Str)) = false := by decide) : PE X (.Name x pos) (tVar i) := by
  intro pins s σ H Q I h
  obtain ⟨v, e, h⟩ := h
  obtain ⟨m, hn, hl⟩ := I.loc
  obtain ⟨u, r, l⟩ := hl i x v hN e hv
  have fin : EP X pins σ Q u s := ⟨v, H, I, r, h⟩
  rcases l with ⟨hk, hm⟩ | ⟨hk, c, hc, hcell⟩
  · exact wpAny_Name (wpAny_loadName_local I.ok.kind hk hn hm fin) hd
  · rcases hk with hk | hk
    · exact wpAny_Name (wpAny_loadName_cell I.ok.kind hk hc hcell fin) hd
    · exact wpAny_Name (wpAny_loadName_free I.ok.kind hk hc hcell fin hcd) hd
theorem pe_int {i j pos} : PE X (.Constant (.int i) j pos) (tC (.int i)) := fun _ _ _ H _ I h => wpAny_Constant_int ⟨.int i, H, I.tok _, ⟨_, rfl⟩, h⟩
theorem pe_bl {b j pos} : PE X (.Constant (.bool b) j pos) (tC (.bl b)) := fun _ _ _ H _ I h => Constant_bool ⟨.bl b, H, I, rfl, h⟩
theorem pe_non {j pos} : PE X (.Constant .none j pos) (tC .non) := fun _ _ _ H _ I h => Constant_none ⟨.non, H, I, rfl, h⟩
theorem pe_str {x j pos} : PE X (.Constant (.str x) j pos) (tC (.str x)) := fun _ _ _ H _ I h => Calls.Constant_str ⟨.str x, H, I.tok _, ⟨_, rfl⟩, h⟩

/-- a global name of the def -/
def Gl (X : Cx) (x : Str) : Prop := X.env.kindOf x = some .globalImplicit
theorem ld_glob {E : Value → Shared → Prop} {pins : List (Addr × Obj)} {s : Shared} {σ : St} {H : Hp} {x : Str} {u : Value} {pos : Pos} {Q : Value → Shared → Prop} (I : Inv X pins σ H s) (hg : Gl X x) (hm : X.mg x = some u) (h : Q u s)
    (hd : (x == ("__debug__" : Str)) = false := by decide) : wpAny (model X.prog X.w) X.A (eval (.Name x pos) X.env) Q E s :=
  Calls.Name_function_global I.ok.kind hg (Calls.loadGlobal_global (by rw [I.ok.glob]; exact I.mod.glob.keeps I.bk) hm h) hd
theorem ld_blt {E : Value → Shared → Prop} {pins : List (Addr × Obj)} {s : Shared} {σ : St} {H : Hp} {x : Str} {u : Value} {pos : Pos} {Q : Value → Shared → Prop} (I : Inv X pins σ H s) (hg : Gl X x) (hm : X.mg x = none) (hv : bootBuiltins x = some u) (h : Q u s)
    (hn : x ≠ "__name__" := by decide) (hd : (x == ("__debug__" : Str)) = false := by decide) : wpAny (model X.prog X.w) X.A (eval (.Name x pos) X.env) Q E s := by
  obtain ⟨mb, h1, h2⟩ := I.mod.blt
  exact Calls.Name_function_global I.ok.kind hg (Calls.loadGlobal_builtin (by rw [I.ok.glob]; exact I.mod.glob.keeps I.bk) hm (by rw [I.ok.blt]; exact h1.keeps I.bk) ((h2 x hn).trans hv) h) hd
/-- a module's constant, a class, a function, as a value -/
theorem pe_glob {x : Str} {v : V} {u : Value} {pos : Pos} (hg : Gl X x) (hm : X.mg x = some u) (r : RelV v u) (hd : (x == ("__debug__" : Str)) = false := by decide) : PE X (.Name x pos) (tC v) :=
  fun _ _ _ H _ I h => ld_glob I hg hm ⟨v, H, I, r, h⟩ hd
theorem pe_bltn {x : Str} {v : V} {u : Value} {pos : Pos} (hg : Gl X x) (hm : X.mg x = none) (hv : bootBuiltins x = some u) (r : RelV v u) (hn : x ≠ "__name__" := by decide) (hd : (x == ("__debug__" : Str)) = false := by decide) : PE X (.Name x pos) (tC v) :=
  fun _ _ _ H _ I h => ld_blt I hg hm hv ⟨v, H, I, r, h⟩ hn hd

variable {a b : Expr} {ta tb : TE} {pos : Pos}
/-- a comparison as a value, as a test -/
def tB (t : TE) : TT := fun σ H Q => t σ H fun x H1 => ∃ c, x = .bl c ∧ Q c H1
/-- an expression whose value is a bool, as a test -/
theorem pt_val {e : Expr} {t : TE} (h : PE X e t) (he : ∀ whole, isTrue e X.env whole = (do let v ← whole; standAt e.pos; holding [v] (truthy v)) := by intro _; rfl) : PT X e (tB t) := by
  intro pins s σ H Q I hw
  refine isTrue_plain (thn (h pins s σ H _ I hw) fun v s1 ⟨x, H1, I1, r1, q1⟩ => ?_) (he _)
  obtain ⟨d, rfl, q⟩ := q1
  cases r1
  exact wpAny_truthy_bool ⟨H1, I1, q⟩

/-! ### and, or, not -/
variable {tA tB' : TT} {rest : List Expr}
def tOr (t u : TT) : TT := fun σ H Q => t σ H fun c H1 => if c = true then Q true H1 else u σ H1 Q
def tNot (t : TT) : TT := fun σ H Q => t σ H fun c H1 => Q (!c) H1
theorem pw_or1 (ha : PT X a tA) : PW X (.BoolOp .Or [a] pos) tA := by
  intro wh pins s σ H Q I h
  refine isTrue_or (thn (ha pins s σ H Q I h) fun c s1 e => ?_)
  cases c with
  | false => exact isTrue_or_nil e
  | true => exact e
theorem pw_or (ha : PT X a tA) (hb : PW X (.BoolOp .Or (b :: rest) pos) tB') : PW X (.BoolOp .Or (a :: b :: rest) pos) (tOr tA tB') := by
  intro wh pins s σ H Q I h
  refine isTrue_or (thn (ha pins s σ H _ I h) fun c s1 ⟨H1, I1, q1⟩ => ?_)
  cases c with
  | true => exact ⟨H1, I1, q1⟩
  | false => exact hb wh pins s1 σ H1 Q I1 q1
theorem pt_not (ha : PT X a tA) : PT X (.UnaryOp .Not a pos) (tNot tA) := by
  intro pins s σ H Q I h
  exact isTrue_not (ha pins s σ H (fun c H1 => Q (!c) H1) I h)
/-- a if t else b -/
def tIf (t : TT) (ta tb : TE) : TE := fun σ H Q => t σ H fun c H1 => if c = true then ta σ H1 Q else tb σ H1 Q
theorem pe_ifExp {c : Expr} (hc : PT X c tA) (ha : PE X a ta) (hb : PE X b tb) : PE X (.IfExp c a b pos) (tIf tA ta tb) := by
  intro pins s σ H Q I h
  refine wpAny_IfExp (thn (hc pins s σ H _ I h) fun d s1 ⟨H1, I1, q1⟩ => ?_)
  cases d with
  | true => exact ha pins s1 σ H1 Q I1 q1
  | false => exact hb pins s1 σ H1 Q I1 q1
end
end L2

namespace L2
open PySem PySem.Spec PyProof.Rows

/-! ### a list, a tuple that is read: tracked, frozen, or an object of the module -/
def SqL (K : PySem.W.Frag) (H : Hp) (a : Addr) (xs : List V) : Prop :=
  Rd H a (.lst xs) ∨
    ∃ (o : Obj) (its : Array Value) (n : Nat), K.lookup a = some o ∧ o.cls = .type "list" ∧ o.dict = none ∧ o.data = .seq its n ∧ its.size ≤ sizeLine ∧ Vals xs its.toList
def SqT (K : PySem.W.Frag) (H : Hp) (a : Addr) (xs : List V) : Prop :=
  Rd H a (.tup xs) ∨
    ∃ (o : Obj) (its : Array Value) (n : Nat), K.lookup a = some o ∧ o.cls = .type "tuple" ∧ o.data = .seq its n ∧ its.size ≤ sizeLine ∧ Vals xs its.toList
def absV : Value → Option V
  | .none => some .non
  | .bool b => some (.bl b)
  | .int i _ => some (.int i)
  | .str x _ => some (.str x)
  | .bytes b _ => some (.byt b)
  | .float b _ => some (.flt b)
  | .ref a => some (.ref a)
  | .type n => some (.ty n)
  | _ => none
theorem RelV.abs {x : V} {u : Value} (r : RelV x u) : absV u = some x := by
  cases x with
  | non => cases r; rfl
  | bl _ => cases r; rfl
  | int _ => obtain ⟨t, rfl⟩ := r; rfl
  | str _ => obtain ⟨t, rfl⟩ := r; rfl
  | byt _ => obtain ⟨t, rfl⟩ := r; rfl
  | flt _ => obtain ⟨t, rfl⟩ := r; rfl
  | ref _ => cases r; rfl
  | ty _ => cases r; rfl
theorem RelV.inj {x y : V} {u : Value} (r : RelV x u) (q : RelV y u) : x = y := Option.some.inj (r.abs.symm.trans q.abs)
theorem Vals.inj : ∀ {xs ys : List V} {us : List Value}, Vals xs us → Vals ys us → xs = ys
  | _, _, _, .nil, .nil => rfl
  | _, _, _, .cons r t, .cons r' t' => by rw [r.inj r', Vals.inj t t']
section
variable {X : Cx} {pins : List (Addr × Obj)} {σ : St} {H : Hp} {s : Shared} {a : Addr} {xs ys : List V}
theorem SqL.of {K : PySem.W.Frag} (h : H a = some (.lst xs)) : SqL K H a xs := .inl (.inl h)
theorem SqT.of {K : PySem.W.Frag} (h : H a = some (.tup xs)) : SqT K H a xs := .inl (.inl h)
theorem Inv.list (I : Inv X pins σ H s) (h : SqL X.K H a xs) : ∃ its : List Value, Vals xs its ∧ PlainL s.heap a its.toArray ∧ xs.length ≤ sizeLine := by
  rcases h with h | ⟨o, its, n, hk, hc, hd, hs, hz, r⟩
  · obtain ⟨z, its, n, r, e⟩ := h.ok I.hok
    exact ⟨its, r, ⟨_, n, e, rfl, rfl, rfl⟩, z⟩
  · refine ⟨its.toList, r, ⟨o, n, I.kIn a o hk, hc, hd, by simpa using hs⟩, ?_⟩
    have e := r.length
    simp only [Array.length_toList] at e
    omega
theorem Inv.tuple (I : Inv X pins σ H s) (h : SqT X.K H a xs) : ∃ its : List Value, Vals xs its ∧ IsTup s.heap a its.toArray ∧ xs.length ≤ sizeLine := by
  rcases h with h | ⟨o, its, n, hk, hc, hs, hz, r⟩
  · obtain ⟨z, its, r, p⟩ := h.ok I.hok
    exact ⟨its, r, p, z⟩
  · refine ⟨its.toList, r, ⟨o, I.kIn a o hk, hc, n, by simpa using hs⟩, ?_⟩
    have e := r.length
    simp only [Array.length_toList] at e
    omega
theorem Inv.list_inj (I : Inv X pins σ H s) (h : SqL X.K H a xs) (h' : SqL X.K H a ys) : xs = ys := by
  obtain ⟨its, r, ⟨o, n, e, _, _, d⟩, _⟩ := I.list h
  obtain ⟨its', r', ⟨o', n', e', _, _, d'⟩, _⟩ := I.list h'
  rw [e] at e'; cases e'
  rw [d] at d'
  injection d' with d1 _
  have : its = its' := by simpa using congrArg Array.toList d1
  subst this
  exact r.inj r'
theorem Inv.tuple_inj (I : Inv X pins σ H s) (h : SqT X.K H a xs) (h' : SqT X.K H a ys) : xs = ys := by
  obtain ⟨its, r, ⟨o, e, _, n, d⟩, _⟩ := I.tuple h
  obtain ⟨its', r', ⟨o', e', _, n', d'⟩, _⟩ := I.tuple h'
  rw [e] at e'; cases e'
  rw [d] at d'
  injection d' with d1 _
  have : its = its' := by simpa using congrArg Array.toList d1
  subst this
  exact r.inj r'
end

/-! ### another wish about exceptions -/
abbrev Cx.wish (X : Cx) (E : Value → Shared → Prop) : Cx := { X with xe := E }
/-- no exception leaves -/
abbrev Cx.nox (X : Cx) : Cx := X.wish fun _ _ => False
theorem Cx.Ok.wish {X : Cx} (ok : X.Ok) (E : Value → Shared → Prop) : (X.wish E).Ok :=
  ⟨ok.mod, ok.kind, ok.glob, ok.blt, ok.above, ok.inj, ok.has, ok.cab, ok.hd, ok.frames, ok.stk, ok.exf, ok.bs, ok.bsz, ok.noex, ok.exfs, ok.funs, ok.frf⟩
theorem Cx.Ok.unwish {X : Cx} {E : Value → Shared → Prop} (ok : (X.wish E).Ok) : X.Ok :=
  ⟨ok.mod, ok.kind, ok.glob, ok.blt, ok.above, ok.inj, ok.has, ok.cab, ok.hd, ok.frames, ok.stk, ok.exf, ok.bs, ok.bsz, ok.noex, ok.exfs, ok.funs, ok.frf⟩
section
variable {X : Cx} {pins : List (Addr × Obj)} {σ : St} {H : Hp} {s : Shared} {E : Value → Shared → Prop}
theorem Inv.wish (I : Inv X pins σ H s) (E : Value → Shared → Prop) : Inv (X.wish E) pins σ H s := ⟨I.ok.wish E, I.os, I.bare, I.base, I.loc, I.cell, I.free, I.freeC, I.pin, I.hok, I.len⟩
theorem Inv.unwish (I : Inv (X.wish E) pins σ H s) : Inv X pins σ H s := ⟨I.ok.unwish, I.os, I.bare, I.base, I.loc, I.cell, I.free, I.freeC, I.pin, I.hok, I.len⟩
theorem SP.unwish {D : Ends} {f : Flow} {s' : Shared} (h : SP (X.wish E) pins D f s') : SP X pins D f s' := by
  cases f with
  | next => obtain ⟨σ', H', I, q⟩ := h; exact ⟨σ', H', I.unwish, q⟩
  | brk => obtain ⟨σ', H', I, q⟩ := h; exact ⟨σ', H', I.unwish, q⟩
  | cont => obtain ⟨σ', H', I, q⟩ := h; exact ⟨σ', H', I.unwish, q⟩
  | ret u => obtain ⟨v, σ', H', I, r, q⟩ := h; exact ⟨v, σ', H', I.unwish, r, q⟩
theorem PE.nox {e : Expr} {t : TE} (h : PE X.nox e t) : PE X e t := fun pins s σ H Q I hw =>
  wpAny_mono (h pins s σ H Q (I.wish _) hw) (fun _ _ ⟨v, H', I', r, q⟩ => ⟨v, H', I'.unwish, r, q⟩) fun _ _ z => False.elim z
theorem PT.nox {e : Expr} {t : TT} (h : PT X.nox e t) : PT X e t := fun pins s σ H Q I hw =>
  wpAny_mono (h pins s σ H Q (I.wish _) hw) (fun _ _ ⟨H', I', q⟩ => ⟨H', I'.unwish, q⟩) fun _ _ z => False.elim z
theorem PSs.nox {st : List Stmt} {t : TS} (h : PSs X.nox st t) : PSs X st t := fun pins s σ H D I hw =>
  wpAny_mono (h pins s σ H D (I.wish _) hw) (fun _ _ q => q.unwish) fun _ _ z => False.elim z
end

/-! ### blocks and small statements -/
section
variable {X : Cx} {st : Stmt} {rest : List Stmt} {t u : TS} {e : Expr} {te : TE} {pos : Pos}
def tNext : TS := fun D σ H => D.nx σ H
def tSeq (t u : TS) : TS := fun D σ H => t { D with nx := u D } σ H
theorem pss_nil : PSs X [] tNext := fun _ _ σ H _ I h => wpAny_execs_nil ⟨σ, H, I, h⟩
theorem pss_cons (h1 : PS X st t) (h2 : PSs X rest u) : PSs X (st :: rest) (tSeq t u) := by
  intro pins s σ H D I h
  refine wpAny_execs_cons (thn (h1 pins s σ H { D with nx := u D } I h) fun f s1 q => ?_)
  cases f with
  | next =>
    obtain ⟨σ', H', I', q⟩ := q
    exact h2 pins s1 σ' H' D I' q
  | ret v => exact q
  | brk => exact q
  | cont => exact q
theorem pss_one (h1 : PS X st t) : PSs X [st] t := by
  intro pins s σ H D I h
  refine wpAny_execs_cons (thn (h1 pins s σ H D I h) fun f s1 q => ?_)
  cases f with
  | next => exact wpAny_execs_nil q
  | ret v => exact q
  | brk => exact q
  | cont => exact q
/-- in a def's body nothing is shown -/
theorem Inv.quiet {pins : List (Addr × Obj)} {σ : St} {H : Hp} {s : Shared} (I : Inv X pins σ H s) : interactive X.env = false := by simp [interactive, I.ok.kind]
/-- an expression whose value is dropped -/
def tDrop (te : TE) : TS := fun D σ H => te σ H fun _ H1 => D.nx σ H1
theorem ps_expr (he : PE X e te) (hs : swapsWith e none pos.line X.env = pure false := by rfl) : PS X (.Expr e pos) (tDrop te) := by
  intro pins s σ H D I h
  exact wpAny_Expr_any (thn (he pins s σ H _ I h) fun v s1 ⟨x, H1, I1, r1, q1⟩ => ⟨σ, H1, I1, q1⟩) I.quiet hs
def tRet (te : TE) : TS := fun D σ H => te σ H D.rt
theorem ps_ret (he : PE X e te) : PS X (.Return (some e) pos) (tRet te) := by
  intro pins s σ H D I h
  exact wpAny_Return_some (thn (he pins s σ H _ I h) fun v s1 ⟨x, H1, I1, r1, q1⟩ => ⟨x, σ, H1, I1, r1, q1⟩)
def tIfS (c : TT) (t u : TS) : TS := fun D σ H => c σ H fun b H1 => if b = true then t D σ H1 else u D σ H1
theorem ps_if {c : Expr} {a b : List Stmt} {tc : TT} (hc : PT X c tc) (ha : PSs X a t) (hb : PSs X b u) : PS X (.If c a b pos) (tIfS tc t u) := by
  intro pins s σ H D I h
  refine wpAny_If (thn (hc pins s σ H _ I h) fun d s1 ⟨H1, I1, q1⟩ => ?_)
  cases d with
  | true => exact ha pins s1 σ H1 D I1 q1
  | false => exact hb pins s1 σ H1 D I1 q1
/-- code that the proof never comes to -/
def tNever : TS := fun _ _ _ => False
theorem pss_never {sts : List Stmt} : PSs X sts tNever := fun _ _ _ _ _ _ h => h.elim
end

/-! ### targets -/
abbrev TG := V → St → Hp → (St → Hp → Prop) → Prop
abbrev TGs := List V → St → Hp → (St → Hp → Prop) → Prop
def PG (X : Cx) (target : Expr) (t : TG) : Prop :=
  ∀ (pins : List (Addr × Obj)) (s : Shared) (σ : St) (H : Hp) (v : V) (u : Value) (Q : St → Hp → Prop), Inv X pins σ H s → RelV v u → t v σ H Q →
    wpAny (model X.prog X.w) X.A (assign target X.env u) (fun _ s' => ∃ σ' H', Inv X pins σ' H' s' ∧ Q σ' H') X.xe s
/-- several targets, one after another -/
def PGs (X : Cx) (ts : List Expr) (t : TGs) : Prop :=
  ∀ (pins : List (Addr × Obj)) (s : Shared) (σ : St) (H : Hp) (vs : List V) (us : List Value) (Q : St → Hp → Prop), Inv X pins σ H s → Vals vs us → t vs σ H Q →
    wpAny (model X.prog X.w) X.A (assignInOrder ((assignEach ts X.env).map (·.2)) us) (fun _ s' => ∃ σ' H', Inv X pins σ' H' s' ∧ Q σ' H') X.xe s
/-- o[i] = v, by values -/
abbrev TSet := V → V → V → Hp → (Hp → Prop) → Prop
def PSet (X : Cx) (t : TSet) : Prop :=
  ∀ (pins : List (Addr × Obj)) (s : Shared) (σ : St) (H : Hp) (o i v : V) (ov iv u : Value) (Q : Hp → Prop), Inv X pins σ H s → RelV o ov → RelV i iv → RelV v u → t o i v H Q →
    wpAny (model X.prog X.w) X.A (setItem ov iv u) (fun _ s' => ∃ H', Inv X pins σ H' s' ∧ Q H') X.xe s
section
variable {X : Cx} {pos : Pos}
def gName (i : Nat) : TG := fun v σ H Q => Q (σ.set i (some v)) H
theorem pg_name {i : Nat} {x : Str} (hN : X.N.Nodup) (hi : X.N[i]? = some x) (hx : Loc X.env.scope x) (hf : X.fn x = true ∨ X.env.scope.names.lookup x = some .local := by first | exact .inl rfl | exact .inr rfl | assumption) : PG X (.Name x pos) (gName i) := by
  intro pins s σ H v u Q I r h
  exact wpAny_assign_Name (store_ok I hN hi hx r (fun s' I' => ⟨_, H, I', h⟩) hf)
def gNil : TGs := fun vs σ H Q => vs = [] ∧ Q σ H
def gCons (t : TG) (u : TGs) : TGs := fun vs σ H Q => ∃ v r, vs = v :: r ∧ t v σ H fun σ' H' => u r σ' H' Q
theorem pgs_nil : PGs X [] gNil := by
  intro pins s σ H vs us Q I r h
  obtain ⟨e, h⟩ := h
  subst e
  cases r
  exact assignInOrder_nil ⟨σ, H, I, h⟩
theorem pgs_cons {e : Expr} {es : List Expr} {t : TG} {u : TGs} (h1 : PG X e t) (h2 : PGs X es u)
    (hs : (assignEach (e :: es) X.env).map (·.2) = assign e X.env :: (assignEach es X.env).map (·.2) := by rfl) : PGs X (e :: es) (gCons t u) := by
  intro pins s σ H vs us Q I r h
  obtain ⟨v, vr, e1, h⟩ := h
  subst e1
  cases r with
  | cons r rr =>
    rw [hs]
    refine assignInOrder_cons (thn (h1 pins s σ H _ _ _ I r h) fun _ s1 ⟨σ1, H1, I1, q1⟩ => ?_)
    exact h2 pins s1 σ1 H1 _ _ Q I1 rr q1
/-- (a, b, ..) = a tuple of that length -/
def gTup (K : PySem.W.Frag) (n : Nat) (t : TGs) : TG := fun v σ H Q => ∃ a xs, v = .ref a ∧ SqT K H a xs ∧ xs.length = n ∧ t xs σ H Q
theorem pg_tup {es : List Expr} {k : Nat} {t : TGs} {n : Nat} (hc : X.calm = true) (h : PGs X es t)
    (hn : (assignEach es X.env).length = n := by rfl) (hst : (assignEach es X.env).findIdx? (·.1) = none := by rfl) : PG X (.Tuple es k pos) (gTup X.K n t) := by
  intro pins s σ H v u Q I r hw
  obtain ⟨a, xs, e1, hq, hl, hw⟩ := hw
  subst e1
  cases r
  obtain ⟨its, rv, ht, hz⟩ := I.tuple hq
  refine assign_Tuple_tuple (I.ok.hd hc) ht (by simp [hn, ← hl, rv.length]) hst fun h' hx => ?_
  have I1 : Inv X pins σ H { s with heap := h' } := I.kept (t' := s.toks) fun b o e => hx b o (Nat.ne_of_lt (Heap.lt_size e)) e
  exact h pins _ σ H xs _ Q I1 (by simpa using rv) hw
/-- o[i] = .. -/
def gSub (to ti : TE) (t : TSet) : TG := fun v σ H Q => to σ H fun o H1 => ti σ H1 fun i H2 => t o i v H2 fun H3 => Q σ H3
theorem pg_sub {o i : Expr} {to ti : TE} {t : TSet} (ho : PE X o to) (hi : PE X i ti) (hs : PSet X t)
    (ha : ∀ v, assign (.Subscript o i pos) X.env v = (do
      let ov ← holding [v] (eval o X.env)
      let iv ← holding [v, ov] (eval i X.env)
      standAt pos
      holding [v, ov, iv] (setItem ov iv v)
      release [v, ov, iv] []) := by intro _; rfl) : PG X (.Subscript o i pos) (gSub to ti t) := by
  intro pins s σ H v u Q I r h
  rw [ha]
  refine wpAny_bind (wpAny_holding (thn (ho pins s σ H _ I h) fun ov s1 ⟨x, H1, I1, r1, q1⟩ => ?_))
  refine wpAny_bind (wpAny_holding (thn (hi pins s1 σ H1 _ I1 q1) fun iv s2 ⟨y, H2, I2, r2, q2⟩ => ?_))
  refine wpAny_bind (wpAny_standAt (wpAny_bind (wpAny_holding (thn (hs pins s2 σ H2 x y v ov iv u _ I2 r1 r2 r q2) fun _ s3 ⟨H3, I3, q3⟩ => ?_))))
  exact wpAny_release ⟨σ, H3, I3, q3⟩
/-- target = value -/
def tAsg (te : TE) (g : TG) : TS := fun D σ H => te σ H fun x H1 => g x σ H1 D.nx
theorem ps_asg {tg e : Expr} {te : TE} {g : TG} (he : PE X e te) (hg : PG X tg g) (hs : swapsWithSole [tg] e pos.line X.env = pure false := by rfl) (hw : swappedStores [tg] e X.env = pure none := by rfl)
    (h1 : (assignEach [tg] X.env).map (·.2) = [assign tg X.env] := by rfl) : PS X (.Assign [tg] e pos) (tAsg te g) := by
  intro pins s σ H D I h
  refine wpAny_Assign_stores (thn (he pins s σ H _ I h) fun v s1 ⟨x, H1, I1, r1, q1⟩ => ?_) hs hw
  rw [h1]
  exact thn (hg pins s1 σ H1 x v _ I1 r1 q1) fun _ s2 q => q
/-- name = value -/
theorem ps_set {i : Nat} {x : Str} {e : Expr} {te : TE} {pos' : Pos} (hN : X.N.Nodup) (hi : X.N[i]? = some x) (hx : Loc X.env.scope x) (he : PE X e te) (hs : swapsWith e (some (.Name x pos')) pos.line X.env = pure false := by rfl) (hf : X.fn x = true ∨ X.env.scope.names.lookup x = some .local := by first | exact .inl rfl | exact .inr rfl | assumption) :
    PS X (.Assign [.Name x pos'] e pos) (tAsg te (gName i)) := by
  intro pins s σ H D I h
  refine wpAny_Assign_Name (thn (he pins s σ H _ I h) fun v s1 ⟨y, H1, I1, r1, q1⟩ => ?_) hs
  exact store_ok I1 hN hi hx r1 (fun s2 I2 => ⟨_, H1, I2, q1⟩) hf
end

/-! ### while -/
section
variable {X : Cx} {pos : Pos}
/-- the invariant W with its measure -/
def tWhile (c : TT) (tb : TS) : TS := fun D σ H => ∃ W : Nat → St → Hp → Prop, (∃ m, W m σ H) ∧ ∀ m σ H, W m σ H →
  c σ H fun b H1 => if b = true then ∃ N : St → Hp → Prop, (∀ σ' H', N σ' H' → ∃ m', m' < m ∧ W m' σ' H') ∧ tb { D with nx := N, ct := N, bk := D.nx } σ H1 else D.nx σ H1
theorem ps_while {c : Expr} {body : List Stmt} {tc : TT} {tb : TS} (hp : PassesOwn (model X.prog X.w) X.A X.env X.xe) (hc : PT X c tc) (hb : PSs X body tb) : PS X (.While c body [] pos) (tWhile tc tb) := by
  intro pins s σ H D I h
  obtain ⟨W, ⟨m0, w0⟩, turn⟩ := h
  refine wpAny_While (codeAny_whileLoop (fun n s' => ∃ σ' H', Inv X pins σ' H' s' ∧ W n σ' H') ?_ m0 ⟨σ, H, I, w0⟩)
  rintro n s1 ⟨σ1, H1, I1, w1⟩
  refine wpAny_passesOwn hp (thn (hc pins s1 σ1 H1 _ I1 (turn n σ1 H1 w1)) fun b s2 ⟨H2, I2, q2⟩ => ?_)
  cases b with
  | true =>
    obtain ⟨N, hN, q2⟩ := q2
    rw [if_pos rfl]
    refine wpAny_passesOwn hp (thn (hb pins s2 σ1 H2 _ I2 q2) fun f s3 q3 => ?_)
    cases f with
    | next =>
      obtain ⟨σ3, H3, I3, n3⟩ := q3
      obtain ⟨m', hm, w3⟩ := hN σ3 H3 n3
      exact ⟨m', hm, σ3, H3, I3, w3⟩
    | cont =>
      obtain ⟨σ3, H3, I3, n3⟩ := q3
      obtain ⟨m', hm, w3⟩ := hN σ3 H3 n3
      exact ⟨m', hm, σ3, H3, I3, w3⟩
    | brk => exact q3
    | ret v => exact q3
  | false =>
    rw [if_neg Bool.false_ne_true]
    exact wpAny_execs_nil ⟨σ1, H2, I2, q2⟩
end

/-! ### what a loop or a comprehension walks -/
/-- at turn i: it yields x (the heap may grow), or it stops -/
structure It where
  go : Nat → Hp → Prop
  yld : Nat → Hp → V → Hp → Prop
  stop : Nat → Hp → Prop
/-- the iterator's own objects may turn: they are not the frame's, not pinned, younger than the entry (or a comprehension's own) -/
def FpOk (X : Cx) (pins : List (Addr × Obj)) (H : Hp) (b : Addr) : Prop :=
  H b = none ∧ b ≠ X.env.locals ∧ b ∉ X.fs ∧ (b ∈ X.ex ∨ X.s₀.heap.objs.size ≤ b) ∧ (∀ x c, X.env.cells.lookup x = some c → c ≠ b) ∧ ∀ p ∈ X.pn ++ pins, p.1 ≠ b
theorem Inv.fpOk {X : Cx} {pins : List (Addr × Obj)} {σ : St} {H H' : Hp} {s : Shared} {b : Addr} (I : Inv X pins σ H s) (hb : s.heap.objs.size ≤ b) (hn : H' b = none) : FpOk X pins H' b := by
  refine ⟨hn, Nat.ne_of_gt (Nat.lt_of_lt_of_le I.lt hb), I.nofs hb, .inr (Nat.le_trans I.sz hb), fun x c e z => ?_, fun p hp z => ?_⟩
  · obtain ⟨v, q⟩ := I.cell x c e
    exact absurd (Nat.lt_of_lt_of_le q.lt (by rw [z]; exact hb)) (Nat.lt_irrefl _)
  · exact absurd (Nat.lt_of_lt_of_le (Heap.lt_size (I.pin p hp).1) (by rw [z]; exact hb)) (Nat.lt_irrefl _)
structure Turn (P : Program) (w : World) (K : PySem.W.Frag) (tg : Expr) (J : It) (fp : List Addr) (it : Addr) (tn : Nat → Heap → Prop) : Prop where
  mem : it ∈ fp
  obj : ∀ i h, tn i h → ∀ b ∈ fp, ∃ o, h.get? b = some o ∧ ∀ v, o.data ≠ .cell v
  keep : ∀ i h h', tn i h → (∀ b ∈ fp, ∀ o, h.get? b = some o → h'.get? b = some o) → tn i h'
  item : ∀ (X : Cx), X.prog = P → X.w = w → X.K = K → X.calm = true → ∀ (i : Nat) (pins : List (Addr × Obj)) (s : Shared) (σ : St) (H : Hp) (E : Value → Shared → Prop), Inv X pins σ H s → (∀ b ∈ fp, FpOk X pins H b) → tn i s.heap → J.go i H →
    wpAny (model P w) X.A (pyNext (.ref it)) (fun r s1 => ∃ u, r = some u ∧
      wpAny (model P w) X.A (letOwnedTupleGo tg (.ref it) u) (fun _ s2 => ∃ x H', Inv X pins σ H' s2 ∧ RelV x u ∧ J.yld i H x H' ∧ tn (i + 1) s2.heap ∧ ∀ b ∈ fp, H' b = none) E s1) E s
  done : ∀ (X : Cx), X.prog = P → X.w = w → X.K = K → X.calm = true → ∀ (i : Nat) (pins : List (Addr × Obj)) (s : Shared) (σ : St) (H : Hp) (E : Value → Shared → Prop), Inv X pins σ H s → (∀ b ∈ fp, FpOk X pins H b) → tn i s.heap → J.stop i H →
    wpAny (model P w) X.A (pyNext (.ref it)) (fun r s1 => r = none ∧ Inv X pins σ H s1) E s
  self : ∀ (A : Around) (i : Nat) (s : Shared) (Q : Value → Shared → Prop) (E : Value → Shared → Prop), tn i s.heap → Q (.ref it) s → wpAny (model P w) A (pyIter (.ref it)) Q E s
abbrev TI := St → Hp → (It → Hp → Prop) → Prop
/-- an iterator has come -/
def PIE (X : Cx) (pins : List (Addr × Obj)) (σ : St) (tg : Expr) (R : It → Hp → Prop) (itv : Value) (s2 : Shared) : Prop :=
  ∃ (it : Addr) (fp : List Addr) (tn : Nat → Heap → Prop) (J : It) (H' : Hp), itv = .ref it ∧ Inv X pins σ H' s2 ∧ Turn X.prog X.w X.K tg J fp it tn ∧ tn 0 s2.heap ∧ (∀ b ∈ fp, FpOk X pins H' b) ∧ R J H'
def PI (X : Cx) (tg iter : Expr) (wi : TI) : Prop :=
  ∀ (pins : List (Addr × Obj)) (s : Shared) (σ : St) (H : Hp) (R : It → Hp → Prop), Inv X pins σ H s → wi σ H R →
    wpAny (model X.prog X.w) X.A (eval iter X.env) (fun v s1 => wpAny (model X.prog X.w) X.A (pyIter v) (PIE X pins σ tg R) X.xe s1) X.xe s

/-- the step ahead of the store is nothing for an iterator that keeps no tuple -/
theorem go_of {M : Model} {A : Around} {E : Value → Shared → Prop} {s : Shared} {tg : Expr} {it : Addr} {u : Value} {o : Obj} {n : String} {vs : Array Value} {Q : Unit → Shared → Prop} (ho : s.heap.get? it = some o) (hc : o.cls = .type n) (hd : o.data = .fields vs)
    (hn : ["enumerate", "zip", "dict_itemiterator", "dict_reverseitemiterator", "odict_iterator", "itertools.zip_longest", "itertools.pairwise"].contains n = false) (hQ : Q () s) : wpAny M A (letOwnedTupleGo tg (.ref it) u) Q E s := by
  unfold letOwnedTupleGo
  cases tg <;> first
    | exact wpAny_pure hQ
    | (cases u <;> first
        | exact wpAny_pure hQ
        | (refine wpAny_bind (wpAny_load ho ?_)
           rw [hc, hd]
           show wpAny M A (if (["enumerate", "zip", "dict_itemiterator", "dict_reverseitemiterator", "odict_iterator", "itertools.zip_longest", "itertools.pairwise"].contains n && vs[0]? == some (rawInt _)) = true then _ else _) Q E s
           rw [if_neg (by intro h; rw [hn, Bool.false_and] at h; cases h)]
           exact wpAny_pure hQ))

/-- the list at a, as it stands at each turn (a loop may append to it) -/
def Itl (K : PySem.W.Frag) (a : Addr) : It :=
  ⟨fun i H => ∃ xs x, SqL K H a xs ∧ xs[i]? = some x, fun i H x H' => H' = H ∧ ∀ xs, SqL K H a xs → xs[i]? = some x, fun i H => ∃ xs, SqL K H a xs ∧ xs.length ≤ i⟩
def Itt (K : PySem.W.Frag) (a : Addr) : It :=
  ⟨fun i H => ∃ xs x, SqT K H a xs ∧ xs[i]? = some x, fun i H x H' => H' = H ∧ ∀ xs, SqT K H a xs → xs[i]? = some x, fun i H => ∃ xs, SqT K H a xs ∧ xs.length ≤ i⟩
/-- lo, lo + 1, .. (n of them) -/
def Itr (lo : Int) (n : Nat) : It := ⟨fun i _ => i < n, fun i H x H' => H' = H ∧ x = .int (lo + i), fun i _ => n ≤ i⟩
theorem turn_list {P : Program} {w : World} {K : PySem.W.Frag} {tg : Expr} (a it : Addr) : Turn P w K tg (Itl K a) [it] it (fun i h => h.IsListIter it a i) where
  mem := by simp
  obj := fun i h st b hb => by
    have e : b = it := by simpa using hb
    subst e
    obtain ⟨o, e, c, d⟩ := st
    exact ⟨o, e, fun v z => by rw [d] at z; cases z⟩
  keep := fun i h h' st k => st.at fun o e => k it (by simp) o e
  item := by
    intro X hP hw hK hc i pins s σ H E I hf st hg
    subst hP hw hK
    obtain ⟨xs, x, hq, hx⟩ := hg
    obtain ⟨its, rv, p, hz⟩ := I.list hq
    obtain ⟨u, hu, ru⟩ := rv.get hx
    obtain ⟨f0, f1, f2, f3, f4, f5⟩ := hf it (by simp)
    refine wpAny_pyNext_list_item st p.isList (x := u) (by simpa using hu) fun h' st' sb => ?_
    have I1 : Inv X pins σ H { s with heap := h' } := I.turned (t' := s.toks) (fun b o hb e => (sb.2 b hb).trans e) f0 f1 f3 f4 f5
    obtain ⟨o, e, c, d⟩ := id st'
    exact ⟨u, rfl, go_of (s := { s with heap := h' }) e c d (by decide) ⟨x, H, I1, ru, ⟨rfl, fun ys hy => by rw [I.list_inj hy hq]; exact hx⟩, st', fun b hb => (hf b hb).1⟩⟩
  done := by
    intro X hP hw hK hc i pins s σ H E I hf st hg
    subst hP hw hK
    obtain ⟨xs, hq, hx⟩ := hg
    obtain ⟨its, rv, p, hz⟩ := I.list hq
    obtain ⟨f0, f1, f2, f3, f4, f5⟩ := hf it (by simp)
    have hl := rv.length
    exact wpAny_pyNext_list_end (I.ok.hd hc) st p.isList (by simp; omega) fun h' eb => ⟨rfl, I.turned (t' := s.toks) (fun b o hb e => eb b o hb e) f0 f1 f3 f4 f5⟩
  self := fun _ _ _ _ _ st h => wpAny_pyIter_listiter st h
theorem turn_tuple {P : Program} {w : World} {K : PySem.W.Frag} {tg : Expr} (a it : Addr) : Turn P w K tg (Itt K a) [it] it (fun i h => h.IsTupleIter it a i) where
  mem := by simp
  obj := fun i h st b hb => by
    have e : b = it := by simpa using hb
    subst e
    obtain ⟨o, e, c, d⟩ := st
    exact ⟨o, e, fun v z => by rw [d] at z; cases z⟩
  keep := fun i h h' st k => st.at fun o e => k it (by simp) o e
  item := by
    intro X hP hw hK hc i pins s σ H E I hf st hg
    subst hP hw hK
    obtain ⟨xs, x, hq, hx⟩ := hg
    obtain ⟨its, rv, p, hz⟩ := I.tuple hq
    obtain ⟨u, hu, ru⟩ := rv.get hx
    obtain ⟨f0, f1, f2, f3, f4, f5⟩ := hf it (by simp)
    refine wpAny_pyNext_tuple_item st (show s.heap.IsTuple a its.toArray from p) (x := u) (by simpa using hu) fun h' st' sb => ?_
    have I1 : Inv X pins σ H { s with heap := h' } := I.turned (t' := s.toks) (fun b o hb e => (sb.2 b hb).trans e) f0 f1 f3 f4 f5
    obtain ⟨o, e, c, d⟩ := id st'
    exact ⟨u, rfl, go_of (s := { s with heap := h' }) e c d (by decide) ⟨x, H, I1, ru, ⟨rfl, fun ys hy => by rw [I.tuple_inj hy hq]; exact hx⟩, st', fun b hb => (hf b hb).1⟩⟩
  done := by
    intro X hP hw hK hc i pins s σ H E I hf st hg
    subst hP hw hK
    obtain ⟨xs, hq, hx⟩ := hg
    obtain ⟨its, rv, p, hz⟩ := I.tuple hq
    obtain ⟨f0, f1, f2, f3, f4, f5⟩ := hf it (by simp)
    have hl := rv.length
    exact wpAny_pyNext_tuple_end (I.ok.hd hc) st (show s.heap.IsTuple a its.toArray from p) (by simp; omega) fun h' eb => ⟨rfl, I.turned (t' := s.toks) (fun b o hb e => eb b o hb e) f0 f1 f3 f4 f5⟩
  self := fun _ _ _ _ _ st h => wpAny_pyIter_tupleiter st h
theorem turn_range {P : Program} {w : World} {K : PySem.W.Frag} {tg : Expr} (it : Addr) (lo : Int) (n : Nat) : Turn P w K tg (Itr lo n) [it] it (fun i h => IsRangeIter h it (lo + (i : Nat) * 1) ((n : Int) - (i : Nat)) 1) where
  mem := by simp
  obj := fun i h st b hb => by
    have e : b = it := by simpa using hb
    subst e
    exact ⟨_, st, fun v z => by
      have z' : Data.fields _ = Data.cell v := z
      cases z'⟩
  keep := fun i h h' st k => k it (by simp) _ st
  item := by
    intro X hP hw hK hc i pins s σ H E I hf st hg
    subst hP hw hK
    obtain ⟨f0, f1, f2, f3, f4, f5⟩ := hf it (by simp)
    have W := Walks.range (prog := X.prog) (w := X.w) (I.ok.hd hc) it lo 1 n
    refine W.item i s _ _ hg st fun v h' tk hv st' kk => ?_
    obtain ⟨t, rfl⟩ := hv
    have I1 : Inv X pins σ H { s with heap := h', toks := tk } := I.turned (fun b o hb e => kk b o (by simpa using hb) e) f0 f1 f3 f4 f5
    refine ⟨_, rfl, go_of (s := { s with heap := h', toks := tk }) (n := "range_iterator") st' rfl rfl (by decide) ⟨.int (lo + i), H, I1, ⟨t, ?_⟩, ⟨rfl, rfl⟩, st', fun b hb => (hf b hb).1⟩⟩
    rw [Int.mul_one]
  done := by
    intro X hP hw hK hc i pins s σ H E I hf st hg
    subst hP hw hK
    obtain ⟨f0, f1, f2, f3, f4, f5⟩ := hf it (by simp)
    exact wpAny_pyNext_range_end (I.ok.hd hc) st (by have : n ≤ i := hg; omega) fun h' eb => ⟨rfl, I.turned (t' := s.toks) (fun b o hb e => eb b o hb e) f0 f1 f3 f4 f5⟩
  self := fun _ _ _ _ _ st h => wpAny_pyIter_rangeiter st h
end L2

namespace L2
open PySem PySem.Spec PyProof.Rows
section
variable {X : Cx} {tg : Expr}
def iList (K : PySem.W.Frag) (tl : TE) : TI := fun σ H R => tl σ H fun x H1 => ∃ a, x = .ref a ∧ (∃ xs, SqL K H1 a xs) ∧ R (Itl K a) H1
def iTup (K : PySem.W.Frag) (tl : TE) : TI := fun σ H R => tl σ H fun x H1 => ∃ a, x = .ref a ∧ (∃ xs, SqT K H1 a xs) ∧ R (Itt K a) H1
theorem pi_list {l : Expr} {tl : TE} (hl : PE X l tl) : PI X tg l (iList X.K tl) := by
  intro pins s σ H R I h
  refine thn (hl pins s σ H _ I h) fun v s1 ⟨x, H1, I1, r1, q1⟩ => ?_
  obtain ⟨a, e, ⟨xs, hq⟩, q⟩ := q1
  subst e
  cases r1
  obtain ⟨its, rv, p, hz⟩ := I1.list hq
  refine wpAny_pyIter_list p.isList ?_
  refine ⟨s1.heap.objs.size, [s1.heap.objs.size], _, _, H1, rfl, I1.kept (t' := s1.toks) fun b o e => Heap.get?_push_of_some _ e, turn_list a _, ⟨_, Heap.get?_push_size _ rfl, rfl, rfl⟩, fun b hb => ?_, q⟩
  have e : b = s1.heap.objs.size := by simpa using hb
  subst e
  exact I1.fpOk (Nat.le_refl _) (I1.hok.fresh (Nat.le_refl _))
theorem pi_tup {l : Expr} {tl : TE} (hl : PE X l tl) : PI X tg l (iTup X.K tl) := by
  intro pins s σ H R I h
  refine thn (hl pins s σ H _ I h) fun v s1 ⟨x, H1, I1, r1, q1⟩ => ?_
  obtain ⟨a, e, ⟨xs, hq⟩, q⟩ := q1
  subst e
  cases r1
  obtain ⟨its, rv, p, hz⟩ := I1.tuple hq
  refine wpAny_pyIter_tuple (show s1.heap.IsTuple a its.toArray from p) ?_
  refine ⟨s1.heap.objs.size, [s1.heap.objs.size], _, _, H1, rfl, I1.kept (t' := s1.toks) fun b o e => Heap.get?_push_of_some _ e, turn_tuple a _, ⟨_, Heap.get?_push_size _ rfl, rfl, rfl⟩, fun b hb => ?_, q⟩
  have e : b = s1.heap.objs.size := by simpa using hb
  subst e
  exact I1.fpOk (Nat.le_refl _) (I1.hok.fresh (Nat.le_refl _))
/-- a range object just made, walked -/
theorem range_it {pins : List (Addr × Obj)} {σ : St} {H : Hp} {s : Shared} {R : It → Hp → Prop} {E : Value → Shared → Prop} {lo hi : Int} {t u v : Tok} {tk : Nat} (I : Inv X pins σ H s) (h1 : -(2 ^ 62) ≤ lo) (h2 : lo < 2 ^ 62) (h3 : -(2 ^ 62) ≤ hi) (h4 : hi < 2 ^ 62)
    (q : R (Itr lo (hi - lo).toNat) H) : wpAny (model X.prog X.w) X.A (pyIter (.ref s.heap.objs.size)) (PIE X pins σ tg R) E { s with heap := s.heap.push { cls := .type "range", data := .fields #[.int lo t, .int hi u, .int 1 v] }, toks := tk } := by
  refine wpAny_pyIter_range (IsRange.new ..) (small_one h1 h2 h3 h4) ?_
  have I1 : Inv X pins σ H { s with heap := s.heap.push { cls := .type "range", data := .fields #[.int lo t, .int hi u, .int 1 v] }, toks := tk } := I.kept fun b o e => Heap.get?_push_of_some _ e
  refine ⟨(s.heap.push { cls := .type "range", data := .fields #[.int lo t, .int hi u, .int 1 v] }).objs.size, [(s.heap.push { cls := .type "range", data := .fields #[.int lo t, .int hi u, .int 1 v] }).objs.size], _, _, H, rfl,
    I1.kept (t' := tk) fun b o e => Heap.get?_push_of_some _ e, turn_range _ lo (hi - lo).toNat, ?_, fun b hb => ?_, q⟩
  · have e1 : lo + ((0 : Nat) : Int) * 1 = lo := by simp
    have e2 : (((hi - lo).toNat : Nat) : Int) - ((0 : Nat) : Int) = Builtin.Range.rangeSize lo hi 1 := by rw [rangeSize_one]; split <;> omega
    show IsRangeIter _ _ (lo + ((0 : Nat) : Int) * 1) ((((hi - lo).toNat : Nat) : Int) - ((0 : Nat) : Int)) 1
    rw [e1, e2]
    exact Heap.get?_push_size _ rfl
  · have e : b = (s.heap.push { cls := .type "range", data := .fields #[.int lo t, .int hi u, .int 1 v] }).objs.size := by simpa using hb
    subst e
    exact I1.fpOk (Nat.le_refl _) (I1.hok.fresh (Nat.le_refl _))
def iRng1 (ta : TA) : TI := fun σ H R => ta σ H fun vs H1 => ∃ j : Int, vs = [.int j] ∧ -(2 ^ 62) ≤ j ∧ j < 2 ^ 62 ∧ R (Itr 0 j.toNat) H1
theorem pi_range1 {a : Expr} {ta : TA} {p pos : Pos} (hg : Gl X "range") (hm : X.mg "range" = none) (ha : PA X [a] ta) (hs : starEach [a] X.env = [(false, eval a X.env)] := by rfl) : PI X tg (.Call (.Name "range" p) [a] [] pos) (iRng1 ta) := by
  intro pins s σ H R I h
  refine Call_ (ld_blt I hg hm boot_range (PyProof.Rows.callWith_type1 (thn (ha pos pins s σ H _ I h) fun us s1 ⟨vs, H1, I1, r1, q1⟩ => ?_) hs rfl))
  obtain ⟨j, e, q1, q2, q⟩ := q1
  subst e
  cases r1 with
  | cons r rr =>
    cases rr
    obtain ⟨t, rfl⟩ := r
    exact call_range_1 (range_it I1 (by omega) (by omega) q1 q2 (by simpa using q))
/-! ### for -/
/-- W: the invariant by the turn and a measure; N: what the body is to reach -/
def tFor (wi : TI) (g : TG) (tb : TS) : TS := fun D σ H => wi σ H fun J H1 => ∃ W : Nat → Nat → St → Hp → Prop, (∃ m, W 0 m σ H1) ∧ ∀ i m σ H, W i m σ H →
  (J.stop i H ∧ D.nx σ H) ∨ (J.go i H ∧ ∃ N : St → Hp → Prop, (∀ σ' H', N σ' H' → ∃ m', m' < m ∧ W (i + 1) m' σ' H') ∧ ∀ x H', J.yld i H x H' → g x σ H' fun σ2 H2 => tb { D with nx := N, ct := N, bk := D.nx } σ2 H2)
/-- the records at fp as they stand -/
def pinsAt (fp : List Addr) (h : Heap) : List (Addr × Obj) := fp.filterMap fun b => (h.get? b).map fun o => (b, o)
theorem mem_pinsAt {fp : List Addr} {h : Heap} {b : Addr} {o : Obj} (hb : b ∈ fp) (e : h.get? b = some o) : (b, o) ∈ pinsAt fp h := List.mem_filterMap.mpr ⟨b, hb, by rw [e]; rfl⟩
theorem of_pinsAt {fp : List Addr} {h : Heap} {p : Addr × Obj} (hp : p ∈ pinsAt fp h) : p.1 ∈ fp ∧ h.get? p.1 = some p.2 := by
  obtain ⟨b, hb, e⟩ := List.mem_filterMap.mp hp
  cases q : h.get? b with
  | none => rw [q] at e; cases e
  | some o =>
    rw [q] at e
    have e' : (b, o) = p := Option.some.inj e
    subst e'
    exact ⟨hb, q⟩
theorem Inv.pinned {pins : List (Addr × Obj)} {σ : St} {H : Hp} {s : Shared} {fp : List Addr} (I : Inv X pins σ H s) (hf : ∀ b ∈ fp, FpOk X pins H b) (ho : ∀ b ∈ fp, ∃ o, s.heap.get? b = some o ∧ ∀ v, o.data ≠ .cell v) : Inv X (pins ++ pinsAt fp s.heap) σ H s :=
  I.pins_of fun p hp => (List.mem_append.mp hp).elim (fun z => I.pin p (List.mem_append_right _ z)) fun z => by
    obtain ⟨hb, e⟩ := of_pinsAt z
    obtain ⟨f0, f1, f2, _⟩ := hf p.1 hb
    obtain ⟨o, e', d⟩ := ho p.1 hb
    rw [e] at e'; cases e'
    exact ⟨e, f0, f1, f2, d⟩
theorem Inv.unpinned {pins pl : List (Addr × Obj)} {σ : St} {H : Hp} {s : Shared} (I : Inv X (pins ++ pl) σ H s) : Inv X pins σ H s := I.pins_of fun p hp => I.pin p (List.mem_append_right _ (List.mem_append_left _ hp))
theorem ps_for {iter : Expr} {body : List Stmt} {wi : TI} {g : TG} {tb : TS} {pos : Pos} (hp : PassesOwn (model X.prog X.w) X.A X.env X.xe) (hc : X.calm = true) (hi : PI X tg iter wi) (hg : PG X tg g) (hb : PSs X body tb)
    (hs : ∀ x, foldedSetIterable iter X.env x = pure x := by intro _; rfl) : PS X (.For tg iter body [] pos) (tFor wi g tb) := by
  intro pins s σ H D I h
  refine wpAny_For (thn (hi pins s σ H _ I h) fun v s1 h1 => thn h1 fun itv s2 h2 => ?_) hs
  obtain ⟨it, fp, tn, J, H2, e, I2, T, st2, f2, W, ⟨m0, w0⟩, turn⟩ := h2
  subst e
  -- what stays true of the iterator's objects through the loop
  have stat : ∀ {H' : Hp}, (∀ b ∈ fp, H' b = none) → ∀ b ∈ fp, FpOk X pins H' b := fun hn b hb => ⟨hn b hb, (f2 b hb).2⟩
  refine codeAny_forLoop_any (fun n s' => ∃ i σ' H', Inv X pins σ' H' s' ∧ tn i s'.heap ∧ (∀ b ∈ fp, H' b = none) ∧ W i n σ' H') ?_ m0 ⟨0, σ, H2, I2, st2, fun b hb => (f2 b hb).1, w0⟩
  rintro n s3 ⟨i, σ3, H3, I3, st3, fr3, w3⟩
  rcases turn i n σ3 H3 w3 with ⟨stop, qn⟩ | ⟨go, N, hN, step⟩
  · refine wpAny_passesOwn hp (thn (T.done X rfl rfl rfl hc i pins s3 σ3 H3 X.xe I3 (stat fr3) st3 stop) fun r s4 ⟨hr, I4⟩ => ?_)
    subst hr
    exact wpAny_execs_nil ⟨σ3, H3, I4, qn⟩
  · refine wpAny_passesOwn hp (thn (T.item X rfl rfl rfl hc i pins s3 σ3 H3 X.xe I3 (stat fr3) st3 go) fun r s4 ⟨u, hr, h4⟩ => ?_)
    subst hr
    refine wpAny_passesOwn hp (thn h4 fun _ s5 ⟨x, H5, I5, r5, y5, st5, fr5⟩ => ?_)
    have I5' := I5.pinned (stat fr5) (T.obj _ _ st5)
    refine wpAny_passesOwn hp (thn (hg _ s5 σ3 H5 x u _ I5' r5 (step x H5 y5)) fun _ s6 ⟨σ6, H6, I6, q6⟩ => ?_)
    refine wpAny_passesOwn hp (thn (hb _ s6 σ6 H6 _ I6 q6) fun f s7 q7 => ?_)
    have again : ∀ {σ7 : St} {H7 : Hp}, Inv X (pins ++ pinsAt fp s5.heap) σ7 H7 s7 → N σ7 H7 → ∃ m, m < n ∧ ∃ i σ' H', Inv X pins σ' H' s7 ∧ tn i s7.heap ∧ (∀ b ∈ fp, H' b = none) ∧ W i m σ' H' := fun {σ7 H7} I7 n7 => by
      obtain ⟨m', hm, w7⟩ := hN σ7 H7 n7
      refine ⟨m', hm, i + 1, σ7, H7, I7.unpinned, T.keep _ _ _ st5 fun b hb o e => (I7.pin (b, o) (List.mem_append_right _ (List.mem_append_right _ (mem_pinsAt hb e)))).1, fun b hb => ?_, w7⟩
      obtain ⟨o, e, d⟩ := T.obj _ _ st5 b hb
      exact (I7.pin (b, o) (List.mem_append_right _ (List.mem_append_right _ (mem_pinsAt hb e)))).2.1
    cases f with
    | next => obtain ⟨σ7, H7, I7, n7⟩ := q7; exact again I7 n7
    | cont => obtain ⟨σ7, H7, I7, n7⟩ := q7; exact again I7 n7
    | brk => obtain ⟨σ7, H7, I7, q7⟩ := q7; exact ⟨σ7, H7, I7.unpinned, q7⟩
    | ret v => obtain ⟨x7, σ7, H7, I7, r7, q7⟩ := q7; exact ⟨x7, σ7, H7, I7.unpinned, r7, q7⟩
end

theorem for_tup {K : PySem.W.Frag} {a : Addr} {xs : List V} {g : TG} {tb : TS} {D : Ends} {σ : St} {H : Hp} (Pv : Nat → St → Hp → Prop) (h0 : Pv 0 σ H) (hl : ∀ i σ H, i ≤ xs.length → Pv i σ H → SqT K H a xs)
    (hs : ∀ i x σ H, xs[i]? = some x → Pv i σ H → g x σ H fun σ2 H2 => tb { D with nx := Pv (i + 1), ct := Pv (i + 1), bk := D.nx } σ2 H2) (hd : ∀ σ H, Pv xs.length σ H → D.nx σ H) :
    ∃ W : Nat → Nat → St → Hp → Prop, (∃ m, W 0 m σ H) ∧ ∀ i m σ H, W i m σ H →
      ((Itt K a).stop i H ∧ D.nx σ H) ∨ ((Itt K a).go i H ∧ ∃ N : St → Hp → Prop, (∀ σ' H', N σ' H' → ∃ m', m' < m ∧ W (i + 1) m' σ' H') ∧ ∀ x H', (Itt K a).yld i H x H' → g x σ H' fun σ2 H2 => tb { D with nx := N, ct := N, bk := D.nx } σ2 H2) := by
  refine ⟨fun i m σ H => m = xs.length - i ∧ i ≤ xs.length ∧ Pv i σ H, ⟨xs.length, by simp, Nat.zero_le _, h0⟩, ?_⟩
  rintro i m σ H ⟨rfl, hi, p⟩
  have q := hl i σ H hi p
  by_cases hlt : i < xs.length
  · refine .inr ⟨⟨xs, xs[i], q, by simp [hlt]⟩, Pv (i + 1), fun σ' H' p' => ⟨xs.length - (i + 1), by omega, rfl, hlt, p'⟩, fun x H' y => ?_⟩
    obtain ⟨e, y⟩ := y
    subst e
    exact hs i x σ _ (y xs q) p
  · have e : i = xs.length := by omega
    subst e
    exact .inl ⟨⟨xs, q, Nat.le_refl _⟩, hd σ H p⟩
theorem for_range {lo : Int} {n : Nat} {g : TG} {tb : TS} {D : Ends} {σ : St} {H : Hp} (Pv : Nat → St → Hp → Prop) (h0 : Pv 0 σ H)
    (hs : ∀ i σ H, i < n → Pv i σ H → g (.int (lo + i)) σ H fun σ2 H2 => tb { D with nx := Pv (i + 1), ct := Pv (i + 1), bk := D.nx } σ2 H2) (hd : ∀ σ H, Pv n σ H → D.nx σ H) :
    ∃ W : Nat → Nat → St → Hp → Prop, (∃ m, W 0 m σ H) ∧ ∀ i m σ H, W i m σ H →
      ((Itr lo n).stop i H ∧ D.nx σ H) ∨ ((Itr lo n).go i H ∧ ∃ N : St → Hp → Prop, (∀ σ' H', N σ' H' → ∃ m', m' < m ∧ W (i + 1) m' σ' H') ∧ ∀ x H', (Itr lo n).yld i H x H' → g x σ H' fun σ2 H2 => tb { D with nx := N, ct := N, bk := D.nx } σ2 H2) := by
  refine ⟨fun i m σ H => m = n - i ∧ i ≤ n ∧ Pv i σ H, ⟨n, by simp, Nat.zero_le _, h0⟩, ?_⟩
  rintro i m σ H ⟨rfl, hi, p⟩
  by_cases hlt : i < n
  · refine .inr ⟨hlt, Pv (i + 1), fun σ' H' p' => ⟨n - (i + 1), by omega, rfl, hlt, p'⟩, fun x H' y => ?_⟩
    obtain ⟨e, y⟩ := y
    subst e y
    exact hs i σ _ hlt p
  · have e : i = n := by omega
    subst e
    exact .inl ⟨Nat.le_refl _, hd σ H p⟩
end L2

namespace L2
open PySem PySem.Spec PyProof.Rows

abbrev R2 := V → V → Hp → VK → Prop
/-- a two-place operation on values: f is binaryOp op, inplaceOp op or compareOp op -/
def OpR (X : Cx) (f : Value → Value → Sem Value) (r : R2) : Prop :=
  ∀ (pins : List (Addr × Obj)) (s : Shared) (σ : St) (H : Hp) (x y : V) (v u : Value) (Q : VK), Inv X pins σ H s → RelV x v → RelV y u → r x y H Q →
    wpAny (model X.prog X.w) X.A (f v u) (EP X pins σ Q) X.xe s
/-- a one-place operation -/
def UnR (X : Cx) (f : Value → Sem Value) (r : V → Hp → VK → Prop) : Prop :=
  ∀ (pins : List (Addr × Obj)) (s : Shared) (σ : St) (H : Hp) (x : V) (v : Value) (Q : VK), Inv X pins σ H s → RelV x v → r x H Q →
    wpAny (model X.prog X.w) X.A (f v) (EP X pins σ Q) X.xe s
/-- a call of a value that is known (a builtin, a type) with values -/
def CallR (X : Cx) (f : Value) (r : List V → Hp → VK → Prop) : Prop :=
  ∀ (pins : List (Addr × Obj)) (s : Shared) (σ : St) (H : Hp) (xs : List V) (us : List Value) (Q : VK), Inv X pins σ H s → Vals xs us → r xs H Q →
    wpAny (model X.prog X.w) X.A (call f us) (EP X pins σ Q) X.xe s
def tOp (r : R2) (ta tb : TE) : TE := fun σ H Q => ta σ H fun x H1 => tb σ H1 fun y H2 => r x y H2 Q
def tUn (r : V → Hp → VK → Prop) (ta : TE) : TE := fun σ H Q => ta σ H fun x H1 => r x H1 Q
/-- ints in, under C, and a value out -/
def rI (C : Int → Int → Prop) (g : Int → Int → V) : R2 := fun x y H Q => ∃ i j, x = .int i ∧ y = .int j ∧ C i j ∧ Q (g i j) H
def rI0 (g : Int → Int → V) : R2 := fun x y H Q => ∃ i j, x = .int i ∧ y = .int j ∧ Q (g i j) H
def rU (g : Int → V) : V → Hp → VK → Prop := fun x H Q => ∃ i, x = .int i ∧ Q (g i) H

section
variable {X : Cx} {a b c : Expr} {ta tb tc : TE} {pos : Pos}

theorem binT (ha : PE X a ta) (hb : PE X b tb) {pins : List (Addr × Obj)} {s : Shared} {σ : St} {H : Hp} {R : V → V → Hp → Prop} (I : Inv X pins σ H s)
    (h : ta σ H fun x H1 => tb σ H1 fun y H2 => R x y H2) {Q : Value → Shared → Prop} {f : Value → Value → Sem Value}
    (hf : ∀ v u s2 x y H2, Inv X pins σ H2 s2 → RelV x v → RelV y u → R x y H2 → wpAny (model X.prog X.w) X.A (f v u) Q X.xe s2) :
    wpAny (model X.prog X.w) X.A (eval a X.env) (fun v s₁ => wpAny (model X.prog X.w) X.A (eval b X.env) (fun u s₂ => wpAny (model X.prog X.w) X.A (f v u) Q X.xe s₂) X.xe s₁) X.xe s := by
  refine thn (ha pins s σ H _ I h) fun v s1 ⟨x, H1, I1, r1, q1⟩ => ?_
  refine thn (hb pins s1 σ H1 _ I1 q1) fun u s2 ⟨y, H2, I2, r2, q2⟩ => ?_
  exact hf v u s2 x y H2 I2 r1 r2 q2

theorem pe_op {op : Operator} {r : R2} (ho : OpR X (binaryOp op) r) (ha : PE X a ta) (hb : PE X b tb) : PE X (.BinOp a op b pos) (tOp r ta tb) := by
  intro pins s σ H Q I h
  exact wpAny_BinOp (binT ha hb I h fun v u s2 x y H2 I2 rx ry q => ho pins s2 σ H2 x y v u Q I2 rx ry q)
theorem pe_un {op : UnaryOp} {r : V → Hp → VK → Prop} (ho : UnR X (unaryOp op) r) (ha : PE X a ta) : PE X (.UnaryOp op a pos) (tUn r ta) := by
  intro pins s σ H Q I h
  exact UnaryOp_ (thn (ha pins s σ H _ I h) fun v s1 ⟨x, H1, I1, r1, q1⟩ => ho pins s1 σ H1 x v Q I1 r1 q1)
/-! ### ints -/
theorem opI {f : Value → Value → Sem Value} {C : Int → Int → Prop} {g : Int → Int → Int}
    (rule : ∀ (i j : Int) (t u : Tok) (s : Shared) (Q : Value → Shared → Prop) (E : Value → Shared → Prop), C i j → Q (.int (g i j) s.toks) { s with toks := s.toks + 1 } → wpAny (model X.prog X.w) X.A (f (.int i t) (.int j u)) Q E s) :
    OpR X f (rI C fun i j => .int (g i j)) := by
  intro pins s σ H x y v u Q I rx ry h
  obtain ⟨i, j, rfl, rfl, hc, q⟩ := h
  obtain ⟨t, rfl⟩ := rx
  obtain ⟨t', rfl⟩ := ry
  exact rule i j t t' s _ _ hc ⟨.int (g i j), H, I.tok _, ⟨_, rfl⟩, q⟩
theorem opI0 {f : Value → Value → Sem Value} {g : Int → Int → Int}
    (rule : ∀ (i j : Int) (t u : Tok) (s : Shared) (Q : Value → Shared → Prop) (E : Value → Shared → Prop), Q (.int (g i j) s.toks) { s with toks := s.toks + 1 } → wpAny (model X.prog X.w) X.A (f (.int i t) (.int j u)) Q E s) :
    OpR X f (rI0 fun i j => .int (g i j)) := by
  intro pins s σ H x y v u Q I rx ry h
  obtain ⟨i, j, rfl, rfl, q⟩ := h
  obtain ⟨t, rfl⟩ := rx
  obtain ⟨t', rfl⟩ := ry
  exact rule i j t t' s _ _ ⟨.int (g i j), H, I.tok _, ⟨_, rfl⟩, q⟩
theorem opB0 {f : Value → Value → Sem Value} {g : Int → Int → Bool}
    (rule : ∀ (i j : Int) (t u : Tok) (s : Shared) (Q : Value → Shared → Prop) (E : Value → Shared → Prop), Q (.bool (g i j)) s → wpAny (model X.prog X.w) X.A (f (.int i t) (.int j u)) Q E s) :
    OpR X f (rI0 fun i j => .bl (g i j)) := by
  intro pins s σ H x y v u Q I rx ry h
  obtain ⟨i, j, rfl, rfl, q⟩ := h
  obtain ⟨t, rfl⟩ := rx
  obtain ⟨t', rfl⟩ := ry
  exact rule i j t t' s _ _ ⟨.bl (g i j), H, I, rfl, q⟩

def CDiv (i j : Int) : Prop := 0 < j ∧ j < 1073741824
def CPow (i j : Int) : Prop := 0 ≤ j ∧ j ≤ 1000000 ∧ i.natAbs < 2 ^ 64
def CMul (i j : Int) : Prop := (-(2 ^ 64) < i ∧ i < 2 ^ 64) ∨ (-(2 ^ 64) < j ∧ j < 2 ^ 64)
theorem CMul.ok {i j : Int} (h : CMul i j) : IntMulOk i j := by
  rcases h with ⟨h1, h2⟩ | ⟨h1, h2⟩
  · exact .of_left (intBits_le_64 h1 h2)
  · exact .of_right (intBits_le_64 h1 h2)
theorem op_add : OpR X (binaryOp .Add) (rI0 fun i j => .int (i + j)) := opI0 fun _ _ _ _ _ _ _ q => add_int q
theorem op_sub : OpR X (binaryOp .Sub) (rI0 fun i j => .int (i - j)) := opI0 fun _ _ _ _ _ _ _ q => sub_int q
theorem op_mul : OpR X (binaryOp .Mult) (rI CMul fun i j => .int (i * j)) := opI fun _ _ _ _ _ _ _ hc q => mul_int q hc.ok
/-- // by a positive divisor -/
theorem op_fdiv : OpR X (binaryOp .FloorDiv) (rI CDiv fun i j => .int (i / j)) := opI fun i j _ _ _ _ _ hc q => by
  have h1 : (0 : Int) < j := hc.1
  have h2 : j < 1073741824 := hc.2
  exact floordiv_int (by omega) (by rw [Int.fdiv_eq_ediv_of_nonneg i (by omega)]; exact q) (.inl (PyProof.noPylong_small (by omega)))
/-- % by a positive divisor of any size -/
theorem op_mod : OpR X (binaryOp .Mod) (rI (fun _ j => 0 < j) fun i j => .int (i % j)) := opI fun i j _ _ _ _ _ hc q => by
  have h1 : (0 : Int) < j := hc
  exact mod_int' (by omega) (by rw [Int.fmod_eq_emod_of_nonneg i (by omega)]; exact q)
theorem op_pow : OpR X (binaryOp .Pow) (rI CPow fun i j => .int (i ^ j.toNat)) := opI fun _ _ _ _ _ _ _ hc q => pow_int_small hc.1 hc.2.1 hc.2.2 q
theorem unI {f : Value → Sem Value} {g : Int → Int}
    (rule : ∀ (i : Int) (t : Tok) (s : Shared) (Q : Value → Shared → Prop) (E : Value → Shared → Prop), Q (.int (g i) s.toks) { s with toks := s.toks + 1 } → wpAny (model X.prog X.w) X.A (f (.int i t)) Q E s) :
    UnR X f (rU fun i => .int (g i)) := by
  intro pins s σ H x v Q I rx h
  obtain ⟨i, rfl, q⟩ := h
  obtain ⟨t, rfl⟩ := rx
  exact rule i t s _ _ ⟨.int (g i), H, I.tok _, ⟨_, rfl⟩, q⟩
theorem un_neg : UnR X (unaryOp .USub) (rU fun i => .int (-i)) := unI fun _ _ _ _ _ q => neg_int q
end

/-! ### comparisons -/
/-- the scalars that == tells apart as data does -/
def scal : V → V → Bool
  | .non, .non => true | .non, .int _ => true | .int _, .non => true | .non, .bl _ => true | .bl _, .non => true | .non, .str _ => true | .str _, .non => true
  | .int _, .int _ => true | .bl _, .bl _ => true | .str _, .str _ => true | .byt _, .byt _ => true
  | .int _, .str _ => true | .str _, .int _ => true | .bl _, .str _ => true | .str _, .bl _ => true
  | _, _ => false
def rEq : R2 := fun x y H Q => scal x y = true ∧ Q (.bl (decide (x = y))) H
def rNe : R2 := fun x y H Q => scal x y = true ∧ Q (.bl (!decide (x = y))) H

theorem dec_int {i j : Int} : decide (V.int i = V.int j) = (i == j) := by
  rw [Bool.eq_iff_iff]
  simp
theorem dec_bl {i j : Bool} : decide (V.bl i = V.bl j) = (i == j) := by
  rw [Bool.eq_iff_iff]
  simp
theorem dec_str {i j : Str} : decide (V.str i = V.str j) = (i == j) := by
  rw [Bool.eq_iff_iff]
  simp
theorem dec_byt {i j : Array UInt8} : decide (V.byt i = V.byt j) = (i.toList == j.toList) := by
  rw [Bool.eq_iff_iff]
  cases i
  cases j
  simp

section
variable {X : Cx} {a b c : Expr} {ta tb tc : TE} {pos : Pos}
theorem fin_bl {pins : List (Addr × Obj)} {σ : St} {H : Hp} {s : Shared} {Q : VK} {k k' : Bool} (I : Inv X pins σ H s) (q : Q (.bl k) H) (e : k = k') : EP X pins σ Q (.bool k') s := by
  subst e
  exact ⟨.bl k, H, I, rfl, q⟩
theorem op_eq : OpR X (compareOp .Eq) rEq := by
  intro pins s σ H x y v u Q I rx ry h
  obtain ⟨hs, q⟩ := h
  cases x with
  | non =>
    cases rx
    cases y with
    | non => cases ry; exact PySem.EqNone.eq_none_none (fin_bl I q (by simp))
    | bl j => cases ry; exact PySem.EqNone.eq_none_bool (fin_bl I q (by simp))
    | int j => obtain ⟨t', rfl⟩ := ry; exact PySem.EqNone.eq_none_int (fin_bl I q (by simp))
    | str j => obtain ⟨t', rfl⟩ := ry; exact PySem.EqNone.eq_none_str (fin_bl I q (by simp))
    | _ => exact absurd (show false = true from hs) Bool.false_ne_true
  | bl i =>
    cases rx
    cases y with
    | non => cases ry; exact PySem.EqNone.eq_bool_none (fin_bl I q (by simp))
    | bl j => cases ry; exact eq_bool (fin_bl I q dec_bl)
    | str j => obtain ⟨t', rfl⟩ := ry; exact PySem.EqMixed.eq_bool_str (fin_bl I q (by simp))
    | _ => exact absurd (show false = true from hs) Bool.false_ne_true
  | int i =>
    obtain ⟨t, rfl⟩ := rx
    cases y with
    | non => cases ry; exact PySem.EqNone.eq_int_none (fin_bl I q (by simp))
    | int j => obtain ⟨t', rfl⟩ := ry; exact eq_int (fin_bl I q dec_int)
    | str j => obtain ⟨t', rfl⟩ := ry; exact PySem.EqMixed.eq_int_str (fin_bl I q (by simp))
    | _ => exact absurd (show false = true from hs) Bool.false_ne_true
  | str i =>
    obtain ⟨t, rfl⟩ := rx
    cases y with
    | non => cases ry; exact PySem.EqNone.eq_str_none (fin_bl I q (by simp))
    | bl j => cases ry; exact PySem.EqMixed.eq_str_bool (fin_bl I q (by simp))
    | int j => obtain ⟨t', rfl⟩ := ry; exact PySem.EqMixed.eq_str_int (fin_bl I q (by simp))
    | str j => obtain ⟨t', rfl⟩ := ry; exact eq_str (fin_bl I q dec_str)
    | _ => exact absurd (show false = true from hs) Bool.false_ne_true
  | byt i =>
    obtain ⟨t, rfl⟩ := rx
    cases y with
    | byt j => obtain ⟨t', rfl⟩ := ry; exact PySem.W.eq_bytes (fin_bl I q dec_byt)
    | _ => exact absurd (show false = true from hs) Bool.false_ne_true
  | _ => cases y <;> exact absurd (show false = true from hs) Bool.false_ne_true
theorem op_ne : OpR X (compareOp .NotEq) rNe := by
  intro pins s σ H x y v u Q I rx ry h
  obtain ⟨hs, q⟩ := h
  cases x with
  | non =>
    cases rx
    cases y with
    | non => cases ry; exact PySem.EqNone.ne_none_none (fin_bl I q (by simp))
    | bl j => cases ry; exact PySem.EqNone.ne_none_bool (fin_bl I q (by simp))
    | int j => obtain ⟨t', rfl⟩ := ry; exact PySem.EqNone.ne_none_int (fin_bl I q (by simp))
    | str j => obtain ⟨t', rfl⟩ := ry; exact PySem.EqNone.ne_none_str (fin_bl I q (by simp))
    | _ => exact absurd (show false = true from hs) Bool.false_ne_true
  | bl i =>
    cases rx
    cases y with
    | non => cases ry; exact PySem.EqNone.ne_bool_none (fin_bl I q (by simp))
    | bl j => cases ry; exact ne_bool (fin_bl I q (congrArg not dec_bl))
    | str j => obtain ⟨t', rfl⟩ := ry; exact PySem.EqMixed.ne_bool_str (fin_bl I q (by simp))
    | _ => exact absurd (show false = true from hs) Bool.false_ne_true
  | int i =>
    obtain ⟨t, rfl⟩ := rx
    cases y with
    | non => cases ry; exact PySem.EqNone.ne_int_none (fin_bl I q (by simp))
    | int j => obtain ⟨t', rfl⟩ := ry; exact ne_int (fin_bl I q (congrArg not dec_int))
    | str j => obtain ⟨t', rfl⟩ := ry; exact PySem.EqMixed.ne_int_str (fin_bl I q (by simp))
    | _ => exact absurd (show false = true from hs) Bool.false_ne_true
  | str i =>
    obtain ⟨t, rfl⟩ := rx
    cases y with
    | non => cases ry; exact PySem.EqNone.ne_str_none (fin_bl I q (by simp))
    | bl j => cases ry; exact PySem.EqMixed.ne_str_bool (fin_bl I q (by simp))
    | int j => obtain ⟨t', rfl⟩ := ry; exact PySem.EqMixed.ne_str_int (fin_bl I q (by simp))
    | str j => obtain ⟨t', rfl⟩ := ry; exact ne_str (fin_bl I q (congrArg not dec_str))
    | _ => exact absurd (show false = true from hs) Bool.false_ne_true
  | byt i =>
    obtain ⟨t, rfl⟩ := rx
    cases y with
    | byt j => obtain ⟨t', rfl⟩ := ry; exact PySem.W.ne_bytes (fin_bl I q (congrArg not dec_byt))
    | _ => exact absurd (show false = true from hs) Bool.false_ne_true
  | _ => cases y <;> exact absurd (show false = true from hs) Bool.false_ne_true

theorem op_lt : OpR X (compareOp .Lt) (rI0 fun i j => .bl (decide (i < j))) := opB0 fun _ _ _ _ _ _ _ q => lt_int q
theorem op_gt : OpR X (compareOp .Gt) (rI0 fun i j => .bl (decide (j < i))) := opB0 fun _ _ _ _ _ _ _ q => gt_int q
theorem nomark (b : Expr) {op : CmpOp} (h : op ≠ .In := by decide) (h2 : op ≠ .NotIn := by decide) : behindInMarks op b = false := by
  have e1 : (op == CmpOp.In) = false := by cases op <;> first | rfl | exact absurd rfl h
  have e2 : (op == CmpOp.NotIn) = false := by cases op <;> first | rfl | exact absurd rfl h2
  cases b <;> simp [behindInMarks, e1, e2]
/-- a comparison as a value; hm: nomark b, or (for in, not in) by with_unfolding_all rfl -/
theorem pe_cmpR {op : CmpOp} {r : R2} (ho : OpR X (compareOp op) r) (ha : PE X a ta) (hb : PE X b tb) (hm : behindInMarks op b = false) : PE X (.Compare a [op] [b] pos) (tOp r ta tb) := by
  intro pins s σ H Q I h
  exact wpAny_Compare1 (binT ha hb I h fun v u s2 x y H2 I2 rx ry q => ho pins s2 σ H2 x y v u Q I2 rx ry q) hm
/-- a reading of a value as a test -/
def tTest (t : TE) : TT := fun σ H Q => t σ H fun x H' => ∃ k, x = .bl k ∧ Q k H'
theorem pt_cmpR {op : CmpOp} {r : R2} (ho : OpR X (compareOp op) r) (ha : PE X a ta) (hb : PE X b tb) (hm : behindInMarks op b = false) : PT X (.Compare a [op] [b] pos) (tTest (tOp r ta tb)) := by
  intro pins s σ H Q I h
  refine wpAny_isTrue_Compare1 (thn (ha pins s σ H _ I h) fun v s1 ⟨x, H1, I1, r1, q1⟩ => thn (hb pins s1 σ H1 _ I1 q1) fun u s2 ⟨y, H2, I2, r2, q2⟩ =>
    thn (ho pins s2 σ H2 x y v u _ I2 r1 r2 q2) fun c s3 ⟨z, H3, I3, r3, k, e, q3⟩ => ?_) hm
  subst e
  cases r3
  exact wpAny_truthy_bool ⟨H3, I3, q3⟩
theorem line63 : (sizeLine : Nat) < 2 ^ 63 := by rw [sizeLine_eq]; decide
/-! ### scalar builtins, by CallR -/
theorem vals1 {x : V} {us : List Value} (r : Vals [x] us) : ∃ u, us = [u] ∧ RelV x u := by
  cases r with
  | cons r1 r2 => cases r2; exact ⟨_, rfl, r1⟩
theorem vals2 {x y : V} {us : List Value} (r : Vals [x, y] us) : ∃ u w', us = [u, w'] ∧ RelV x u ∧ RelV y w' := by
  cases r with
  | cons r1 r2 =>
    cases r2 with
    | cons r3 r4 => cases r4; exact ⟨_, _, rfl, r1, r3⟩
theorem call_abs : CallR X (.builtin "abs") (fun xs H Q => ∃ i, xs = [.int i] ∧ Q (.int (if i < 0 then -i else i)) H) := by
  intro pins s σ H xs us Q I r h
  obtain ⟨i, rfl, q⟩ := h
  obtain ⟨u, rfl, t, rfl⟩ := vals1 r
  exact call_abs_int fun u tk => ⟨.int (if i < 0 then -i else i), H, I.tok _, ⟨_, rfl⟩, q⟩
theorem call_max2 (hc : X.calm = true) : CallR X (.builtin "max") (fun xs H Q => ∃ i j, xs = [.int i, .int j] ∧ Q (.int (if j > i then j else i)) H) := by
  intro pins s σ H xs us Q I r h
  obtain ⟨i, j, rfl, q⟩ := h
  obtain ⟨u, w', rfl, ⟨t, rfl⟩, ⟨t', rfl⟩⟩ := vals2 r
  refine max_two_ints (I.ok.hd hc) fun h' tk k => ⟨_, H, I.kept k, ?_, q⟩
  by_cases hj : j > i
  · rw [if_pos hj, if_pos hj]; exact ⟨_, rfl⟩
  · rw [if_neg hj, if_neg hj]; exact ⟨_, rfl⟩
theorem call_min2 (hc : X.calm = true) : CallR X (.builtin "min") (fun xs H Q => ∃ i j, xs = [.int i, .int j] ∧ Q (.int (if j < i then j else i)) H) := by
  intro pins s σ H xs us Q I r h
  obtain ⟨i, j, rfl, q⟩ := h
  obtain ⟨u, w', rfl, ⟨t, rfl⟩, ⟨t', rfl⟩⟩ := vals2 r
  refine min_two_ints (I.ok.hd hc) fun h' tk k => ⟨_, H, I.kept k, ?_, q⟩
  by_cases hj : j < i
  · rw [if_pos hj, if_pos hj]; exact ⟨_, rfl⟩
  · rw [if_neg hj, if_neg hj]; exact ⟨_, rfl⟩
theorem call_int1 : CallR X (.type "int") (fun xs H Q => (∃ i, xs = [.int i] ∧ Q (.int i) H) ∨ ∃ k, xs = [.bl k] ∧ Q (.int (if k then 1 else 0)) H) := by
  intro pins s σ H xs us Q I r h
  rcases h with ⟨i, rfl, q⟩ | ⟨k, rfl, q⟩
  · obtain ⟨u, rfl, t, rfl⟩ := vals1 r
    exact call_int_int ⟨.int i, H, I, ⟨_, rfl⟩, q⟩
  · obtain ⟨u, rfl, r1⟩ := vals1 r
    cases r1
    exact call_int_bool ⟨.int (if k then 1 else 0), H, I.tok _, ⟨_, rfl⟩, q⟩
end
end L2

namespace L2
open PySem PySem.Spec PyProof.Rows

/-! ### an instance, its attributes a map -/
structure ObjM (h : Heap) (x dx C : Addr) (mA : Str → Option Value) : Prop where
  obj : h.get? x = some (PySem.W.instObj C dx)
  ns : h.Ns1 dx mA
  ne : dx ≠ x

theorem lookIn_ns {h : Heap} {dx : Addr} {mA : Str → Option Value} (n : h.Ns1 dx mA) : ∃ od, h.get? dx = some od ∧ ∀ name, PySem.W.lookIn name od = some (mA name) := by
  obtain ⟨o, es, ep, ho, hd, hk, _, hm⟩ := n
  refine ⟨o, ho, fun name => ?_⟩
  have e := hm name
  unfold nsFind findBy at e
  rw [← Array.find?_toList] at e
  unfold PySem.W.lookIn
  rw [hd]
  dsimp only
  split
  · rename_i y q
    rw [q] at e
    exact congrArg some e
  · rename_i q
    rw [q] at e
    have a : es.toList.any (·.refKey) = false := by
      rw [List.any_eq_false]
      intro y hy
      obtain ⟨z, t, hkey⟩ := hk y (Array.mem_toList_iff.mp hy)
      simp [DictEntry.refKey, hkey]
    have a' : ¬ es.toList.any (·.refKey) = true := by rw [a]; exact Bool.false_ne_true
    rw [if_neg a']
    exact congrArg some e

theorem ObjM.look {h : Heap} {x dx C : Addr} {mA : Str → Option Value} (I : ObjM h x dx C mA) : ∃ od, PySem.W.InstAt h x (PySem.W.instObj C dx) C (some od) ∧ ∀ name, PySem.W.lookIn name od = some (mA name) :=
  let ⟨od, ho, hl⟩ := lookIn_ns I.ns
  ⟨od, ⟨I.obj, rfl, rfl, ho⟩, hl⟩

section
variable {prog : Program} {w : World} {A : Around} {E : Value → Shared → Prop} {s : Shared} {K : PySem.W.Frag} {x dx C f : Addr} {mA : Str → Option Value} {name : Str} {v : Value}

end

section
variable {P : Program} {w : World} {H H' : Hp} {h h' : Heap} {a C dx : Addr} {fs fs' : List (Str × V)}
theorem ins_get (hok : HOk P w H h) (e : H a = some (.ins C dx fs)) : ∃ mA, ObjM h a dx C mA ∧ (∀ f, RelO (fs.lookup f) (mA f)) ∧ PySem.Within mA (fs.map (·.1)) ∧ fs.length ≤ 1000 ∧ H dx = some (.own a) := by
  obtain ⟨d, z, ne, ob, mA, n, r, q⟩ := (show ObjOk P w H h a (.ins C dx fs) from hok a _ e)
  exact ⟨mA, ⟨ob, n, ne⟩, r, q, z, d⟩
end

/-! ### what of the text a class must have -/
structure Cls (K : PySem.W.Frag) (C : Addr) : Prop where
  pg : PySem.W.plainGet K C Str.empty = true
  hd : PySem.W.hasDictIn K C = true
  po : PySem.W.plainOver K C = true
  sa : PySem.W.findIn K (.ref C) "__setattr__" = some (some (.builtin "object.__setattr__"))
theorem Cls.get {K : PySem.W.Frag} {C : Addr} (c : Cls K C) (f : Str) : PySem.W.plainGet K C f = true := c.pg
/-- a constant of the class -/
structure Con (K : PySem.W.Frag) (C : Addr) (f : Str) (v : V) (u : Value) : Prop where
  at_ : PySem.W.findIn K (.ref C) f = some (some u)
  rel : RelV v u
  get : PySem.W.specialIn K u "__get__" = some none
  cp : PySem.W.copiedNames.contains f = false
/-- a method: a plain def of the class or of one above it -/
structure Meth (K : PySem.W.Frag) (C : Addr) (m : Str) (f : Addr) : Prop where
  at_ : PySem.W.findIn K (.ref C) m = some (some (.ref f))
  fn : PySem.W.isFn K (.ref f) = true
  kp : PySem.W.keepIn K (.ref f) = true

section
variable {X : Cx} {pins : List (Addr × Obj)} {σ : St} {H : Hp} {s : Shared} {a C dx : Addr} {fs : List (Str × V)} {f : Str} {v : V} {A : Around} {E : Value → Shared → Prop}

/-- a new instance, tracked, without attributes -/
theorem Inv.made (I : Inv X pins σ H s) : Inv X pins σ (upd (upd H s.heap.objs.size (.own (s.heap.objs.size + 1))) (s.heap.objs.size + 1) (.ins C s.heap.objs.size []))
    { s with heap := (s.heap.push PySem.W.emptyDict).push (PySem.W.instObj C s.heap.objs.size) } := by
  have e1 : (s.heap.push PySem.W.emptyDict).get? s.heap.objs.size = some PySem.W.emptyDict := Heap.get?_push_size s.heap rfl
  have e2 : ((s.heap.push PySem.W.emptyDict).push (PySem.W.instObj C s.heap.objs.size)).get? (s.heap.objs.size + 1) = some (PySem.W.instObj C s.heap.objs.size) := by
    have := Heap.get?_push_size (s.heap.push PySem.W.emptyDict) (o := PySem.W.instObj C s.heap.objs.size) rfl
    rwa [Heap.size_push] at this
  have e3 : (s.heap.push PySem.W.emptyDict).Ns s.heap.objs.size (fun _ => none) := ⟨PySem.W.emptyDict, #[], _, e1, rfl, (fun e he => absurd he (by simp)), fun _ => rfl⟩
  have I1 := I.laid (a := s.heap.objs.size) (o := .own (s.heap.objs.size + 1)) (h' := s.heap.push PySem.W.emptyDict) (t' := s.toks) (fun b u q => Heap.get?_push_of_some _ q) (Nat.le_refl _) ⟨_, e1⟩
  refine I1.laid (a := s.heap.objs.size + 1) (o := .ins C s.heap.objs.size []) (t' := s.toks) (fun b u q => Heap.get?_push_of_some _ q) (Nat.le_of_eq (Heap.size_push _ _)) ?_
  have ne : s.heap.objs.size ≠ s.heap.objs.size + 1 := Nat.ne_of_lt (Nat.lt_succ_self _)
  refine ⟨by rw [upd_ne ne, upd_same], Nat.zero_le _, ne, e2, fun _ => none, (Heap.Ns1.of_empty e3).at fun o q => Heap.get?_push_of_some _ q, fun _ => True.intro, fun y hy => absurd rfl hy⟩

end

section
variable {X : Cx} {o e value : Expr} {f : Str} {pos pos' tpos : Pos} {ta tv : TE}
end

/-! ### isinstance -/
section
variable {X : Cx} {pins : List (Addr × Obj)} {σ : St} {H : Hp} {s : Shared} {A : Around} {E : Value → Shared → Prop} {Q : Value → Shared → Prop} {c : Value} {b : Bool}
/-- the type of a value, as the fragment's deciders take it; for an instance its class -/
inductive TyOf (K : PySem.W.Frag) (H : Hp) : V → Value → Prop where
  | non : TyOf K H .non (.type "NoneType")
  | bl (x : Bool) : TyOf K H (.bl x) (.type "bool")
  | int (i : Int) : TyOf K H (.int i) (.type "int")
  | str (x : Str) : TyOf K H (.str x) (.type "str")
  | flt (x : UInt64) : TyOf K H (.flt x) (.type "float")
  | lst {a : Addr} {xs : List V} (e : H a = some (.lst xs)) : TyOf K H (.ref a) (.type "list")
  | frz {a : Addr} {o : Obj} {xs : List V} (e : H a = some (.frz o (.lst xs))) : TyOf K H (.ref a) (.type "list")
  | tup {a : Addr} {xs : List V} (e : H a = some (.tup xs)) : TyOf K H (.ref a) (.type "tuple")
  | dK {a : Addr} {kvs : List (Key × V)} (e : H a = some (.dK kvs)) : TyOf K H (.ref a) (.type "dict")
  | dT {a : Addr} {kvs : List (List Key × V)} (e : H a = some (.dT kvs)) : TyOf K H (.ref a) (.type "dict")
  | ins {a C dx : Addr} {fs : List (Str × V)} (e : H a = some (.ins C dx fs)) (cl : Cls K C) (ha : PySem.W.findIn K (.ref C) "__class__" = some (some (.builtin "object.__class__")))
      (hn : PySem.W.specialIn K (.builtin "object.__class__") "__get__" = some (some (.builtin "getset_descriptor.__get__"))) (htk : PySem.W.takesIn K (.builtin "object.__class__") = some true)
      (hm : PySem.W.mroIn K C (.type "object") = some true) : TyOf K H (.ref a) (.ref C)
/-- isinstance(x, c) for one class c, a built-in or an own one: kitOne's answer -/
theorem isinst_ok {x : V} {u t : Value} (I : Inv X pins σ H s) (rx : RelV x u) (ty : TyOf X.K H x t) (e : PySem.W.kitOne X.K t c = some b) (h : ∀ tk, Q (.bool b) { s with toks := tk }) :
    wpAny (model X.prog X.w) A (call (.builtin "isinstance") [u, c]) Q E s := by
  cases ty with
  | non => cases (show u = Value.none from rx); exact PySem.W.kia_one PySem.W.kitx_none I.kIn True.intro e (fun z => nomatch z) h
  | bl y => cases (show u = Value.bool y from rx); exact PySem.W.kia_one PySem.W.kitx_bool I.kIn True.intro e (fun z => nomatch z) h
  | int i => obtain ⟨t, q⟩ := (show ∃ t, u = Value.int i t from rx); cases q; exact PySem.W.kia_one PySem.W.kitx_int I.kIn True.intro e (fun z => nomatch z) h
  | str y => obtain ⟨t, q⟩ := (show ∃ t, u = Value.str y t from rx); cases q; exact PySem.W.kia_one PySem.W.kitx_str I.kIn True.intro e (fun z => nomatch z) h
  | flt y => obtain ⟨t, q⟩ := (show ∃ t, u = Value.float y t from rx); cases q; exact PySem.W.kia_one PySem.W.kitx_float I.kIn True.intro e (fun z => nomatch z) h
  | @lst a xs ea =>
    cases (show u = Value.ref a from rx)
    obtain ⟨_, _, n, _, h1⟩ := (show ObjOk X.prog X.w H s.heap a (.lst xs) from I.hok a _ ea)
    exact PySem.W.kia_one PySem.W.kitx_list I.kIn ⟨_, h1, rfl⟩ e (fun z => nomatch z) h
  | @frz a ob xs ea =>
    cases (show u = Value.ref a from rx)
    obtain ⟨_, _, _, n, _, h1⟩ := (show ObjOk X.prog X.w H s.heap a (.frz ob (.lst xs)) from I.hok a _ ea)
    exact PySem.W.kia_one PySem.W.kitx_list I.kIn ⟨_, h1, rfl⟩ e (fun z => nomatch z) h
  | @tup a xs ea =>
    cases (show u = Value.ref a from rx)
    obtain ⟨_, _, _, p⟩ := (show ObjOk X.prog X.w H s.heap a (.tup xs) from I.hok a _ ea)
    obtain ⟨o, h1, h2, _⟩ := p
    exact PySem.W.kia_one PySem.W.kitx_tuple I.kIn ⟨o, h1, h2⟩ e (fun z => nomatch z) h
  | @dK a kvs ea =>
    cases (show u = Value.ref a from rx)
    obtain ⟨_, _, vs, _, p⟩ := (show ObjOk X.prog X.w H s.heap a (.dK kvs) from I.hok a _ ea)
    obtain ⟨o, es, ep, h1, h2, _⟩ := p
    exact PySem.W.kia_one PySem.W.kitx_dict I.kIn ⟨o, h1, h2.1⟩ e (fun z => nomatch z) h
  | @dT a kvs ea =>
    cases (show u = Value.ref a from rx)
    obtain ⟨_, _, xs, _, o, es, ep, h1, h2, _⟩ := (show ObjOk X.prog X.w H s.heap a (.dT kvs) from I.hok a _ ea)
    exact PySem.W.kia_one PySem.W.kitx_dict I.kIn ⟨o, h1, h2.1⟩ e (fun z => nomatch z) h
  | @ins a C dx fs ea cl ha hn htk hm =>
    cases (show u = Value.ref a from rx)
    obtain ⟨mA, O, _⟩ := ins_get I.hok ea
    obtain ⟨od, J, _⟩ := O.look
    exact PySem.W.kia_one (PySem.W.kitx_own (cl.get _) cl.hd ha hn htk hm) I.kIn J e (fun z => nomatch z) h
end
end L2

namespace L2
open PySem PySem.Spec PyProof.Rows

/-! ### room -/
structure Room (k : Nat) (A : Around) : Prop where
  hd : A.handled = none
  dp : A.depth + 3 * k + 5 < recursionLimit
  un : A.units + 16 * k + 200 < cLine
theorem Room.mono {j k : Nat} {A : Around} (r : Room k A) (h : j ≤ k) : Room j A := ⟨r.hd, by have := r.dp; omega, by have := r.un; omega⟩
theorem Room.deeper {k : Nat} {A : Around} (r : Room (k + 1) A) (env : Env) : Room k (A.deeper env) :=
  ⟨r.hd, by have := r.dp; show A.depth + 1 + 3 * k + 5 < _; omega, by have := r.un; show A.units + 3 + 16 * k + 200 < _; omega⟩
theorem Room.in1 {k : Nat} {A : Around} (r : Room (k + 1) A) : Room k A.in1 :=
  ⟨r.hd, by have := r.dp; show A.depth + 3 * k + 5 < _; omega, by have := r.un; show A.units + 1 + 16 * k + 200 < _; omega⟩
theorem Room.depth {k : Nat} {A : Around} (r : Room k A) : A.depth < recursionLimit := by have := r.dp; omega
theorem Room.units {k : Nat} {A : Around} (r : Room k A) : A.units + 64 < cLine := by have := r.un; omega
/-! ### argument lists and displays -/
def tNil : TA := fun _ H Q => Q [] H
def tCons (ta : TE) (tr : TA) : TA := fun σ H Q => ta σ H fun x H1 => tr σ H1 fun xs H2 => Q (x :: xs) H2
section
variable {X : Cx} {e : Expr} {es : List Expr} {te : TE} {t : TA} {pos : Pos}
theorem pa_nil : PA X [] tNil := fun _ _ _ _ H Q I h => Calls.spliced_nil ⟨[], H, I, .nil, h⟩
theorem pa_cons (ha : PE X e te) (hr : PA X es t) (hs : starEach (e :: es) X.env = (false, eval e X.env) :: starEach es X.env := by rfl) : PA X (e :: es) (tCons te t) := by
  intro pos pins s σ H Q I h
  rw [hs]
  show wpAny _ _ (spliced ((false, eval e X.env) :: backTo pos (starEach es X.env))) _ _ s
  refine Calls.spliced_cons (thn (ha pins s σ H _ I h) fun u s1 ⟨x, H1, I1, r1, q1⟩ => ?_)
  exact thn (hr pos pins s1 σ H1 _ I1 q1) fun us s2 ⟨xs, H2, I2, r2, q2⟩ => ⟨x :: xs, H2, I2, .cons r1 r2, q2⟩

/-- a tuple, a list of written items -/
def tTup (t : TA) : TE := fun σ H Q => t σ H fun xs H1 => xs.length ≤ sizeLine ∧ ∀ p, H1 p = none → Q (.ref p) (upd H1 p (.tup xs))
def tLst (t : TA) : TE := fun σ H Q => t σ H fun xs H1 => xs.length ≤ sizeLine ∧ ∀ p, H1 p = none → Q (.ref p) (upd H1 p (.lst xs))
theorem pe_tup {x1} (h : PA X es t) : PE X (.Tuple es x1 pos) (tTup t) := by
  intro pins s σ H Q I hq
  refine wpAny_Tuple_spliced (thn (h pos pins s σ H _ I hq) fun us s1 ⟨xs, H1, I1, r, z, q⟩ => ⟨by rw [← r.length]; exact z, ?_⟩)
  have hf : H1 s1.heap.objs.size = none := I1.hok.fresh (Nat.le_refl _)
  refine ⟨.ref s1.heap.objs.size, upd H1 s1.heap.objs.size (.tup xs), I1.laid (t' := s1.toks) (fun b u e => Heap.get?_push_of_some _ e) (Nat.le_refl _) ?_, rfl, q _ hf⟩
  exact ⟨z, us, r, ⟨_, Heap.get?_push_size _ rfl, rfl, _, rfl⟩⟩
theorem pe_lst (h : PA X es t) : PE X (.List es pos) (tLst t) := by
  intro pins s σ H Q I hq
  refine wpAny_List_spliced (thn (h pos pins s σ H _ I hq) fun us s1 ⟨xs, H1, I1, r, z, q⟩ => ⟨by rw [← r.length]; exact z, ?_⟩)
  have hf : H1 s1.heap.objs.size = none := I1.hok.fresh (Nat.le_refl _)
  refine ⟨.ref s1.heap.objs.size, upd H1 s1.heap.objs.size (.lst xs), I1.laid (t' := s1.toks) (fun b u e => Heap.get?_push_of_some _ e) (Nat.le_refl _) ?_, rfl, q _ hf⟩
  exact ⟨z, us, 0, r, Heap.get?_push_size _ rfl⟩
end

/-! ### what a def promises -/
/-- a def's promise: the bound arguments in the parameters' order, the heap, the wanted end, the wanted exception -/
abbrev Sp := List V → Hp → VK → XK → Prop
/-- how an exception lies behind a call (file 08 gives it): the callers' frames, abstract heap and state ahead of the call, the wish, the exception, the state -/
abbrev CXT := List Env → Hp → Shared → XK → Value → Shared → Prop

/-- the state at a call -/
structure Env0 (P : Program) (w : World) (K : PySem.W.Frag) (mg : Str → Option Value) (base : Heap) (A : Around) (outer : List Env) (s : Shared) (H : Hp) : Prop where
  frames : A.frames = some outer
  mod : Mod K mg base
  bs : ∀ b o, base.get? b = some o → s.heap.get? b = some o ∧ H b = none
  bsz : base.objs.size ≤ s.heap.objs.size
  funs : s.heap.FunFrames base outer
  frf : ∀ b ∈ frs outer, H b = none
  hok : HOk P w H s.heap
  bare : AllBare s.gens
/-- a call's end -/
def CE (outer : List Env) (P : Program) (w : World) (H : Hp) (s : Shared) (Q : VK) (u : Value) (s' : Shared) : Prop :=
  ∃ v H', s'.os = s.os ∧ AllBare s'.gens ∧ Un (frs outer) [] H H' s.heap s'.heap ∧ HOk P w H' s'.heap ∧ RelV v u ∧ Q v H'
def CR (CX : CXT) (outer : List Env) (P : Program) (w : World) (H : Hp) (s : Shared) (Q : VK) (E : XK) (r : Result) (s' : Shared) : Prop :=
  match r with
  | .ok (.ret u) => CE outer P w H s Q u s'
  | .ok _ => False
  | .error e => CX outer H s E e s'
structure FnOk (P : Program) (w : World) (K : PySem.W.Frag) (mg : Str → Option Value) (base : Heap) (CX : CXT) (k : Nat) (f : Addr) (fd : FuncData) (ps : List Str) (sp : Sp) : Prop where
  len : ∀ vs H Q E, sp vs H Q E → vs.length = ps.length
  run : ∀ (A : Around) (outer : List Env) (s : Shared) (H : Hp) (args : Args) (us : List Value) (vs : List V) (Q : VK) (E : XK), Room k A → Env0 P w K mg base A outer s H → BindsTo s fd args (ps.zip us) → Vals vs us → sp vs H Q E →
    codeAny (model P w) A (.call (.ref f) args) (CR CX outer P w H s Q E) s
theorem FnOk.mono {P : Program} {w : World} {K : PySem.W.Frag} {mg : Str → Option Value} {base : Heap} {CX : CXT} {j k : Nat} {f : Addr} {fd : FuncData} {ps : List Str} {sp : Sp} (F : FnOk P w K mg base CX j f fd ps sp) (h : j ≤ k) :
    FnOk P w K mg base CX k f fd ps sp := ⟨F.len, fun A outer s H args us vs Q E hr => F.run A outer s H args us vs Q E (hr.mono h)⟩
/-- a weaker promise -/
theorem FnOk.imp {P : Program} {w : World} {K : PySem.W.Frag} {mg : Str → Option Value} {base : Heap} {CX : CXT} {k : Nat} {f : Addr} {fd : FuncData} {ps : List Str} {sp sp' : Sp} (F : FnOk P w K mg base CX k f fd ps sp)
    (h : ∀ vs H Q E, sp' vs H Q E → sp vs H Q E) : FnOk P w K mg base CX k f fd ps sp' :=
  ⟨fun vs H Q E q => F.len vs H Q E (h _ _ _ _ q), fun A outer s H args us vs Q E hr he hb hv hs => F.run A outer s H args us vs Q E hr he hb hv (h _ _ _ _ hs)⟩

theorem Env0.in1 {P : Program} {w : World} {K : PySem.W.Frag} {mg : Str → Option Value} {base : Heap} {A : Around} {outer : List Env} {s : Shared} {H : Hp} (e : Env0 P w K mg base A outer s H) :
    Env0 P w K mg base A.in1 outer s H := ⟨e.frames, e.mod, e.bs, e.bsz, e.funs, e.frf, e.hok, e.bare⟩

section
variable {X : Cx} {pins : List (Addr × Obj)} {σ : St} {H : Hp} {s s' : Shared}
/-- from a body: what a callee wants -/
theorem Inv.env0 (I : Inv X pins σ H s) : Env0 X.prog X.w X.K X.mg X.base X.A X.stack s H :=
  ⟨I.ok.frames, I.ok.mod, I.bs, Nat.le_trans I.ok.bsz I.sz, I.stack, I.stkFree, I.hok, I.bare⟩
/-- behind a call -/
theorem Inv.after {Q : VK} {u : Value} (I : Inv X pins σ H s) (h : CE X.stack X.prog X.w H s Q u s') : EP X pins σ Q u s' := by
  obtain ⟨v, H', os, bare, un, hok, r, q⟩ := h
  obtain ⟨hh, g, d, t, os'⟩ := s'
  obtain rfl : os' = s.os := os
  exact ⟨v, H', I.call (h' := hh) (g' := g) (d' := d) (t' := t) (ch := []) un hok bare (fun b z => absurd z (by simp)), r, q⟩
end

/-! ### calls -/
/-- f(..): the written arguments, then the defaults dvs; E: what is wanted of an exception -/
def tCall (sp : Sp) (dvs : List V) (E : XK) (t : TA) : TE := fun σ H Q => t σ H fun vs H1 => sp (vs ++ dvs) H1 Q E
/-- how the parameters are bound: us the positional arguments, kw the keywords' values by name, ds the defaults that fill up -/
def Binds (K : PySem.W.Frag) (fd : FuncData) (ps : List Str) (ds : List Value) : Prop :=
  ∀ (s : Shared) (us : List Value), K.In s.heap → (us ++ ds).length = ps.length → BindsTo s fd ⟨us, []⟩ (ps.zip (us ++ ds))
/-- every parameter is given -/
theorem Binds.all {K : PySem.W.Frag} {fd : FuncData} {ps : List Str} (h : ∀ us : List Value, us.length = ps.length → bindArgs fd ⟨us, []⟩ = pure (ps.zip us)) : Binds K fd ps [] := fun s us _ hl => by
  rw [List.append_nil] at hl ⊢
  exact .of_eq (h us hl)

/-- an exception of a callee reaches what this body wants of exceptions -/
def Passes (CX : CXT) (X : Cx) (E : XK) : Prop := ∀ (pins : List (Addr × Obj)) (σ : St) (H : Hp) (s : Shared) (e : Value) (s' : Shared), Inv X pins σ H s → CX X.stack H s E e s' → X.xe e s'

section
variable {X : Cx} {CX : CXT} {k : Nat} {f C : Addr} {fd : FuncData} {ps : List Str} {sp : Sp} {dvs : List V} {ds : List Value} {E : XK} {x m : Str} {p pos apos : Pos} {e o : Expr} {es : List Expr} {ta : TE} {t : TA}

/-- the callee runs -/
theorem run_fn {pins : List (Addr × Obj)} {σ : St} {H : Hp} {s : Shared} {Q : VK} {us : List Value} {vs : List V} (F : FnOk X.prog X.w X.K X.mg X.base CX k f fd ps sp) (hr : Room k X.A) (hb : Binds X.K fd ps ds) (hd : Vals dvs ds) (hx : Passes CX X E)
    (I : Inv X pins σ H s) (r : Vals vs us) (h : sp (vs ++ dvs) H Q E) : wpAny (model X.prog X.w) X.A (call (.ref f) us) (EP X pins σ Q) X.xe s := by
  have r2 : Vals (vs ++ dvs) (us ++ ds) := r.append hd
  have hl : (us ++ ds).length = ps.length := by rw [← r2.length]; exact F.len _ _ _ _ h
  refine wpAny_call (codeAny_mono (F.run X.A X.stack s H ⟨us, []⟩ (us ++ ds) (vs ++ dvs) Q E hr I.env0 (hb s us I.kIn hl) r2 h) fun r s' hq => ?_)
  cases r with
  | error e => exact hx pins σ H s e s' I hq
  | ok fl =>
    cases fl with
    | ret u => exact I.after hq
    | next => exact False.elim hq
    | brk => exact False.elim hq
    | cont => exact False.elim hq

theorem pe_call (F : FnOk X.prog X.w X.K X.mg X.base CX k f fd ps sp) (hr : Room k X.A) (hg : Gl X x) (hm : X.mg x = some (.ref f)) (hk : PySem.W.keepIn X.K (.ref f) = true) (hb : Binds X.K fd ps ds) (hd : Vals dvs ds) (hx : Passes CX X E)
    (ha : PA X (e :: es) t) (hdb : (x == ("__debug__" : Str)) = false := by decide) (he : starEach (e :: es) X.env = (false, eval e X.env) :: starEach es X.env := by rfl) (hpl : (backTo pos (starEach es X.env)).any (·.1) = false := by rfl) :
    PE X (.Call (.Name x p) (e :: es) [] pos) (tCall sp dvs E t) := by
  intro pins s σ H Q I h
  refine wpAny_Call_Name_kw (ld_glob I hg hm ?_ hdb)
  refine PySem.W.callWith_K (h₀ := X.base) I.ok.mod.kin hk (thn (ha pos pins s σ H _ I h) fun us s1 ⟨vs, H1, I1, r, q⟩ => ⟨I1.kIn, ?_⟩) he hpl
  exact run_fn F hr hb hd hx I1 r q
/-- what a class must have to be made -/
structure Mk (K : PySem.W.Frag) (C f : Addr) : Prop where
  makes : PySem.W.makesIn K C = true
  init : PySem.W.findIn K (.ref C) "__init__" = some (some (.ref f))
  fn : PySem.W.isFn K (.ref f) = true
  kp : PySem.W.keepIn K (.ref C) = true

end

section
variable {X : Cx} {CX : CXT} {k : Nat} {f C : Addr} {fd : FuncData} {ps ks : List Str} {sp : Sp} {E : XK} {x m : Str} {p pos apos kpos : Pos} {e o : Expr} {es : List Expr} {kws : List Keyword} {te ta : TE} {t tk : TA} {nm : Option Str}
/-- how a call with keywords binds: g puts the positional values us and the keywords' values ws (names ks) in the parameters' order, defaults among them -/
structure KBinds (K : PySem.W.Frag) (fd : FuncData) (ps ks : List Str) (g : List Value → List Value → List Value) (gV : List V → List V → List V) : Prop where
  to : ∀ (s : Shared) (us ws : List Value), K.In s.heap → (g us ws).length = ps.length → BindsTo s fd ⟨us, ks.zip ws⟩ (ps.zip (g us ws))
  rel : ∀ {vs : List V} {us : List Value} {zs : List V} {ws : List Value}, Vals vs us → Vals zs ws → Vals (gV vs zs) (g us ws)
variable {g : List Value → List Value → List Value} {gV : List V → List V → List V}
end

/-! ### a def's body keeps its promise -/
/-- names: the parameters first -/
structure FnScope (N P : List Str) (sc : Scope) : Prop where
  kind : sc.kind = .function
  co : sc.isCoroutine = false
  gen : sc.isGenerator = false
  nd : N.Nodup
  pre : N.take P.length = P
  par : ∀ x ∈ P, sc.names.lookup x = some .local ∨ sc.names.lookup x = some .cell
  nofree : ∀ y ∈ sc.names, y.2 ≠ .free

theorem bindL_out {kindOf : Str → Option NameKind} {x : Str} : ∀ {binds : List (Str × Value)} {m : Str → Option Value}, (∀ v, (x, v) ∉ binds) → bindL kindOf binds m x = m x
  | [], _, _ => rfl
  | (n, v) :: r, m, h => by
    unfold bindL
    rw [bindL_out fun w hw => h w (List.mem_cons_of_mem _ hw)]
    split
    · have : x ≠ n := by rintro rfl; exact h v List.mem_cons_self
      simp [this]
    · rfl
theorem bindC_out {kindOf : Str → Option NameKind} {x : Str} : ∀ {binds : List (Str × Value)} {m : Str → Option Value}, (∀ v, (x, v) ∉ binds) → bindC kindOf binds m x = m x
  | [], _, _ => rfl
  | (n, v) :: r, m, h => by
    unfold bindC
    rw [bindC_out fun w hw => h w (List.mem_cons_of_mem _ hw)]
    split
    · rfl
    · have : x ≠ n := by rintro rfl; exact h v List.mem_cons_self
      simp [this]
theorem bindL_get {kindOf : Str → Option NameKind} {x : Str} {v : Value} : ∀ {P : List Str} {vs : List Value} {i : Nat} {m : Str → Option Value}, P.Nodup → P[i]? = some x → vs[i]? = some v → kindOf x = some .local →
    bindL kindOf (P.zip vs) m x = some v
  | [], _, _, _, _, h, _, _ => by simp at h
  | _ :: _, [], _, _, _, _, h, _ => by simp at h
  | p :: P, w :: vs, 0, m, nd, h1, h2, hk => by
    simp at h1 h2; subst h1; subst h2
    show bindL kindOf ((p, w) :: P.zip vs) m p = _
    unfold bindL
    rw [bindL_out fun v hv => (List.nodup_cons.mp nd).1 (List.of_mem_zip hv).1, if_pos hk]
    simp
  | p :: P, w :: vs, i + 1, m, nd, h1, h2, hk => by
    show bindL kindOf ((p, w) :: P.zip vs) m x = _
    unfold bindL
    exact bindL_get (i := i) (List.nodup_cons.mp nd).2 (by simpa using h1) (by simpa using h2) hk
theorem bindC_get {kindOf : Str → Option NameKind} {x : Str} {v : Value} : ∀ {P : List Str} {vs : List Value} {i : Nat} {m : Str → Option Value}, P.Nodup → P[i]? = some x → vs[i]? = some v → kindOf x ≠ some .local →
    bindC kindOf (P.zip vs) m x = some v
  | [], _, _, _, _, h, _, _ => by simp at h
  | _ :: _, [], _, _, _, _, h, _ => by simp at h
  | p :: P, w :: vs, 0, m, nd, h1, h2, hk => by
    simp at h1 h2; subst h1; subst h2
    show bindC kindOf ((p, w) :: P.zip vs) m p = _
    unfold bindC
    rw [bindC_out fun v hv => (List.nodup_cons.mp nd).1 (List.of_mem_zip hv).1, if_neg hk]
    simp
  | p :: P, w :: vs, i + 1, m, nd, h1, h2, hk => by
    show bindC kindOf ((p, w) :: P.zip vs) m x = _
    unfold bindC
    exact bindC_get (i := i) (List.nodup_cons.mp nd).2 (by simpa using h1) (by simpa using h2) hk

/-- the names' values at the entry -/
def start (N : List Str) (vs : List V) : St := vs.map some ++ List.replicate (N.length - vs.length) none

/-- the context of a def's body, at its entry; an exception leaves the frame, then lies as CX says -/
def cxOf (CX : CXT) (P : Program) (w : World) (K : PySem.W.Frag) (mg : Str → Option Value) (base : Heap) (N : List Str) (qual : Str) (scope : Scope) (f : Addr) (cd : Value) (A : Around) (outer : List Env) (s : Shared) (H : Hp) (E : XK) : Cx where
  prog := P
  w := w
  K := K
  mg := mg
  base := base
  A := A.deeper (envOfC qual scope s.heap.objs.size f cd)
  N := N
  s₀ := s
  H₀ := H
  env := envOfC qual scope s.heap.objs.size f cd
  outer := outer
  stack := envOfC qual scope s.heap.objs.size f cd :: outer
  ex := []
  calm := true
  fn := fun _ => true
  pn := []
  xe := fun e s' => wpAny (model P w) (A.deeper (envOfC qual scope s.heap.objs.size f cd)) (leaving (envOfC qual scope s.heap.objs.size f cd) e) (fun _ s'' => CX outer H s E e s'') (fun e' s'' => CX outer H s E e' s'') s'

theorem cell_has {sc : Scope} {n : Nat} {x : Str} (h : sc.names.lookup x = some .cell) : ∃ c, (cellsFrom n sc.names []).lookup x = some c := by
  have q := PySem.W.cellsFrom_some sc.names n [] (.inl h)
  exact Option.isSome_iff_exists.mp q

theorem inv_start {CX : CXT} {P : Program} {w : World} {K : PySem.W.Frag} {mg : Str → Option Value} {base : Heap} {N ps : List Str} {qual : Str} {scope : Scope} {f : Addr} {cd : Value} {A : Around} {outer : List Env} {s s1 : Shared} {H : Hp} {E : XK} {us : List Value} {vs : List V}
    (S : FnScope N ps scope) (hd : A.handled = none) (e0 : Env0 P w K mg base A outer s H) (hl : vs.length = ps.length) (r : Vals vs us)
    (x : InCallC s s.heap.objs.size (bindL (envOfC qual scope s.heap.objs.size f cd).kindOf (ps.zip us) fun _ => none) (cellsFrom (s.heap.objs.size + 1) scope.names []) (bindC (envOfC qual scope s.heap.objs.size f cd).kindOf (ps.zip us) fun _ => none) s1) :
    Inv (cxOf CX P w K mg base N qual scope f cd A outer s H E) [] (start N vs) H s1 := by
  have hpl : ps.length ≤ N.length := by have := congrArg List.length S.pre; rw [List.length_take] at this; omega
  obtain ⟨h1, tk, rfl, hk⟩ := x.done
  have noA : ∀ b : Addr, b ∉ (cxOf CX P w K mg base N qual scope f cd A outer s H E).ex := fun b z => absurd (show b ∈ ([] : List Addr) from z) (by simp)
  refine ⟨⟨e0.mod, S.kind, rfl, rfl, Nat.le_refl _, fun y z c h1 h2 => ?_, fun y hy => ?_, fun y c _ h => ?_, fun _ => hd, Around.frames_deeper e0.frames, .inr ⟨rfl, rfl⟩, fun b z => absurd z (noA b), e0.bs, e0.bsz, fun b _ _ => noA b, fun b z => absurd z (noA b), e0.funs, e0.frf⟩,
    rfl, e0.bare, Un.kept hk, ⟨_, x.toInCall.ns, fun i y v h1 h2 h3 => ?_⟩, fun y c h => ⟨_, x.cell y c h⟩, e0.hok.fresh (Nat.le_refl _), fun y c h => ?_, fun p hp => absurd (show p ∈ ([] : List (Addr × Obj)) from hp) (by simp), e0.hok.kept hk, ?_⟩
  · exact name_of_addr x.apart (PySem.mem_of_lookup h1) (PySem.mem_of_lookup h2)
  · have hy : scope.names.lookup y = some .cell ∨ scope.names.lookup y = some .free := hy
    rcases hy with hy | hy
    · exact cell_has hy
    · exact absurd rfl (S.nofree _ (PySem.mem_of_lookup hy))
  · exact Nat.le_of_lt (x.above y c (PySem.mem_of_lookup h))
  · have hi : i < vs.length := by
      unfold start at h2
      by_cases hi : i < vs.length
      · exact hi
      · rw [List.getElem?_append_right (by simpa using hi)] at h2
        rw [List.getElem?_replicate] at h2
        split at h2 <;> cases h2
    have ha : vs[i]? = some v := by
      unfold start at h2
      rw [List.getElem?_append_left (by simpa using hi), List.getElem?_map] at h2
      cases e : vs[i]? with
      | none => rw [e] at h2; cases h2
      | some a => rw [e] at h2; cases h2; rfl
    obtain ⟨u, hu, rv⟩ := r.get ha
    have hp : ps[i]? = some y := by
      rw [← S.pre, List.getElem?_take_of_lt (by omega)]; exact h1
    have ndP : ps.Nodup := by rw [← S.pre]; exact S.nd.sublist (List.take_sublist _ _)
    refine ⟨u, rv, ?_⟩
    rcases S.par y (List.mem_of_getElem? hp) with k | k
    · exact .inl ⟨k, bindL_get ndP hp hu k⟩
    · obtain ⟨c, e⟩ := cell_has (n := s.heap.objs.size + 1) k
      refine .inr ⟨.inl k, c, e, ?_⟩
      have q := x.cell y c e
      rw [bindC_get ndP hp hu (by show scope.names.lookup y ≠ _; rw [k]; decide)] at q
      exact q
  · exact e0.hok.fresh (Nat.le_of_lt (x.above y c (PySem.mem_of_lookup h)))
  · unfold start
    show _ = N.length
    rw [List.length_append, List.length_map, List.length_replicate]
    omega

/-- THE RULE: a def (or a method) of the text, by its body. The body's reading t is chosen for each entry; it is run at the parameters' values -/
theorem fn_of {CX : CXT} {P : Program} {w : World} {K : PySem.W.Frag} {mg : Str → Option Value} {base : Heap} {k : Nat} {f : Addr} {name qual : Str} {params : Arguments} {body : List Stmt} {scope : Scope} {dV kV doc pm cdv ct oc : Value} {an od : Option Addr}
    {osl : Array (Option Value)} {N ps : List Str} {sp : Sp} (lk : K.lookup f = some ⟨oc, od, .func (PySem.W.fnOf name qual params body scope dV kV doc pm an cdv ct), osl⟩) (hcd : PySem.W.codeIn K cdv qual = true) (S : FnScope N ps scope)
    (len : ∀ vs H Q E, sp vs H Q E → vs.length = ps.length)
    (hbody : ∀ (A : Around) (outer : List Env) (s : Shared) (H : Hp) (vs : List V) (Q : VK) (E : XK), Room k (A.deeper (envOfC qual scope s.heap.objs.size f cdv)) → sp vs H Q E →
      ∃ t, PSs (cxOf CX P w K mg base N qual scope f cdv A outer s H E) body t ∧ t { nx := fun _ H' => Q .non H', rt := Q } (start N vs) H) :
    FnOk P w K mg base CX (k + 1) f (PySem.W.fnOf name qual params body scope dV kV doc pm an cdv ct) ps sp := by
  refine ⟨len, fun A outer s H args us vs Q E hr e0 hb r hsp => ?_⟩
  have hl := len _ _ _ _ hsp
  have KX : K.In s.heap := e0.mod.kin.keeps fun b o e => (e0.bs b o e).1
  have lim : s.heap.NoLimit := e0.mod.nolimit.keeps fun b o e => (e0.bs b o e).1
  have hkind : ∀ y ∈ ps.zip us, scope.names.lookup y.1 = some .local ∨ (scope.names.lookup y.1 = some .cell ∧ ((cellsFrom (s.heap.objs.size + 1) scope.names []).lookup y.1).isSome = true) := fun ⟨n, v⟩ hy => by
    rcases S.par n (List.of_mem_zip hy).1 with q | q
    · exact .inl q
    · exact .inr ⟨q, PySem.W.cellsFrom_some _ _ _ (.inl q)⟩
  refine codeAny_call_function hr.depth (KX _ _ lk) rfl S.co S.gen rfl (PySem.W.codeRec_of KX hcd) (hb _ _ _ _ ?_)
  refine wpAny_newFunctionEnv_cells S.kind hkind fun env he s1 x => ?_
  subst he
  refine ⟨lim.keeps x.toInCall.keep, codeAny_func ?_⟩
  obtain ⟨t, ht, hq⟩ := hbody A outer s H vs Q E (hr.deeper _) hsp
  have I : Inv (cxOf CX P w K mg base N qual scope f cdv A outer s H E) [] (start N vs) H s1 := inv_start S hr.hd e0 hl r x
  refine wpAny_mono (ht [] s1 (start N vs) H _ I hq) (fun fl s' hs => ?_) fun e s' hs => hs
  have fin : ∀ {σ' : St} {H' : Hp} {v : V} {u : Value}, Inv (cxOf CX P w K mg base N qual scope f cdv A outer s H E) [] σ' H' s' → RelV v u → Q v H' → CE outer P w H s Q u s' :=
    fun {σ' H' v u} J rv q => ⟨v, H', J.os, J.bare, J.base, J.hok, rv, q⟩
  cases fl with
  | ret u =>
    obtain ⟨v, σ', H', J, rv, q⟩ := hs
    exact fin J rv q
  | next =>
    obtain ⟨σ', H', J, q⟩ := hs
    exact fin (v := V.non) (u := Value.none) J rfl q
  | brk =>
    obtain ⟨_, _, _, q⟩ := hs
    exact False.elim q
  | cont =>
    obtain ⟨_, _, _, q⟩ := hs
    exact False.elim q
end L2

namespace L2
open PySem PySem.Spec PyProof.Rows
section
variable {X : Cx} {x : Str} {p pos : Pos} {e : Expr} {es : List Expr} {t : TA} {id T : String} {r : List V → Hp → VK → Prop}

def tCB (r : List V → Hp → VK → Prop) (t : TA) : TE := fun σ H Q => t σ H fun vs H1 => r vs H1 Q
/-- f(e, ..), f a built-in function -/
theorem pe_callB (hc : CallR X (.builtin id) r) (hg : Gl X x) (hm : X.mg x = none) (hv : bootBuiltins x = some (.builtin id)) (ha : PA X (e :: es) t) (hn : x ≠ "__name__" := by decide) (hdb : (x == ("__debug__" : Str)) = false := by decide)
    (he : starEach (e :: es) X.env = (false, eval e X.env) :: starEach es X.env := by rfl) (hpl : (backTo pos (starEach es X.env)).any (·.1) = false := by rfl) : PE X (.Call (.Name x p) (e :: es) [] pos) (tCB r t) := by
  intro pins s σ H Q I h
  refine wpAny_Call_Name_kw (ld_blt I hg hm hv ?_ hn hdb)
  exact PyProof.Rows.callWith_builtin1 (thn (ha pos pins s σ H _ I h) fun us s1 ⟨vs, H1, I1, r1, q1⟩ => hc pins s1 σ H1 vs us Q I1 r1 q1) he hpl
/-- T(e, ..), T a built-in type -/
theorem pe_callTy (hc : CallR X (.type T) r) (hg : Gl X x) (hm : X.mg x = none) (hv : bootBuiltins x = some (.type T)) (ha : PA X (e :: es) t) (hn : x ≠ "__name__" := by decide) (hdb : (x == ("__debug__" : Str)) = false := by decide)
    (he : starEach (e :: es) X.env = (false, eval e X.env) :: starEach es X.env := by rfl) (hpl : (backTo pos (starEach es X.env)).any (·.1) = false := by rfl) : PE X (.Call (.Name x p) (e :: es) [] pos) (tCB r t) := by
  intro pins s σ H Q I h
  refine wpAny_Call_Name_kw (ld_blt I hg hm hv ?_ hn hdb)
  exact PyProof.Rows.callWith_type1 (thn (ha pos pins s σ H _ I h) fun us s1 ⟨vs, H1, I1, r1, q1⟩ => hc pins s1 σ H1 vs us Q I1 r1 q1) he hpl
end
end L2

namespace HT
open PySem PyProof.Rows

section
open PySem.SeqAt
open PySem.AutoSeq1 (wpAny_loadPart')
open PySem.MeetsSeq PySem.MeetsSeq2 PySem.MeetsSeq3

end

section
variable {prog : Program} {w : World} {A : Around} {E : Value → Shared → Prop} {s : Shared}

/-- t + u, t not empty -/
theorem cat_tup {t b : Addr} {vs ws : List Value} {Q : Value → Shared → Prop} (ht : IsTup s.heap t vs.toArray) (hb : IsTup s.heap b ws.toArray) (hv : vs ≠ [])
    (h1 : ws = [] → Q (.ref t) s) (h2 : ws ≠ [] → Q (.ref s.heap.objs.size) { s with heap := s.heap.push { cls := .type "tuple", data := .seq (vs ++ ws).toArray } })
    (hsz : vs.length + ws.length ≤ sizeLine) : wpAny (model prog w) A (binaryOp .Add (.ref t) (.ref b)) Q E s := by
  obtain ⟨⟨cls, dd, data, sl⟩, ho, hc, n, hd⟩ := id ht
  obtain ⟨⟨cls2, dd2, data2, sl2⟩, ho2, hc2, n2, hd2⟩ := id hb
  simp only at hc hd hc2 hd2
  subst hc hd hc2 hd2
  have e : vs.toArray ++ ws.toArray = (vs ++ ws).toArray := by simp
  by_cases hw : ws = []
  · exact concat_meets ⟨_, ho, rfl⟩ ⟨_, ho2, rfl⟩ noFill_tuple_add seq_tuple_add PySem.F.slot_tuple_add PySem.F.entry_tuple_add (PySem.F.args_tuple_add_2 _ _)
      (tuple_addW1 t b vs.toArray ws.toArray n n2 dd dd2 sl sl2 (by simpa using hv) (by simp [hw])) ⟨ho, ho2, h1 hw⟩
  · refine concat_meets ⟨_, ho, rfl⟩ ⟨_, ho2, rfl⟩ noFill_tuple_add seq_tuple_add PySem.F.slot_tuple_add PySem.F.entry_tuple_add (PySem.F.args_tuple_add_2 _ _)
      (tuple_addW2 t b vs.toArray ws.toArray n n2 dd dd2 sl sl2 (by simpa using hv) (by simpa using hw) (by rw [List.size_toArray, List.size_toArray]; exact hsz)) ⟨ho, ho2, ?_⟩
    rw [e]
    exact h2 hw

/-! ### t[a:b], not the whole -/
/-- a slice's bound as a place among n (d where it is left out) -/
def sIx (n d : Nat) : Option Int → Nat
  | none => d
  | some v => if v < 0 then (v + (n : Int)).toNat else min v.toNat n
theorem sIx_none (n d : Nat) : sIx n d none = d := rfl
theorem sIx_le (n d : Nat) (hd : d ≤ n) (o : Option Int) : sIx n d o ≤ n := by
  cases o with
  | none => exact hd
  | some v =>
    show (if v < 0 then (v + (n : Int)).toNat else min v.toNat n) ≤ n
    by_cases hv : v < 0
    · rw [if_pos hv]; omega
    · rw [if_neg hv]; exact Nat.min_le_right _ _
theorem clip_eq (v : Int) (n d : Nat) : (if v < 0 then max (v + (n : Int)) 0 else min v (n : Int)) = ((sIx n d (some v) : Nat) : Int) := by
  show (if v < 0 then max (v + (n : Int)) 0 else min v (n : Int)) = (((if v < 0 then (v + (n : Int)).toNat else min v.toNat n) : Nat) : Int)
  by_cases hv : v < 0
  · simp only [if_pos hv]; omega
  · simp only [if_neg hv]; omega
theorem adjust_gen (lo hi : Option Int) (n : Nat) : Builtin.Slice.sliceAdjust lo hi 1 (n : Int) = (((sIx n 0 lo : Nat) : Int), ((sIx n n hi : Nat) : Int)) := by
  have h1 : ¬ ((1 : Int) < 0) := by omega
  unfold Builtin.Slice.sliceAdjust
  simp only [h1, if_false]
  refine Prod.ext ?_ ?_
  · cases lo with
    | none => rfl
    | some v => exact clip_eq v n 0
  · cases hi with
    | none => rfl
    | some v => exact clip_eq v n n
theorem places_gen (i j : Nat) : Builtin.Slice.slicePlaces (i : Int) (j : Int) 1 = j - i := by
  unfold Builtin.Slice.slicePlaces
  have h1 : (1 : Int) > 0 := by omega
  simp only [h1, if_true, Int.ediv_one]
  split <;> omega
theorem slicePart_ {v : Value} {o : Option Int} {Q : Option Int → Shared → Prop} (p : IsPart v o) (h : Q o s) : wpAny (model prog w) A (Builtin.Slice.slicePartIndex v) Q E s := by
  cases p with
  | none => exact slicePart_none h
  | int i t => exact slicePart_int h
theorem sliceApplied_gen {sl : Addr} {vl vu : Value} {lo hi : Option Int} {n : Nat} {Q : Int × Int × Nat → Shared → Prop} (hs : s.heap.IsSliceOf sl vl vu .none) (pl : IsPart vl lo) (pu : IsPart vu hi)
    (h : Q (((sIx n 0 lo : Nat) : Int), 1, sIx n n hi - sIx n 0 lo) s) : wpAny (model prog w) A (Builtin.Slice.sliceApplied (.ref sl) (pure (n : Int))) Q E s := by
  obtain ⟨os, hos, hcs, hds⟩ := id hs
  unfold Builtin.Slice.sliceApplied Builtin.Slice.sliceFields
  refine wpAny_bind (wpAny_bind (wpAny_field hos hds (x := vl) rfl (wpAny_bind (wpAny_field hos hds (x := vu) rfl (wpAny_bind (wpAny_field hos hds (x := .none) rfl (wpAny_pure ?_)))))))
  refine wpAny_bind (slicePart_none ?_)
  show wpAny _ _ (if ((1 : Int) == 0) = true then _ else _) _ _ s
  rw [if_neg (by decide)]
  refine wpAny_bind (slicePart_ pl (wpAny_bind (slicePart_ pu (wpAny_bind (wpAny_pure ?_)))))
  show wpAny _ _ (match Builtin.Slice.sliceAdjust lo hi 1 (n : Int) with | (lo, hi) => pure (lo, (1 : Int), Builtin.Slice.slicePlaces lo hi 1)) _ _ s
  rw [adjust_gen lo hi n]
  show wpAny _ _ (pure (((sIx n 0 lo : Nat) : Int), (1 : Int), Builtin.Slice.slicePlaces ((sIx n 0 lo : Nat) : Int) ((sIx n n hi : Nat) : Int) 1)) _ _ s
  rw [places_gen]
  exact wpAny_pure h
theorem pick_gen (xs : Array Value) (i k : Nat) : ((List.range k).filterMap fun (m : Nat) => xs[((i : Int) + (m : Int) * 1).toNat]?).toArray = ((xs.toList.drop i).take k).toArray := by
  have e : (fun (m : Nat) => xs[((i : Int) + (m : Int) * 1).toNat]?) = fun m => xs[i + m]? := by
    funext m
    have : ((i : Int) + (m : Int) * 1).toNat = i + m := by omega
    rw [this]
  rw [e]
  have := pick_run xs i k
  rw [List.filterMap_map] at this
  have e2 : ((fun x => xs[x]?) ∘ fun x => i + x) = fun m => xs[i + m]? := rfl
  rw [e2] at this
  rw [this]

theorem getItem_tuple_cut {t sl : Addr} {items : Array Value} {vl vu : Value} {lo hi : Option Int} {Q : Value → Shared → Prop} (ht : IsTup s.heap t items) (hs : s.heap.IsSliceOf sl vl vu .none) (pl : IsPart vl lo) (pu : IsPart vu hi)
    (hw : ¬ (sIx items.size 0 lo = 0 ∧ sIx items.size items.size hi = items.size))
    (h : Q (.ref s.heap.objs.size) { s with heap := s.heap.push { cls := .type "tuple", data := .seq ((items.toList.drop (sIx items.size 0 lo)).take (sIx items.size items.size hi - sIx items.size 0 lo)).toArray } })
    (hsz : items.size ≤ sizeLine) : wpAny (model prog w) A (getItem (.ref t) (.ref sl)) Q E s := by
  have htake : sizeOk (.seq ((items.toList.drop (sIx items.size 0 lo)).take (sIx items.size items.size hi - sIx items.size 0 lo)).toArray) := by
    show ((items.toList.drop (sIx items.size 0 lo)).take (sIx items.size items.size hi - sIx items.size 0 lo)).toArray.size ≤ sizeLine
    rw [List.size_toArray, List.length_take, List.length_drop, Array.length_toList]
    omega
  have hj : sIx items.size items.size hi ≤ items.size := sIx_le _ _ (Nat.le_refl _) hi
  obtain ⟨os, hos, hcs, hds⟩ := id hs
  have hTs : s.TypeIs (.ref sl) "slice" := ⟨os, hos, hcs⟩
  unfold getItem
  try with_reducible refine wpAny_holding ?_
  first | refine wpAny_bind (wpAny_pure ?_) | skip
  refine wpAny_bind (wpAny_sequenceKey ht.typeIs (by decide) ?_)
  refine wpAny_bind (wpAny_callSpecial?_slot (name := Str.ofString "__getitem__") ht.typeIs PyProof.Rows.slot_tuple_getitem
    (wpAny_call_entry PyProof.Rows.slot_tuple_getitem ht.typeIs entry_tuple_getitem ?_ (args_tuple_getitem _ _)))
  show wpAny _ _ (Builtin.Tuple.tupleItemsOf (.ref t) >>= _) _ _ s
  refine wpAny_bind (tupleItemsOf_ ht ?_)
  refine wpAny_bind (wpAny_typeOf hTs ?_)
  rw [if_pos (by decide)]
  refine wpAny_bind (sliceApplied_gen hs pl pu ?_)
  have hno : ¬ ((((sIx items.size 0 lo : Nat) : Int) == 0 && (1 : Int) == 1 && (sIx items.size items.size hi - sIx items.size 0 lo) == items.size) = true) := by
    intro q
    rw [Bool.and_eq_true, Bool.and_eq_true] at q
    have q1 : ((sIx items.size 0 lo : Nat) : Int) = 0 := eq_of_beq q.1.1
    have q2 : sIx items.size items.size hi - sIx items.size 0 lo = items.size := eq_of_beq q.2
    exact hw ⟨by omega, by omega⟩
  show wpAny _ _ (if (((sIx items.size 0 lo : Nat) : Int) == 0 && (1 : Int) == 1 && (sIx items.size items.size hi - sIx items.size 0 lo) == items.size) = true then _ else _) _ _ s
  rw [if_neg hno, pick_gen]
  first
    | exact wpAny_bind (m := Builtin.Tuple.tupleExact _) (wpAny_newObj_type (wpAny_pure ⟨_, rfl, wpAny_pure h⟩) htake)
    | exact wpAny_bind (m := Builtin.Tuple.tupleExact _) (wpAny_newObj_type (wpAny_bind (wpAny_pure (wpAny_pure ⟨_, rfl, wpAny_pure h⟩))) htake)
    | exact wpAny_bind (wpAny_bind (m := Builtin.Tuple.tupleExact _) (wpAny_newObj_type (wpAny_pure (wpAny_pure ⟨_, rfl, wpAny_pure h⟩)) htake))
    | exact wpAny_bind (wpAny_bind (m := Builtin.Tuple.tupleExact _) (wpAny_newObj_type (wpAny_pure ⟨_, rfl, wpAny_pure h⟩) htake))
end
end HT

namespace L2
open PySem PySem.Spec PyProof.Rows

/-! ### the parts of a slice -/
abbrev TO := St → Hp → (Option Int → Hp → Prop) → Prop
/-- a slice's part (left out, or an int) -/
def PO (X : Cx) (e : Option Expr) (t : TO) : Prop :=
  ∀ (pins : List (Addr × Obj)) (s : Shared) (σ : St) (H : Hp) (Q : Option Int → Hp → Prop), Inv X pins σ H s → t σ H Q →
    wpAny (model X.prog X.w) X.A (evalPart e X.env) (fun u s' => ∃ o H', Inv X pins σ H' s' ∧ IsPart u o ∧ Q o H') X.xe s
def tNoPart : TO := fun _ H Q => Q none H
def tPart (t : TE) : TO := fun σ H Q => t σ H fun x H1 => ∃ i, x = .int i ∧ Q (some i) H1

section
variable {X : Cx} {e : Expr} {te : TE} {lo hi : Option Expr} {tl th : TO} {pos p2 : Pos}

theorem po_none : PO X none tNoPart := by
  intro pins s σ H Q I h
  rw [evalPart_none]
  exact wpAny_pure ⟨none, H, I, .none, h⟩
theorem po_some (h : PE X e te) : PO X (some e) (tPart te) := by
  intro pins s σ H Q I hw
  rw [evalPart_some]
  refine thn (h pins s σ H _ I hw) fun u s1 ⟨x, H1, I1, r1, q1⟩ => ?_
  obtain ⟨i, rfl, q⟩ := q1
  obtain ⟨t, rfl⟩ := r1
  exact ⟨some i, H1, I1, .int i t, q⟩

/-- what a slice of a value is, by values: the slice object stands at sl -/
def SlR (X : Cx) (r : V → Option Int → Option Int → Hp → VK → Prop) : Prop :=
  ∀ (pins : List (Addr × Obj)) (s : Shared) (σ : St) (H : Hp) (x : V) (v vl vu : Value) (lo hi : Option Int) (sl : Addr) (Q : VK), Inv X pins σ H s → RelV x v → s.heap.IsSliceOf sl vl vu .none → IsPart vl lo → IsPart vu hi → r x lo hi H Q →
    ∃ T id, typeLookup (.type T) "__getitem__" = pure (some (.builtin id)) ∧ s.TypeIs v T ∧ wpAny (model X.prog X.w) X.A (getItem v (.ref sl)) (EP X pins σ Q) X.xe s
def tSl (r : V → Option Int → Option Int → Hp → VK → Prop) (te : TE) (tl th : TO) : TE := fun σ H Q => te σ H fun x H1 => tl σ H1 fun l H2 => th σ H2 fun u H3 => r x l u H3 Q
/-- a[lo:hi], any a -/
theorem pe_slice {r : V → Option Int → Option Int → Hp → VK → Prop} (hr : SlR X r) (he : PE X e te) (hl : PO X lo tl) (hu : PO X hi th) : PE X (.Subscript e (.Slice lo hi none p2) pos) (tSl r te tl th) := by
  intro pins s σ H Q I h
  refine Subscript_ (thn (he pins s σ H _ I h) fun v s1 ⟨x, H1, I1, r1, q1⟩ => ?_)
  refine wpAny_Slice (thn (hl pins s1 σ H1 _ I1 q1) fun vl s2 ⟨l, H2, I2, pl, q2⟩ => thn (hu pins s2 σ H2 _ I2 q2) fun vu s3 ⟨u, H3, I3, pu, q3⟩ => ?_)
  rw [evalPart_none]
  refine wpAny_pure ?_
  have I4 : Inv X pins σ H3 { s3 with heap := s3.heap.push { cls := .type "slice", data := .fields #[vl, vu, .none] } } := I3.kept (t' := s3.toks) fun b ob q => Heap.get?_push_of_some _ q
  obtain ⟨T, id, hT, ht, hg⟩ := hr pins { s3 with heap := s3.heap.push { cls := .type "slice", data := .fields #[vl, vu, .none] } } σ H3 x v vl vu l u s3.heap.objs.size Q I4 r1 (Heap.IsSliceOf.new ..) pl pu q3
  show wpAny (model X.prog X.w) X.A (subscriptTail e (.Slice lo hi none p2) v (.ref s3.heap.objs.size)) (EP X pins σ Q) X.xe { s3 with heap := s3.heap.push { cls := .type "slice", data := .fields #[vl, vu, .none] } }
  exact tail_any (ops := [.ref s3.heap.objs.size, v]) ht hT hg (by with_unfolding_all rfl)

/-- the items of xs[lo:hi] -/
def cutV (xs : List V) (lo hi : Option Int) : List V := (xs.drop (HT.sIx xs.length 0 lo)).take (HT.sIx xs.length xs.length hi - HT.sIx xs.length 0 lo)
theorem cutV_length (xs : List V) (lo hi : Option Int) : (cutV xs lo hi).length ≤ xs.length := by
  unfold cutV
  rw [List.length_take, List.length_drop]
  omega
/-- t[lo:hi], not the whole of it (the whole would be t itself) -/
def rSlT (K : PySem.W.Frag) : V → Option Int → Option Int → Hp → VK → Prop := fun x lo hi H Q => ∃ a xs, x = .ref a ∧ SqT K H a xs ∧
  ¬ (HT.sIx xs.length 0 lo = 0 ∧ HT.sIx xs.length xs.length hi = xs.length) ∧ ∀ p, H p = none → Q (.ref p) (upd H p (.tup (cutV xs lo hi)))
theorem sl_tup : SlR X (rSlT X.K) := by
  intro pins s σ H x v vl vu lo hi sl Q I rx hs pl pu h
  obtain ⟨a, xs, rfl, hx, hw, q⟩ := h
  cases rx
  obtain ⟨its, r, ht, hz⟩ := I.tuple hx
  have hlen : its.toArray.size = xs.length := by rw [List.size_toArray]; exact r.length.symm
  refine ⟨"tuple", _, PyProof.Rows.slot_tuple_getitem.lookup, ht.typeIs, ?_⟩
  refine HT.getItem_tuple_cut ht hs pl pu (by rw [hlen]; exact hw) ?_ (by rw [hlen]; exact hz)
  rw [hlen]
  refine ⟨.ref s.heap.objs.size, _, I.laid (t' := s.toks) (o := .tup (cutV xs lo hi)) (fun b ob q => Heap.get?_push_of_some _ q) (Nat.le_refl _) ?_, rfl, q _ (I.hok.fresh (Nat.le_refl _))⟩
  exact ⟨Nat.le_trans (cutV_length xs lo hi) hz, _, (r.drop (HT.sIx xs.length 0 lo)).take (HT.sIx xs.length xs.length hi - HT.sIx xs.length 0 lo), IsTup.new _ _⟩

/-- t + u, t not empty: u empty gives t itself -/
def rCatT (K : PySem.W.Frag) : R2 := fun x y H Q => ∃ a b xs ys, x = .ref a ∧ y = .ref b ∧ SqT K H a xs ∧ SqT K H b ys ∧ xs ≠ [] ∧ xs.length + ys.length ≤ sizeLine ∧
  (ys = [] → Q (.ref a) H) ∧ (ys ≠ [] → ∀ p, H p = none → Q (.ref p) (upd H p (.tup (xs ++ ys))))
theorem Vals.nil_iff {xs : List V} {us : List Value} (r : Vals xs us) : us = [] ↔ xs = [] := by
  cases r with
  | nil => simp
  | cons _ _ => simp
theorem op_catT : OpR X (binaryOp .Add) (rCatT X.K) := by
  intro pins s σ H x y v u Q I rx ry h
  obtain ⟨a, b, xs, ys, rfl, rfl, ha, hb, hx, hz, q1, q2⟩ := h
  cases rx
  cases ry
  obtain ⟨its, r1, p1, _⟩ := I.tuple ha
  obtain ⟨its2, r2, p2, _⟩ := I.tuple hb
  refine HT.cat_tup p1 p2 (fun z => hx (r1.nil_iff.mp z)) (fun z => ⟨.ref a, H, I, rfl, q1 (r2.nil_iff.mp z)⟩) (fun z => ?_) (by rw [← r1.length, ← r2.length]; exact hz)
  refine ⟨.ref s.heap.objs.size, _, I.laid (t' := s.toks) (o := .tup (xs ++ ys)) (fun b ob q => Heap.get?_push_of_some _ q) (Nat.le_refl _) ?_, rfl, q2 (fun w => z (r2.nil_iff.mpr w)) _ (I.hok.fresh (Nat.le_refl _))⟩
  exact ⟨by rw [List.length_append]; exact hz, _, r1.append r2, IsTup.new _ _⟩
end
end L2

namespace L2
open PySem PySem.Spec PyProof.Rows

/-! ### places -/
/-- the place that an index of any sign means -/
def ixN (n : Nat) (i : Int) : Option Nat := if 0 ≤ i then (if i < n then some i.toNat else none) else if -(n : Int) ≤ i then some (i + n).toNat else none
def atI {α : Type} (xs : List α) (i : Int) : Option α := (ixN xs.length i).bind fun j => xs[j]?
theorem ixN_seq {n : Nat} {i : Int} {j : Nat} (h : ixN n i = some j) : seqIndex? i n = some j ∧ j < n ∧ -(n : Int) ≤ i ∧ i < n := by
  unfold ixN at h
  by_cases h0 : 0 ≤ i
  · rw [if_pos h0] at h
    by_cases h1 : i < n
    · rw [if_pos h1] at h
      have e : i.toNat = j := Option.some.inj h
      exact ⟨by rw [seqIndex_of h0 h1, e], by omega, by omega, h1⟩
    · rw [if_neg h1] at h; cases h
  · rw [if_neg h0] at h
    by_cases h1 : -(n : Int) ≤ i
    · rw [if_pos h1] at h
      have e : (i + n).toNat = j := Option.some.inj h
      exact ⟨by rw [seqIndex_neg (by omega) h1, e], by omega, h1, by omega⟩
    · rw [if_neg h1] at h; cases h
theorem atI_get {α : Type} {xs : List α} {i : Int} {v : α} (h : atI xs i = some v) : ∃ j, seqIndex? i xs.length = some j ∧ xs[j]? = some v ∧ j < xs.length ∧ -(xs.length : Int) ≤ i ∧ i < xs.length := by
  unfold atI at h
  cases e : ixN xs.length i with
  | none => rw [e] at h; cases h
  | some j =>
    rw [e] at h
    obtain ⟨h1, h2, h3, h4⟩ := ixN_seq e
    exact ⟨j, h1, h, h2, h3, h4⟩
theorem atI_nat {α : Type} {xs : List α} {j : Nat} {v : α} (h : xs[j]? = some v) : atI xs (j : Int) = some v := by
  have hj : j < xs.length := (List.getElem?_eq_some_iff.mp h).1
  have e : ixN xs.length (j : Int) = some j := by
    unfold ixN
    rw [if_pos (by omega), if_pos (by omega)]; simp
  unfold atI; rw [e]; exact h
/-! ### what may be subscripted -/
/-- what stands as an index of a plain subscript -/
def PlainIx (b : Expr) : Prop := ∀ o i, subscripted b false o i = operate [o, i] (getItem o i)
/-- a subscript by values -/
def IxR (X : Cx) (r : R2) : Prop :=
  ∀ (value slice : Expr) (pins : List (Addr × Obj)) (s : Shared) (σ : St) (H : Hp) (x y : V) (v u : Value) (Q : VK), Inv X pins σ H s → RelV x v → RelV y u → r x y H Q →
    subscripted slice false v u = operate [v, u] (getItem v u) → wpAny (model X.prog X.w) X.A (subscriptTail value slice v u) (EP X pins σ Q) X.xe s
/-- a call of a builtin's method by values: the receiver, the arguments -/
def MtR (X : Cx) (id : String) (r : V → List V → Hp → VK → Prop) : Prop :=
  ∀ (pins : List (Addr × Obj)) (s : Shared) (σ : St) (H : Hp) (x : V) (xs : List V) (v : Value) (us : List Value) (Q : VK), Inv X pins σ H s → RelV x v → Vals xs us → r x xs H Q →
    wpAny (model X.prog X.w) X.A (call (.builtin id) (v :: us)) (EP X pins σ Q) X.xe s
section
variable {X : Cx} {a b : Expr} {ta tb : TE} {pos : Pos}
/-- a[b] -/
theorem pe_ix {r : R2} (hr : IxR X r) (ha : PE X a ta) (hb : PE X b tb) (hs : PlainIx b) : PE X (.Subscript a b pos) (tOp r ta tb) := by
  intro pins s σ H Q I h
  exact Subscript_ (binT ha hb I h fun v u s2 x y H2 I2 rx ry q => hr a b pins s2 σ H2 x y v u Q I2 rx ry q (hs _ _))

def rIxL (K : PySem.W.Frag) : R2 := fun x y H Q => ∃ p xs i v, x = .ref p ∧ y = .int i ∧ SqL K H p xs ∧ atI xs i = some v ∧ Q v H
def rIxT (K : PySem.W.Frag) : R2 := fun x y H Q => ∃ p xs i v, x = .ref p ∧ y = .int i ∧ SqT K H p xs ∧ atI xs i = some v ∧ Q v H
def rIxS : R2 := fun x y H Q => ∃ z i c, x = .str z ∧ y = .int i ∧ z.length ≤ sizeLine ∧ atI z.cps.toList i = some c ∧ Q (.str ⟨#[c]⟩) H
theorem ix_list : IxR X (rIxL X.K) := by
  intro value slice pins s σ H x y v u Q I rx ry h hs
  obtain ⟨p, xs, i, z, rfl, rfl, hq, he, q⟩ := h
  cases rx
  obtain ⟨t, rfl⟩ := ry
  obtain ⟨its, r, pl, hz⟩ := I.list hq
  obtain ⟨j, h1, h2, h3, h4, h5⟩ := atI_get he
  obtain ⟨w, ew, rw'⟩ := r.get h2
  have hl := r.length
  have hn := line63
  have fin : EP X pins σ Q w s := ⟨z, H, I, rw', q⟩
  by_cases h0 : 0 ≤ i
  · have hj : i.toNat = j := by
      rw [seqIndex_of h0 h5] at h1
      exact Option.some.inj h1
    exact item_listR pl.isList h0 (by omega) (by rw [hj]; simpa using ew) fin hs
  · have hj : (i + (its.toArray.size : Int)).toNat = j := by
      rw [seqIndex_neg (by omega) h4] at h1
      rw [List.size_toArray, ← hl]
      exact Option.some.inj h1
    exact subscriptTail_builtinR (x := w) pl.isList.typeIs slot_list_getitem.lookup
      (wpAny_getItem_list_neg (Q := fun r s' => r = w ∧ EP X pins σ Q r s') pl.isList (by omega) (by rw [List.size_toArray] <;> omega) (by omega) (by rw [hj]; simpa using ew) ⟨rfl, fin⟩) hs
theorem ix_tup : IxR X (rIxT X.K) := by
  intro value slice pins s σ H x y v u Q I rx ry h hs
  obtain ⟨p, xs, i, z, rfl, rfl, hq, he, q⟩ := h
  cases rx
  obtain ⟨t, rfl⟩ := ry
  obtain ⟨its, r, pl, hz⟩ := I.tuple hq
  obtain ⟨j, h1, h2, h3, h4, h5⟩ := atI_get he
  obtain ⟨w, ew, rw'⟩ := r.get h2
  have hl := r.length
  have hn := line63
  have fin : EP X pins σ Q w s := ⟨z, H, I, rw', q⟩
  exact subscriptTail_builtinR (x := w) pl.typeIs slot_tuple_getitem.lookup
    (getItem_tuple (j := j) (Q := fun r s' => r = w ∧ EP X pins σ Q r s') pl (by omega) (by omega) (by rw [List.size_toArray, ← hl]; exact h1) (by simpa using ew) ⟨rfl, fin⟩) hs
theorem ix_str : IxR X rIxS := by
  intro value slice pins s σ H x y v u Q I rx ry h hs
  obtain ⟨z, i, c, rfl, rfl, hz, he, q⟩ := h
  obtain ⟨t, rfl⟩ := rx
  obtain ⟨t', rfl⟩ := ry
  obtain ⟨j, h1, h2, h3, h4, h5⟩ := atI_get he
  have hl : z.cps.toList.length = z.length := by simp [Str.length]
  rw [hl] at h1 h4 h5
  have hn := line63
  exact tail_any (typeIs_str s z t) slot_str_getitem.lookup (getItem_str (c := c) (by
    have e1 : decide (i < -(2 ^ 63 : Int)) = false := decide_eq_false (by omega)
    have e2 : decide (i ≥ 2 ^ 63) = false := decide_eq_false (by omega)
    rw [e1, e2, Bool.or_false]) (by rw [h1]; simpa using h2) ⟨.str ⟨#[c]⟩, H, I.tok _, ⟨_, rfl⟩, q⟩) hs
/-! ### xs[i] = v, any sign -/
/-- the list's object behind a store -/
theorem mapSeq_set (its : List Value) (n j : Nat) (u : Value) : Obj.mapSeq (·.setIfInBounds j u) { cls := .type "list", data := .seq its.toArray n } = { cls := .type "list", data := .seq (its.set j u).toArray n } := by
  simp [Obj.mapSeq]
theorem Inv.lst {pins : List (Addr × Obj)} {σ : St} {H : Hp} {s : Shared} {p : Addr} {xs : List V} (I : Inv X pins σ H s) (h : H p = some (.lst xs)) :
    ∃ (its : List Value) (n : Nat), Vals xs its ∧ s.heap.get? p = some { cls := .type "list", data := .seq its.toArray n } ∧ xs.length ≤ sizeLine := by
  obtain ⟨z, its, n, r, e⟩ := I.hok p _ h
  exact ⟨its, n, r, e, z⟩
/-- the list at p is written by an update of its object -/
theorem Inv.lstUpd {pins : List (Addr × Obj)} {σ : St} {H : Hp} {s : Shared} {p : Addr} {xs ys : List V} {its its' : List Value} {n n' : Nat} {f : Obj → Obj} (I : Inv X pins σ H s) (h : H p = some (.lst xs))
    (ho : s.heap.get? p = some { cls := .type "list", data := .seq its.toArray n }) (hf : f { cls := .type "list", data := .seq its.toArray n } = { cls := .type "list", data := .seq its'.toArray n' }) (r : Vals ys its') (hz : ys.length ≤ sizeLine) (t : Nat) :
    Inv X pins σ (upd H p (.lst ys)) { s with heap := s.heap.update p f, toks := t } := by
  have e : (s.heap.update p f).get? p = some { cls := .type "list", data := .seq its'.toArray n' } := by
    rw [Heap.get?_update_self f ho (by rw [hf] <;> rfl), hf]
  refine I.write (x := p) (e := p) (by rw [h]; trivial) (.inl rfl) (fun b u hb q => (Heap.get?_update_other _ _ (Ne.symm hb)).trans q) ⟨_, e⟩ ?_
  exact ⟨hz, its', n', r, e⟩
def rSetL : V → V → V → Hp → (Hp → Prop) → Prop := fun o i v H Q => ∃ p xs k j, o = .ref p ∧ i = .int k ∧ H p = some (.lst xs) ∧ ixN xs.length k = some j ∧ Q (upd H p (.lst (xs.set j v)))
theorem set_list : PSet X rSetL := by
  intro pins s σ H o i v ov iv u Q I ro ri rv h
  obtain ⟨p, xs, k, j, rfl, rfl, hp, hj, q⟩ := h
  cases ro
  obtain ⟨t, rfl⟩ := ri
  obtain ⟨its, n, r, ho, hz⟩ := I.lst hp
  obtain ⟨h1, h2, h3, h4⟩ := ixN_seq hj
  have hl := r.length
  have hn := line63
  have I' : Inv X pins σ (upd H p (.lst (xs.set j v))) { s with heap := s.heap.update p (Obj.mapSeq (·.setIfInBounds j u)) } :=
    I.lstUpd hp ho (mapSeq_set its n j u) (r.set rv j) (by rw [List.length_set]; exact hz) s.toks
  by_cases h0 : 0 ≤ k
  · have hk : k.toNat = j := by
      rw [seqIndex_of h0 h4] at h1
      exact Option.some.inj h1
    exact PySem.W.ki_setAt ho h0 (by omega) (by rw [List.size_toArray, ← hl]; exact h4) (by rw [hk]; exact ⟨_, I', q⟩)
  · have hk : (k + (its.toArray.size : Int)).toNat = j := by
      rw [seqIndex_neg (by omega) h3] at h1
      rw [List.size_toArray, ← hl]
      exact Option.some.inj h1
    exact PySem.W.ki_setBack ho (by omega) (by rw [List.size_toArray, ← hl]; exact h3) (by omega) (by rw [hk]; exact ⟨_, I', q⟩)

/-! ### slices -/
theorem slice_bounds (lo hi : Option Int) (n : Nat) : (sliceBounds lo hi none n).1 = ((HT.sIx n 0 lo : Nat) : Int) ∧ (sliceBounds lo hi none n).2.1 = ((HT.sIx n n hi : Nat) : Int) ∧ (sliceBounds lo hi none n).2.2 = 1 := by
  refine ⟨?_, ?_, rfl⟩
  · cases lo with
    | none => simp [sliceBounds, HT.sIx]
    | some i =>
      simp only [sliceBounds, HT.sIx, Option.getD_none, show (1 : Int) > 0 by decide, if_true]
      by_cases h : i < 0
      · simp only [h, if_true] <;> omega
      · simp only [h, if_false] <;> omega
  · cases hi with
    | none => simp [sliceBounds, HT.sIx]
    | some i =>
      simp only [sliceBounds, HT.sIx, Option.getD_none, show (1 : Int) > 0 by decide, if_true]
      by_cases h : i < 0
      · simp only [h, if_true] <;> omega
      · simp only [h, if_false] <;> omega
theorem slicePick_cut (its : List Value) (lo hi : Option Int) : slicePick its.toArray lo hi none = ((its.drop (HT.sIx its.length 0 lo)).take (HT.sIx its.length its.length hi - HT.sIx its.length 0 lo)).toArray := by
  obtain ⟨h1, h2, h3⟩ := slice_bounds lo hi its.toArray.size
  unfold slicePick
  rw [h1, h2, h3]
  simp only [sliceRange_one, pick_run, List.size_toArray] <;> rfl
/-- xs[lo:hi] of a list: a new list -/
def rSlL (K : PySem.W.Frag) : V → Option Int → Option Int → Hp → VK → Prop := fun x lo hi H Q => ∃ a xs, x = .ref a ∧ SqL K H a xs ∧ ∀ p, H p = none → Q (.ref p) (upd H p (.lst (cutV xs lo hi)))
theorem sl_list : SlR X (rSlL X.K) := by
  intro pins s σ H x v vl vu lo hi sl Q I rx hs pl pu h
  obtain ⟨a, xs, rfl, hx, q⟩ := h
  cases rx
  obtain ⟨its, r, ht, hz⟩ := I.list hx
  have hlen := r.length
  refine ⟨"list", _, slot_list_getitem.lookup, ht.isList.typeIs, ?_⟩
  refine wpAny_getItem_list_slice ht.isList hs pl pu .none (by simp) ?_ (by rw [List.size_toArray] <;> omega)
  rw [slicePick_cut, ← hlen]
  refine ⟨.ref s.heap.objs.size, _, I.laid (t' := s.toks) (o := .lst (cutV xs lo hi)) (fun b ob q => Heap.get?_push_of_some _ q) (Nat.le_refl _) ?_, rfl, q _ (I.hok.fresh (Nat.le_refl _))⟩
  exact ⟨Nat.le_trans (cutV_length xs lo hi) hz, _, 0, (r.drop (HT.sIx xs.length 0 lo)).take (HT.sIx xs.length xs.length hi - HT.sIx xs.length 0 lo), Heap.get?_push_size _ rfl⟩

/-! ### in, not in: flat items -/
def flatV : V → Bool
  | .non => true
  | .bl _ => true
  | .int _ => true
  | .str _ => true
  | _ => false
/-- == of flat values -/
def eqV : V → V → Bool
  | .non, .non => true
  | .bl a, .bl b => a == b
  | .bl a, .int b => (if a then 1 else 0) == b
  | .int a, .bl b => a == (if b then 1 else 0)
  | .int a, .int b => a == b
  | .str a, .str b => a == b
  | _, _ => false
theorem eqAt_V {A : Around} {s : Shared} {y x : V} {u v : Value} (ry : RelV y u) (rx : RelV x v) (fy : flatV y = true) (fx : flatV x = true) : SeqAt.EqAt A s u v (eqV y x) := by
  cases y with
  | non =>
    cases ry
    cases x with
    | non => cases rx; exact SeqAt.EqAt.same _
    | bl b => cases rx; exact SeqAt.EqAt.none_bool b
    | int b => obtain ⟨t, rfl⟩ := rx; exact SeqAt.EqAt.none_int b t
    | str b => obtain ⟨t, rfl⟩ := rx; exact SeqAt.EqAt.none_str b t
    | _ => exact absurd (show false = true from fx) Bool.false_ne_true
  | bl a =>
    cases ry
    cases x with
    | non => cases rx; exact SeqAt.EqAt.bool_none a
    | bl b => cases rx; exact SeqAt.EqAt.bool_bool a b
    | int b => obtain ⟨t, rfl⟩ := rx; exact SeqAt.EqAt.bool_int a b t
    | str b => obtain ⟨t, rfl⟩ := rx; exact SeqAt.EqAt.bool_str a b t
    | _ => exact absurd (show false = true from fx) Bool.false_ne_true
  | int a =>
    obtain ⟨t', rfl⟩ := ry
    cases x with
    | non => cases rx; exact SeqAt.EqAt.int_none a t'
    | bl b => cases rx; exact SeqAt.EqAt.int_bool a t' b
    | int b => obtain ⟨t, rfl⟩ := rx; exact SeqAt.EqAt.int_int a t' b t
    | str b => obtain ⟨t, rfl⟩ := rx; exact SeqAt.EqAt.int_str a t' b t
    | _ => exact absurd (show false = true from fx) Bool.false_ne_true
  | str a =>
    obtain ⟨t', rfl⟩ := ry
    cases x with
    | non => cases rx; exact SeqAt.EqAt.str_none a t'
    | bl b => cases rx; exact SeqAt.EqAt.str_bool a t' b
    | int b => obtain ⟨t, rfl⟩ := rx; exact SeqAt.EqAt.str_int a t' b t
    | str b => obtain ⟨t, rfl⟩ := rx; exact SeqAt.EqAt.str_str a t' b t
    | _ => exact absurd (show false = true from fx) Bool.false_ne_true
  | _ => exact absurd (show false = true from fy) Bool.false_ne_true
/-- the items' answers, read off the values (a value's own answer does not lean on its token) -/
def eqU (x : V) (u : Value) : Bool := match u with
  | .none => eqV .non x
  | .bool b => eqV (.bl b) x
  | .int i _ => eqV (.int i) x
  | .str z _ => eqV (.str z) x
  | _ => false
theorem eqU_of {x y : V} {u : Value} (r : RelV y u) (f : flatV y = true) : eqU x u = eqV y x := by
  cases y with
  | non => cases r; rfl
  | bl b => cases r; rfl
  | int i => obtain ⟨t, rfl⟩ := r; rfl
  | str z => obtain ⟨t, rfl⟩ := r; rfl
  | _ => exact absurd (show false = true from f) Bool.false_ne_true
theorem any_eqU {x : V} : ∀ {xs : List V} {us : List Value}, Vals xs us → xs.all flatV = true → us.any (eqU x) = xs.any fun y => eqV y x
  | _, _, .nil, _ => rfl
  | y :: xs, u :: us, .cons r t, f => by
    rw [List.all_cons, Bool.and_eq_true] at f
    rw [List.any_cons, List.any_cons, eqU_of r f.1, any_eqU t f.2]
theorem mem_eqAt {A : Around} {s : Shared} {x : V} {v : Value} (rx : RelV x v) (fx : flatV x = true) : ∀ {xs : List V} {us : List Value}, Vals xs us → xs.all flatV = true → ∀ u ∈ us, SeqAt.EqAt A s u v (eqU x u)
  | _, _, .nil, _ => fun u hu => by cases hu
  | y :: xs, u :: us, .cons r t, f => fun u' hu => by
    rw [List.all_cons, Bool.and_eq_true] at f
    rcases List.mem_cons.mp hu with rfl | hu
    · rw [eqU_of r f.1]; exact eqAt_V r rx f.1 fx
    · exact mem_eqAt rx fx t f.2 u' hu
def inV (x : V) (xs : List V) : Bool := xs.any fun y => eqV y x
/-- x in a list or tuple of flat items -/
def rIn (K : PySem.W.Frag) (neg : Bool) : R2 := fun x y H Q => ∃ p xs, y = .ref p ∧ (SqL K H p xs ∨ SqT K H p xs) ∧ flatV x = true ∧ xs.all flatV = true ∧ Q (.bl (if neg then !inV x xs else inV x xs)) H
theorem op_in_seq : OpR X (compareOp .In) (rIn X.K false) := by
  intro pins s σ H x y v u Q I rx ry h
  obtain ⟨p, xs, rfl, hq, fx, fs, q⟩ := h
  cases ry
  rcases hq with hq | hq
  · obtain ⟨its, r, pl, hz⟩ := I.list hq
    refine SeqAt.in_listAt (eqU x) pl.isList (fun w hw => mem_eqAt rx fx r fs w (by simpa using hw)) ⟨.bl _, H, I, rfl, ?_⟩
    rw [show its.toArray.any (eqU x) = its.any (eqU x) by simp, any_eqU r fs]
    exact q
  · obtain ⟨its, r, pl, hz⟩ := I.tuple hq
    refine SeqAt.in_tupleAt (eqU x) pl (fun w hw => mem_eqAt rx fx r fs w (by simpa using hw)) ⟨.bl _, H, I, rfl, ?_⟩
    rw [show its.toArray.any (eqU x) = its.any (eqU x) by simp, any_eqU r fs]
    exact q
theorem op_notIn_seq : OpR X (compareOp .NotIn) (rIn X.K true) := by
  intro pins s σ H x y v u Q I rx ry h
  obtain ⟨p, xs, rfl, hq, fx, fs, q⟩ := h
  cases ry
  rcases hq with hq | hq
  · obtain ⟨its, r, pl, hz⟩ := I.list hq
    refine SeqAt.notIn_listAt (eqU x) pl.isList (fun w hw => mem_eqAt rx fx r fs w (by simpa using hw)) ⟨.bl _, H, I, rfl, ?_⟩
    rw [show its.toArray.any (eqU x) = its.any (eqU x) by simp, any_eqU r fs]
    exact q
  · obtain ⟨its, r, pl, hz⟩ := I.tuple hq
    refine SeqAt.notIn_tupleAt (eqU x) pl (fun w hw => mem_eqAt rx fx r fs w (by simpa using hw)) ⟨.bl _, H, I, rfl, ?_⟩
    rw [show its.toArray.any (eqU x) = its.any (eqU x) by simp, any_eqU r fs]
    exact q
/-! ### len, list(x), tuple(x) of any list or tuple that is read -/
theorem call_len_seq : CallR X (.builtin "len") (fun xs H Q => ∃ p ys, xs = [.ref p] ∧ (SqL X.K H p ys ∨ SqT X.K H p ys) ∧ Q (.int ys.length) H) := by
  intro pins s σ H xs us Q I r h
  obtain ⟨p, ys, rfl, hq, q⟩ := h
  obtain ⟨u, rfl, rx⟩ := vals1 r
  cases rx
  have hn := line63
  rcases hq with hq | hq
  · obtain ⟨its, r', pl, hz⟩ := I.list hq
    have hlen := r'.length
    exact Calls.call_len_list pl.isList (by simp only [List.size_toArray] <;> omega) ⟨.int ys.length, H, I.tok _, ⟨s.toks + 1, by rw [List.size_toArray, hlen]⟩, q⟩
  · obtain ⟨its, r', pl, hz⟩ := I.tuple hq
    have hlen := r'.length
    exact len_tuple pl (by simp only [List.size_toArray] <;> omega) ⟨.int ys.length, H, I.tok _, ⟨s.toks + 1, by rw [List.size_toArray, hlen]⟩, q⟩
theorem call_tuple_of : CallR X (.type "tuple") (fun xs H Q => ∃ p ys, xs = [.ref p] ∧ ((SqL X.K H p ys ∧ ∀ l, H l = none → Q (.ref l) (upd H l (.tup ys))) ∨ (SqT X.K H p ys ∧ Q (.ref p) H))) := by
  intro pins s σ H xs us Q I r h
  obtain ⟨p, ys, rfl, h⟩ := h
  obtain ⟨u, rfl, rx⟩ := vals1 r
  cases rx
  rcases h with ⟨hq, q⟩ | ⟨hq, q⟩
  · obtain ⟨its, r', pl, hz⟩ := I.list hq
    have hlen := r'.length
    refine call_tuple_list pl.isList (fun h' kp => ?_) (by simp only [List.size_toArray] <;> omega)
    have I1 : Inv X pins σ H { s with heap := h' } := I.kept (t' := s.toks) kp
    have I2 : Inv X pins σ (upd H h'.objs.size (.tup ys)) { s with heap := h'.push { cls := .type "tuple", data := .seq its.toArray } } :=
      I1.laid (t' := s.toks) (fun b o e => Heap.get?_push_of_some _ e) (Nat.le_refl _) (show ObjOk X.prog X.w _ _ _ (.tup ys) from ⟨hz, its, r', IsTup.new _ _⟩)
    exact ⟨.ref h'.objs.size, _, I2, rfl, q _ (I1.hok.fresh (Nat.le_refl _))⟩
  · obtain ⟨its, r', pl, hz⟩ := I.tuple hq
    exact call_tuple_same pl ⟨.ref p, H, I, rfl, q⟩

/-! ### the call of a builtin's method: o.m(..) -/
/-- the value is of that builtin type -/
def tyV (K : PySem.W.Frag) (T : String) (x : V) (H : Hp) : Prop := match x with
  | .str _ => T = "str"
  | .int _ => T = "int"
  | .ref p => (T = "list" ∧ ∃ xs, SqL K H p xs) ∨ (T = "tuple" ∧ ∃ o, K.lookup p = some o ∧ o.cls = .type "tuple" ∧ o.dict = none) ∨
      (T = "dict" ∧ ((∃ kvs, H p = some (.dK kvs)) ∨ ∃ kvs, H p = some (.dT kvs))) ∨ (T = "set" ∧ ∃ S n, H p = some (.set S n))
  | _ => False
theorem tyV_is {pins : List (Addr × Obj)} {σ : St} {H : Hp} {s : Shared} {T : String} {x : V} {v : Value} (I : Inv X pins σ H s) (r : RelV x v) (ty : tyV X.K T x H) :
    s.TypeIs v T ∧ ∀ a, v = .ref a → ∃ ob, s.heap.get? a = some ob ∧ ob.dict = none := by
  cases x with
  | str z =>
    obtain ⟨t, rfl⟩ := r
    cases (show T = "str" from ty)
    exact ⟨typeIs_str s z t, fun _ e => nomatch e⟩
  | int i =>
    obtain ⟨t, rfl⟩ := r
    cases (show T = "int" from ty)
    exact ⟨typeIs_int s i t, fun _ e => nomatch e⟩
  | ref p =>
    cases r
    rcases ty with ⟨rfl, xs, hq⟩ | ⟨rfl, o, hk, hc, hd⟩ | ⟨rfl, hk⟩ | ⟨rfl, S, n, hk⟩
    · obtain ⟨its, _, pl, _⟩ := I.list hq
      refine ⟨pl.isList.typeIs, fun a e => ?_⟩
      cases e
      obtain ⟨o, n, e, c, hd, _⟩ := pl
      exact ⟨o, e, hd⟩
    · refine ⟨⟨o, I.kIn p o hk, hc⟩, fun a e => ?_⟩
      cases e
      exact ⟨o, I.kIn _ o hk, hd⟩
    · have z : ∃ o, s.heap.get? p = some o ∧ o.ExactDict := by
        rcases hk with ⟨kvs, hk⟩ | ⟨kvs, hk⟩
        · obtain ⟨_, _, _, _, o, _, _, e, ex, _⟩ := I.hok p _ hk
          exact ⟨o, e, ex⟩
        · obtain ⟨_, _, _, _, o, _, _, e, ex, _⟩ := I.hok p _ hk
          exact ⟨o, e, ex⟩
      obtain ⟨o, e, ex⟩ := z
      refine ⟨⟨o, e, ex.1⟩, fun a e2 => ?_⟩
      cases e2
      exact ⟨o, e, ex.2.1⟩
    · obtain ⟨o, _, _, _, e, ex, _⟩ := I.hok p _ hk
      refine ⟨⟨o, e, ex.1⟩, fun a e2 => ?_⟩
      cases e2
      exact ⟨o, e, ex.2.1⟩
  | _ => exact False.elim ty
def tBM0 (K : PySem.W.Frag) (T : String) (r : V → List V → Hp → VK → Prop) (to : TE) : TE := fun σ H Q => to σ H fun x H1 => tyV K T x H1 ∧ r x [] H1 Q
def tBM (K : PySem.W.Frag) (T : String) (r : V → List V → Hp → VK → Prop) (to : TE) (t : TA) : TE := fun σ H Q => to σ H fun x H1 => tyV K T x H1 ∧ t σ H1 fun xs H2 => r x xs H2 Q
variable {o e : Expr} {es : List Expr} {to : TE} {t : TA} {name : Str} {apos cpos : Pos} {T id : String} {r : V → List V → Hp → VK → Prop}
theorem pe_bm0 (pa : PlainAttrs T) (slot : Slot T name id) (hty : typeOf (.builtin id) = pure (.type "method_descriptor")) (hm : MtR X id r) (ho : PE X o to)
    (hbase : attributeBase o name X.env (eval o X.env) = eval o X.env := by rfl) (hline : (apos.endLine == cpos.line) = true := by rfl) : PE X (.Call (.Attribute o name apos) [] [] cpos) (tBM0 X.K T r to) := by
  intro pins s σ H Q I h
  refine wpAny_Call_method0_late hbase hline (thn (ho pins s σ H _ I h) fun v s1 ⟨x, H1, I1, r1, ty, q1⟩ => ?_)
  obtain ⟨h1, h2⟩ := tyV_is I1 r1 ty
  exact ⟨T, id, pa, slot, hty, h1, h2, Calls.callWith_builtin rfl (PySem.evalArgs_none (hm pins s1 σ H1 x [] v [] Q I1 r1 .nil q1))⟩
theorem pe_bm (pa : PlainAttrs T) (slot : Slot T name id) (hty : typeOf (.builtin id) = pure (.type "method_descriptor")) (hm : MtR X id r) (ho : PE X o to) (ha : PA X (e :: es) t)
    (hbase : attributeBase o name X.env (eval o X.env) = eval o X.env := by rfl)
    (hfew : ((backTo cpos (starEach (e :: es) X.env)).all (fun x => !x.1) && (backToKw cpos (keywordEach [] X.env)).all (fun x => x.1.isSome)
      && decide ((e :: es).length + ([] : List Keyword).length + (if ([] : List Keyword).isEmpty then 0 else 1) < 30)) = true := by rfl)
    (hline : (apos.endLine == cpos.line) = true := by rfl) (hs : starEach (e :: es) X.env = (false, eval e X.env) :: starEach es X.env := by rfl) (hplain : (backTo cpos (starEach es X.env)).any (·.1) = false := by rfl) :
    PE X (.Call (.Attribute o name apos) (e :: es) [] cpos) (tBM X.K T r to t) := by
  intro pins s σ H Q I h
  refine wpAny_Call_method_late hbase hfew hline rfl (thn (ho pins s σ H _ I h) fun v s1 ⟨x, H1, I1, r1, ty, q1⟩ => ?_)
  obtain ⟨h1, h2⟩ := tyV_is I1 r1 ty
  refine ⟨T, id, pa, slot, hty, h1, h2, ?_⟩
  have hA := ha cpos pins s1 σ H1 _ I1 q1
  rw [hs] at hA ⊢
  refine Calls.callWith_builtin (by show (false || (backTo cpos (starEach es X.env)).any (·.1)) = false; rw [hplain] <;> rfl) (Calls.evalArgs_plain ?_)
  exact thn hA fun us s2 ⟨vs, H2, I2, r2, q2⟩ => hm pins s2 σ H2 x vs v us Q I2 r1 r2 q2
/- xs.append(e), list.index on a module's tuple .. are MtR facts of 06m -/
end
end L2

namespace L2
open PySem PySem.Spec PyProof.Rows

def MtM (X : Cx) (id : String) (r : V → List V → Hp → VK → Prop) : Prop :=
  ∀ (pins : List (Addr × Obj)) (s : Shared) (σ : St) (H : Hp) (x : V) (xs : List V) (v : Value) (us : List Value) (Q : VK), Inv X pins σ H s → RelV x v → Vals xs us → r x xs H Q →
    wpAny (model X.prog X.w) X.A (call (.builtin id) (v :: us)) (EP X pins σ Q) X.xe s

/-! ### lists of values -/
theorem Vals.one : ∀ {x : V} {us : List Value}, Vals [x] us → ∃ u, us = [u] ∧ RelV x u
  | _, _, .cons r .nil => ⟨_, rfl, r⟩
theorem Vals.zero : ∀ {us : List Value}, Vals [] us → us = []
  | _, .nil => rfl
theorem Vals.dropLast {xs : List V} {us : List Value} (h : Vals xs us) : Vals xs.dropLast us.dropLast := by
  induction h with
  | nil => exact .nil
  | cons r t ih =>
    cases t with
    | nil => exact .nil
    | cons q t' => exact .cons r ih
theorem Vals.eraseIdx : ∀ {xs : List V} {us : List Value} (i : Nat), Vals xs us → Vals (xs.eraseIdx i) (us.eraseIdx i)
  | _, _, _, .nil => .nil
  | _, _, 0, .cons _ t => t
  | _, _, i + 1, .cons r t => .cons r (Vals.eraseIdx i t)
theorem Vals.reverse {xs : List V} {us : List Value} (h : Vals xs us) : Vals xs.reverse us.reverse := by
  induction h with
  | nil => exact .nil
  | cons r t ih => rw [List.reverse_cons, List.reverse_cons]; exact Vals.append ih (.cons r .nil)
theorem Vals.rep {xs : List V} {us : List Value} (h : Vals xs us) : ∀ k : Nat, Vals (List.replicate k xs).flatten (List.replicate k us).flatten
  | 0 => .nil
  | k + 1 => by
    rw [List.replicate_succ, List.replicate_succ, List.flatten_cons, List.flatten_cons]
    exact Vals.append h (Vals.rep h k)
theorem foldl_rep (its : List Value) : ∀ (k : Nat) (acc : List Value),
    List.foldl (fun x1 x2 => x1 ++ x2) acc.toArray (List.replicate k its.toArray) = (acc ++ (List.replicate k its).flatten).toArray
  | 0, acc => by simp
  | k + 1, acc => by
    have e : acc.toArray ++ its.toArray = (acc ++ its).toArray := by simp
    have e2 : (acc ++ its) ++ (List.replicate k its).flatten = acc ++ (List.replicate (k + 1) its).flatten := by
      rw [List.replicate_succ, List.flatten_cons, List.append_assoc]
    rw [← e2, ← foldl_rep its k (acc ++ its), ← e, List.replicate_succ, List.foldl_cons]

section
variable {X : Cx} {pins : List (Addr × Obj)} {σ : St} {H : Hp} {s : Shared} {l b : Addr} {xs ys zs : List V}

/-! ### the two steps: a tracked list is rewritten, a new list is laid -/
theorem Inv.lset {its its' : List Value} {n : Nat} {f : Array Value → Array Value} {t' : Nat} (I : Inv X pins σ H s) (hH : H l = some (.lst xs))
    (e : s.heap.get? l = some { cls := .type "list", data := .seq its.toArray n }) (hf : f its.toArray = its'.toArray) (hv : Vals ys its') (hz : ys.length ≤ sizeLine) :
    Inv X pins σ (upd H l (.lst ys)) { s with heap := s.heap.update l (Obj.mapSeq f), toks := t' } := by
  have q := PySem.IsL.update e f
  rw [hf] at q
  refine I.write (x := l) (e := l) (by rw [hH]; exact trivial) (.inl rfl) (fun b' u hb hu => (Heap.get?_update_other s.heap (Obj.mapSeq f) (Ne.symm hb)).trans hu) ⟨_, q⟩ ?_
  exact ⟨hz, its', _, hv, q⟩
theorem Inv.lnew {its : List Value} {t' : Nat} (I : Inv X pins σ H s) (hv : Vals ys its) (hz : ys.length ≤ sizeLine) :
    Inv X pins σ (upd H s.heap.objs.size (.lst ys)) { s with heap := s.heap.push { cls := .type "list", data := .seq its.toArray }, toks := t' } :=
  I.laid (fun _ _ q => Heap.get?_push_of_some _ q) (Nat.le_refl _) ⟨hz, its, 0, hv, Heap.get?_push_size _ rfl⟩
theorem Inv.fresh (I : Inv X pins σ H s) : H s.heap.objs.size = none := I.hok.fresh (Nat.le_refl _)
theorem Inv.lstM (I : Inv X pins σ H s) (hH : H l = some (.lst xs)) : xs.length ≤ sizeLine ∧ ∃ (its : List Value) (n : Nat), Vals xs its ∧ xs.length = its.length ∧ s.heap.get? l = some { cls := .type "list", data := .seq its.toArray n } := by
  obtain ⟨z, its, n, r, e⟩ := I.hok l _ hH
  exact ⟨z, its, n, r, r.length, e⟩

theorem notLongL {n : Nat} (h : n ≤ sizeLine) : Builtin.List.listTooLong n = false := by
  unfold Builtin.List.listTooLong
  exact decide_eq_false (by omega)
end

section
variable {X : Cx}

/-! ### methods -/
def rAppend : V → List V → Hp → VK → Prop := fun x vs H Q => ∃ l xs y, x = .ref l ∧ vs = [y] ∧ H l = some (.lst xs) ∧ xs.length < sizeLine ∧ Q .non (upd H l (.lst (xs ++ [y])))
theorem mt_append : MtM X "list.append" rAppend := by
  intro pins s σ H x vs v us Q I rx rv h
  obtain ⟨l, xs, y, rfl, rfl, hH, hz, q⟩ := h
  cases rx
  obtain ⟨u, rfl, ru⟩ := rv.one
  obtain ⟨z, its, n, r, hl, e⟩ := I.lstM hH
  refine call_meets F.slot_list_append ⟨_, e, rfl⟩ F.entry_list_append (F.args_list_append_2 _ _) (PySem.list_append l its.toArray n u (by rw [List.size_toArray]; omega)) ⟨e, ?_⟩
  refine ⟨.non, _, I.lset (its' := its ++ [u]) hH e (by simp) (r.append (.cons ru .nil)) ?_, rfl, q⟩
  rw [List.length_append, List.length_singleton]
  omega

def rExtend : V → List V → Hp → VK → Prop := fun x vs H Q => ∃ l b xs zs, x = .ref l ∧ vs = [.ref b] ∧ H l = some (.lst xs) ∧ H b = some (.lst zs) ∧ xs.length + zs.length ≤ sizeLine ∧ Q .non (upd H l (.lst (xs ++ zs)))
theorem mt_extend : MtM X "list.extend" rExtend := by
  intro pins s σ H x vs v us Q I rx rv h
  obtain ⟨l, b, xs, zs, rfl, rfl, hH, hB, hz, q⟩ := h
  cases rx
  obtain ⟨u, rfl, ru⟩ := rv.one
  cases ru
  obtain ⟨z, its, n, r, hl, e⟩ := I.lstM hH
  obtain ⟨z2, its2, n2, r2, hl2, e2⟩ := I.lstM hB
  have hsz : its.toArray.size + its2.toArray.size ≤ sizeLine := by rw [List.size_toArray, List.size_toArray]; omega
  have hlong : ¬ (!its.toArray.isEmpty && Builtin.List.listTooLong (its.toArray.size + its2.toArray.size)) = true := by
    rw [notLongL hsz, Bool.and_false]
    exact Bool.false_ne_true
  refine call_meets F.slot_list_extend ⟨_, e, rfl⟩ F.entry_list_extend (F.args_list_extend_2 _ _)
    (AutoSeq1.list_extend_list_list_0 l its.toArray n b its2.toArray n2 hlong (by rw [List.size_toArray]; omega) (by omega)) ⟨e, e2, ?_⟩
  refine ⟨.non, _, I.lset (its' := its ++ its2) hH e (by simp) (r.append r2) ?_, rfl, q⟩
  rw [List.length_append]
  omega

def rClear : V → List V → Hp → VK → Prop := fun x vs H Q => ∃ l xs, x = .ref l ∧ vs = [] ∧ H l = some (.lst xs) ∧ Q .non (upd H l (.lst []))
theorem mt_clear : MtM X "list.clear" rClear := by
  intro pins s σ H x vs v us Q I rx rv h
  obtain ⟨l, xs, rfl, rfl, hH, q⟩ := h
  cases rx
  have hus := rv.zero
  subst hus
  obtain ⟨z, its, n, r, hl, e⟩ := I.lstM hH
  refine call_meets F.slot_list_clear ⟨_, e, rfl⟩ F.entry_list_clear (F.args_list_clear_1 _) (AutoSeq1.list_clear_list_0 l its.toArray n (by rw [List.size_toArray]; omega)) ⟨e, ?_⟩
  exact ⟨.non, _, I.lset (its' := []) (ys := []) hH e rfl .nil (Nat.zero_le _), rfl, q⟩

/-! ### list + list, list += list, list * int -/
def rCat : R2 := fun x y H Q => ∃ l b xs zs, x = .ref l ∧ y = .ref b ∧ H l = some (.lst xs) ∧ H b = some (.lst zs) ∧ xs.length + zs.length ≤ sizeLine ∧ ∀ p, H p = none → Q (.ref p) (upd H p (.lst (xs ++ zs)))
theorem op_cat : OpR X (binaryOp .Add) rCat := by
  intro pins s σ H x y v u Q I rx ry h
  obtain ⟨l, b, xs, zs, rfl, rfl, hH, hB, hz, q⟩ := h
  cases rx
  cases ry
  obtain ⟨z, its, n, r, hl, e⟩ := I.lstM hH
  obtain ⟨z2, its2, n2, r2, hl2, e2⟩ := I.lstM hB
  refine PySem.P.add_list e e2 ?_ (by rw [List.size_toArray, List.size_toArray]; omega)
  have ea : its.toArray ++ its2.toArray = (its ++ its2).toArray := by simp
  rw [ea]
  exact ⟨.ref _, _, I.lnew (t' := s.toks) (r.append r2) (by rw [List.length_append]; omega), rfl, q _ I.fresh⟩
theorem len_rep {α : Type} (xs : List α) (k : Nat) : (List.replicate k xs).flatten.length = k * xs.length := by
  induction k with
  | zero => simp
  | succ k ih => rw [List.replicate_succ, List.flatten_cons, List.length_append, ih, Nat.succ_mul, Nat.add_comm]
end

/-! ### xs[a:b] = ys -/
section
variable {prog : Program} {w : World} {A : Around} {E : Value → Shared → Prop} {s : Shared}
end

section
variable {X : Cx}
end
end L2

namespace Att
open PySem PySem.W PySem.Calls PyProof.Rows

/-! ### the script -/
theorem ints_of_wellAll {P : Params} {h : Heap} : ∀ (ns : List Int) (vs : List Value), WellAll P h vs (ns.map WData.int) → IntsAre vs ns := by
  intro ns
  induction ns with
  | nil =>
    intro vs w
    rw [List.map_nil] at w
    cases w
    exact .nil
  | cons n ns ih =>
    intro vs w
    rw [List.map_cons] at w
    cases w with
    | cons a b =>
      cases a
      exact .cons _ _ (ih _ b)

theorem script_of {l : OpenLaw} {n : Nat} (hn : l.most = some n) {P : Params} {h : Heap} {args : List WData} {vals : List Value}
    (hpre : l.row.toRowW.claim.pre args = true) (hwl : WellAll P h vals args) :
    ∃ a vs ns, vals = [Value.ref a] ∧ args = [WData.list (ns.map WData.int)] ∧ h.get? a = some { cls := .type "list", data := .seq vs.toArray } ∧ IntsAre vs ns ∧ ns.length ≤ n := by
  have hsh : WShape.hasAll [] args [.list .int] = true := (pre_splitW hpre).1
  have hc : l.pre.holds [] { args := args } = true := (pre_splitW hpre).2
  obtain ⟨d, r, rfl, h1, h2⟩ := hasAllW_cons hsh
  obtain rfl := hasAllW_nil h2
  obtain ⟨xs, rfl, h3⟩ := hasW_list h1
  obtain ⟨ns, rfl⟩ := items_int h3
  have hlen : ns.length ≤ n := by
    unfold OpenLaw.pre at hc
    have h4 : (WTm.not (.lt (.lit (.int (n : Int))) (.len (.arg 0)))).holds [] { args := [.list (ns.map .int)] } = true := by
      have h4 := (holds_andW hc).1
      rw [hn] at h4
      exact h4
    have h5 := condW_of h4 (w_not (w_lt w_lit (w_len_list (w_arg rfl))))
    rw [List.length_map] at h5
    refine Nat.le_of_not_lt fun q => ?_
    have q' : (n : Int) < ((ns.length : Nat) : Int) := by omega
    first
      | (rw [decide_eq_true q'] at h5; exact absurd h5 (by decide))
      | (simp at h5; omega)
  cases hwl with
  | cons w1 w2 =>
    cases w2
    cases w1 with
    | list ho hall => exact ⟨_, _, ns, rfl, rfl, ho, ints_of_wellAll ns _ hall, hlen⟩

theorem post_true (l : OpenLaw) (args : List WData) : l.row.toRowW.claim.post args (.bool true) args = true :=
  postW_of (r := l.row.toRowW) (X := (true == true))
    (show WShape.has [] (.bool true) .bool = true by first | rfl | decide | simp [WShape.has, WShape.arms, WShape.armsAll])
    (show (WTm.eq .res (.lit (.bool true))).value [] { args := args, res := some (.bool true), after := args } = some (.bool (true == true)) from w_eq_bool (w_res rfl) w_lit) rfl

/-- the same from a codeAny of the CALL (for a layer whose function contracts speak of calls) -/
theorem attach_call {l : OpenLaw} {n : Nat} {q : Program} {loose : List Str} {XP : (Str → Option Value) → Heap → Prop} {YP : World → Heap → Prop} {d : DefRec}
    (hn : l.most = some n) (hdf : d.params.defaults = [])
    (call : ∀ (w : World) (s₀ s₁ : Shared) (mg mb : Str → Option Value) (fa : Addr) (o : Obj) (pm cd doc : Value) (a : Addr) (vs : List Value) (ns : List Int),
      Ground q loose [] XP w s₀ mg mb s₁.heap → YP w s₁.heap →
      s₁.heap.get? fa = some o → o.data = .func (docDef d.name d.params d.body d.scope pm cd doc) → s₁.heap.CodeRec cd d.name → mg d.name = some (.ref fa) →
      s₁.heap.get? a = some { cls := .type "list", data := .seq vs.toArray } → IntsAre vs ns → ns.length ≤ n → s₁.gens = #[] →
      codeAny (model l.prog w) callerA (.call (.ref fa) ⟨[.ref a], []⟩) (fun r s' => r = .ok (.ret (.bool true)) ∧ OldK s₁.heap s'.heap ∧ s'.os = s₁.os ∧ AllBare s'.gens) s₁) :
    WalkO q loose XP YP l.row.toRowW d [] (fun f vs => PySem.call f vs) := by
  intro w s₀ s₁ mg mb G Y fa o pm cd doc dV kV ho hd hcd hD hmg hg args vals as hpre hlay hrd hwl hlo
  obtain rfl : dV = .none := Dflts.none hD hdf
  obtain rfl : kV = .none := Dflts.noKw hD
  obtain ⟨a, vs, ns, rfl, rfl, hobj, hints, hlen⟩ := script_of hn hpre hwl
  refine enter_call (codeAny_mono (call w s₀ s₁ mg mb fa o pm cd doc a vs ns G Y ho (fd_plain hd) hcd hmg hobj hints hlen hg) fun r s' hq => ?_)
  obtain ⟨rfl, h2, h3, h4⟩ := hq
  exact ⟨.inl ⟨.bool true, .bool true, [], rfl, fun _ => rfl, .bool true, post_true l _, fun _ => ⟨List.Pairwise.nil, fun _ hm => (nomatch hm)⟩⟩, h2, h3, h4⟩

/-! ### rules over ANY heap (no ledger) from facts about the written part K: the library's own take a ledger (News) for what they write -/
section
variable {prog : Program} {w : World} {A : Around} {E : Value → Shared → Prop} {s : Shared} {K : Frag}

end
end Att

namespace L2
open PySem PySem.Spec PyProof.Rows

theorem vals_ints : ∀ {vs : List Value} {ns : List Int}, IntsAre vs ns → Vals (ns.map V.int) vs
  | _, _, .nil => .nil
  | _, _, .cons n t h => .cons ⟨t, rfl⟩ (vals_ints h)

/-- nothing is tracked but the script, known to the object (or it is an object of the module) -/
def Only (H : Hp) : Prop := ∀ b, H b = none ∨ ∃ o xs, H b = some (.frz o (.lst xs))

/-- THE HEAD: the law's promise, at the heap behind the top. F, the promise of the law's def, may use that base is part of the heap (so K.In base, base.Ns mainGlobals mg stand in Mod) -/
theorem law_call {P : Program} {w : World} {K : PySem.W.Frag} {mg mb : Str → Option Value} {CX : CXT} {k : Nat} {fa a : Addr} {fd : FuncData} {x : Str} {sp : Sp} {s₁ : Shared} {vs : List Value} {ns : List Int}
    (KX : K.In s₁.heap) (hns : s₁.heap.Ns mainGlobals mg) (hb : s₁.heap.Ns builtinsNs mb) (hbb : ∀ x : Str, x ≠ "__name__" → mb x = bootBuiltins x) (hlim : s₁.heap.NoLimit) (hg : s₁.gens = #[])
    (ha : s₁.heap.get? a = some { cls := .type "list", data := .seq vs.toArray }) (hi : IntsAre vs ns) (hl : ns.length ≤ sizeLine) (hr : Room k callerA)
    (F : ∀ base : Heap, K.In base → base.Ns mainGlobals mg → FnOk P w K mg base CX k fa fd [x] sp) (hbind : ∀ (s : Shared) (u : Value), BindsTo s fd ⟨[u], []⟩ [(x, u)])
    (hsp : ∀ H : Hp, Only H → SqL K H a (ns.map V.int) → sp [.ref a] H (fun v _ => v = .bl true) fun _ _ _ => False)
    (hCX : ∀ H e s', CX [] H s₁ (fun _ _ _ => False) e s' → False) :
    codeAny (model P w) callerA (.call (.ref fa) ⟨[.ref a], []⟩) (fun r s' => r = .ok (.ret (.bool true)) ∧ OldK s₁.heap s'.heap ∧ s'.os = s₁.os ∧ AllBare s'.gens) s₁ := by
  have rv := vals_ints hi
  have lenV := hi.length
  -- from an abstract heap in which nothing but the script may be tracked
  have core : ∀ H : Hp, Only H → SqL K H a (ns.map V.int) → HOk P w H s₁.heap → (∀ b, H b ≠ none → b = a) → (H a ≠ none → K.lookup a = none) →
      codeAny (model P w) callerA (.call (.ref fa) ⟨[.ref a], []⟩) (fun r s' => r = .ok (.ret (.bool true)) ∧ OldK s₁.heap s'.heap ∧ s'.os = s₁.os ∧ AllBare s'.gens) s₁ := by
    intro H hO hS hok hA hK
    have base_of : ∀ {b : Addr} {o : Obj}, s₁.heap.get? b = some o → H b = none → (hidT s₁.heap H).get? b = some o := fun e n => hidT_get e n
    have noA : ∀ {b : Addr} {o : Obj} {es : Array DictEntry} {ep : Nat}, s₁.heap.get? b = some o → o.data = .dict es ep → H b = none := fun {b o es ep} e d => by
      cases q : H b with
      | none => rfl
      | some u =>
        have e' : b = a := hA b (by rw [q]; simp)
        subst e'
        rw [ha] at e; cases e
        have d' : Data.seq vs.toArray _ = Data.dict es ep := d
        cases d'
    have nsK : ∀ {b : Addr} {m : Str → Option Value}, s₁.heap.Ns b m → (hidT s₁.heap H).Ns b m := fun {b m} ⟨o, es, ep, e, d, r⟩ => ⟨o, es, ep, base_of e (noA e d), d, r⟩
    have hKb : K.In (hidT s₁.heap H) := fun b o e => base_of (KX b o e) (by
      cases q : H b with
      | none => rfl
      | some u =>
        have e' : b = a := hA b (by rw [q]; simp)
        subst e'
        rw [hK (by rw [q]; simp)] at e; cases e)
    have hM : Mod K mg (hidT s₁.heap H) := ⟨hKb, nsK hns, ⟨mb, nsK hb, hbb⟩, let ⟨mc, h1, h2⟩ := hlim; ⟨mc, nsK h1, h2⟩⟩
    have e0 : Env0 P w K mg (hidT s₁.heap H) callerA [] s₁ H := ⟨rfl, hM, fun b o e => of_hidT e, Nat.le_of_eq (hidT_size _ _), trivial, fun b hb => absurd (show b ∈ ([] : List Addr) from hb) (by simp), hok, .of_eq hg⟩
    refine codeAny_mono ((F _ hKb (nsK hns)).run callerA [] s₁ H ⟨[.ref a], []⟩ [.ref a] [.ref a] _ _ hr e0 (hbind s₁ (.ref a)) (.cons rfl .nil) (hsp H hO hS)) fun r s' h => ?_
    cases r with
    | error e => exact (hCX H e s' h).elim
    | ok fl =>
      cases fl with
      | next => exact False.elim h
      | brk => exact False.elim h
      | cont => exact False.elim h
      | ret u =>
        obtain ⟨v, H', os, bare, un, hok', r', q⟩ := h
        have q' : v = .bl true := q
        subst q'
        obtain rfl : u = Value.bool true := r'
        refine ⟨rfl, OldK.of_keep fun b o e => ?_, os, bare⟩
        cases q : H b with
        | none => exact un.keep b o e q (by intro z; exact absurd (show b ∈ ([] : List Addr) from z) (by simp)) (by simp)
        | some u =>
          rcases hO b with z | ⟨ob, xs, z⟩
          · rw [q] at z; cases z
          · have z2 := un.frzs b ob _ z
            obtain ⟨e1, _⟩ := hok b _ z
            obtain ⟨e2, _⟩ := hok' b _ z2
            rw [e] at e1; cases e1
            exact e2
  cases hk : K.lookup a with
  | some o =>
    -- the script is one of the module's own objects
    have e := KX a o hk
    rw [ha] at e
    cases e
    refine core (fun _ => none) (fun _ => .inl rfl) (.inr ⟨_, vs.toArray, _, hk, rfl, rfl, rfl, by rw [List.size_toArray, lenV]; exact hl, by simpa using rv⟩) (fun b u z => by have z' : (none : Option HO) = some u := z; cases z') (fun b z => absurd rfl z) fun z => absurd rfl z
  | none =>
    refine core (fun b => if b = a then some (.frz { cls := .type "list", data := .seq vs.toArray } (.lst (ns.map V.int))) else none) (fun b => ?_) (.inl (.inr ⟨{ cls := .type "list", data := .seq vs.toArray }, if_pos rfl⟩)) (fun b u z => ?_) (fun b z => ?_) fun _ => hk
    · by_cases hb : b = a
      · exact .inr ⟨_, _, if_pos hb⟩
      · exact .inl (if_neg hb)
    · by_cases hb : b = a
      · have z' := (if_pos hb).symm.trans z
        cases z'
        subst hb
        exact ⟨ha, by rw [List.length_map]; exact hl, vs, _, rv, ha⟩
      · have z' := (if_neg hb).symm.trans z
        cases z'
    · by_cases hb : b = a
      · exact hb
      · exact absurd (if_neg hb) z
end L2

namespace L2
open PySem PySem.Spec PyProof.Rows

/-- the goal that k_head leaves (case hc), from the law's promise. F gives the function object fd (K's own) once, then the promise over every base -/
theorem walk_of {l : PySem.W.OpenLaw} {n k : Nat} {q : Program} {loose : List Str} {XP : (Str → Option Value) → Heap → Prop} {YP : World → Heap → Prop} {d : DefRec} {K : Params → PySem.W.Frag} {CX : World → CXT} {sp : World → Sp} {x : Str}
    (hn : l.most = some n) (hn2 : n ≤ sizeLine) (hdf : d.params.defaults = []) (hr : Room k callerA)
    (hY : ∀ (w : World) (h : Heap), YP w h → (K w.params).In h)
    (F : ∀ (w : World) (mg : Str → Option Value) (fa : Addr) (h : Heap), (K w.params).In h → h.Ns mainGlobals mg → mg d.name = some (.ref fa) →
      ∃ fd : FuncData, (∀ (s : Shared) (u : Value), BindsTo s fd ⟨[u], []⟩ [(x, u)]) ∧
        ∀ base : Heap, (K w.params).In base → base.Ns mainGlobals mg → FnOk l.prog w (K w.params) mg base (CX w) k fa fd [x] (sp w))
    (hsp : ∀ (w : World) (H : Hp) (a : Addr) (ns : List Int), ns.length ≤ n → Only H → SqL (K w.params) H a (ns.map V.int) → sp w [.ref a] H (fun v _ => v = .bl true) fun _ _ _ => False)
    (hCX : ∀ (w : World) (H : Hp) (s : Shared) (e : Value) (s' : Shared), CX w [] H s (fun _ _ _ => False) e s' → False) :
    PySem.W.WalkO q loose XP YP l.row.toRowW d [] (fun f vs => PySem.call f vs) := by
  refine Att.attach_call hn hdf fun w s₀ s₁ mg mb fa o pm cd doc a vs ns G Y ho hd hcd hmg hobj hints hlen hg => ?_
  have KX := hY w _ Y
  obtain ⟨fd, hb, hF⟩ := F w mg fa _ KX G.T.g hmg
  exact law_call KX G.T.g G.T.b G.T.builtins G.T.nolimit hg hobj hints (Nat.le_trans hlen hn2) hr hF hb (fun H hO hS => hsp w H a ns hlen hO hS) fun H e s' => hCX w H s₁ e s'
end L2

/- THE LAST THEOREM (shape; LID, My.* are yours):
   My.Adr: a structure of the addresses that your layer names (classes, functions); My.Txt K t: a structure (Prop) of the equations over K;
   My.txt_mk : {K} {implicit addresses ..} (e1 : nsIn K mainGlobals "law" = some (some (.ref f))) (e2 : K.lookup f = some ⟨oc, od, .func (fnOf "law" "law" params body scope dV kV doc pm an cdv ct), sl⟩) (e3 : codeIn K cdv "law" = true) .. : ∃ t, My.Txt K t

set_option maxRecDepth 100000 in
set_option maxHeartbeats 0 in
theorem PySem.Challenge.cw_LID_holds : PySem.Challenge.rw_LID.Holds := by
  w_on; o_law; k_head; (case hw => w_witness2)
  k_fill
  refine L2.walk_of (l := PySem.Challenge.rw_LID) (n := 63) (k := 40) (x := "script") (CX := fun w => ..) (sp := fun _ => My.sp_law) rfl (by decide) rfl ⟨rfl, by decide, by decide⟩ (fun w h Y => PySem.W.kIn_of Y) ?F ?S ?C
  case F =>
    intro w mg fa h KX G hmg
    have T : ∃ t, My.Txt (L2.KOf KX) t := by
      dsimp only [L2.KOf]                          -- K must stand as «<heap const> w.params» for k_is
      refine' My.txt_mk ?e1 ?e2 ?e3 ..
      (case e1 => PySem.W.k_is)                    -- in the order: a name -> its address -> its object -> its parts
      (case e2 => PySem.W.k_is)
      ..
    obtain ⟨t, T⟩ := T
    have e0 := hmg.symm.trans (PySem.W.mg_of KX G T.law)
    cases e0                                       -- fa is the law's own address
    exact ⟨_, fun s u => .of_eq rfl, fun base kb nb => My.law_fn T kb nb⟩     -- if «.of_eq rfl» comes too early: refine' ⟨_, ?b, fun base kb nb => My.law_fn T kb nb⟩; exact fun s u => .of_eq rfl
  case S => exact fun w H a ns hl hO hS => ..
  case C => exact ..
(the tactic k_is has no namespace: write k_is) -/

/-! SHORT WORDS over the layer: a def of the text, its body, what a loop and a test want. -/
namespace L2
open PySem PySem.Spec PyProof.Rows

def defArgs (s : Stmt) : Arguments := match s with
  | .FunctionDef _ a _ _ _ _ _ _ _ _ => a
  | _ => { posonlyargs := [], args := [], vararg := none, kwonlyargs := [], kw_defaults := [], kwarg := none, defaults := [] }
def defBody (s : Stmt) : List Stmt := match s with
  | .FunctionDef _ _ b _ _ _ _ _ _ _ => b
  | _ => []
def defScope (s : Stmt) : Scope := match s with
  | .FunctionDef _ _ _ _ _ _ sc _ _ _ => sc
  | _ => { kind := .function, names := [], isGenerator := false, isCoroutine := false }

/-! ### no exception leaves a def -/
abbrev CX0 : CXT := fun _ _ _ _ _ _ => False
abbrev E0 : XK := fun _ _ _ => False
theorem pass0 {X : Cx} : Passes CX0 X E0 := fun _ _ _ _ _ _ _ h => h.elim

/-! ### a def (or method) of the text as it stands behind the top -/
structure Fun (K : PySem.W.Frag) (x qual : Str) (st : Stmt) (f : Addr) (fd : FuncData) : Prop where
  ex : ∃ (oc : Value) (od : Option Addr) (kV doc pm : Value) (an : Option Addr) (cdv ct : Value) (osl : Array (Option Value)),
    fd = PySem.W.fnOf x qual (defArgs st) (defBody st) (defScope st) .none kV doc pm an cdv ct ∧ K.lookup f = some ⟨oc, od, .func fd, osl⟩ ∧ PySem.W.codeIn K cdv qual = true
  kp : PySem.W.keepIn K (.ref f) = true
section
variable {P : Program} {w : World} {K : PySem.W.Frag} {mg : Str → Option Value} {base : Heap}
/-- THE RULE for a def: its body as a term of rules, and the reading of that term -/
theorem Fun.ok {x qual : Str} {st : Stmt} {f : Addr} {fd : FuncData} {N ps : List Str} {k : Nat} {sp : Sp} (F : Fun K x qual st f fd) (S : FnScope N ps (defScope st)) (len : ∀ vs H Q E, sp vs H Q E → vs.length = ps.length)
    (hbody : ∀ (cdv : Value) (A : Around) (outer : List Env) (s : Shared) (H : Hp) (vs : List V) (Q : VK) (E : XK), Room k (A.deeper (envOfC qual (defScope st) s.heap.objs.size f cdv)) → sp vs H Q E →
      ∃ t, PSs (cxOf CX0 P w K mg base N qual (defScope st) f cdv A outer s H E).nox (defBody st) t ∧ t { nx := fun _ H' => Q .non H', rt := Q } (start N vs) H) : FnOk P w K mg base CX0 (k + 1) f fd ps sp := by
  obtain ⟨oc, od, kV, doc, pm, an, cdv, ct, osl, rfl, lk, hcd⟩ := F.ex
  refine fn_of lk hcd S len fun A outer s H vs Q E hr hsp => ?_
  obtain ⟨t, h, q⟩ := hbody cdv A outer s H vs Q E hr hsp
  exact ⟨t, h.nox, q⟩
/-- how its arguments bind (no defaults): h is «fun _ _ _ _ _ _ us hl => match us, hl with | [_, _], _ => rfl», one _ a parameter -/
theorem Fun.binds {x qual : Str} {st : Stmt} {f : Addr} {fd : FuncData} {ps : List Str} (F : Fun K x qual st f fd)
    (h : ∀ (kV doc pm : Value) (an : Option Addr) (cdv ct : Value) (us : List Value), us.length = ps.length → bindArgs (PySem.W.fnOf x qual (defArgs st) (defBody st) (defScope st) .none kV doc pm an cdv ct) ⟨us, []⟩ = pure (ps.zip us)) : Binds K fd ps [] := by
  obtain ⟨oc, od, kV, doc, pm, an, cdv, ct, osl, rfl, lk, hcd⟩ := F.ex
  exact .all (h kV doc pm an cdv ct)
theorem fun_mk {x qual : Str} {st : Stmt} {f : Addr} {oc : Value} {od an : Option Addr} {osl : Array (Option Value)} {kV doc pm cdv ct : Value} (l : K.lookup f = some ⟨oc, od, .func (PySem.W.fnOf x qual (defArgs st) (defBody st) (defScope st) .none kV doc pm an cdv ct), osl⟩)
    (c : PySem.W.codeIn K cdv qual = true) (k : PySem.W.keepIn K (.ref f) = true) : Fun K x qual st f (PySem.W.fnOf x qual (defArgs st) (defBody st) (defScope st) .none kV doc pm an cdv ct) := ⟨⟨oc, od, kV, doc, pm, an, cdv, ct, osl, rfl, l, c⟩, k⟩
end
/-! ### expressions in short: the name that stands in the i-th slot -/
section
variable {X : Cx}
theorem pv (i : Nat) {x : Str} {pos : Pos} (hN : X.N[i]? = some x := by rfl) (hv : Vis X.env.scope x := by first | exact Or.inl rfl | exact Or.inr (Or.inl rfl) | exact Or.inr (Or.inr rfl)) (hd : (x == ("__debug__" : Str)) = false := by decide)
    (hcd : (x == ("__classdict__" : Str)) = false := by decide) : PE X (.Name x pos) (tVar i) := pe_var hN hv hd hcd
end

/-! ### tests -/
theorem iteF {A B : Prop} (h : B) : if false = true then A else B := by
  rw [if_neg Bool.false_ne_true]
  exact h
theorem ite2 {c A B : Prop} [Decidable c] (h1 : c → A) (h2 : ¬ c → B) : if c then A else B := by
  by_cases h : c
  · rw [if_pos h]
    exact h1 h
  · rw [if_neg h]
    exact h2 h
/-! ### heaps -/
/-- all that was tracked is as it was -/
def Same (H H' : Hp) : Prop := ∀ b o, H b = some o → H' b = some o
theorem Same.refl (H : Hp) : Same H H := fun _ _ h => h
theorem Same.trans {H H1 H2 : Hp} (a : Same H H1) (b : Same H1 H2) : Same H H2 := fun c o h => b c o (a c o h)
theorem Same.free {H H' : Hp} (e : Same H H') {l : Addr} (h : H' l = Option.none) : H l = Option.none := by
  cases q : H l with
  | none => rfl
  | some o =>
    rw [e l o q] at h
    cases h
theorem Same.seq {K : PySem.W.Frag} {H H' : Hp} {a : Addr} {xs : List V} (e : Same H H') (h : SqL K H a xs) : SqL K H' a xs := by
  rcases h with (h | ⟨o, h⟩) | h
  · exact .inl (.inl (e _ _ h))
  · exact .inl (.inr ⟨o, e _ _ h⟩)
  · exact .inr h

end L2

namespace L2
open PySem PySem.Spec PyProof.Rows

/-! ### a comprehension's block: its names, its context -/
def cloOf (cells : List (Str × Addr)) : List (Str × NameKind) → List (Str × Addr) → List (Str × Addr)
  | [], acc => acc
  | (n, k) :: r, acc => cloOf cells r (if (k == NameKind.free) = true then (n, (cells.lookup n).getD 0) :: acc else acc)

theorem cloOf_mem {cells : List (Str × Addr)} {x : Str} {c : Addr} : ∀ {ns : List (Str × NameKind)} {acc : List (Str × Addr)}, (x, c) ∈ cloOf cells ns acc → ((x, NameKind.free) ∈ ns ∧ c = (cells.lookup x).getD 0) ∨ (x, c) ∈ acc
  | [], _, h => .inr h
  | (n, k) :: r, acc, h => by
    have q := cloOf_mem (ns := r) h
    rcases q with ⟨q1, q2⟩ | q
    · exact .inl ⟨List.mem_cons_of_mem _ q1, q2⟩
    · by_cases hk : (k == NameKind.free) = true
      · rw [if_pos hk] at q
        have ek : k = NameKind.free := by simpa using hk
        rcases List.mem_cons.mp q with e | q
        · cases e
          subst ek
          exact .inl ⟨List.mem_cons_self, rfl⟩
        · exact .inr q
      · rw [if_neg hk] at q
        exact .inr q
theorem cloOf_sub {cells : List (Str × Addr)} {p : Str × Addr} : ∀ {ns : List (Str × NameKind)} {acc : List (Str × Addr)}, p ∈ acc → p ∈ cloOf cells ns acc
  | [], _, h => h
  | (n, k) :: r, acc, h => by
    refine cloOf_sub (ns := r) ?_
    split
    · exact List.mem_cons_of_mem _ h
    · exact h
theorem cloOf_has {cells : List (Str × Addr)} {x : Str} : ∀ {ns : List (Str × NameKind)} {acc : List (Str × Addr)}, (x, NameKind.free) ∈ ns → (x, (cells.lookup x).getD 0) ∈ cloOf cells ns acc
  | (n, k) :: r, acc, h => by
    rcases List.mem_cons.mp h with e | h
    · cases e
      refine cloOf_sub (ns := r) ?_
      rw [if_pos (by rfl)]
      exact List.mem_cons_self
    · exact cloOf_has (ns := r) h
theorem lookup_of_mem {x : Str} {c : Addr} : ∀ {l : List (Str × Addr)}, (x, c) ∈ l → ∃ c', l.lookup x = some c'
  | (n, d) :: r, h => by
    rw [List.lookup_cons]
    cases e : x == n with
    | true => exact ⟨d, rfl⟩
    | false =>
      rcases List.mem_cons.mp h with q | q
      · cases q
        simp at e
      · exact lookup_of_mem q
theorem forIn_clo {env : Env} (f : (Str × NameKind) → List (Str × Addr) → Sem (ForInStep (List (Str × Addr)))) (hf1 : ∀ n acc c, env.cells.lookup n = some c → f (n, .free) acc = pure (.yield ((n, c) :: acc)))
    (hf2 : ∀ n k acc, (k == NameKind.free) = false → f (n, k) acc = pure (.yield acc)) : ∀ (ns : List (Str × NameKind)) (acc : List (Str × Addr)), (∀ y ∈ ns, y.2 = .free → ∃ c, env.cells.lookup y.1 = some c) → forIn ns acc f = pure (cloOf env.cells ns acc)
  | [], _, _ => rfl
  | (n, k) :: r, acc, h => by
    have ih := fun acc' => forIn_clo f hf1 hf2 r acc' fun y hy => h y (List.mem_cons_of_mem _ hy)
    rw [List.forIn_cons]
    cases hk : k == NameKind.free with
    | true =>
      have ek : k = NameKind.free := by simpa using hk
      subst ek
      obtain ⟨c, e⟩ := h (n, .free) List.mem_cons_self rfl
      have e' : env.cells.lookup n = some c := e
      rw [hf1 n acc c e]
      show forIn r ((n, c) :: acc) f = _
      rw [ih]
      show _ = pure (cloOf env.cells r (if (NameKind.free == NameKind.free) = true then (n, (env.cells.lookup n).getD 0) :: acc else acc))
      rw [if_pos (by rfl), e']
      rfl
    | false =>
      rw [hf2 n k acc hk]
      show forIn r acc f = _
      rw [ih]
      show _ = pure (cloOf env.cells r (if (k == NameKind.free) = true then (n, (env.cells.lookup n).getD 0) :: acc else acc))
      rw [if_neg (by rw [hk]; decide)]
theorem closureFor_clo {scope : Scope} {env : Env} (h : ∀ y ∈ scope.names, y.2 = .free → ∃ c, env.cells.lookup y.1 = some c) : closureFor scope env = pure (cloOf env.cells scope.names []) := by
  unfold closureFor
  show (forIn scope.names [] _ >>= _) = _
  rw [forIn_clo (env := env) _ ?_ ?_ scope.names [] h]
  · rfl
  · intro n acc c e
    show (if (NameKind.free == NameKind.free) = true then _ else _) = _
    rw [if_pos (by rfl)]
    unfold cellOf
    rw [e]
    first | rfl | skip
  · intro n k acc hk
    show (if (k == NameKind.free) = true then _ else _) = _
    rw [if_neg (by rw [hk]; decide)]

/-- the context of a comprehension's block -/
abbrev compCx (X : Cx) (N' : List Str) (sc : Scope) (cl : List (Str × Addr)) (C : Addr) (s : Shared) (H : Hp) (fp : List Addr) : Cx :=
  { X with N := N', s₀ := s, H₀ := H, env := compEnvC sc cl C X.env, outer := X.stack, stack := X.stack, ex := fp, fn := fun x => sc.names.lookup x == some NameKind.local, pn := [], xe := fun _ _ => False }

/-- what the block's names are: its own, or (src: the slot) the outer frame's -/
structure CompSc (osc : Scope) (ON N' : List Str) (src : List (Option Nat)) (sc : Scope) : Prop where
  kind : sc.kind = .function
  okind : osc.kind = .function
  uniq : ∀ y ∈ sc.names, sc.names.lookup y.1 = some y.2
  nocell : ∀ y ∈ sc.names, y.2 ≠ .cell
  free : ∀ y ∈ sc.names, y.2 = .free → osc.names.lookup y.1 = some .cell ∨ osc.names.lookup y.1 = some .free
  len : src.length = N'.length
  src : ∀ (i : Nat) (x : Str) (j : Nat), N'[i]? = some x → src[i]? = some (some j) → ON[j]? = some x ∧ sc.names.lookup x = some .free

def inSt (src : List (Option Nat)) (σ : St) : St := src.map fun o => o.bind fun j => (σ[j]?).bind id
theorem inSt_get {src : List (Option Nat)} {σ : St} {i : Nat} {v : V} (h : (inSt src σ)[i]? = some (some v)) : ∃ j, src[i]? = some (some j) ∧ σ[j]? = some (some v) := by
  unfold inSt at h
  rw [List.getElem?_map] at h
  cases e : src[i]? with
  | none => rw [e] at h; cases h
  | some o =>
    rw [e] at h
    cases o with
    | none => cases h
    | some j =>
      have h' : (σ[j]?).bind id = some v := Option.some.inj h
      cases e2 : σ[j]? with
      | none => rw [e2] at h'; cases h'
      | some w =>
        rw [e2] at h'
        have h'' : w = some v := h'
        exact ⟨j, rfl, by rw [e2, h'']⟩

/-- the tests of a comprehension -/
def PIfs (X : Cx) (ifs : List Expr) (t : TT) : Prop :=
  ∀ (pins : List (Addr × Obj)) (s : Shared) (σ : St) (H : Hp) (Q : Bool → Hp → Prop), Inv X pins σ H s → t σ H Q →
    wpAny (model X.prog X.w) X.A (forIn ifs true fun c r => if r = true then do let ok ← isTrue c X.env (eval c X.env); pure (ForInStep.yield ok) else pure (ForInStep.yield r)) (TP X pins σ Q) X.xe s
def tNoIf : TT := fun _ H Q => Q true H
theorem pifs_nil {X : Cx} : PIfs X [] tNoIf := fun _ _ _ H _ I h => wpAny_tests_nil ⟨H, I, h⟩
/-- one turn behind another -/
def compW (J : It) (g : TG) (tc : TT) (te : TE) (D : Addr) (Q : VK) (W : Nat → Nat → St → List V → Hp → Prop) : Prop :=
  ∀ i m σ ys H, W i m σ ys H → H D = some (.lst ys) ∧ ((J.stop i H ∧ Q (.ref D) H) ∨ (J.go i H ∧ ys.length < sizeLine ∧ ∃ N : St → List V → Hp → Prop, (∀ σ' ys' H', N σ' ys' H' → ∃ m', m' < m ∧ W (i + 1) m' σ' ys' H') ∧
    ∀ x H', J.yld i H x H' → g x σ H' fun σ2 H2 => tc σ2 H2 fun b H3 =>
      if b = true then te σ2 H3 fun v H4 => H4 D = some (.lst ys) ∧ N σ2 (ys ++ [v]) (upd H4 D (.lst (ys ++ [v]))) else N σ2 ys H3))
def tComp (src : List (Option Nat)) (wi : TI) (g : TG) (tc : TT) (te : TE) : TE := fun σ H Q => wi σ H fun J H1 => ∀ D, H1 D = none →
  ∃ W : Nat → Nat → St → List V → Hp → Prop, (∃ m, W 0 m (inSt src σ) [] (upd H1 D (.lst []))) ∧ compW J g tc te D Q W

section
variable {X : Cx} {elt target iter : Expr} {ifs : List Expr} {sc : Scope} {pos : Pos} {wi : TI} {g : TG} {tc : TT} {te : TE} {N' : List Str} {src : List (Option Nat)}

theorem comp_loop {it acc : Value} {env : Env} {prog : Program} {w : World} {A : Around} {s : Shared} {R : Result → Shared → Prop} (Iv : Nat → Shared → Prop)
    (turn : ∀ n s, Iv n s → wpAny (model prog w) A (pyNext it) (fun r s₁ => match r with
      | none => R (.ok .next) s₁
      | some v => wpAny (model prog w) A (letOwnedTupleGo target it v) (fun _ s₁' => wpAny (model prog w) A (assign target env v) (fun _ s₂ =>
          wpAny (model prog w) A (forIn ifs true fun c r => if r = true then do let ok ← isTrue c env (eval c env); pure (ForInStep.yield ok) else pure (ForInStep.yield r)) (fun ok s₃ =>
            if ok = true then wpAny (model prog w) A (eval elt env) (fun x s₄ =>
              wpAny (model prog w) A (call (.builtin "list.append") [acc, x]) (fun _ s₅ => ∃ m, m < n ∧ Iv m s₅) (fun _ _ => False) s₄) (fun _ _ => False) s₃
            else ∃ m, m < n ∧ Iv m s₃) (fun _ _ => False) s₂) (fun _ _ => False) s₁') (fun _ _ => False) s₁) (fun _ _ => False) s)
    (n : Nat) (h : Iv n s) :
    codeAny (model prog w) A (.compLoop (.ListComp elt [⟨target, iter, ifs, 0⟩] sc pos) 0 it acc env) R s := by
  refine codeAny_loop rfl Iv (fun n s hI => ?_) n h
  show wpAny _ A ((compTurn (.ListComp elt [⟨target, iter, ifs, 0⟩] sc pos) 0 it acc env).onRaise (fun x => do noteFrame x env; theTreesLotGoes x)) _ _ s
  refine wpAny_noted ?_
  rw [compTurn_list]
  refine wpAny_bind (wpAny_standAt (wpAny_bind (wpAny_mono (turn n s hI) (fun r s₁ h₁ => ?_) fun _ _ h' => h'.elim)))
  cases r with
  | none => exact wpAny_pure h₁
  | some v =>
    refine wpAny_bind (wpAny_mono h₁ (fun _ s₁' h₁' => wpAny_bind (wpAny_mono h₁' (fun _ s₂ h₂ => wpAny_bind (wpAny_mono h₂ (fun ok s₃ h₃ => ?_) fun _ _ h' => h'.elim)) fun _ _ h' => h'.elim)) fun _ _ h' => h'.elim)
    cases ok with
    | false => exact wpAny_pure ⟨rfl, h₃⟩
    | true =>
      exact wpAny_bind (wpAny_bind (wpAny_mono h₃ (fun x s₄ h₄ => wpAny_bind (wpAny_mono h₄ (fun _ s₅ h₅ => wpAny_pure (wpAny_pure ⟨rfl, h₅⟩)) fun _ _ h' => h'.elim)) fun _ _ h' => h'.elim))

theorem comp_start {pins : List (Addr × Obj)} {σ : St} {H : Hp} {s : Shared} {h1 : Heap} {fp : List Addr} (S : CompSc X.env.scope X.N N' src sc) (I : Inv X pins σ H s) (f2 : ∀ b ∈ fp, FpOk X pins H b) (o2 : ∀ b ∈ fp, b < s.heap.objs.size)
    (ns : h1.Ns s.heap.objs.size fun x => (([] : List (Str × Value)).reverse.lookup x)) (sb : Heap.SameBut s.heap.objs.size (s.heap.push { cls := .type "dict", data := .dict #[] }) h1) {tk : Nat} :
    Inv (compCx X N' sc (cloOf X.env.cells sc.names []) s.heap.objs.size s H fp) [] (inSt src σ) H { s with heap := h1, toks := tk } := by
  have old : ∀ b o, s.heap.get? b = some o → h1.get? b = some o := fun b o e => (sb.2 b (Nat.ne_of_lt (Heap.lt_size e))).trans (Heap.get?_push_of_some _ e)
  have clo : ∀ x c, (cloOf X.env.cells sc.names []).lookup x = some c → X.env.cells.lookup x = some c ∧ sc.names.lookup x = some .free := fun x c e => by
    rcases cloOf_mem (mem_of_lookup e) with ⟨m, q⟩ | z
    · obtain ⟨c', e'⟩ := I.ok.has x (S.free _ m rfl)
      rw [e'] at q
      exact ⟨by rw [e', q]; rfl, S.uniq _ m⟩
    · cases z
  have hasC : ∀ x, sc.names.lookup x = some .free → ∃ c, (cloOf X.env.cells sc.names []).lookup x = some c := fun x e => lookup_of_mem (cloOf_has (mem_of_lookup e))
  have kinds : ∀ (x : Str) (k : NameKind), (relabel sc X.env).names.lookup x = some k → (k = .cell ∨ k = .free) → sc.names.lookup x = some .free := fun x k e hk => by
    have gen : ∀ ns : List (Str × NameKind), (∀ y ∈ ns, y.2 ≠ .cell) → (ns.map fun (n, k) => if (k == NameKind.free && X.env.scope.kind == .function && X.env.kindOf n == some .cell) then (n, NameKind.cell) else (n, k)).lookup x = some k → ns.lookup x = some .free := by
      intro ns
      induction ns with
      | nil => intro _ h; cases h
      | cons y r ih =>
        obtain ⟨n, k1⟩ := y
        intro hn h
        rw [List.map_cons] at h
        dsimp only at h
        by_cases hc : (k1 == NameKind.free && X.env.scope.kind == .function && X.env.kindOf n == some .cell) = true
        · rw [if_pos hc, List.lookup_cons] at h
          rw [List.lookup_cons]
          cases hx : x == n with
          | true =>
            have : k1 = NameKind.free := by
              cases hk1 : k1 == NameKind.free with
              | true => simpa using hk1
              | false => rw [hk1] at hc; simp at hc
            rw [this]
          | false => rw [hx] at h; exact ih (fun y hy => hn y (List.mem_cons_of_mem _ hy)) h
        · rw [if_neg hc, List.lookup_cons] at h
          rw [List.lookup_cons]
          cases hx : x == n with
          | true =>
            rw [hx] at h
            have h' : k1 = k := Option.some.inj h
            rcases hk with hk | hk
            · exact absurd (h'.trans hk) (hn (n, k1) List.mem_cons_self)
            · show some k1 = _
              rw [h', hk]
          | false => rw [hx] at h; exact ih (fun y hy => hn y (List.mem_cons_of_mem _ hy)) h
    exact gen sc.names S.nocell e
  have relab : ∀ x, sc.names.lookup x = some .free → (relabel sc X.env).names.lookup x = some .cell ∨ (relabel sc X.env).names.lookup x = some .free := fun x e => by
    have gen : ∀ ns : List (Str × NameKind), ns.lookup x = some .free → (ns.map fun (n, k) => if (k == NameKind.free && X.env.scope.kind == .function && X.env.kindOf n == some .cell) then (n, NameKind.cell) else (n, k)).lookup x = some .cell ∨
        (ns.map fun (n, k) => if (k == NameKind.free && X.env.scope.kind == .function && X.env.kindOf n == some .cell) then (n, NameKind.cell) else (n, k)).lookup x = some .free := by
      intro ns
      induction ns with
      | nil => intro h; cases h
      | cons y r ih =>
        obtain ⟨n, k1⟩ := y
        intro h
        rw [List.map_cons]
        dsimp only
        rw [List.lookup_cons] at h
        by_cases hc : (k1 == NameKind.free && X.env.scope.kind == .function && X.env.kindOf n == some .cell) = true
        · rw [if_pos hc, List.lookup_cons]
          cases hx : x == n with
          | true => exact .inl rfl
          | false => rw [hx] at h; exact ih h
        · rw [if_neg hc, List.lookup_cons]
          cases hx : x == n with
          | true =>
            rw [hx] at h
            exact .inr h
          | false => rw [hx] at h; exact ih h
    exact gen sc.names e
  refine ⟨⟨I.mod, ?_, I.ok.glob, I.ok.blt, Nat.le_refl _, fun x y c h1 h2 => I.ok.inj x y c (clo x c h1).1 (clo y c h2).1, fun x hx => ?_, fun x c hf h => ?_, I.ok.hd, I.ok.frames, .inl rfl, fun b hb => ⟨?_, fun x c h => ?_⟩, I.bs, ?_, fun b o e hb => ?_, fun b hb hs => ?_, I.stack, I.stkFree⟩,
    rfl, I.bare, Un.kept old, ⟨_, ns, fun i x v h1 h2 h3 => ?_⟩, fun x c h => ?_, I.hok.fresh (Nat.le_refl _), fun x c h => I.freeC x c (clo x c h).1, fun p hp => absurd (show p ∈ ([] : List (Addr × Obj)) from hp) (by simp), I.hok.kept old, ?_⟩
  · show (relabel sc X.env).kind = .function
    exact S.kind
  · obtain hx | hx := hx
    · exact hasC x (kinds x _ hx (.inl rfl))
    · exact hasC x (kinds x _ hx (.inr rfl))
  · have e2 := (clo x c h).2
    have hf' : (sc.names.lookup x == some NameKind.local) = true := hf
    rw [e2] at hf'
    cases hf'
  · exact Nat.ne_of_lt (o2 b hb)
  · exact (f2 b hb).2.2.2.2.1 x c (clo x c h).1
  · exact Nat.le_trans I.ok.bsz I.sz
  · rcases (f2 b hb).2.2.2.1 with z | z
    · exact I.ok.noex b o e z
    · exact absurd (Nat.lt_of_lt_of_le (Heap.lt_size e) (Nat.le_trans I.ok.bsz z)) (Nat.lt_irrefl _)
  · rcases List.mem_cons.mp (I.stkSub b hs) with z | z
    · exact (f2 b hb).2.1 z
    · exact (f2 b hb).2.2.1 z
  · obtain ⟨j, e1, e2⟩ := inSt_get h2
    obtain ⟨e3, e4⟩ := S.src i x j h1 e1
    obtain ⟨m, hn, hl⟩ := I.loc
    have kx := S.free _ (mem_of_lookup e4) rfl
    obtain ⟨u, ru, l⟩ := hl j x v e3 e2 (.inr kx)
    refine ⟨u, ru, .inr ⟨relab x e4, ?_⟩⟩
    obtain ⟨c, hc⟩ := hasC x e4
    refine ⟨c, hc, ?_⟩
    have hc' := (clo x c hc).1
    rcases l with ⟨lk, _⟩ | ⟨_, c', lc, z⟩
    · have lk' : X.env.scope.names.lookup x = some .local := lk
      rcases kx with q | q
      · have q' : X.env.scope.names.lookup x = some .cell := q
        rw [lk'] at q'; cases q'
      · have q' : X.env.scope.names.lookup x = some .free := q
        rw [lk'] at q'; cases q'
    · rw [hc'] at lc
      cases lc
      obtain ⟨o, ho, hd⟩ := z
      exact ⟨o, old _ _ ho, hd⟩
  · obtain ⟨v, o, ho, hd⟩ := I.cell x c (clo x c h).1
    exact ⟨v, o, old _ _ ho, hd⟩
  · show (inSt src σ).length = N'.length
    unfold inSt
    rw [List.length_map]
    exact S.len

theorem comp_block {pins : List (Addr × Obj)} {σ : St} {H2 : Hp} {s2 : Shared} {it : Addr} {fp : List Addr} {tn : Nat → Heap → Prop} {J : It} {Q : VK} {E : Value → Shared → Prop} {RR : Value → Addr → Result → Shared → Prop}
    (hc : X.calm = true) (S : CompSc X.env.scope X.N N' src sc)
    (hg : ∀ cl C s H fp, PG (compCx X N' sc cl C s H fp) target g) (ht : ∀ cl C s H fp, PIfs (compCx X N' sc cl C s H fp) ifs tc) (he : ∀ cl C s H fp, PE (compCx X N' sc cl C s H fp) elt te)
    (I2 : Inv X pins σ H2 s2) (T : Turn X.prog X.w X.K target J fp it tn) (st2 : tn 0 s2.heap) (f2 : ∀ b ∈ fp, FpOk X pins H2 b)
    (hW : ∀ D, H2 D = none → ∃ W : Nat → Nat → St → List V → Hp → Prop, (∃ m, W 0 m (inSt src σ) [] (upd H2 D (.lst []))) ∧ compW J g tc te D Q W)
    (hRR : ∀ D C s5 H' m, Inv X pins σ H' s5 → s5.heap.Ns C m → FpOk X pins H' C → Q (.ref D) H' → RR (.ref D) C (.ok .next) s5) :
    wpAny (model X.prog X.w) X.A (newList []) (fun acc s₃ => wpAny (model X.prog X.w) X.A (newFunctionEnv sc X.env.globals (cloOf X.env.cells sc.names []) [] X.env.qual none .none (some X.env)) (fun cenv s₄ =>
      codeAny (model X.prog X.w) X.A (.compStart (.ListComp elt [⟨target, iter, ifs, 0⟩] sc pos) 0 (.ref it) acc { cenv with scope := relabel sc X.env }) (RR acc cenv.locals) s₄) E s₃) E s2 := by
  have o2 : ∀ b ∈ fp, b < s2.heap.objs.size := fun b hb => by
    obtain ⟨o, e, _⟩ := T.obj 0 _ st2 b hb
    exact Heap.lt_size e
  refine wpAny_newObj_type ?_
  have fr2 : H2 s2.heap.objs.size = none := I2.hok.fresh (Nat.le_refl _)
  obtain ⟨W, ⟨m0, w0⟩, turn⟩ := hW s2.heap.objs.size fr2
  have I3 : Inv X pins σ (upd H2 s2.heap.objs.size (.lst [])) { s2 with heap := s2.heap.push { cls := .type "list", dict := none, data := .seq ([] : List Value).toArray } } :=
    I2.laid (t' := s2.toks) (fun b u e => Heap.get?_push_of_some _ e) (Nat.le_refl _) ⟨Nat.zero_le _, [], 0, .nil, Heap.get?_push_size _ rfl⟩
  have st3 : tn 0 (s2.heap.push { cls := .type "list", dict := none, data := .seq ([] : List Value).toArray }) := T.keep 0 _ _ st2 fun b hb o e => Heap.get?_push_of_some _ e
  generalize hs3 : ({ s2 with heap := s2.heap.push { cls := .type "list", dict := none, data := .seq ([] : List Value).toArray } } : Shared) = s3 at I3
  have hh3 : s3.heap = s2.heap.push { cls := .type "list", dict := none, data := .seq ([] : List Value).toArray } := by rw [← hs3]
  have sz3 : s2.heap.objs.size < s3.heap.objs.size := by rw [hh3, Heap.size_push]; exact Nat.lt_succ_self _
  have o3 : ∀ b ∈ fp, b < s3.heap.objs.size := fun b hb => Nat.lt_trans (o2 b hb) sz3
  have f3 : ∀ b ∈ fp, FpOk X pins (upd H2 s2.heap.objs.size (.lst [])) b := fun b hb => ⟨by rw [upd_ne (Nat.ne_of_lt (o2 b hb))]; exact (f2 b hb).1, (f2 b hb).2⟩
  rw [← hh3] at st3
  refine wpAny_newFunctionEnv S.nocell (by intro y hy; simp at hy) (fun h1 hns hsb => ?_) S.kind
  have hsb' : Heap.SameBut s3.heap.objs.size (s3.heap.push { cls := .type "dict", data := .dict #[] }) h1 := hsb
  have I4 : Inv (compCx X N' sc (cloOf X.env.cells sc.names []) s3.heap.objs.size s3 (upd H2 s2.heap.objs.size (.lst [])) fp) [] (inSt src σ) (upd H2 s2.heap.objs.size (.lst [])) { s3 with heap := h1, toks := s3.toks + ([] : List (Str × Value)).length } :=
    comp_start S I3 f3 o3 hns hsb'
  have st4 : tn 0 h1 := T.keep 0 _ _ st3 fun b hb o e => (hsb'.2 b (Nat.ne_of_lt (o3 b hb))).trans (Heap.get?_push_of_some _ e)
  have fC : ∀ (H' : Hp) , H' s3.heap.objs.size = none → FpOk X pins H' s3.heap.objs.size := fun H' hn => I3.fpOk (Nat.le_refl _) hn
  have loop : codeAny (model X.prog X.w) X.A (.compLoop (.ListComp elt [⟨target, iter, ifs, 0⟩] sc pos) 0 (.ref it) (.ref s2.heap.objs.size) (compEnvC sc (cloOf X.env.cells sc.names []) s3.heap.objs.size X.env))
      (RR (.ref s2.heap.objs.size) s3.heap.objs.size) { s3 with heap := h1, toks := s3.toks + ([] : List (Str × Value)).length } := by
    have stat : ∀ {H' : Hp}, (∀ b ∈ fp, H' b = none) → ∀ b ∈ fp, FpOk (compCx X N' sc (cloOf X.env.cells sc.names []) s3.heap.objs.size s3 (upd H2 s2.heap.objs.size (.lst [])) fp) [] H' b := fun hn b hb =>
      ⟨hn b hb, (I4.ok.exf b hb).1, I4.ok.exfs b hb, .inl hb, (I4.ok.exf b hb).2, fun p hp => absurd (show p ∈ ([] : List (Addr × Obj)) from hp) (by simp)⟩
    refine comp_loop (fun n s' => ∃ i σ' ys H', Inv (compCx X N' sc (cloOf X.env.cells sc.names []) s3.heap.objs.size s3 (upd H2 s2.heap.objs.size (.lst [])) fp) [] σ' H' s' ∧ tn i s'.heap ∧ (∀ b ∈ fp, H' b = none) ∧ W i n σ' ys H') ?_ m0
      ⟨0, _, [], _, I4, st4, fun b hb => (f3 b hb).1, w0⟩
    rintro n s5 ⟨i, σ5, ys, H5, I5, st5, fr5, w5⟩
    obtain ⟨hD, alt⟩ := turn i n σ5 ys H5 w5
    rcases alt with ⟨stop, qn⟩ | ⟨go, hsz, N, hN, step⟩
    · refine thn (T.done (compCx X N' sc (cloOf X.env.cells sc.names []) s3.heap.objs.size s3 (upd H2 s2.heap.objs.size (.lst [])) fp) rfl rfl rfl hc i [] s5 σ5 H5 _ I5 (stat fr5) st5 stop) fun r s6 ⟨hr, I6⟩ => ?_
      subst hr
      obtain ⟨m6, n6, _⟩ := id I6.loc
      refine hRR _ _ s6 H5 m6 (I3.call' I6.os I6.base I6.hok I6.bare fun b hb => ⟨(f3 b hb).2.2.2.1, (f3 b hb).2.1, (f3 b hb).2.2.2.2.1, (f3 b hb).2.2.2.2.2⟩) n6 (fC _ I6.free) qn
    · refine thn (T.item (compCx X N' sc (cloOf X.env.cells sc.names []) s3.heap.objs.size s3 (upd H2 s2.heap.objs.size (.lst [])) fp) rfl rfl rfl hc i [] s5 σ5 H5 _ I5 (stat fr5) st5 go) fun r s6 ⟨u, hr, h6⟩ => ?_
      subst hr
      refine thn h6 fun _ s7 ⟨x, H7, I7, r7, y7, st7, fr7⟩ => ?_
      have I7' := I7.pinned (stat fr7) (T.obj _ _ st7)
      refine thn (hg _ _ _ _ _ _ s7 σ5 H7 x u _ I7' r7 (step x H7 y7)) fun _ s8 ⟨σ8, H8, I8, q8⟩ => ?_
      refine thn (ht _ _ _ _ _ _ s8 σ8 H8 _ I8 q8) fun b s9 ⟨H9, I9, q9⟩ => ?_
      have again : ∀ {σ' : St} {H' : Hp} {s' : Shared} {ys' : List V} {m' : Nat}, Inv (compCx X N' sc (cloOf X.env.cells sc.names []) s3.heap.objs.size s3 (upd H2 s2.heap.objs.size (.lst [])) fp) ([] ++ pinsAt fp s7.heap) σ' H' s' → m' < n → W (i + 1) m' σ' ys' H' →
          ∃ m, m < n ∧ ∃ i σ' ys H', Inv (compCx X N' sc (cloOf X.env.cells sc.names []) s3.heap.objs.size s3 (upd H2 s2.heap.objs.size (.lst [])) fp) [] σ' H' s' ∧ tn i s'.heap ∧ (∀ b ∈ fp, H' b = none) ∧ W i m σ' ys H' := fun {σ' H' s' ys' m'} I' hm w' => by
        refine ⟨m', hm, i + 1, σ', ys', H', I'.unpinned, T.keep _ _ _ st7 fun b hb o e => (I'.pin (b, o) (List.mem_append_right _ (List.mem_append_right _ (mem_pinsAt hb e)))).1, fun b hb => ?_, w'⟩
        obtain ⟨o, e, d⟩ := T.obj _ _ st7 b hb
        exact (I'.pin (b, o) (List.mem_append_right _ (List.mem_append_right _ (mem_pinsAt hb e)))).2.1
      cases b with
      | false =>
        rw [if_neg Bool.false_ne_true] at q9 ⊢
        obtain ⟨m', hm, w'⟩ := hN _ _ _ q9
        exact again I9 hm w'
      | true =>
        rw [if_pos rfl] at q9 ⊢
        refine thn (he _ _ _ _ _ _ s9 σ8 H9 _ I9 q9) fun xv s10 ⟨v, H10, I10, r10, hD10, w10⟩ => ?_
        obtain ⟨m', hm, w'⟩ := hN _ _ _ w10
        have q10 : rAppend (.ref s2.heap.objs.size) [v] H10 fun _ H' => H' = upd H10 s2.heap.objs.size (.lst (ys ++ [v])) := ⟨_, ys, v, rfl, rfl, hD10, hsz, rfl⟩
        refine thn (mt_append _ s10 σ8 H10 _ _ _ _ _ I10 (show RelV (.ref s2.heap.objs.size) (.ref s2.heap.objs.size) from rfl) (.cons r10 .nil) q10) fun _ s11 ⟨_, H11, I11, _, e11⟩ => ?_
        rw [e11] at I11
        exact again I11 hm w'
  exact codeAny_compStart_list loop (T.self _ 0 _ _ _ st4 loop)

/-- a list comprehension of one clause -/
theorem pe_lcomp (hc : X.calm = true) (S : CompSc X.env.scope X.N N' src sc) (hi : PI X target iter wi)
    (hg : ∀ cl C s H fp, PG (compCx X N' sc cl C s H fp) target g) (ht : ∀ cl C s H fp, PIfs (compCx X N' sc cl C s H fp) ifs tc) (he : ∀ cl C s H fp, PE (compCx X N' sc cl C s H fp) elt te)
    (hs : ∀ x, foldedSetIterable iter X.env x = pure x := by intro _; rfl) :
    PE X (.ListComp elt [⟨target, iter, ifs, 0⟩] sc pos) (tComp src wi g tc te) := by
  intro pins s σ H Q I h
  rw [eval_ListComp]
  refine wpAny_comprehension_free (use := none) rfl hs (closureFor_clo fun y hy hk => I.ok.has y.1 (S.free y hy hk)) S.kind (fun y hy hl => by rw [← hl]; exact S.uniq y hy) ?_
  refine thn (hi pins s σ H _ I h) fun v s1 h1 => thn h1 fun itv s2 h2 => ?_
  obtain ⟨it, fp, tn, J, H2, e, I2, T, st2, f2, hW⟩ := h2
  subst e
  refine comp_block (Q := Q) (RR := fun acc C => compPost (model X.prog X.w) X.A X.xe none (EP X pins σ Q) acc C) hc S hg ht he I2 T st2 f2 hW ?_
  intro D C s5 H' m I5 n5 fC q
  refine ⟨m, n5, fun h' sb => ⟨.ref D, H', ?_, rfl, q⟩⟩
  exact I5.turned (t' := s5.toks) (fun b o hb e => (sb.2 b hb).trans e) fC.1 fC.2.1 fC.2.2.2.1 fC.2.2.2.2.1 fC.2.2.2.2.2

end

/-- the names' check, by computing -/
def compOkB (osc : Scope) (ON N' : List Str) (src : List (Option Nat)) (sc : Scope) : Bool :=
  sc.kind == .function && osc.kind == .function && sc.names.all (fun y => sc.names.lookup y.1 == some y.2 && y.2 != .cell && (y.2 != .free || osc.names.lookup y.1 == some .cell || osc.names.lookup y.1 == some .free)) &&
  src.length == N'.length && (N'.zip src).all fun y => match y.2 with | none => true | some j => ON[j]? == some y.1 && sc.names.lookup y.1 == some .free
theorem CompSc.ofB {osc : Scope} {ON N' : List Str} {src : List (Option Nat)} {sc : Scope} (h : compOkB osc ON N' src sc = true) : CompSc osc ON N' src sc := by
  unfold compOkB at h
  simp only [Bool.and_eq_true] at h
  obtain ⟨⟨⟨⟨h1, h2⟩, h3⟩, h4⟩, h5⟩ := h
  have h3' := List.all_eq_true.mp h3
  have h5' := List.all_eq_true.mp h5
  refine ⟨by simpa using h1, by simpa using h2, fun y hy => ?_, fun y hy => ?_, fun y hy hf => ?_, by simpa using h4, fun i x j e1 e2 => ?_⟩
  · have := h3' y hy
    simp only [Bool.and_eq_true] at this
    simpa using this.1.1
  · have := h3' y hy
    simp only [Bool.and_eq_true] at this
    simpa using this.1.2
  · have := h3' y hy
    simp only [Bool.and_eq_true, Bool.or_eq_true] at this
    rcases this.2 with (z | z) | z
    · rw [hf] at z; exact absurd z (by decide)
    · exact .inl (by simpa using z)
    · exact .inr (by simpa using z)
  · have m : (x, some j) ∈ N'.zip src := by
      refine List.mem_of_getElem? (i := i) ?_
      rw [List.getElem?_zip_eq_some]
      exact ⟨e1, e2⟩
    have := h5' _ m
    simp only [Bool.and_eq_true] at this
    exact ⟨by simpa using this.1, by simpa using this.2⟩

section
variable {g : TG} {tc : TT} {te : TE} {D : Addr} {Q : VK} {σ0 : St} {H0 : Hp}
theorem comp_range {lo : Int} {n : Nat} (Pv : Nat → St → List V → Hp → Prop) (h0 : Pv 0 σ0 [] H0) (hD : ∀ i σ ys H, i ≤ n → Pv i σ ys H → H D = some (.lst ys) ∧ ys.length ≤ i) (hz : n ≤ sizeLine)
    (hs : ∀ i σ ys H, i < n → Pv i σ ys H → g (.int (lo + i)) σ H fun σ2 H2 => tc σ2 H2 fun b H3 => if b = true then te σ2 H3 fun v H4 => H4 D = some (.lst ys) ∧ Pv (i + 1) σ2 (ys ++ [v]) (upd H4 D (.lst (ys ++ [v]))) else Pv (i + 1) σ2 ys H3)
    (hd : ∀ σ ys H, Pv n σ ys H → Q (.ref D) H) : ∃ W : Nat → Nat → St → List V → Hp → Prop, (∃ m, W 0 m σ0 [] H0) ∧ compW (Itr lo n) g tc te D Q W := by
  refine ⟨fun i m σ ys H => m = n - i ∧ i ≤ n ∧ Pv i σ ys H, ⟨n, by simp, Nat.zero_le _, h0⟩, ?_⟩
  rintro i m σ ys H ⟨rfl, hi, p⟩
  refine ⟨(hD i σ ys H hi p).1, ?_⟩
  by_cases hlt : i < n
  · refine .inr ⟨hlt, Nat.lt_of_le_of_lt (hD i σ ys H hi p).2 (Nat.lt_of_lt_of_le hlt hz), Pv (i + 1), fun σ' ys' H' p' => ⟨n - (i + 1), by omega, rfl, hlt, p'⟩, fun x H' y => ?_⟩
    obtain ⟨e, y⟩ := y
    subst e y
    exact hs i σ ys _ hlt p
  · have e : i = n := by omega
    subst e
    exact .inl ⟨Nat.le_refl _, hd σ ys H p⟩
theorem comp_list {K : PySem.W.Frag} {a : Addr} {xs : List V} (Pv : Nat → St → List V → Hp → Prop) (h0 : Pv 0 σ0 [] H0) (hD : ∀ i σ ys H, i ≤ xs.length → Pv i σ ys H → H D = some (.lst ys) ∧ ys.length ≤ i) (hl : ∀ i σ ys H, i ≤ xs.length → Pv i σ ys H → SqL K H a xs) (hz : xs.length ≤ sizeLine)
    (hs : ∀ i x σ ys H, xs[i]? = some x → Pv i σ ys H → g x σ H fun σ2 H2 => tc σ2 H2 fun b H3 => if b = true then te σ2 H3 fun v H4 => H4 D = some (.lst ys) ∧ Pv (i + 1) σ2 (ys ++ [v]) (upd H4 D (.lst (ys ++ [v]))) else Pv (i + 1) σ2 ys H3)
    (hd : ∀ σ ys H, Pv xs.length σ ys H → Q (.ref D) H) : ∃ W : Nat → Nat → St → List V → Hp → Prop, (∃ m, W 0 m σ0 [] H0) ∧ compW (Itl K a) g tc te D Q W := by
  refine ⟨fun i m σ ys H => m = xs.length - i ∧ i ≤ xs.length ∧ Pv i σ ys H, ⟨xs.length, by simp, Nat.zero_le _, h0⟩, ?_⟩
  rintro i m σ ys H ⟨rfl, hi, p⟩
  have q := hl i σ ys H hi p
  refine ⟨(hD i σ ys H hi p).1, ?_⟩
  by_cases hlt : i < xs.length
  · refine .inr ⟨⟨xs, xs[i], q, by simp [hlt]⟩, Nat.lt_of_le_of_lt (hD i σ ys H hi p).2 (Nat.lt_of_lt_of_le hlt hz), Pv (i + 1), fun σ' ys' H' p' => ⟨xs.length - (i + 1), by omega, rfl, hlt, p'⟩, fun x H' y => ?_⟩
    obtain ⟨e, y⟩ := y
    subst e
    exact hs i x σ ys _ (y xs q) p
  · have e : i = xs.length := by omega
    subst e
    exact .inl ⟨⟨xs, q, Nat.le_refl _⟩, hd σ ys H p⟩
end

section
variable {X : Cx} {N' : List Str} {sc : Scope} {cl : List (Str × Addr)} {C : Addr} {s : Shared} {H : Hp} {fp : List Addr}
theorem relabel_free {env : Env} {x : Str} (e : sc.names.lookup x = some .free) : (relabel sc env).names.lookup x = some .cell ∨ (relabel sc env).names.lookup x = some .free := by
  have gen : ∀ ns : List (Str × NameKind), ns.lookup x = some .free → (ns.map fun (n, k) => if (k == NameKind.free && env.scope.kind == .function && env.kindOf n == some .cell) then (n, NameKind.cell) else (n, k)).lookup x = some .cell ∨
      (ns.map fun (n, k) => if (k == NameKind.free && env.scope.kind == .function && env.kindOf n == some .cell) then (n, NameKind.cell) else (n, k)).lookup x = some .free := by
    intro ns
    induction ns with
    | nil => intro h; cases h
    | cons y r ih =>
      obtain ⟨n, k1⟩ := y
      intro h
      rw [List.map_cons]
      dsimp only
      rw [List.lookup_cons] at h
      by_cases hc : (k1 == NameKind.free && env.scope.kind == .function && env.kindOf n == some .cell) = true
      · rw [if_pos hc, List.lookup_cons]
        cases hx : x == n with
        | true => exact .inl rfl
        | false => rw [hx] at h; exact ih h
      · rw [if_neg hc, List.lookup_cons]
        cases hx : x == n with
        | true =>
          rw [hx] at h
          exact .inr h
        | false => rw [hx] at h; exact ih h
  exact gen sc.names e
theorem relabel_other {env : Env} {x : Str} {k : NameKind} (hk : (k == NameKind.free) = false) (e : sc.names.lookup x = some k) : (relabel sc env).names.lookup x = some k := by
  have gen : ∀ ns : List (Str × NameKind), ns.lookup x = some k → (ns.map fun (n, k) => if (k == NameKind.free && env.scope.kind == .function && env.kindOf n == some .cell) then (n, NameKind.cell) else (n, k)).lookup x = some k := by
    intro ns
    induction ns with
    | nil => intro h; cases h
    | cons y r ih =>
      obtain ⟨n, k1⟩ := y
      intro h
      rw [List.map_cons]
      dsimp only
      rw [List.lookup_cons] at h
      cases hx : x == n with
      | true =>
        rw [hx] at h
        have h' : k1 = k := Option.some.inj h
        subst h'
        rw [if_neg (by rw [hk]; simp), List.lookup_cons, hx]
      | false =>
        rw [hx] at h
        split
        · rw [List.lookup_cons, hx]; exact ih h
        · rw [List.lookup_cons, hx]; exact ih h
  exact gen sc.names e
/-- in a comprehension's block: an outer name; an own one; a global one -/
theorem pvf (i : Nat) {x : Str} {pos : Pos} (hN : N'[i]? = some x := by rfl) (hv : sc.names.lookup x = some .free := by rfl) (hd : (x == ("__debug__" : Str)) = false := by decide) (hcd : (x == ("__classdict__" : Str)) = false := by decide) :
    PE (compCx X N' sc cl C s H fp) (.Name x pos) (tVar i) := pe_var (X := compCx X N' sc cl C s H fp) hN (.inr (relabel_free hv)) hd hcd
theorem pvl (i : Nat) {x : Str} {pos : Pos} (hN : N'[i]? = some x := by rfl) (hv : sc.names.lookup x = some .local := by rfl) (hd : (x == ("__debug__" : Str)) = false := by decide) (hcd : (x == ("__classdict__" : Str)) = false := by decide) :
    PE (compCx X N' sc cl C s H fp) (.Name x pos) (tVar i) := pe_var (X := compCx X N' sc cl C s H fp) hN (.inl (relabel_other rfl hv)) hd hcd
theorem pgl {i : Nat} {x : Str} {pos : Pos} (hn : N'.Nodup := by decide +kernel) (hN : N'[i]? = some x := by rfl) (hv : sc.names.lookup x = some .local := by rfl) :
    PG (compCx X N' sc cl C s H fp) (.Name x pos) (gName i) := pg_name (X := compCx X N' sc cl C s H fp) hn hN (.inl (relabel_other rfl hv)) (.inr (relabel_other rfl hv))
theorem glc {x : Str} (hv : sc.names.lookup x = some .globalImplicit := by rfl) : Gl (compCx X N' sc cl C s H fp) x := relabel_other (env := X.env) rfl hv
end
end L2

namespace L2
open PySem PySem.Spec PyProof.Rows
section
variable {X : Cx}
theorem call_divmodB : CallR X (.builtin "divmod") (fun xs H Q => ∃ i j, xs = [.int i, .int j] ∧ (0 < j ∧ j.natAbs.log2 < 9000) ∧ ∀ p, H p = none → Q (.ref p) (upd H p (.tup [.int (i / j), .int (i % j)]))) := by
  intro pins s σ H xs us Q I r h
  obtain ⟨i, j, rfl, ⟨h1, h2⟩, q⟩ := h
  obtain ⟨u, w', rfl, ⟨t, rfl⟩, ⟨t', rfl⟩⟩ := vals2 r
  refine divmod_int (by omega) ?_ (.inl (PyProof.noPylong_of_log2 h2))
  rw [Int.fdiv_eq_ediv_of_nonneg i (by omega), Int.fmod_eq_emod_of_nonneg i (by omega)]
  have hn : H s.heap.objs.size = none := I.hok.fresh (Nat.le_refl _)
  refine ⟨.ref s.heap.objs.size, _, ?_, rfl, q _ hn⟩
  refine I.laid (fun b o e => Heap.get?_push_of_some _ e) (Nat.le_refl _) ⟨by simp only [List.length_cons, List.length_nil]; rw [sizeLine_eq]; decide, [.int (i / j) s.toks, .int (i % j) (s.toks + 1)], .cons ⟨_, rfl⟩ (.cons ⟨_, rfl⟩ .nil), ?_⟩
  exact ⟨_, Heap.get?_push_size s.heap rfl, rfl, 0, rfl⟩

theorem strsAre_of {ys : List Str} : ∀ {us : List Value}, Vals (ys.map V.str) us → StrsAre us ys := by
  induction ys with
  | nil => intro us r; cases r; exact .nil
  | cons y ys ih =>
    intro us r
    cases r with
    | cons h t =>
      obtain ⟨tk, rfl⟩ := h
      exact .cons _ _ (ih t)
/-- sep.join(a list of texts) -/
def rJoin (K : PySem.W.Frag) : V → List V → Hp → VK → Prop := fun x vs H Q => ∃ sep p ys, x = .str sep ∧ vs = [.ref p] ∧ SqL K H p (ys.map V.str) ∧ (ys.map (·.length)).sum + ys.length * sep.length ≤ 16777216 ∧ Q (.str (Txt.join sep ys)) H
theorem mt_join : MtR X "str.join" (rJoin X.K) := by
  intro pins s σ H x vs v us Q I rx rv h
  obtain ⟨sep, p, ys, rfl, rfl, hS, hz, q⟩ := h
  obtain ⟨tk, rfl⟩ := rx
  obtain ⟨u, rfl, ru⟩ := vals1 rv
  cases ru
  obtain ⟨its, r, pl, _⟩ := I.list hS
  exact join_list pl.isList (strsAre_of (by simpa using r)) hz fun t' k => ⟨.str (Txt.join sep ys), H, I.tok _, ⟨_, rfl⟩, q⟩
end

/-! ### the pot of drawn numbers -/
def PotAt (H : Hp) (p : Addr) : Prop := ∃ a b : Int, H p = some (.lst [.int a, .int b]) ∧ 0 ≤ a ∧ 0 ≤ b ∧ b ≤ 2147483647
/-- all that was tracked is as it was but for the pot at p -/
structure Grow (p : Addr) (H H' : Hp) : Prop where
  keep : ∀ b o, b ≠ p → H b = some o → H' b = some o
  pot : PotAt H' p
theorem Grow.refl {p : Addr} {H : Hp} (h : PotAt H p) : Grow p H H := ⟨fun _ _ _ e => e, h⟩
theorem Grow.trans {p : Addr} {H H1 H2 : Hp} (a : Grow p H H1) (b : Grow p H1 H2) : Grow p H H2 := ⟨fun c o n e => b.keep c o n (a.keep c o n e), b.pot⟩
theorem Grow.same {p : Addr} {H H1 : Hp} (h : PotAt H p) (s : Same H H1) : Grow p H H1 := ⟨fun c o _ e => s c o e, let ⟨a, b, e, r⟩ := h; ⟨a, b, s _ _ e, r⟩⟩
theorem same_new {H : Hp} {p : Addr} (h : H p = none) (o : HO) : Same H (upd H p o) := fun b u q => by rw [upd_ne (ne_of_none q h)]; exact q
theorem Grow.new {p q : Addr} {H H1 : Hp} {o : HO} (a : Grow p H H1) (h : H1 q = none) : Grow p H (upd H1 q o) := a.trans (.same a.pot (same_new h o))
theorem Grow.seq {K : PySem.W.Frag} {p a : Addr} {H H1 : Hp} {xs : List V} (g : Grow p H H1) (n : a ≠ p) (h : SqL K H a xs) : SqL K H1 a xs := by
  rcases h with (h | ⟨o, h⟩) | h
  · exact .inl (.inl (g.keep _ _ n h))
  · exact .inl (.inr ⟨o, g.keep _ _ n h⟩)
  · exact .inr h
def spCell (K : PySem.W.Frag) : Sp := fun vs H Q _ => ∃ (a : Addr) (ns : List Int) (k : Int), vs = [.ref a, .int k] ∧ SqL K H a (ns.map V.int) ∧ 0 ≤ k ∧ ∀ n, Q (.int n) H
def spPot (K : PySem.W.Frag) : Sp := fun vs H Q _ => ∃ (a : Addr) (ns : List Int) (k : Int), vs = [.ref a, .int k] ∧ SqL K H a (ns.map V.int) ∧ 0 ≤ k ∧ k ≤ 1000 ∧ ∀ p H', H p = none → Same H H' → PotAt H' p → Q (.ref p) H'
def spDraw : Sp := fun vs H Q _ => ∃ (p : Addr) (m : Int), vs = [.ref p, .int m] ∧ PotAt H p ∧ 0 < m ∧ m.natAbs.log2 < 9000 ∧ ∀ d H', Grow p H H' → 0 ≤ d → d < m → Q (.int d) H'
def spNumber : Sp := fun vs H Q _ => ∃ (p : Addr), vs = [.ref p] ∧ PotAt H p ∧ ∀ n H', Grow p H H' → -(10 ^ 60) < n → n < 10 ^ 60 → Q (.int n) H'
/-- a WORD -/
def isW (x : Str) : Prop := 1 ≤ x.length ∧ x.length ≤ 8 ∧ ∀ c ∈ x.cps.toList, 97 ≤ c ∧ c ≤ 122
def spWord : Sp := fun vs H Q _ => ∃ (p : Addr), vs = [.ref p] ∧ PotAt H p ∧ ∀ x H', Grow p H H' → isW x → Q (.str x) H'
theorem ixN_lt {n : Nat} {i : Int} (h0 : 0 ≤ i) (h1 : i < n) : ixN n i = some i.toNat := by
  unfold ixN; rw [if_pos h0, if_pos h1]
theorem atI_lt {xs : List V} {i : Int} (h0 : 0 ≤ i) (h1 : i < xs.length) : ∃ v, atI xs i = some v ∧ xs[i.toNat]? = some v := by
  have e := ixN_lt h0 h1
  have hj : i.toNat < xs.length := by omega
  refine ⟨xs[i.toNat], ?_, by simp [hj]⟩
  unfold atI; rw [e]
  show xs[i.toNat]? = _
  simp [hj]
theorem atI_mem {xs : List V} {i : Int} (h0 : 0 ≤ i) (h1 : i < xs.length) : ∃ v, atI xs i = some v ∧ v ∈ xs := by
  obtain ⟨v, h, g⟩ := atI_lt h0 h1
  exact ⟨v, h, List.mem_of_getElem? g⟩
theorem atS_mem {z : Str} {i : Int} (h0 : 0 ≤ i) (h1 : i < (z.cps.toList.length : Nat)) : ∃ c, atI z.cps.toList i = some c ∧ c ∈ z.cps.toList := by
  have e := ixN_lt (n := z.cps.toList.length) h0 h1
  have hj : i.toNat < z.cps.toList.length := by omega
  refine ⟨z.cps.toList[i.toNat], ?_, List.getElem_mem hj⟩
  unfold atI; rw [e]
  show z.cps.toList[i.toNat]? = _
  simp only [hj, List.getElem?_eq_getElem]

theorem glue_fold (g : Str) : ∀ (ps : List Str) (acc : Array Nat), (ps.foldl (fun acc p => acc ++ g.cps ++ p.cps) acc).toList = acc.toList ++ (ps.map fun p => g.cps.toList ++ p.cps.toList).flatten
  | [], acc => by simp
  | p :: r, acc => by
    rw [List.foldl_cons, glue_fold g r]
    simp [List.append_assoc]
/-- the signs of a joined text -/
theorem join_codes (g : Str) (ps : List Str) : (Txt.join g ps).cps.toList = (ps.headD Str.empty).cps.toList ++ ((ps.drop 1).map fun p => g.cps.toList ++ p.cps.toList).flatten := by
  unfold Txt.join Builtin.Str.glued
  exact glue_fold g (ps.drop 1) _
def sgn (c : Nat) : Str := ⟨#[c]⟩
theorem nosep : (("" : Str).cps).toList = [] := by decide +kernel
theorem noStr : (Str.empty.cps).toList = [] := by decide +kernel
theorem join_signs (zs : List Nat) : (Txt.join "" (zs.map sgn)).cps.toList = zs := by
  rw [join_codes, nosep]
  cases zs with
  | nil => exact noStr
  | cons z r =>
    show [z] ++ ((r.map sgn).map fun p => [] ++ p.cps.toList).flatten = z :: r
    have e : ((r.map sgn).map fun p => [] ++ p.cps.toList).flatten = r := by
      induction r with
      | nil => rfl
      | cons y r ih =>
        rw [List.map_cons, List.map_cons, List.flatten_cons, ih]
        rfl
    rw [e]
    rfl
theorem sgn_len (zs : List Nat) : ((zs.map sgn).map (·.length)).sum = zs.length := by
  induction zs with
  | nil => rfl
  | cons z r ih => rw [List.map_cons, List.map_cons, List.sum_cons, ih, List.length_cons]; show 1 + _ = _; omega
theorem isW_of {x : Str} {zs : List Nat} (e : x.cps.toList = zs) (h1 : 1 ≤ zs.length) (h2 : zs.length ≤ 8) (h3 : ∀ c ∈ zs, 97 ≤ c ∧ c ≤ 122) : isW x := by
  have l : x.length = zs.length := by show x.cps.size = _; rw [← e]; simp
  exact ⟨by omega, by omega, by rw [e]; exact h3⟩
/-- an object that is newer than H is written -/
theorem Grow.put {p D : Addr} {H H3 H4 : Hp} {o : HO} (g3 : Grow p H H3) (hD : H3 D = none) (n : D ≠ p) (g4 : Grow p H H4) : Grow p H (upd H4 D o) := by
  refine ⟨fun b u nb e => ?_, ?_⟩
  · by_cases hb : b = D
    · subst hb
      exact absurd (g3.keep b u n e) (by rw [hD]; simp)
    · rw [upd_ne hb]
      exact g4.keep b u nb e
  · obtain ⟨x, y, e, r⟩ := g4.pot
    exact ⟨x, y, by rw [upd_ne (Ne.symm n)]; exact e, r⟩
theorem Grow.ne {p D : Addr} {H H3 : Hp} (g3 : Grow p H H3) (hD : H3 D = none) : D ≠ p := fun e => by subst e; obtain ⟨_, _, z, _⟩ := g3.pot; rw [z] at hD; cases hD
section
variable {X : Cx} {x : Str} {pos : Pos} {c : Addr} {n : String} {a b : Expr} {ta tb : TE}
theorem pe_bty (hg : Gl X x) (hm : X.mg x = none) (hv : bootBuiltins x = some (.type n)) (hn : x ≠ "__name__" := by decide) (hd : (x == ("__debug__" : Str)) = false := by decide) : PE X (.Name x pos) (tC (.ty n)) := pe_bltn hg hm hv (show RelV (.ty n) (.type n) from rfl) hn hd
theorem pe_ixt (ha : PE X a ta) (hb : PE X b tb) (hs : PlainIx b) : PE X (.Subscript a b pos) (tOp (rIxT X.K) ta tb) := pe_ix ix_tup ha hb hs
end
end L2

namespace My
open PySem L2
def top (i : Nat) : Stmt := PySem.Challenge.pw_rowpipes_k23_places.main.body.getD i (.Pass ⟨0, 0, 0, 0⟩)
abbrev sCell : Stmt := top 6
abbrev sPot : Stmt := top 7
abbrev sDraw : Stmt := top 8
abbrev sNumber : Stmt := top 9
abbrev sWord : Stmt := top 10
abbrev nCell : List Str := ["_law_script", "_law_k"]
abbrev nPot : List Str := ["_law_script", "_law_k", "_law_cell_here"]
abbrev nDraw : List Str := ["_law_pot_here", "_law_many_here", "_law_digit"]
abbrev nNumber : List Str := ["_law_pot_here", "_law_near", "_law_far"]
abbrev nWord : List Str := ["_law_pot_here", "_law_letters", "_law_some"]
theorem scCell : FnScope nCell ["_law_script", "_law_k"] (defScope sCell) := ⟨rfl, rfl, rfl, by decide +kernel, rfl, by decide +kernel, by decide +kernel⟩
theorem scPot : FnScope nPot ["_law_script", "_law_k"] (defScope sPot) := ⟨rfl, rfl, rfl, by decide +kernel, rfl, by decide +kernel, by decide +kernel⟩
theorem scDraw : FnScope nDraw ["_law_pot_here", "_law_many_here"] (defScope sDraw) := ⟨rfl, rfl, rfl, by decide +kernel, rfl, by decide +kernel, by decide +kernel⟩
theorem scNumber : FnScope nNumber ["_law_pot_here"] (defScope sNumber) := ⟨rfl, rfl, rfl, by decide +kernel, rfl, by decide +kernel, by decide +kernel⟩
theorem scWord : FnScope nWord ["_law_pot_here"] (defScope sWord) := ⟨rfl, rfl, rfl, by decide +kernel, rfl, by decide +kernel, by decide +kernel⟩
/-- the built-in names that the text leaves as they are -/
structure Blt (mg : Str → Option Value) : Prop where
  len : mg "len" = none
  max : mg "max" = none
  abs : mg "abs" = none
  divmod : mg "divmod" = none
  range : mg "range" = none
  tuple : mg "tuple" = none
  list : mg "list" = none
  isinstance : mg "isinstance" = none
section
variable {P : Program} {w : World} {K : PySem.W.Frag} {mg : Str → Option Value} {base : Heap} {f fCell fDraw : Addr} {fd dCell dDraw : FuncData}
theorem ok_cell (B : Blt mg) (F : Fun K "_law_cell_at" "_law_cell_at" sCell f fd) : FnOk P w K mg base CX0 1 f fd ["_law_script", "_law_k"] (spCell K) := by
  refine F.ok scCell (fun vs H Q E h => ?_) (fun cdv A outer s H vs Q E hr h => ?_)
  · obtain ⟨a, ns, k, rfl, _⟩ := h
    rfl
  obtain ⟨a, ns, k, rfl, hS, h0, q⟩ := h
  refine ⟨_, pss_cons (ps_if (pt_cmpR op_lt (pv 1) (pe_callB call_len_seq rfl B.len PySem.boot_len (pa_cons (pv 0) pa_nil)) (nomark _)) (pss_one (ps_ret (pe_ix ix_list (pv 0) (pv 1) (fun _ _ => rfl)))) pss_nil)
    (pss_one (ps_ret pe_int)), ?_⟩
  refine ⟨_, rfl, _, rfl, a, _, rfl, .inl hS, _, _, rfl, rfl, _, rfl, ?_⟩
  refine ite2 (fun c => ?_) (fun c => ?_)
  · have c' : k < (((ns.map V.int).length : Nat) : Int) := of_decide_eq_true c
    obtain ⟨v, hv, hg⟩ := atI_lt h0 c'
    rw [List.getElem?_map] at hg
    cases e : ns[k.toNat]? with
    | none => rw [e] at hg; cases hg
    | some n =>
      rw [e] at hg
      have hg' : V.int n = v := Option.some.inj hg
      subst hg'
      exact ⟨_, rfl, _, rfl, a, _, _, _, rfl, rfl, hS, hv, q n⟩
  · exact q 0
theorem ok_pot (B : Blt mg) (F : Fun K "_law_pot" "_law_pot" sPot f fd) (G : FnOk P w K mg base CX0 1 fCell dCell ["_law_script", "_law_k"] (spCell K)) (bG : Binds K dCell ["_law_script", "_law_k"] []) (kG : PySem.W.keepIn K (.ref fCell) = true) (mG : mg "_law_cell_at" = some (.ref fCell)) :
    FnOk P w K mg base CX0 2 f fd ["_law_script", "_law_k"] (spPot K) := by
  refine F.ok scPot (fun vs H Q E h => ?_) (fun cdv A outer s H vs Q E hr h => ?_)
  · obtain ⟨a, ns, k, rfl, _⟩ := h
    rfl
  obtain ⟨a, ns, k, rfl, hS, h0, h1, q⟩ := h
  refine ⟨_, pss_cons (ps_set (i := 2) scPot.nd rfl (Or.inl rfl) (pe_call G hr rfl mG kG bG .nil pass0 (pa_cons (pv 0) (pa_cons (pv 1) pa_nil))))
    (pss_one (ps_ret (pe_lst (pa_cons (pe_callB (call_max2 rfl) rfl B.max PyProof.Rows.boot_max (pa_cons pe_int (pa_cons (pe_op op_sub (pv 2) (pe_op op_pow pe_int pe_int)) pa_nil)))
      (pa_cons (pe_op op_add (pe_op op_mod (pe_op op_add (pe_op op_add (pe_callB call_abs rfl B.abs PyProof.Rows.boot_abs (pa_cons (pv 2) pa_nil)) (pe_op op_mul pe_int (pv 1))) pe_int) pe_int) pe_int) pa_nil))))), ?_⟩
  refine ⟨_, rfl, _, rfl, a, ns, k, rfl, hS, h0, fun n => ?_⟩
  refine ⟨_, rfl, _, _, rfl, rfl, ⟨by decide, by decide, by decide⟩, _, _, rfl, rfl, _, _, rfl, ?_⟩
  refine ⟨_, rfl, _, rfl, _, rfl, _, _, rfl, rfl, .inl ⟨by decide, by decide⟩, _, _, rfl, rfl, _, _, rfl, rfl, _, _, rfl, rfl, (by show (0 : Int) < 2147483629; decide), _, _, rfl, rfl, (by show 2 ≤ sizeLine; decide), fun p hp => ?_⟩
  refine q p _ hp (same_new hp _) ⟨_, _, upd_same, ?_, ?_, ?_⟩
  · split <;> omega
  · have := Int.emod_nonneg ((if n < 0 then -n else n) + 7919 * k + 3) (show (2147483629 : Int) ≠ 0 by decide)
    omega
  · have := Int.emod_lt_of_pos ((if n < 0 then -n else n) + 7919 * k + 3) (show (0 : Int) < 2147483629 by decide)
    omega
theorem ok_draw (B : Blt mg) (F : Fun K "_law_draw" "_law_draw" sDraw f fd) : FnOk P w K mg base CX0 1 f fd ["_law_pot_here", "_law_many_here"] spDraw := by
  refine F.ok scDraw (fun vs H Q E h => ?_) (fun cdv A outer s H vs Q E hr h => ?_)
  · obtain ⟨p, m, rfl, _⟩ := h
    rfl
  obtain ⟨p, m, rfl, ⟨a, b, hp, ha, hb, hb'⟩, hm, hm', q⟩ := h
  refine ⟨_, pss_cons (ps_if (pt_cmpR op_gt (pe_ix ix_list (pv 0) pe_int (fun _ _ => rfl)) pe_int (nomark _))
      (pss_cons (ps_asg (pe_callB call_divmodB rfl B.divmod PyProof.Rows.boot_divmod (pa_cons (pe_ix ix_list (pv 0) pe_int (fun _ _ => rfl)) (pa_cons (pv 1) pa_nil)))
        (pg_tup rfl (pgs_cons (pg_sub (pv 0) pe_int set_list) (pgs_cons (pg_name (i := 2) scDraw.nd rfl (Or.inl rfl)) pgs_nil))))
      (pss_one (ps_ret (pv 2)))) pss_nil)
    (pss_cons (ps_asg (pe_op op_mod (pe_op op_add (pe_op op_mul (pe_ix ix_list (pv 0) pe_int (fun _ _ => rfl)) pe_int) pe_int) pe_int) (pg_sub (pv 0) pe_int set_list))
    (pss_one (ps_ret (pe_op op_mod (pe_op op_fdiv (pe_op op_mod (pe_op op_mul (pe_ix ix_list (pv 0) pe_int (fun _ _ => rfl)) (pe_ix ix_list (pv 0) pe_int (fun _ _ => rfl))) pe_int) pe_int) (pv 1))))), ?_⟩
  refine ⟨_, rfl, p, _, _, _, rfl, rfl, SqL.of hp, rfl, _, _, rfl, rfl, _, rfl, ?_⟩
  refine ite2 (fun c => ?_) (fun c => ?_)
  · refine ⟨_, rfl, p, _, _, _, rfl, rfl, SqL.of hp, rfl, _, rfl, _, _, rfl, ⟨hm, hm'⟩, fun t ht => ?_⟩
    have np : p ≠ t := ne_of_none hp ht
    refine ⟨t, _, rfl, SqT.of upd_same, rfl, _, _, rfl, _, rfl, p, _, _, 0, rfl, rfl, (by rw [upd_ne np]; exact hp), rfl, _, _, rfl, rfl, ?_⟩
    refine ⟨_, rfl, q _ _ ⟨fun c o nc e => ?_, _, _, upd_same, Int.ediv_nonneg ha (by omega), hb, hb'⟩ (Int.emod_nonneg _ (by omega)) (Int.emod_lt_of_pos _ hm)⟩
    rw [upd_ne nc, upd_ne (ne_of_none e ht)]
    exact e
  · have h1 := Int.emod_nonneg (b * 48271 + 11) (show (2147483647 : Int) ≠ 0 by decide)
    have h2 := Int.emod_lt_of_pos (b * 48271 + 11) (show (0 : Int) < 2147483647 by decide)
    refine ⟨_, rfl, p, _, _, _, rfl, rfl, SqL.of hp, rfl, _, _, rfl, rfl, .inr ⟨by decide, by decide⟩, _, _, rfl, rfl, _, _, rfl, rfl, (by show (0 : Int) < 2147483647; decide), _, rfl, p, _, _, 1, rfl, rfl, hp, rfl, ?_⟩
    refine ⟨_, rfl, p, _, _, _, rfl, rfl, SqL.of upd_same, rfl, _, rfl, p, _, _, _, rfl, rfl, SqL.of upd_same, rfl, _, _, rfl, rfl, .inl ⟨?_, ?_⟩, _, _, rfl, rfl, (by show (0 : Int) < 2147483629; decide), _, _, rfl, rfl, ⟨by decide, by decide⟩, _, rfl, _, _, rfl, rfl, hm, ?_⟩
    · have e : ((2 : Int) ^ 64) = 18446744073709551616 := by decide
      rw [e]; omega
    · have e : ((2 : Int) ^ 64) = 18446744073709551616 := by decide
      rw [e]; omega
    · exact q _ _ ⟨fun c o nc e => by rw [upd_ne nc]; exact e, _, _, upd_same, ha, h1, by omega⟩ (Int.emod_nonneg _ (by omega)) (Int.emod_lt_of_pos _ hm)
end
end My

set_option maxHeartbeats 4000000
namespace My
open PySem L2
section
variable {P : Program} {w : World} {K : PySem.W.Frag} {mg : Str → Option Value} {base : Heap} {f fDraw : Addr} {fd dDraw : FuncData}
theorem ok_number (F : Fun K "_law_number" "_law_number" sNumber f fd) (G : FnOk P w K mg base CX0 1 fDraw dDraw ["_law_pot_here", "_law_many_here"] spDraw) (bG : Binds K dDraw ["_law_pot_here", "_law_many_here"] []) (kG : PySem.W.keepIn K (.ref fDraw) = true) (mG : mg "_law_draw" = some (.ref fDraw)) :
    FnOk P w K mg base CX0 2 f fd ["_law_pot_here"] spNumber := by
  refine F.ok scNumber (fun vs H Q E h => ?_) (fun cdv A outer s H vs Q E hr h => ?_)
  · obtain ⟨p, rfl, _⟩ := h
    rfl
  obtain ⟨p, rfl, hP, q⟩ := h
  refine ⟨_, pss_cons (ps_set (i := 1) scNumber.nd rfl (Or.inl rfl) (pe_op op_sub (pe_call G hr rfl mG kG bG .nil pass0 (pa_cons (pv 0) (pa_cons pe_int pa_nil))) pe_int))
    (pss_cons (ps_if (pt_cmpR op_gt (pe_call G hr rfl mG kG bG .nil pass0 (pa_cons (pv 0) (pa_cons pe_int pa_nil))) pe_int (nomark _)) (pss_one (ps_ret (pv 1))) pss_nil)
    (pss_cons (ps_set (i := 2) scNumber.nd rfl (Or.inl rfl) (pe_lst (pa_cons (pe_op op_add (pe_op op_sub (pe_call G hr rfl mG kG bG .nil pass0 (pa_cons (pv 0) (pa_cons (pe_op op_sub (pe_op op_mul pe_int (pe_op op_pow pe_int pe_int)) pe_int) pa_nil))) (pe_op op_pow pe_int pe_int)) pe_int)
      (pa_cons (pe_op op_sub (pe_op op_pow pe_int pe_int) pe_int) (pa_cons (pe_op op_sub pe_int (pe_op op_pow pe_int pe_int)) pa_nil)))))
    (pss_one (ps_ret (pe_ix ix_list (pv 2) (pe_op op_add (pe_op op_fdiv (pe_call G hr rfl mG kG bG .nil pass0 (pa_cons (pv 0) (pa_cons pe_int pa_nil))) pe_int) (pe_op op_mod (pv 1) pe_int)) (fun _ _ => rfl)))))), ?_⟩
  refine ⟨_, rfl, p, _, rfl, hP, by decide, by decide, fun d1 H1 g1 a1 b1 => ⟨_, _, rfl, rfl, ?_⟩⟩
  refine ⟨_, rfl, p, _, rfl, g1.pot, by decide, by decide, fun d2 H2 g2 a2 b2 => ⟨_, _, rfl, rfl, _, rfl, ?_⟩⟩
  have e60 : ((10 : Int) ^ (60 : Nat)) = 1000000000000000000000000000000000000000000000000000000000000 := by decide
  refine ite2 (fun c => ?_) (fun c => ?_)
  · exact ⟨_, rfl, q _ _ (g1.trans g2) (by rw [e60]; omega) (by rw [e60]; omega)⟩
  · refine ⟨_, rfl, _, _, rfl, rfl, ⟨by decide, by decide, by decide⟩, _, _, rfl, rfl, .inl ⟨by decide, by decide⟩, _, _, rfl, rfl, p, _, rfl, g2.pot, by decide +kernel, by decide +kernel, fun d3 H3 g3 a3 b3 => ?_⟩
    have b3' : d3 < 1999999999999999999999999999999999999999999999999999999999999 := b3
    refine ⟨_, _, rfl, rfl, ⟨by decide, by decide, by decide⟩, _, _, rfl, rfl, _, _, rfl, rfl, _, _, rfl, rfl, ⟨by decide, by decide, by decide⟩, _, _, rfl, rfl, _, _, rfl, rfl, ⟨by decide, by decide, by decide⟩, _, _, rfl, rfl, (by show 3 ≤ sizeLine; decide), fun l hl => ?_⟩
    have g3' := (g1.trans g2).trans g3
    have n1 : l ≠ p := fun e => by subst e; obtain ⟨_, _, z, _⟩ := g3'.pot; rw [z] at hl; cases hl
    refine ⟨_, rfl, _, rfl, p, _, rfl, (g3'.new hl).pot, by decide, by decide, fun d4 H4 g4 a4 b4 => ?_⟩
    have hl4 := g4.keep l _ n1 upd_same
    refine ⟨_, _, rfl, rfl, ⟨by decide, by decide⟩, _, rfl, _, _, rfl, rfl, (by show (0 : Int) < 2; decide), _, _, rfl, rfl, ?_⟩
    have i0 : 0 ≤ d4 / 2 + (d1 - 15) % 2 := by omega
    have i1 : d4 / 2 + (d1 - 15) % 2 < (3 : Nat) := by omega
    obtain ⟨v, hv, hm⟩ := atI_mem (xs := [V.int (d3 - 10 ^ (60 : Int).toNat + 1), V.int (10 ^ (60 : Int).toNat - 1), V.int (1 - 10 ^ (60 : Int).toNat)]) i0 i1
    have good : ∃ n : Int, v = .int n ∧ -(10 ^ 60) < n ∧ n < 10 ^ 60 := by
      have e60' : ((10 : Int) ^ ((60 : Int).toNat)) = 1000000000000000000000000000000000000000000000000000000000000 := by decide
      simp only [List.mem_cons, List.not_mem_nil, or_false] at hm
      rcases hm with rfl | rfl | rfl
      · exact ⟨_, rfl, by rw [e60, e60']; omega, by rw [e60, e60']; omega⟩
      · exact ⟨_, rfl, by rw [e60, e60']; omega, by rw [e60, e60']; omega⟩
      · exact ⟨_, rfl, by rw [e60, e60']; omega, by rw [e60, e60']; omega⟩
    obtain ⟨n, rfl, q1, q2⟩ := good
    exact ⟨l, _, _, _, rfl, rfl, SqL.of hl4, hv, q n _ ((g3'.new hl).trans g4) q1 q2⟩

def letters : Str := "abcdefghijklmnopqrstuvwxyz"
theorem letters_ok : ∀ c ∈ letters.cps.toList, 97 ≤ c ∧ c ≤ 122 := by decide +kernel
theorem letters_len : letters.cps.toList.length = 26 := by decide +kernel
theorem ok_word (B : Blt mg) (F : Fun K "_law_word" "_law_word" sWord f fd) (G : FnOk P w K mg base CX0 1 fDraw dDraw ["_law_pot_here", "_law_many_here"] spDraw) (bG : Binds K dDraw ["_law_pot_here", "_law_many_here"] []) (kG : PySem.W.keepIn K (.ref fDraw) = true) (mG : mg "_law_draw" = some (.ref fDraw)) :
    FnOk P w K mg base CX0 2 f fd ["_law_pot_here"] spWord := by
  refine F.ok scWord (fun vs H Q E h => ?_) (fun cdv A outer s H vs Q E hr h => ?_)
  · obtain ⟨p, rfl, _⟩ := h
    rfl
  obtain ⟨p, rfl, hP, q⟩ := h
  refine ⟨_, pss_cons (ps_set (i := 1) scWord.nd rfl (Or.inr rfl) pe_str)
    (pss_cons (ps_set (i := 2) scWord.nd rfl (Or.inr rfl) (pe_ix ix_list (pe_lst (pa_cons pe_int (pa_cons pe_int pa_nil))) (pe_call G hr rfl mG kG bG .nil pass0 (pa_cons (pv 0) (pa_cons pe_int pa_nil))) (fun _ _ => rfl)))
    (pss_one (ps_ret (pe_bm PySem.F.plainAttrs_str PySem.F.slot_str_join PySem.F.type_str_join mt_join pe_str
      (pa_cons (pe_lcomp (N' := ["_law_k", "_law_pot_here", "_law_letters", "_law_some"]) (src := [none, some 0, some 1, some 2]) rfl (CompSc.ofB (by kernel_rfl))
        (pi_range1 rfl B.range (pa_cons (pe_op op_add pe_int (pe_op op_mul (pe_call G hr rfl mG kG bG .nil pass0 (pa_cons (pv 0) (pa_cons pe_int pa_nil))) (pe_call G hr rfl mG kG bG .nil pass0 (pa_cons (pv 0) (pa_cons pe_int pa_nil))))) pa_nil))
        (fun cl C s H fp => pgl (i := 0))
        (fun cl C s H fp => pifs_nil)
        (fun cl C s H fp => pe_ix ix_str (pvf 2) (pe_call G hr glc mG kG bG .nil pass0 (pa_cons (pvf 1) (pa_cons (pvf 3) pa_nil))) (fun _ _ => rfl))) pa_nil))))), ?_⟩
  refine ⟨(by show 2 ≤ sizeLine; decide), fun l hl => ?_⟩
  have n1 : l ≠ p := fun e => by subst e; obtain ⟨_, _, z, _⟩ := hP; rw [z] at hl; cases hl
  refine ⟨_, rfl, p, _, rfl, ((Grow.refl hP).new hl).pot, by decide, by decide, fun d1 H1 g1 a1 b1 => ?_⟩
  have g1' := ((Grow.refl hP).new hl).trans g1
  obtain ⟨v, hv, hm⟩ := atI_mem (xs := [V.int 3, V.int 26]) a1 b1
  have good : ∃ n : Int, v = .int n ∧ 0 < n ∧ n ≤ 26 := by
    simp only [List.mem_cons, List.not_mem_nil, or_false] at hm
    rcases hm with rfl | rfl
    · exact ⟨3, rfl, by decide, by decide⟩
    · exact ⟨26, rfl, by decide, by decide⟩
  obtain ⟨n, rfl, n0, n26⟩ := good
  refine ⟨l, _, _, _, rfl, rfl, SqL.of (g1.keep l _ n1 upd_same), hv, rfl, ?_⟩
  refine ⟨_, rfl, p, _, rfl, g1'.pot, by decide, by decide, fun d2 H2 g2 a2 b2 => ?_⟩
  refine ⟨_, rfl, p, _, rfl, g2.pot, by decide, by decide, fun d3 H3 g3 a3 b3 => ?_⟩
  have g3' := (g1'.trans g2).trans g3
  have d23 : 0 ≤ d2 * d3 ∧ d2 * d3 ≤ 7 := by
    have e : d2 = 0 ∨ d2 = 1 := by omega
    rcases e with rfl | rfl <;> omega
  refine ⟨_, _, rfl, rfl, .inl ⟨?_, ?_⟩, _, _, rfl, rfl, _, rfl, ?_, ?_, fun D hD => ?_⟩
  · have e : ((2 : Int) ^ 64) = 18446744073709551616 := by decide
    rw [e]; omega
  · have e : ((2 : Int) ^ 64) = 18446744073709551616 := by decide
    rw [e]; omega
  · have e : ((2 : Int) ^ 62) = 4611686018427387904 := by decide
    rw [e]; omega
  · have e : ((2 : Int) ^ 62) = 4611686018427387904 := by decide
    rw [e]; omega
  have n2 : D ≠ p := fun e => by subst e; obtain ⟨_, _, z, _⟩ := g3'.pot; rw [z] at hD; cases hD
  have log : n.natAbs.log2 < 9000 := Nat.lt_of_le_of_lt (Nat.log2_le_self _) (by omega)
  refine comp_range (fun i σ ys H' => ∃ (o : Option V) (zs : List Nat), σ = [o, some (.ref p), some (.str letters), some (.int n)] ∧ ys = zs.map (fun c => V.str (sgn c)) ∧ zs.length = i ∧ (∀ c ∈ zs, 97 ≤ c ∧ c ≤ 122) ∧ H' D = some (.lst ys) ∧ Grow p H H')
    ⟨none, [], rfl, rfl, rfl, (fun _ z => nomatch z), upd_same, g3'.new hD⟩ ?_ ?_ ?_ ?_
  · rintro i σ ys H' _ ⟨o, zs, _, rfl, rfl, _, h, _⟩
    exact ⟨h, by rw [List.length_map]; exact Nat.le_refl _⟩
  · exact Nat.le_trans (show (1 + d2 * d3).toNat ≤ 8 by omega) (by decide)
  · rintro i σ ys H' hi ⟨o, zs, rfl, rfl, rfl, hz, hD', g'⟩
    refine ⟨_, rfl, _, rfl, _, rfl, p, n, rfl, g'.pot, n0, log, fun d H4 g4 a4 b4 => ?_⟩
    obtain ⟨c, hc, cm⟩ := atS_mem (z := letters) a4 (by rw [letters_len]; omega)
    refine ⟨letters, _, c, rfl, rfl, ?_, hc, g4.keep D _ n2 hD', some (.int (0 + (zs.length : Nat))), zs ++ [c], rfl, ?_, ?_, ?_, upd_same, ?_⟩
    · exact Nat.le_trans (show letters.length ≤ 26 by decide +kernel) (by decide)
    · rw [List.map_append]; rfl
    · rw [List.length_append]; rfl
    · intro y hy
      rcases List.mem_append.mp hy with z | z
      · exact hz y z
      · have : y = c := by simpa using z
        subst this
        exact letters_ok y cm
    · exact g3'.put hD n2 (g'.trans g4)
  · rintro σ ys H' ⟨o, zs, _, rfl, hl', hz, hD', g'⟩
    refine ⟨"", D, zs.map sgn, rfl, rfl, ?_, ?_, ?_⟩
    · rw [List.map_map]; exact SqL.of hD'
    · rw [sgn_len, List.length_map]
      have : zs.length ≤ 8 := by omega
      have e : ("" : Str).length = 0 := by decide +kernel
      rw [e]; omega
    · exact q _ _ g' (isW_of (join_signs zs) (by omega) (by omega) hz)
end
end My

set_option maxHeartbeats 4000000
namespace L2
open PySem PySem.Spec PyProof.Rows
/-- equal through and through (n: how deep) -/
inductive EqT (K : PySem.W.Frag) (H : Hp) : Nat → V → V → Prop where
  | flat {n : Nat} {v : V} (f : flatV v = true) : EqT K H n v v
  | same {n : Nat} {a : Addr} : EqT K H n (.ref a) (.ref a)
  | lst {n : Nat} {a b : Addr} {xs ys : List V} (ha : SqL K H a xs) (hb : SqL K H b ys) (hl : xs.length = ys.length) (h : ∀ (i : Nat) x y, xs[i]? = some x → ys[i]? = some y → EqT K H n x y) : EqT K H (n + 1) (.ref a) (.ref b)
  | tup {n : Nat} {a b : Addr} {xs ys : List V} (ha : SqT K H a xs) (hb : SqT K H b ys) (hl : xs.length = ys.length) (h : ∀ (i : Nat) x y, xs[i]? = some x → ys[i]? = some y → EqT K H n x y) : EqT K H (n + 1) (.ref a) (.ref b)
theorem eqV_self {v : V} (f : flatV v = true) : eqV v v = true := by
  cases v <;> first | rfl | (exact absurd (show false = true from f) Bool.false_ne_true) | (simp [eqV])
theorem all_true (n : Nat) : (List.range n).all (fun _ => true) = true := by simp
section
variable {X : Cx} {pins : List (Addr × Obj)} {σ : St} {H : Hp} {s : Shared}
theorem vals_at {xs : List V} {its : List Value} (r : Vals xs its) {j : Nat} (h : j < its.toArray.size) : ∃ x, xs[j]? = some x ∧ RelV x its.toArray[j] := by
  have hj : j < its.length := by simpa using h
  have hx : j < xs.length := by rw [r.length]; exact hj
  refine ⟨xs[j], by simp [hx], ?_⟩
  obtain ⟨u, e, ru⟩ := r.get (i := j) (x := xs[j]) (by simp [hx])
  have e' : its[j] = u := by rw [List.getElem?_eq_getElem hj] at e; exact Option.some.inj e
  show RelV xs[j] its[j]
  rw [e']; exact ru
theorem EqT.at (I : Inv X pins σ H s) {n : Nat} {x y : V} (h : EqT X.K H n x y) : ∀ {u v : Value} {A : Around}, A.units + n < cLine → RelV x u → RelV y v → SeqAt.EqAt A s u v true := by
  induction h with
  | @flat n v f =>
    intro u v' A hu ru rv
    have z := eqAt_V (A := A) (s := s) ru rv f f
    rw [eqV_self f] at z
    exact z
  | same =>
    intro u v' A hu ru rv
    cases ru; cases rv
    exact .same _
  | @lst n a b xs ys ha hb hl h ih =>
    intro u v' A hu ru rv
    cases ru; cases rv
    by_cases hab : a = b
    · subst hab; exact .same _
    · obtain ⟨its, r1, p1, _⟩ := I.list ha
      obtain ⟨its', r2, p2, _⟩ := I.list hb
      refine .of_refs hab ?_
      have z := SeqAt.RcAt.lists (A := A) (e := fun _ => true) p1.isList p2.isList (by simp [← r1.length, ← r2.length, hl]) (by omega) fun j h1 h2 => ?_
      · rw [all_true] at z; exact z
      · obtain ⟨x, e1, rx⟩ := vals_at r1 h1
        obtain ⟨y, e2, ry⟩ := vals_at r2 h2
        exact ih j x y e1 e2 (by show A.units + 1 + n < cLine; omega) rx ry
  | @tup n a b xs ys ha hb hl h ih =>
    intro u v' A hu ru rv
    cases ru; cases rv
    by_cases hab : a = b
    · subst hab; exact .same _
    · obtain ⟨its, r1, p1, _⟩ := I.tuple ha
      obtain ⟨its', r2, p2, _⟩ := I.tuple hb
      refine .of_refs hab ?_
      have z := SeqAt.RcAt.tuples (A := A) (e := fun _ => true) p1 p2 (by omega) fun j h1 h2 => ?_
      · have e : (its.toArray.size == its'.toArray.size) = true := by simp [← r1.length, ← r2.length, hl]
        rw [all_true, e] at z; exact z
      · obtain ⟨x, e1, rx⟩ := vals_at r1 h1
        obtain ⟨y, e2, ry⟩ := vals_at r2 h2
        exact ih j x y e1 e2 (by show A.units + 1 + n < cLine; omega) rx ry
end
end L2

set_option maxHeartbeats 4000000
/-! ### texts: a joined text, split again -/
namespace TX
open PySem PySem.Builtin PySem.Builtin.Str PySem.StrLaws
end TX

set_option maxHeartbeats 4000000
namespace L2
open PySem PySem.Spec PyProof.Rows
section
variable {X : Cx}
/-- all and any of a list of truths -/
theorem bools_at {bs : List Bool} {its : List Value} (r : Vals (bs.map V.bl) its) {i : Nat} {v : Value} (h : its.toArray[i]? = some v) : ∃ b, bs[i]? = some b ∧ v = .bool b := by
  have h' : its[i]? = some v := by simpa using h
  have hi := (List.getElem?_eq_some_iff.mp h').1
  have hb : i < bs.length := by
    have := r.length
    rw [List.length_map] at this
    omega
  obtain ⟨u, e, ru⟩ := r.get (i := i) (x := .bl bs[i]) (by rw [List.getElem?_map, List.getElem?_eq_getElem hb]; rfl)
  rw [h'] at e
  cases e
  exact ⟨bs[i], List.getElem?_eq_getElem hb, ru⟩
theorem range_all (bs : List Bool) : (List.range bs.length).all (fun i => bs.getD i true) = bs.all id := by
  induction bs with
  | nil => rfl
  | cons b r ih =>
    rw [List.length_cons, List.range_succ_eq_map, List.all_cons, List.all_map, List.all_cons]
    show (b && _) = (b && _)
    rw [← ih]
    rfl
theorem call_allL (hc : X.calm = true) : CallR X (.builtin "all") (fun xs H Q => ∃ (p : Addr) (bs : List Bool), xs = [.ref p] ∧ SqL X.K H p (bs.map V.bl) ∧ Q (.bl (bs.all id)) H) := by
  intro pins s σ H xs us Q I r h
  obtain ⟨p, bs, rfl, hS, q⟩ := h
  obtain ⟨u, rfl, ru⟩ := vals1 r
  cases ru
  obtain ⟨its, rv, pl, hz⟩ := I.list hS
  have hp : p < s.heap.objs.size := by obtain ⟨o, e, _⟩ := pl.isList; exact Heap.lt_size e
  have hl : its.toArray.size = bs.length := by have := rv.length; rw [List.length_map] at this; simp [this]
  refine call_all_walk (wpAny_pyIter_list pl.isList ?_)
  refine ⟨s.heap.objs.size, _, _, _, _, _, fun i => bs.getD i true, rfl, Walks.list (A := X.A.in1) (I.ok.hd hc) _ p (Nat.ne_of_lt hp) its.toArray, ⟨⟨_, Heap.get?_push_size _ rfl, rfl, rfl⟩, ?_⟩, ?_, fun h' tk hk => ?_⟩
  · obtain ⟨o, e, z⟩ := pl.isList
    exact ⟨o, Heap.get?_push_of_some _ e, z⟩
  · intro i v s' Q' E' hv hq
    obtain ⟨b, e, rfl⟩ := bools_at rv hv
    refine wpAny_truthy_bool ?_
    have : bs.getD i true = b := by rw [List.getD_eq_getElem?_getD, e]; rfl
    rw [← this]
    exact hq
  · rw [hl, range_all]
    have I1 : Inv X pins σ H { s with heap := s.heap.push { cls := .type "list_iterator", data := .fields #[.ref p, .int 0 0] } } := I.kept (t' := s.toks) fun b o e => Heap.get?_push_of_some _ e
    have f := I.fpOk (b := s.heap.objs.size) (H' := H) (Nat.le_refl _) (I.hok.fresh (Nat.le_refl _))
    exact ⟨.bl _, H, I1.turned (fun b o hb e => hk b o (by simpa using hb) e) f.1 f.2.1 f.2.2.2.1 f.2.2.2.2.1 f.2.2.2.2.2, rfl, q⟩
end
section
variable {X : Cx} {tg : Expr}
end
section
variable {g : TG} {tc : TT} {te : TE} {D : Addr} {Q : VK} {σ0 : St} {H0 : Hp}
end
end L2

set_option maxHeartbeats 4000000
/-! ### cells and their texts -/
namespace CT
open PySem L2
inductive Cell where
  | num (n : Int) | wrd (x : Str)
end CT

set_option maxHeartbeats 4000000
namespace L2
open PySem PySem.Spec PyProof.Rows
/-! ### a list comprehension of two clauses -/
section
variable {elt t1 i1 t2 i2 : Expr} {f1 f2 : List Expr} {sc : Scope} {pos : Pos}
section
variable {it acc : Value} {env : Env} {prog : Program} {w : World} {A : Around} {s : Shared} {R : Result → Shared → Prop}
end
end
section
variable {X : Cx} {elt t1 i1 t2 i2 : Expr} {f1 f2 : List Expr} {sc : Scope} {pos : Pos} {wi wi2 : TI} {g g2 : TG} {tc tc2 : TT} {te : TE} {N' : List Str} {src : List (Option Nat)}
end
end L2

set_option maxHeartbeats 4000000
namespace HT
open PySem PyProof.Rows
open PySem.AutoSeq1 (wpAny_loadPart')
theorem tuple_addW0 (l b : Addr) (items items2 : Array Value) (n n2 : Nat) (dd dd2 : Option Addr) (sl sl2 : Array (Option Value)) (hc0 : items.isEmpty = true) :
    Meets (Builtin.«tuple.__add__» ⟨[.ref l, .ref b], []⟩) (fun _ R s => s.heap.get? l = some { cls := .type "tuple", dict := dd, data := .seq items n, slots := sl } ∧ s.heap.get? b = some { cls := .type "tuple", dict := dd2, data := .seq items2 n2, slots := sl2 } ∧ R (.ok (.ret (Value.ref b))) { s with heap := s.heap, toks := s.toks }) :=
  .of_wp fun prog w A R s h => by
    obtain ⟨hp, g, d, tk, os⟩ := s; obtain ⟨hl, hb, h⟩ := h
    have f1 := AutoSeq1.idx_int; have f2 := AutoSeq1.sub_tuple_tuple; have f3 := AutoSeq1.sub_list_list; have f4 := AutoSeq1.sub_tuple_list; have f5 := AutoSeq1.sub_list_tuple
    wp_walk using wpAny_loadPart' hl, wpAny_loadPart' hb
    exact ⟨_, rfl, h⟩
section
variable {prog : Program} {w : World} {A : Around} {E : Value → Shared → Prop} {s : Shared}
/-- () + u is u -/
theorem cat_tup0 {t b : Addr} {ws : List Value} {Q : Value → Shared → Prop} (ht : IsTup s.heap t #[]) (hb : IsTup s.heap b ws.toArray) (h1 : Q (.ref b) s) : wpAny (model prog w) A (binaryOp .Add (.ref t) (.ref b)) Q E s := by
  obtain ⟨⟨cls, dd, data, sl⟩, ho, hc, n, hd⟩ := id ht
  obtain ⟨⟨cls2, dd2, data2, sl2⟩, ho2, hc2, n2, hd2⟩ := id hb
  simp only at hc hd hc2 hd2
  subst hc hd hc2 hd2
  exact concat_meets ⟨_, ho, rfl⟩ ⟨_, ho2, rfl⟩ noFill_tuple_add seq_tuple_add PySem.F.slot_tuple_add PySem.F.entry_tuple_add (PySem.F.args_tuple_add_2 _ _)
      (tuple_addW0 t b #[] ws.toArray n n2 dd dd2 sl sl2 rfl) ⟨ho, ho2, h1⟩
end
end HT
namespace L2
open PySem PySem.Spec PyProof.Rows
section
variable {X : Cx}
/-- () + u -/
theorem op_catT0 : OpR X (binaryOp .Add) (fun x y H Q => ∃ a b ys, x = .ref a ∧ y = .ref b ∧ SqT X.K H a [] ∧ SqT X.K H b ys ∧ Q (.ref b) H) := by
  intro pins s σ H x y v u Q I rx ry h
  obtain ⟨a, b, ys, rfl, rfl, ha, hb, q⟩ := h
  cases rx
  cases ry
  obtain ⟨its, r1, p1, _⟩ := I.tuple ha
  obtain ⟨its2, r2, p2, _⟩ := I.tuple hb
  cases r1
  exact HT.cat_tup0 p1 p2 ⟨.ref b, H, I, rfl, q⟩
end
end L2

namespace L2
open PySem PySem.Spec PyProof.Rows
/-- plain data: what a value is, whatever addresses it has -/
inductive D where
  | int (i : Int) | str (x : Str) | non | bl (b : Bool) | tup (ds : List D) | lst (ds : List D)
deriving Inhabited
mutual
def DAt (K : PySem.W.Frag) (H : Hp) : D → V → Prop
  | .int i, v => v = .int i
  | .str x, v => v = .str x
  | .non, v => v = .non
  | .bl b, v => v = .bl b
  | .tup ds, v => ∃ a vs, v = .ref a ∧ SqT K H a vs ∧ DsAt K H ds vs
  | .lst ds, v => ∃ a vs, v = .ref a ∧ H a = some (.lst vs) ∧ DsAt K H ds vs
def DsAt (K : PySem.W.Frag) (H : Hp) : List D → List V → Prop
  | [], vs => vs = []
  | d :: ds, vs => ∃ v r, vs = v :: r ∧ DAt K H d v ∧ DsAt K H ds r
end
mutual
def D.depth : D → Nat
  | .tup ds => 1 + depths ds
  | .lst ds => 1 + depths ds
  | _ => 0
def depths : List D → Nat
  | [] => 0
  | d :: ds => max d.depth (depths ds)
end
def bI (b : Bool) : Int := if b then 1 else 0
mutual
/-- Python's == -/
def eqD : D → D → Bool
  | .int i, .int j => i == j
  | .int i, .bl b => i == bI b
  | .bl b, .int j => bI b == j
  | .bl b, .bl c => b == c
  | .str x, .str y => x == y
  | .non, .non => true
  | .tup ds, .tup es => eqDs ds es
  | .lst ds, .lst es => eqDs ds es
  | _, _ => false
def eqDs : List D → List D → Bool
  | [], [] => true
  | d :: ds, e :: es => eqD d e && eqDs ds es
  | _, _ => false
end
mutual
theorem eqD_self : ∀ d : D, eqD d d = true
  | .int i => by simp [eqD]
  | .str x => by simp [eqD]
  | .non => by simp [eqD]
  | .bl b => by simp [eqD]
  | .tup ds => by rw [eqD]; exact eqDs_self ds
  | .lst ds => by rw [eqD]; exact eqDs_self ds
theorem eqDs_self : ∀ ds : List D, eqDs ds ds = true
  | [] => by simp [eqDs]
  | d :: ds => by rw [eqDs, eqD_self d, eqDs_self ds]; rfl
end
section
variable {K : PySem.W.Frag} {H : Hp}
theorem DsAt.length : ∀ {ds : List D} {vs : List V}, DsAt K H ds vs → ds.length = vs.length
  | [], vs, h => by rw [DsAt] at h; rw [h]; rfl
  | d :: ds, vs, h => by
    rw [DsAt] at h
    obtain ⟨v, r, rfl, _, h⟩ := h
    rw [List.length_cons, List.length_cons, DsAt.length h]
theorem DsAt.get : ∀ {ds : List D} {vs : List V} {i : Nat} {v : V}, DsAt K H ds vs → vs[i]? = some v → ∃ d, ds[i]? = some d ∧ DAt K H d v
  | [], vs, i, v, h, e => by rw [DsAt] at h; rw [h] at e; cases e
  | d :: ds, vs, i, v, h, e => by
    rw [DsAt] at h
    obtain ⟨u, r, rfl, h1, h2⟩ := h
    cases i with
    | zero => cases e; exact ⟨d, rfl, h1⟩
    | succ i => obtain ⟨d', e1, e2⟩ := DsAt.get (i := i) h2 e; exact ⟨d', e1, e2⟩
theorem DsAt.getD : ∀ {ds : List D} {vs : List V} {i : Nat} {d : D}, DsAt K H ds vs → ds[i]? = some d → ∃ v, vs[i]? = some v ∧ DAt K H d v
  | [], vs, i, d, h, e => by cases e
  | d' :: ds, vs, i, d, h, e => by
    rw [DsAt] at h
    obtain ⟨u, r, rfl, h1, h2⟩ := h
    cases i with
    | zero => cases e; exact ⟨u, rfl, h1⟩
    | succ i => obtain ⟨d', e1, e2⟩ := DsAt.getD (i := i) h2 e; exact ⟨d', e1, e2⟩
theorem DsAt.of : ∀ {ds : List D} {vs : List V}, ds.length = vs.length → (∀ (i : Nat) d v, ds[i]? = some d → vs[i]? = some v → DAt K H d v) → DsAt K H ds vs
  | [], [], _, _ => by rw [DsAt]
  | [], v :: vs, h, _ => by cases h
  | d :: ds, [], h, _ => by cases h
  | d :: ds, v :: vs, h, k => by
    rw [DsAt]
    exact ⟨v, vs, rfl, k 0 d v rfl rfl, DsAt.of (by simpa using h) fun i d v e1 e2 => k (i + 1) d v e1 e2⟩
theorem DsAt.cons {d : D} {v : V} {ds : List D} {vs : List V} (h1 : DAt K H d v) (h2 : DsAt K H ds vs) : DsAt K H (d :: ds) (v :: vs) := by rw [DsAt]; exact ⟨v, vs, rfl, h1, h2⟩
theorem DsAt.nil : DsAt K H [] [] := by rw [DsAt]
theorem DsAt.append : ∀ {ds es : List D} {vs ws : List V}, DsAt K H ds vs → DsAt K H es ws → DsAt K H (ds ++ es) (vs ++ ws)
  | [], es, vs, ws, h, h' => by rw [DsAt] at h; rw [h]; exact h'
  | d :: ds, es, vs, ws, h, h' => by
    rw [DsAt] at h
    obtain ⟨u, r, rfl, h1, h2⟩ := h
    exact DsAt.cons h1 (DsAt.append h2 h')
mutual
theorem DAt.mono {H' : Hp} (s : ∀ a xs, SqT K H a xs → SqT K H' a xs) (t : ∀ a xs, H a = some (.lst xs) → H' a = some (.lst xs)) : ∀ {d : D} {v : V}, DAt K H d v → DAt K H' d v
  | .int _, v, h => by rw [DAt] at h ⊢; exact h
  | .str _, v, h => by rw [DAt] at h ⊢; exact h
  | .non, v, h => by rw [DAt] at h ⊢; exact h
  | .bl _, v, h => by rw [DAt] at h ⊢; exact h
  | .tup ds, v, h => by
    rw [DAt] at h ⊢
    obtain ⟨a, vs, e, q, h⟩ := h
    exact ⟨a, vs, e, s a vs q, DsAt.mono s t h⟩
  | .lst ds, v, h => by
    rw [DAt] at h ⊢
    obtain ⟨a, vs, e, q, h⟩ := h
    exact ⟨a, vs, e, t a vs q, DsAt.mono s t h⟩
theorem DsAt.mono {H' : Hp} (s : ∀ a xs, SqT K H a xs → SqT K H' a xs) (t : ∀ a xs, H a = some (.lst xs) → H' a = some (.lst xs)) : ∀ {ds : List D} {vs : List V}, DsAt K H ds vs → DsAt K H' ds vs
  | [], vs, h => by rw [DsAt] at h ⊢; exact h
  | d :: ds, vs, h => by
    rw [DsAt] at h ⊢
    obtain ⟨u, r, e, h1, h2⟩ := h
    exact ⟨u, r, e, DAt.mono s t h1, DsAt.mono s t h2⟩
end
end

theorem eqDs_len : ∀ {ds es : List D}, ds.length ≠ es.length → eqDs ds es = false
  | [], [], h => absurd rfl h
  | [], _ :: _, _ => by rw [eqDs]; all_goals simp
  | _ :: _, [], _ => by rw [eqDs]; all_goals simp
  | d :: ds, e :: es, h => by rw [eqDs, eqDs_len (by simpa using h), Bool.and_false]
theorem eqDs_all : ∀ {ds es : List D}, ds.length = es.length → (List.range ds.length).all (fun j => eqD (ds.getD j .non) (es.getD j .non)) = eqDs ds es
  | [], [], _ => by rw [eqDs]; rfl
  | d :: ds, e :: es, h => by
    rw [eqDs, List.length_cons, List.range_succ_eq_map, List.all_cons, List.all_map, ← eqDs_all (by simpa using h)]
    rfl
  | [], _ :: _, h => by cases h
  | _ :: _, [], h => by cases h
theorem eqDs_min {ds es : List D} : ((List.range (min ds.length es.length)).all (fun j => eqD (ds.getD j .non) (es.getD j .non)) && ds.length == es.length) = eqDs ds es := by
  by_cases h : ds.length = es.length
  · rw [← eqDs_all h, h, Nat.min_self]; simp
  · rw [eqDs_len h, beq_eq_false_iff_ne.mpr h, Bool.and_false]
theorem depths_mem : ∀ {ds : List D} {i : Nat} {d : D}, ds[i]? = some d → d.depth ≤ depths ds
  | [], i, d, e => by cases e
  | d' :: ds, 0, d, e => by cases e; rw [depths]; exact Nat.le_max_left _ _
  | d' :: ds, i + 1, d, e => by rw [depths]; exact Nat.le_trans (depths_mem (i := i) (by simpa using e)) (Nat.le_max_right _ _)
section
variable {X : Cx} {pins : List (Addr × Obj)} {σ : St} {H : Hp} {s : Shared}
theorem getD_of {ds : List D} {j : Nat} {d : D} (h : ds[j]? = some d) : ds.getD j .non = d := by rw [List.getD_eq_getElem?_getD, h]; rfl
def both (A : Around) (s : Shared) (u v : Value) (b : Bool) : Prop := SeqAt.EqAt A s u v b ∧ SeqAt.RcAt A s u v b ∧ SeqAt.RcNeAt A s u v (!b)
def seqs : D → D → Bool
  | .tup _, .tup _ => true
  | .lst _, .lst _ => true
  | _, _ => false
theorem both_mixed (I : Inv X pins σ H s) {A : Around} (hu : A.units < cLine) : ∀ {d e : D} {x y : V} {u v : Value}, seqs d e = false → DAt X.K H d x → DAt X.K H e y → RelV x u → RelV y v → both A s u v (eqD d e)
  | .int i, .int j, x, y, u, v, hs, h1, h2, r1, r2 => by
    rw [DAt] at h1; subst h1; obtain ⟨t, rfl⟩ := r1
    rw [DAt] at h2; subst h2; obtain ⟨w, rfl⟩ := r2
    rw [eqD]
    exact ⟨.int_int i t j w, .int_int i t j w, .int_int i t j w⟩
  | .int i, .str j, x, y, u, v, hs, h1, h2, r1, r2 => by
    rw [DAt] at h1; subst h1; obtain ⟨t, rfl⟩ := r1
    rw [DAt] at h2; subst h2; obtain ⟨w, rfl⟩ := r2
    rw [show eqD (.int i) (.str j) = false by simp [eqD]]
    exact ⟨.int_str i t j w, .int_str i t j w, .int_str i t j w⟩
  | .int i, .non, x, y, u, v, hs, h1, h2, r1, r2 => by
    rw [DAt] at h1; subst h1; obtain ⟨t, rfl⟩ := r1
    rw [DAt] at h2; subst h2; cases r2
    rw [show eqD (.int i) (.non) = false by simp [eqD]]
    exact ⟨.int_none i t , .int_none i t , .int_none i t ⟩
  | .int i, .bl j, x, y, u, v, hs, h1, h2, r1, r2 => by
    rw [DAt] at h1; subst h1; obtain ⟨t, rfl⟩ := r1
    rw [DAt] at h2; subst h2; cases r2
    rw [eqD]
    exact ⟨.int_bool i t j, .int_bool i t j, .int_bool i t j⟩
  | .int i, .tup j, x, y, u, v, hs, h1, h2, r1, r2 => by
    rw [DAt] at h1; subst h1; obtain ⟨t, rfl⟩ := r1
    rw [DAt] at h2; obtain ⟨aw, vsw, rfl, q2, _⟩ := h2; cases r2; obtain ⟨itsw, rrw, pw, _⟩ := I.tuple q2
    rw [show eqD (.int i) (.tup j) = false by simp [eqD]]
    exact ⟨.int_tuple i t pw hu, .int_tuple i t pw hu, .int_tuple i t pw hu⟩
  | .int i, .lst j, x, y, u, v, hs, h1, h2, r1, r2 => by
    rw [DAt] at h1; subst h1; obtain ⟨t, rfl⟩ := r1
    rw [DAt] at h2; obtain ⟨aw, vsw, rfl, q2, _⟩ := h2; cases r2; obtain ⟨itsw, rrw, ppw, _⟩ := I.list (SqL.of q2); have pw := ppw.isList
    rw [show eqD (.int i) (.lst j) = false by simp [eqD]]
    exact ⟨.int_list i t pw hu, .int_list i t pw hu, .int_list i t pw hu⟩
  | .str i, .int j, x, y, u, v, hs, h1, h2, r1, r2 => by
    rw [DAt] at h1; subst h1; obtain ⟨t, rfl⟩ := r1
    rw [DAt] at h2; subst h2; obtain ⟨w, rfl⟩ := r2
    rw [show eqD (.str i) (.int j) = false by simp [eqD]]
    exact ⟨.str_int i t j w, .str_int i t j w, .str_int i t j w⟩
  | .str i, .str j, x, y, u, v, hs, h1, h2, r1, r2 => by
    rw [DAt] at h1; subst h1; obtain ⟨t, rfl⟩ := r1
    rw [DAt] at h2; subst h2; obtain ⟨w, rfl⟩ := r2
    rw [eqD]
    exact ⟨.str_str i t j w, .str_str i t j w, .str_str i t j w⟩
  | .str i, .non, x, y, u, v, hs, h1, h2, r1, r2 => by
    rw [DAt] at h1; subst h1; obtain ⟨t, rfl⟩ := r1
    rw [DAt] at h2; subst h2; cases r2
    rw [show eqD (.str i) (.non) = false by simp [eqD]]
    exact ⟨.str_none i t , .str_none i t , .str_none i t ⟩
  | .str i, .bl j, x, y, u, v, hs, h1, h2, r1, r2 => by
    rw [DAt] at h1; subst h1; obtain ⟨t, rfl⟩ := r1
    rw [DAt] at h2; subst h2; cases r2
    rw [show eqD (.str i) (.bl j) = false by simp [eqD]]
    exact ⟨.str_bool i t j, .str_bool i t j, .str_bool i t j⟩
  | .str i, .tup j, x, y, u, v, hs, h1, h2, r1, r2 => by
    rw [DAt] at h1; subst h1; obtain ⟨t, rfl⟩ := r1
    rw [DAt] at h2; obtain ⟨aw, vsw, rfl, q2, _⟩ := h2; cases r2; obtain ⟨itsw, rrw, pw, _⟩ := I.tuple q2
    rw [show eqD (.str i) (.tup j) = false by simp [eqD]]
    exact ⟨.str_tuple i t pw hu, .str_tuple i t pw hu, .str_tuple i t pw hu⟩
  | .str i, .lst j, x, y, u, v, hs, h1, h2, r1, r2 => by
    rw [DAt] at h1; subst h1; obtain ⟨t, rfl⟩ := r1
    rw [DAt] at h2; obtain ⟨aw, vsw, rfl, q2, _⟩ := h2; cases r2; obtain ⟨itsw, rrw, ppw, _⟩ := I.list (SqL.of q2); have pw := ppw.isList
    rw [show eqD (.str i) (.lst j) = false by simp [eqD]]
    exact ⟨.str_list i t pw hu, .str_list i t pw hu, .str_list i t pw hu⟩
  | .non, .int j, x, y, u, v, hs, h1, h2, r1, r2 => by
    rw [DAt] at h1; subst h1; cases r1
    rw [DAt] at h2; subst h2; obtain ⟨w, rfl⟩ := r2
    rw [show eqD (.non) (.int j) = false by simp [eqD]]
    exact ⟨.none_int  j w, .none_int  j w, .none_int  j w⟩
  | .non, .str j, x, y, u, v, hs, h1, h2, r1, r2 => by
    rw [DAt] at h1; subst h1; cases r1
    rw [DAt] at h2; subst h2; obtain ⟨w, rfl⟩ := r2
    rw [show eqD (.non) (.str j) = false by simp [eqD]]
    exact ⟨.none_str  j w, .none_str  j w, .none_str  j w⟩
  | .non, .non, x, y, u, v, hs, h1, h2, r1, r2 => by
    rw [DAt] at h1; subst h1; cases r1
    rw [DAt] at h2; subst h2; cases r2
    rw [eqD]
    exact ⟨.same _, .none_none, .none_none⟩
  | .non, .bl j, x, y, u, v, hs, h1, h2, r1, r2 => by
    rw [DAt] at h1; subst h1; cases r1
    rw [DAt] at h2; subst h2; cases r2
    rw [show eqD (.non) (.bl j) = false by simp [eqD]]
    exact ⟨.none_bool  j, .none_bool  j, .none_bool  j⟩
  | .non, .tup j, x, y, u, v, hs, h1, h2, r1, r2 => by
    rw [DAt] at h1; subst h1; cases r1
    rw [DAt] at h2; obtain ⟨aw, vsw, rfl, q2, _⟩ := h2; cases r2; obtain ⟨itsw, rrw, pw, _⟩ := I.tuple q2
    rw [show eqD (.non) (.tup j) = false by simp [eqD]]
    exact ⟨.none_tuple  pw hu, .none_tuple  pw hu, .none_tuple  pw hu⟩
  | .non, .lst j, x, y, u, v, hs, h1, h2, r1, r2 => by
    rw [DAt] at h1; subst h1; cases r1
    rw [DAt] at h2; obtain ⟨aw, vsw, rfl, q2, _⟩ := h2; cases r2; obtain ⟨itsw, rrw, ppw, _⟩ := I.list (SqL.of q2); have pw := ppw.isList
    rw [show eqD (.non) (.lst j) = false by simp [eqD]]
    exact ⟨.none_list  pw hu, .none_list  pw hu, .none_list  pw hu⟩
  | .bl i, .int j, x, y, u, v, hs, h1, h2, r1, r2 => by
    rw [DAt] at h1; subst h1; cases r1
    rw [DAt] at h2; subst h2; obtain ⟨w, rfl⟩ := r2
    rw [eqD]
    exact ⟨.bool_int i j w, .bool_int i j w, .bool_int i j w⟩
  | .bl i, .str j, x, y, u, v, hs, h1, h2, r1, r2 => by
    rw [DAt] at h1; subst h1; cases r1
    rw [DAt] at h2; subst h2; obtain ⟨w, rfl⟩ := r2
    rw [show eqD (.bl i) (.str j) = false by simp [eqD]]
    exact ⟨.bool_str i j w, .bool_str i j w, .bool_str i j w⟩
  | .bl i, .non, x, y, u, v, hs, h1, h2, r1, r2 => by
    rw [DAt] at h1; subst h1; cases r1
    rw [DAt] at h2; subst h2; cases r2
    rw [show eqD (.bl i) (.non) = false by simp [eqD]]
    exact ⟨.bool_none i , .bool_none i , .bool_none i ⟩
  | .bl i, .bl j, x, y, u, v, hs, h1, h2, r1, r2 => by
    rw [DAt] at h1; subst h1; cases r1
    rw [DAt] at h2; subst h2; cases r2
    rw [eqD]
    exact ⟨.bool_bool i j, .bool_bool i j, .bool_bool i j⟩
  | .bl i, .tup j, x, y, u, v, hs, h1, h2, r1, r2 => by
    rw [DAt] at h1; subst h1; cases r1
    rw [DAt] at h2; obtain ⟨aw, vsw, rfl, q2, _⟩ := h2; cases r2; obtain ⟨itsw, rrw, pw, _⟩ := I.tuple q2
    rw [show eqD (.bl i) (.tup j) = false by simp [eqD]]
    exact ⟨.bool_tuple i pw hu, .bool_tuple i pw hu, .bool_tuple i pw hu⟩
  | .bl i, .lst j, x, y, u, v, hs, h1, h2, r1, r2 => by
    rw [DAt] at h1; subst h1; cases r1
    rw [DAt] at h2; obtain ⟨aw, vsw, rfl, q2, _⟩ := h2; cases r2; obtain ⟨itsw, rrw, ppw, _⟩ := I.list (SqL.of q2); have pw := ppw.isList
    rw [show eqD (.bl i) (.lst j) = false by simp [eqD]]
    exact ⟨.bool_list i pw hu, .bool_list i pw hu, .bool_list i pw hu⟩
  | .tup i, .int j, x, y, u, v, hs, h1, h2, r1, r2 => by
    rw [DAt] at h1; obtain ⟨a_t, vst, rfl, q1, _⟩ := h1; cases r1; obtain ⟨itst, rrt, pt, _⟩ := I.tuple q1
    rw [DAt] at h2; subst h2; obtain ⟨w, rfl⟩ := r2
    rw [show eqD (.tup i) (.int j) = false by simp [eqD]]
    exact ⟨.tuple_int j w pt hu, .tuple_int j w pt hu, .tuple_int j w pt hu⟩
  | .tup i, .str j, x, y, u, v, hs, h1, h2, r1, r2 => by
    rw [DAt] at h1; obtain ⟨a_t, vst, rfl, q1, _⟩ := h1; cases r1; obtain ⟨itst, rrt, pt, _⟩ := I.tuple q1
    rw [DAt] at h2; subst h2; obtain ⟨w, rfl⟩ := r2
    rw [show eqD (.tup i) (.str j) = false by simp [eqD]]
    exact ⟨.tuple_str j w pt hu, .tuple_str j w pt hu, .tuple_str j w pt hu⟩
  | .tup i, .non, x, y, u, v, hs, h1, h2, r1, r2 => by
    rw [DAt] at h1; obtain ⟨a_t, vst, rfl, q1, _⟩ := h1; cases r1; obtain ⟨itst, rrt, pt, _⟩ := I.tuple q1
    rw [DAt] at h2; subst h2; cases r2
    rw [show eqD (.tup i) (.non) = false by simp [eqD]]
    exact ⟨.tuple_none  pt hu, .tuple_none  pt hu, .tuple_none  pt hu⟩
  | .tup i, .bl j, x, y, u, v, hs, h1, h2, r1, r2 => by
    rw [DAt] at h1; obtain ⟨a_t, vst, rfl, q1, _⟩ := h1; cases r1; obtain ⟨itst, rrt, pt, _⟩ := I.tuple q1
    rw [DAt] at h2; subst h2; cases r2
    rw [show eqD (.tup i) (.bl j) = false by simp [eqD]]
    exact ⟨.tuple_bool j pt hu, .tuple_bool j pt hu, .tuple_bool j pt hu⟩
  | .tup ds, .tup es, x, y, u, v, hs, h1, h2, r1, r2 => by cases hs
  | .tup i, .lst j, x, y, u, v, hs, h1, h2, r1, r2 => by
    rw [DAt] at h1; obtain ⟨a_t, vst, rfl, q1, _⟩ := h1; cases r1; obtain ⟨itst, rrt, pt, _⟩ := I.tuple q1
    rw [DAt] at h2; obtain ⟨aw, vsw, rfl, q2, _⟩ := h2; cases r2; obtain ⟨itsw, rrw, ppw, _⟩ := I.list (SqL.of q2); have pw := ppw.isList
    rw [show eqD (.tup i) (.lst j) = false by simp [eqD]]
    exact ⟨.tuple_list pt pw hu, .tuple_list pt pw hu, .tuple_list pt pw hu⟩
  | .lst i, .int j, x, y, u, v, hs, h1, h2, r1, r2 => by
    rw [DAt] at h1; obtain ⟨a_t, vst, rfl, q1, _⟩ := h1; cases r1; obtain ⟨itst, rrt, ppt, _⟩ := I.list (SqL.of q1); have pt := ppt.isList
    rw [DAt] at h2; subst h2; obtain ⟨w, rfl⟩ := r2
    rw [show eqD (.lst i) (.int j) = false by simp [eqD]]
    exact ⟨.list_int j w pt hu, .list_int j w pt hu, .list_int j w pt hu⟩
  | .lst i, .str j, x, y, u, v, hs, h1, h2, r1, r2 => by
    rw [DAt] at h1; obtain ⟨a_t, vst, rfl, q1, _⟩ := h1; cases r1; obtain ⟨itst, rrt, ppt, _⟩ := I.list (SqL.of q1); have pt := ppt.isList
    rw [DAt] at h2; subst h2; obtain ⟨w, rfl⟩ := r2
    rw [show eqD (.lst i) (.str j) = false by simp [eqD]]
    exact ⟨.list_str j w pt hu, .list_str j w pt hu, .list_str j w pt hu⟩
  | .lst i, .non, x, y, u, v, hs, h1, h2, r1, r2 => by
    rw [DAt] at h1; obtain ⟨a_t, vst, rfl, q1, _⟩ := h1; cases r1; obtain ⟨itst, rrt, ppt, _⟩ := I.list (SqL.of q1); have pt := ppt.isList
    rw [DAt] at h2; subst h2; cases r2
    rw [show eqD (.lst i) (.non) = false by simp [eqD]]
    exact ⟨.list_none  pt hu, .list_none  pt hu, .list_none  pt hu⟩
  | .lst i, .bl j, x, y, u, v, hs, h1, h2, r1, r2 => by
    rw [DAt] at h1; obtain ⟨a_t, vst, rfl, q1, _⟩ := h1; cases r1; obtain ⟨itst, rrt, ppt, _⟩ := I.list (SqL.of q1); have pt := ppt.isList
    rw [DAt] at h2; subst h2; cases r2
    rw [show eqD (.lst i) (.bl j) = false by simp [eqD]]
    exact ⟨.list_bool j pt hu, .list_bool j pt hu, .list_bool j pt hu⟩
  | .lst i, .tup j, x, y, u, v, hs, h1, h2, r1, r2 => by
    rw [DAt] at h1; obtain ⟨a_t, vst, rfl, q1, _⟩ := h1; cases r1; obtain ⟨itst, rrt, ppt, _⟩ := I.list (SqL.of q1); have pt := ppt.isList
    rw [DAt] at h2; obtain ⟨aw, vsw, rfl, q2, _⟩ := h2; cases r2; obtain ⟨itsw, rrw, pw, _⟩ := I.tuple q2
    rw [show eqD (.lst i) (.tup j) = false by simp [eqD]]
    exact ⟨.list_tuple pt pw hu, .list_tuple pt pw hu, .list_tuple pt pw hu⟩
  | .lst ds, .lst es, x, y, u, v, hs, h1, h2, r1, r2 => by cases hs
theorem list_tup_ne (I : Inv X pins σ H s) {a : Addr} {xs ys : List V} (h : SqL X.K H a xs) (h' : SqT X.K H a ys) : False := by
  obtain ⟨_, _, p, _⟩ := I.list h
  obtain ⟨_, _, p', _⟩ := I.tuple h'
  exact SeqAt.ne_of_list_tuple p.isList p' rfl
mutual
theorem DAt.inj (I : Inv X pins σ H s) : ∀ {d e : D} {v : V}, DAt X.K H d v → DAt X.K H e v → d = e
  | .int i, .int j, v, h1, h2 => by
    rw [DAt] at h1; rw [DAt] at h2
    subst h1
    injection h2 with h2
    rw [h2]
  | .int i, .str j, v, h1, h2 => by
    rw [DAt] at h1; rw [DAt] at h2
    subst h1
    cases h2
  | .int i, .non, v, h1, h2 => by
    rw [DAt] at h1; rw [DAt] at h2
    subst h1
    cases h2
  | .int i, .bl j, v, h1, h2 => by
    rw [DAt] at h1; rw [DAt] at h2
    subst h1
    cases h2
  | .int i, .tup j, v, h1, h2 => by
    rw [DAt] at h1; rw [DAt] at h2
    obtain ⟨a, vs, rfl, q, g⟩ := h2
    cases h1
  | .int i, .lst j, v, h1, h2 => by
    rw [DAt] at h1; rw [DAt] at h2
    obtain ⟨a, vs, rfl, q, g⟩ := h2
    cases h1
  | .str i, .int j, v, h1, h2 => by
    rw [DAt] at h1; rw [DAt] at h2
    subst h1
    cases h2
  | .str i, .str j, v, h1, h2 => by
    rw [DAt] at h1; rw [DAt] at h2
    subst h1
    injection h2 with h2
    rw [h2]
  | .str i, .non, v, h1, h2 => by
    rw [DAt] at h1; rw [DAt] at h2
    subst h1
    cases h2
  | .str i, .bl j, v, h1, h2 => by
    rw [DAt] at h1; rw [DAt] at h2
    subst h1
    cases h2
  | .str i, .tup j, v, h1, h2 => by
    rw [DAt] at h1; rw [DAt] at h2
    obtain ⟨a, vs, rfl, q, g⟩ := h2
    cases h1
  | .str i, .lst j, v, h1, h2 => by
    rw [DAt] at h1; rw [DAt] at h2
    obtain ⟨a, vs, rfl, q, g⟩ := h2
    cases h1
  | .non, .int j, v, h1, h2 => by
    rw [DAt] at h1; rw [DAt] at h2
    subst h1
    cases h2
  | .non, .str j, v, h1, h2 => by
    rw [DAt] at h1; rw [DAt] at h2
    subst h1
    cases h2
  | .non, .non, v, h1, h2 => rfl
  | .non, .bl j, v, h1, h2 => by
    rw [DAt] at h1; rw [DAt] at h2
    subst h1
    cases h2
  | .non, .tup j, v, h1, h2 => by
    rw [DAt] at h1; rw [DAt] at h2
    obtain ⟨a, vs, rfl, q, g⟩ := h2
    cases h1
  | .non, .lst j, v, h1, h2 => by
    rw [DAt] at h1; rw [DAt] at h2
    obtain ⟨a, vs, rfl, q, g⟩ := h2
    cases h1
  | .bl i, .int j, v, h1, h2 => by
    rw [DAt] at h1; rw [DAt] at h2
    subst h1
    cases h2
  | .bl i, .str j, v, h1, h2 => by
    rw [DAt] at h1; rw [DAt] at h2
    subst h1
    cases h2
  | .bl i, .non, v, h1, h2 => by
    rw [DAt] at h1; rw [DAt] at h2
    subst h1
    cases h2
  | .bl i, .bl j, v, h1, h2 => by
    rw [DAt] at h1; rw [DAt] at h2
    subst h1
    injection h2 with h2
    rw [h2]
  | .bl i, .tup j, v, h1, h2 => by
    rw [DAt] at h1; rw [DAt] at h2
    obtain ⟨a, vs, rfl, q, g⟩ := h2
    cases h1
  | .bl i, .lst j, v, h1, h2 => by
    rw [DAt] at h1; rw [DAt] at h2
    obtain ⟨a, vs, rfl, q, g⟩ := h2
    cases h1
  | .tup i, .int j, v, h1, h2 => by
    rw [DAt] at h1; rw [DAt] at h2
    obtain ⟨a, vs, rfl, q, g⟩ := h1
    cases h2
  | .tup i, .str j, v, h1, h2 => by
    rw [DAt] at h1; rw [DAt] at h2
    obtain ⟨a, vs, rfl, q, g⟩ := h1
    cases h2
  | .tup i, .non, v, h1, h2 => by
    rw [DAt] at h1; rw [DAt] at h2
    obtain ⟨a, vs, rfl, q, g⟩ := h1
    cases h2
  | .tup i, .bl j, v, h1, h2 => by
    rw [DAt] at h1; rw [DAt] at h2
    obtain ⟨a, vs, rfl, q, g⟩ := h1
    cases h2
  | .tup i, .tup j, v, h1, h2 => by
    rw [DAt] at h1; rw [DAt] at h2
    obtain ⟨a, vs, rfl, q, g⟩ := h1
    obtain ⟨b, ws, e, q', g'⟩ := h2
    cases e
    rw [I.tuple_inj q' q] at g'
    rw [DsAt.inj I g g']
  | .tup i, .lst j, v, h1, h2 => by
    rw [DAt] at h1; rw [DAt] at h2
    obtain ⟨a, vs, rfl, q, g⟩ := h1
    obtain ⟨b, ws, e, q', g'⟩ := h2
    cases e
    exact (list_tup_ne I (SqL.of q') q).elim
  | .lst i, .int j, v, h1, h2 => by
    rw [DAt] at h1; rw [DAt] at h2
    obtain ⟨a, vs, rfl, q, g⟩ := h1
    cases h2
  | .lst i, .str j, v, h1, h2 => by
    rw [DAt] at h1; rw [DAt] at h2
    obtain ⟨a, vs, rfl, q, g⟩ := h1
    cases h2
  | .lst i, .non, v, h1, h2 => by
    rw [DAt] at h1; rw [DAt] at h2
    obtain ⟨a, vs, rfl, q, g⟩ := h1
    cases h2
  | .lst i, .bl j, v, h1, h2 => by
    rw [DAt] at h1; rw [DAt] at h2
    obtain ⟨a, vs, rfl, q, g⟩ := h1
    cases h2
  | .lst i, .tup j, v, h1, h2 => by
    rw [DAt] at h1; rw [DAt] at h2
    obtain ⟨a, vs, rfl, q, g⟩ := h1
    obtain ⟨b, ws, e, q', g'⟩ := h2
    cases e
    exact (list_tup_ne I (SqL.of q) q').elim
  | .lst i, .lst j, v, h1, h2 => by
    rw [DAt] at h1; rw [DAt] at h2
    obtain ⟨a, vs, rfl, q, g⟩ := h1
    obtain ⟨b, ws, e, q', g'⟩ := h2
    cases e
    rw [q] at q'
    cases q'
    rw [DsAt.inj I g g']
theorem DsAt.inj (I : Inv X pins σ H s) : ∀ {ds es : List D} {vs : List V}, DsAt X.K H ds vs → DsAt X.K H es vs → ds = es
  | [], [], vs, h1, h2 => rfl
  | [], e :: es, vs, h1, h2 => by
    rw [DsAt] at h1; rw [DsAt] at h2
    obtain ⟨v, r, rfl, _⟩ := h2
    cases h1
  | d :: ds, [], vs, h1, h2 => by
    rw [DsAt] at h1; rw [DsAt] at h2
    obtain ⟨v, r, rfl, _⟩ := h1
    cases h2
  | d :: ds, e :: es, vs, h1, h2 => by
    rw [DsAt] at h1; rw [DsAt] at h2
    obtain ⟨v, r, rfl, a1, a2⟩ := h1
    obtain ⟨v', r', z, b1, b2⟩ := h2
    injection z with z1 z2
    rw [← z1] at b1
    rw [← z2] at b2
    rw [DAt.inj I a1 b1, DsAt.inj I a2 b2]
end
theorem both_D (I : Inv X pins σ H s) : ∀ (n : Nat) {A : Around} {d e : D} {x y : V} {u v : Value}, d.depth ≤ n → A.units + n < cLine → DAt X.K H d x → DAt X.K H e y → RelV x u → RelV y v → both A s u v (eqD d e) := by
  intro n
  induction n with
  | zero =>
    intro A d e x y u v hd hu h1 h2 r1 r2
    refine both_mixed I (by omega) ?_ h1 h2 r1 r2
    cases d <;> cases e <;> first | rfl | (rw [D.depth] at hd; omega)
  | succ n ih =>
    intro A d e x y u v hd hu h1 h2 r1 r2
    cases hs : seqs d e with
    | false => exact both_mixed I (by omega) hs h1 h2 r1 r2
    | true =>
      have items : ∀ {ds es : List D} {vs ws : List V} {its its' : List Value}, 1 + depths ds ≤ n + 1 → DsAt X.K H ds vs → DsAt X.K H es ws → Vals vs its → Vals ws its' → ∀ j (h1 : j < its.toArray.size) (h2 : j < its'.toArray.size), SeqAt.EqAt A.in1 s its.toArray[j] its'.toArray[j] (eqD (ds.getD j .non) (es.getD j .non)) := by
        intro ds es vs ws its its' hdd g g' rv rw' j j1 j2
        obtain ⟨x, e1, rx⟩ := vals_at rv j1
        obtain ⟨y, e2, ry⟩ := vals_at rw' j2
        obtain ⟨d, ed, gd⟩ := g.get e1
        obtain ⟨e, ee, ge⟩ := g'.get e2
        rw [getD_of ed, getD_of ee]
        have := depths_mem ed
        exact (ih (by omega) (by show A.units + 1 + n < cLine; omega) gd ge rx ry).1
      cases d <;> cases e <;> first | cases hs | skip
      · rename_i ds es
        rw [D.depth] at hd
        have g1 := h1
        have g2 := h2
        rw [DAt] at h1; rw [DAt] at h2
        obtain ⟨a, vs, rfl, q, g⟩ := h1
        obtain ⟨b, ws, rfl, q', g'⟩ := h2
        cases r1; cases r2
        obtain ⟨its, rv, p, _⟩ := I.tuple q
        obtain ⟨its', rw', p', _⟩ := I.tuple q'
        have l1 : its.toArray.size = ds.length := by simp [← rv.length, g.length]
        have l2 : its'.toArray.size = es.length := by simp [← rw'.length, g'.length]
        have z1 := SeqAt.RcAt.tuples p p' (by omega) (items hd g g' rv rw')
        have z2 := SeqAt.RcNeAt.tuples p p' (by omega) (items hd g g' rv rw')
        rw [l1, l2, eqDs_min] at z1 z2
        rw [eqD]
        refine ⟨?_, z1, z2⟩
        by_cases hab : a = b
        · subst hab
          have e := DAt.inj I g1 g2
          injection e with e
          rw [e, eqDs_self]
          exact .same _
        · exact .of_refs hab z1
      · rename_i ds es
        rw [D.depth] at hd
        have g1 := h1
        have g2 := h2
        rw [DAt] at h1; rw [DAt] at h2
        obtain ⟨a, vs, rfl, q, g⟩ := h1
        obtain ⟨b, ws, rfl, q', g'⟩ := h2
        cases r1; cases r2
        obtain ⟨its, rv, p, _⟩ := I.list (SqL.of q)
        obtain ⟨its', rw', p', _⟩ := I.list (SqL.of q')
        have l1 : its.toArray.size = ds.length := by simp [← rv.length, g.length]
        have l2 : its'.toArray.size = es.length := by simp [← rw'.length, g'.length]
        have zz : SeqAt.RcAt A s (.ref a) (.ref b) (eqDs ds es) ∧ SeqAt.RcNeAt A s (.ref a) (.ref b) (!eqDs ds es) := by
          by_cases hl : ds.length = es.length
          · have z1 := SeqAt.RcAt.lists p.isList p'.isList (by rw [l1, l2, hl]) (by omega) (items hd g g' rv rw')
            have z2 := SeqAt.RcNeAt.lists p.isList p'.isList (by rw [l1, l2, hl]) (by omega) (items hd g g' rv rw')
            rw [l1, eqDs_all hl] at z1 z2
            exact ⟨z1, z2⟩
          · rw [eqDs_len hl]
            exact ⟨SeqAt.RcAt.lists_lengths p.isList p'.isList (by rw [l1, l2]; simpa using hl) (by omega), SeqAt.RcNeAt.lists_lengths p.isList p'.isList (by rw [l1, l2]; simpa using hl) (by omega)⟩
        rw [eqD]
        refine ⟨?_, zz.1, zz.2⟩
        by_cases hab : a = b
        · subst hab
          have e := DAt.inj I g1 g2
          injection e with e
          rw [e, eqDs_self]
          exact .same _
        · exact .of_refs hab zz.1
def rNeD (K : PySem.W.Frag) (A : Around) : R2 := fun x y H Q => ∃ d e, DAt K H d x ∧ DAt K H e y ∧ A.units + d.depth < cLine ∧ Q (.bl (!eqD d e)) H
theorem op_neD : OpR X (compareOp .NotEq) (rNeD X.K X.A) := by
  intro pins s σ H x y v u Q I rx ry h
  obtain ⟨d, e, h1, h2, hu, q⟩ := h
  exact (both_D I d.depth (Nat.le_refl _) hu h1 h2 rx ry).2.2 _ _ _ _ ⟨.bl _, H, I, rfl, q⟩
/-- x in a list or tuple of data -/
def inDs (d : D) (es : List D) : Bool := es.any fun e => eqD e d
def rInD (K : PySem.W.Frag) (A : Around) (neg : Bool) : R2 := fun x y H Q => ∃ d es p xs, y = .ref p ∧ (SqL K H p xs ∨ SqT K H p xs) ∧ DAt K H d x ∧ DsAt K H es xs ∧ A.units + 1 + depths es < cLine ∧ Q (.bl (if neg then !inDs d es else inDs d es)) H
theorem any_ix {α : Type} {f : α → Bool} : ∀ {l : List α}, l.any f = (List.range l.length).any fun j => (l[j]?.map f).getD false
  | [] => rfl
  | a :: l => by
    rw [List.any_cons, List.length_cons, List.range_succ_eq_map, List.any_cons, List.any_map, @any_ix _ f l]
    rfl
open Classical in
noncomputable def eAt (its : List Value) (es : List D) (d : D) (y : Value) : Bool := decide (∃ j, its[j]? = some y ∧ eqD (es.getD j .non) d = true)
theorem eAt_of (I : Inv X pins σ H s) {its : List Value} {es : List D} {xs : List V} {d : D} (g : DsAt X.K H es xs) (r : Vals xs its) {j : Nat} {y : Value} (h : its[j]? = some y) : eAt its es d y = eqD (es.getD j .non) d := by
  have at' : ∀ {j : Nat}, its[j]? = some y → ∃ e v, es.getD j .non = e ∧ RelV v y ∧ DAt X.K H e v := fun {j} h => by
    have hj : j < its.toArray.size := by
      have := (List.getElem?_eq_some_iff.mp h).1
      simpa using this
    obtain ⟨v, e1, rv⟩ := vals_at r hj
    obtain ⟨e, ee, ge⟩ := g.get e1
    have : its.toArray[j] = y := by
      have := (List.getElem?_eq_some_iff.mp h).2
      simpa using this
    rw [this] at rv
    exact ⟨e, v, getD_of ee, rv, ge⟩
  obtain ⟨e, v, q1, q2, q3⟩ := at' h
  unfold eAt
  cases q : eqD (es.getD j .non) d with
  | true => exact @decide_eq_true _ (Classical.propDecidable _) ⟨j, h, q⟩
  | false =>
    refine @decide_eq_false _ (Classical.propDecidable _) ?_
    rintro ⟨j', h', z⟩
    obtain ⟨e', v', p1, p2, p3⟩ := at' h'
    have := RelV.inj p2 q2
    subst this
    have := DAt.inj I p3 q3
    rw [p1, this, ← q1, q] at z
    cases z
theorem eAt_any (I : Inv X pins σ H s) {its : List Value} {es : List D} {xs : List V} {d : D} (g : DsAt X.K H es xs) (r : Vals xs its) : its.any (eAt its es d) = inDs d es := by
  have hl : its.length = es.length := by rw [← r.length, g.length]
  unfold inDs
  rw [@any_ix _ (eAt its es d), @any_ix _ (fun e => eqD e d), hl]
  have key : ∀ j ∈ List.range es.length, ((its[j]?.map (eAt its es d)).getD false) = ((es[j]?.map fun e => eqD e d).getD false) := fun j hj => by
    have hj' := List.mem_range.mp hj
    have e1 : its[j]? = some its[j] := List.getElem?_eq_getElem (by omega)
    have e2 : es[j]? = some es[j] := List.getElem?_eq_getElem hj'
    rw [e1, e2]
    show eAt its es d its[j] = eqD es[j] d
    rw [eAt_of I g r e1, getD_of e2]
  generalize List.range es.length = l at key
  induction l with
  | nil => rfl
  | cons a l ih => rw [List.any_cons, List.any_cons, key a (List.mem_cons_self ..), ih fun j hj => key j (List.mem_cons_of_mem _ hj)]
theorem in_items (I : Inv X pins σ H s) {A : Around} {its : List Value} {es : List D} {xs : List V} {d : D} {x : V} {u : Value} (g : DsAt X.K H es xs) (r : Vals xs its) (h : DAt X.K H d x) (rx : RelV x u) (hu : A.units + 1 + depths es < cLine) : ∀ y ∈ its.toArray, SeqAt.EqAt A.in1 s y u (eAt its es d y) := fun y hy => by
  have hy' : y ∈ its := by simpa using hy
  obtain ⟨j, hj, e⟩ := List.getElem_of_mem hy'
  have e1 : its[j]? = some y := by rw [List.getElem?_eq_getElem hj, e]
  rw [eAt_of I g r e1]
  obtain ⟨v, e2, rv⟩ := vals_at r (j := j) (by simpa using hj)
  obtain ⟨e', e3, ge⟩ := g.get e2
  have : its.toArray[j]'(by simpa using hj) = y := by simpa using e
  rw [this] at rv
  rw [getD_of e3]
  have := depths_mem e3
  exact (both_D I e'.depth (Nat.le_refl _) (by show A.units + 1 + e'.depth < cLine; omega) ge h rv rx).1
theorem op_notInD : OpR X (compareOp .NotIn) (rInD X.K X.A true) := by
  intro pins s σ H x y v u Q I rx ry h
  obtain ⟨d, es, p, xs, rfl, hq, h1, g, hu, q⟩ := h
  cases ry
  rcases hq with hq | hq
  · obtain ⟨its, r, pl, hz⟩ := I.list hq
    refine SeqAt.notIn_listAt (eAt its es d) pl.isList (in_items I g r h1 rx hu) ⟨.bl _, H, I, rfl, ?_⟩
    rw [show its.toArray.any (eAt its es d) = its.any (eAt its es d) by simp, eAt_any I g r]
    exact q
  · obtain ⟨its, r, pl, hz⟩ := I.tuple hq
    refine SeqAt.notIn_tupleAt (eAt its es d) pl (in_items I g r h1 rx hu) ⟨.bl _, H, I, rfl, ?_⟩
    rw [show its.toArray.any (eAt its es d) = its.any (eAt its es d) by simp, eAt_any I g r]
    exact q
end
section
variable {K : PySem.W.Frag} {H H' : Hp} {a : Addr}
theorem Same.seqT {xs : List V} (e : Same H H') (h : SqT K H a xs) : SqT K H' a xs := by
  rcases h with h | h
  · rcases h with h | ⟨o, h⟩
    · exact .inl (.inl (e _ _ h))
    · exact .inl (.inr ⟨o, e _ _ h⟩)
  · exact .inr h
theorem DAt.same (s : Same H H') {d : D} {v : V} (h : DAt K H d v) : DAt K H' d v := h.mono (fun _ _ q => s.seqT q) (fun _ _ q => s _ _ q)
theorem DsAt.same (s : Same H H') {d : List D} {v : List V} (h : DsAt K H d v) : DsAt K H' d v := h.mono (fun _ _ q => s.seqT q) (fun _ _ q => s _ _ q)
theorem dat_non : DAt K H .non .non := by rw [DAt]
theorem dat_int (x : Int) : DAt K H (.int x) (.int x) := by rw [DAt]
theorem dat_str (x : Str) : DAt K H (.str x) (.str x) := by rw [DAt]
theorem dat_bl (x : Bool) : DAt K H (.bl x) (.bl x) := by rw [DAt]
theorem dat_tup {vs : List V} {ds : List D} (h : H a = some (.tup vs)) (g : DsAt K H ds vs) : DAt K H (.tup ds) (.ref a) := by rw [DAt]; exact ⟨a, vs, rfl, SqT.of h, g⟩
theorem dat_lst {vs : List V} {ds : List D} (h : H a = some (.lst vs)) (g : DsAt K H ds vs) : DAt K H (.lst ds) (.ref a) := by rw [DAt]; exact ⟨a, vs, rfl, h, g⟩
end
end L2

set_option maxHeartbeats 4000000
namespace L2
open PySem PySem.Spec PyProof.Rows
section
variable {X : Cx}
end
end L2

set_option maxHeartbeats 4000000
namespace L2
open PySem PySem.Spec PyProof.Rows
section
variable {X : Cx}
end
end L2
namespace L2
open PySem PySem.Spec PyProof.Rows
section
variable {X : Cx}
end
end L2

set_option maxHeartbeats 4000000
namespace L2
open PySem PySem.Spec PyProof.Rows
section
variable {X : Cx} {a b : Expr} {rest : List Expr} {ta tb : TE} {pos : Pos}
end
end L2

set_option maxHeartbeats 4000000
namespace L2
open PySem PySem.Spec PyProof.Rows
/-! ### a set's table: its places rise -/
def Ris (xs : Array Nat) : Prop := xs.toList.Pairwise (· < ·)
theorem Ris.lt {xs : Array Nat} (h : Ris xs) {i j a b : Nat} (hij : i < j) (ha : xs[i]? = some a) (hb : xs[j]? = some b) : a < b := by
  rw [← Array.getElem?_toList] at ha hb
  obtain ⟨h1, e1⟩ := List.getElem?_eq_some_iff.mp ha
  obtain ⟨h2, e2⟩ := List.getElem?_eq_some_iff.mp hb
  rw [← e1, ← e2]
  exact List.pairwise_iff_getElem.mp h i j h1 h2 hij
theorem below_go {xs : Array Nat} (h : Ris xs) (j : Nat) : ∀ (fuel lo hi : Nat), hi ≤ xs.size → lo ≤ hi → hi - lo ≤ fuel → (∀ i a, i < lo → xs[i]? = some a → a < j) → (∀ i a, hi ≤ i → xs[i]? = some a → j ≤ a) →
    SetTable.below.go xs j fuel lo hi ≤ xs.size ∧ (∀ i a, i < SetTable.below.go xs j fuel lo hi → xs[i]? = some a → a < j) ∧ ∀ i a, SetTable.below.go xs j fuel lo hi ≤ i → xs[i]? = some a → j ≤ a
  | 0, lo, hi, h1, h2, h3, h4, h5 => by
    have e : lo = hi := by omega
    subst e
    exact ⟨h1, h4, h5⟩
  | fuel + 1, lo, hi, h1, h2, h3, h4, h5 => by
    unfold SetTable.below.go
    by_cases hlt : lo < hi
    · rw [if_pos hlt]
      have hm : (lo + hi) / 2 < xs.size := by omega
      have eg : xs[(lo + hi) / 2]? = some xs[(lo + hi) / 2] := Array.getElem?_eq_getElem hm
      have ed : xs.getD ((lo + hi) / 2) j = xs[(lo + hi) / 2] := by simp [Array.getD, hm]
      dsimp only
      rw [ed]
      by_cases hc : xs[(lo + hi) / 2] < j
      · rw [if_pos hc]
        refine below_go h j fuel _ hi h1 (by omega) (by omega) (fun i a hi' e => ?_) h5
        by_cases q : i = (lo + hi) / 2
        · subst q
          rw [eg] at e
          cases e
          exact hc
        · exact Nat.lt_trans (h.lt (by omega) e eg) hc
      · rw [if_neg hc]
        refine below_go h j fuel lo _ (by omega) (by omega) (by omega) h4 fun i a hi' e => ?_
        by_cases q : i = (lo + hi) / 2
        · subst q
          rw [eg] at e
          cases e
          omega
        · have := h.lt (show (lo + hi) / 2 < i by omega) eg e
          omega
    · rw [if_neg hlt]
      have e : lo = hi := by omega
      subst e
      exact ⟨h1, h4, h5⟩
theorem below_spec {xs : Array Nat} (h : Ris xs) (j : Nat) : SetTable.below xs j ≤ xs.size ∧ (∀ i a, i < SetTable.below xs j → xs[i]? = some a → a < j) ∧ ∀ i a, SetTable.below xs j ≤ i → xs[i]? = some a → j ≤ a :=
  below_go h j xs.size 0 xs.size (Nat.le_refl _) (Nat.zero_le _) (by omega) (fun i a hi => absurd hi (by omega)) fun i a hi e => by
    rw [Array.getElem?_eq_none hi] at e
    cases e
theorem ris_insert {xs : Array Nat} (h : Ris xs) {j : Nat} (hn : xs[SetTable.below xs j]? ≠ some j) : Ris (SetTable.insertAt xs (SetTable.below xs j) j) := by
  obtain ⟨h1, h2, h3⟩ := below_spec h j
  unfold Ris
  rw [SetTable.toList_insertAt]
  have hl : ∀ a ∈ xs.toList.take (SetTable.below xs j), a < j := fun a ha => by
    obtain ⟨i, hi⟩ := List.mem_iff_getElem?.mp ha
    rw [List.getElem?_take] at hi
    split at hi
    · rename_i hlt
      exact h2 i a hlt (by rw [← Array.getElem?_toList]; exact hi)
    · cases hi
  have hr : ∀ a ∈ xs.toList.drop (SetTable.below xs j), j < a := fun a ha => by
    obtain ⟨i, hi⟩ := List.mem_iff_getElem?.mp ha
    rw [List.getElem?_drop, Array.getElem?_toList] at hi
    have q := h3 _ a (Nat.le_add_right _ i) hi
    rcases Nat.lt_or_eq_of_le q with q | q
    · exact q
    · exfalso
      subst q
      cases i with
      | zero => exact hn hi
      | succ i =>
        have hb : SetTable.below xs j < xs.size := by
          have := (Array.getElem?_eq_some_iff.mp hi).1
          omega
        have e0 : xs[SetTable.below xs j]? = some xs[SetTable.below xs j] := Array.getElem?_eq_getElem hb
        have l1 := h3 _ _ (Nat.le_refl _) e0
        have l2 := h.lt (show SetTable.below xs j < SetTable.below xs j + (i + 1) by omega) e0 hi
        omega
  have hp : (xs.toList.take (SetTable.below xs j) ++ xs.toList.drop (SetTable.below xs j)).Pairwise (· < ·) := by rw [List.take_append_drop]; exact h
  rw [List.pairwise_append] at hp
  first
  | (rw [List.pairwise_append]
     refine ⟨hp.1, ?_, fun a ha b hb => ?_⟩
     · exact List.pairwise_cons.mpr ⟨hr, hp.2.1⟩
     · rcases List.mem_cons.mp hb with e | hb
       · subst e; exact hl a ha
       · exact hp.2.2 a ha b hb)
  | skip

structure TabOk (t : SetTable) (b : Bool) : Prop where
  ris : Ris t.place
  dum : t.dummies = #[]
  led : t.led = b
theorem has_nil (j : Nat) : SetTable.has #[] j = false := by simp [SetTable.has]
theorem probe_empty {t : SetTable} (hd : t.dummies = #[]) {f : Nat → Int} {h : Int} (hf : ∀ i, (f i == h) = false) : ∀ (fuel : Nat) (p : SetTable.Probe) (j : Nat) (d : Option Nat), p.dummy = none → SetTable.probe.go t f h fuel p = some (.empty j d) →
    d = none ∧ t.slot j = .empty
  | 0, p, j, d, _, e => by
    unfold SetTable.probe.go at e
    cases e
  | fuel + 1, p, j, d, hp, e => by
    have adv : ∀ p : SetTable.Probe, p.dummy = none → (t.advance p).dummy = none := fun p hp => by
      unfold SetTable.advance
      split
      · exact hp
      · exact hp
    unfold SetTable.probe.go at e
    split at e
    · rename_i hs
      cases e
      exact ⟨hp, hs⟩
    · rename_i hs
      unfold SetTable.slot at hs
      dsimp only at hs
      rw [hd, has_nil] at hs
      split at hs <;> cases hs
    · rename_i i hs
      rw [hf i] at e
      exact probe_empty hd hf fuel _ j d (adv p hp) e
theorem slot_empty {t : SetTable} {j : Nat} (h : t.slot j = .empty) : t.place[SetTable.below t.place j]? ≠ some j := fun e => by
  unfold SetTable.slot at h
  dsimp only at h
  rw [e] at h
  rw [if_pos (by simp)] at h
  cases h
theorem ris_range (n : Nat) : Ris (Array.range n) := by
  unfold Ris
  rw [Array.toList_range]
  exact List.pairwise_lt_range
theorem standIn_ok {t : SetTable} {b : Bool} (h : TabOk t b) (n : Nat) : TabOk (t.standIn n) b := ⟨ris_range n, rfl, h.led⟩
theorem layNew_ok {t : SetTable} {b : Bool} (ok : TabOk t b) (es : Array (Int × Value)) (h : Int) (x : Value) : TabOk (layNew t es h x).2.1 b := by
  unfold layNew
  split
  · rename_i slot wd e
    have hs : t.slot slot = .empty := by
      unfold SetTable.freeSlot at e
      split at e
      · rename_i j d e2
        unfold SetTable.probe at e2
        obtain ⟨q1, q2⟩ := probe_empty ok.dum (fun _ => by simp; omega) _ _ _ _ rfl e2
        subst q1
        cases e
        exact q2
      · cases e
    have o2 : TabOk (t.put slot).1 b := by
      unfold SetTable.put
      refine ⟨ris_insert ok.ris (slot_empty hs), ?_, ok.led⟩
      show (if SetTable.has t.dummies slot = true then _ else t.dummies) = #[]
      rw [ok.dum, has_nil]
      rfl
    dsimp only
    unfold SetTable.orStandIn
    split
    · exact o2
    · exact standIn_ok o2 _
  · exact standIn_ok ok _
theorem ris_filterMap {α : Type} (f : Nat → Option α) (n : Nat) : (((List.range n).filterMap fun j => (f j).map (j, ·)).map (·.1)).Pairwise (· < ·) := by
  have e : (((List.range n).filterMap fun j => (f j).map (j, ·)).map (·.1)) = (List.range n).filter fun j => (f j).isSome := by
    rw [List.map_filterMap, ← List.filterMap_eq_filter]
    congr 1
    funext j
    cases hf : f j <;> simp [Option.guard, hf]
  rw [e]
  exact List.Pairwise.filter _ List.pairwise_lt_range
theorem relayAll_ok {t : SetTable} {b : Bool} (ok : TabOk t b) (es : Array (Int × Value)) (n : Nat) : TabOk (relayAll t es n).2.1 b := by
  unfold relayAll
  split
  · rename_i t' order e
    have o2 : TabOk t' b := by
      unfold SetTable.relaid SetTable.laid at e
      simp only [bind, Option.bind_eq_some_iff] at e
      obtain ⟨owner, _, e⟩ := e
      cases e
      exact ⟨ris_filterMap _ _, rfl, ok.led⟩
    dsimp only
    split
    · exact o2
    · exact standIn_ok ok _
  · exact standIn_ok ok _

/-! ### a set of keys, met in some order -/
section
variable {prog : Program} {w : World} {A : Around} {E : Value → Shared → Prop} {s : Shared}
def byTextW (w : World) : Bool := w.params.followText "set-order"
def kOf : Value → Key
  | .int i _ => .inl i
  | .str x _ => .inr x
  | _ => .inl 0
theorem kOf_is {k : Key} {v : Value} (h : keyIs k v = true) : kOf v = k := by
  rcases keyIs_shape h with ⟨i, t, rfl, rfl⟩ | ⟨x, t, rfl, rfl⟩ <;> rfl
structure SetR (prog : Program) (w : World) (h : Heap) (a : Addr) (ks : List Key) (es : Array (Int × Value)) (ep : Nat) (t : SetTable) : Prop where
  obj : h.get? a = some { cls := .type "set", dict := none, data := .set es ep t, slots := #[] }
  els : ElemsOf (mixKind prog w) es.toList
  few : es.size < scanBound
  fits : t.fits es.size = true
  tab : TabOk t (!byTextW w)
  nod : ks.Nodup
  keys : (es.toList.map fun e => kOf e.2).Perm ks
theorem SetR.keep {h h' : Heap} {a : Addr} {ks : List Key} {es : Array (Int × Value)} {ep : Nat} {t : SetTable} (r : SetR prog w h a ks es ep t) (k : ∀ o, h.get? a = some o → h'.get? a = some o) : SetR prog w h' a ks es ep t :=
  ⟨k _ r.obj, r.els, r.few, r.fits, r.tab, r.nod, r.keys⟩

theorem SetR.mem {h : Heap} {a : Addr} {ks : List Key} {es : Array (Int × Value)} {ep : Nat} {t : SetTable} (r : SetR prog w h a ks es ep t) {k : Key} : (∃ e ∈ es.toList, (mixKind prog w).is k e.2 = true) ↔ k ∈ ks := by
  constructor
  · rintro ⟨e, he, hk⟩
    refine r.keys.mem_iff.mp (List.mem_map.mpr ⟨e, he, kOf_is hk⟩)
  · intro hk
    obtain ⟨e, he, q⟩ := List.mem_map.mp (r.keys.mem_iff.mpr hk)
    obtain ⟨⟨k', hk', _⟩, _⟩ := r.els e he
    refine ⟨e, he, ?_⟩
    have : kOf e.2 = k' := kOf_is hk'
    rw [← q, this]
    exact hk'
open Classical in
noncomputable def addK (ks : List Key) (k : Key) : List Key := if k ∈ ks then ks else ks ++ [k]
theorem store_r {h : Heap} {a : Addr} {es : Array (Int × Value)} {ep : Nat} {t : SetTable} (ho : h.get? a = some { cls := .type "set", dict := none, data := .set es ep t, slots := #[] }) (es' : Array (Int × Value)) (t' : SetTable) :
    (h.update a (Obj.putSet es' t')).get? a = some { cls := .type "set", dict := none, data := .set es' (ep + 1) t', slots := #[] } := by
  have := Heap.get?_update_self (Obj.putSet es' t') ho (by rw [putSet_of es' t' rfl]; rfl)
  rw [putSet_of es' t' rfl] at this
  exact this
theorem add_tail {g : Bool → Sem Unit} (hg : ∀ (b : Bool) (s₁ : Shared) (Q' : Unit → Shared → Prop), Q' () s₁ → wpAny (model prog w) A (g b) Q' E s₁)
    {a : Addr} {es : Array (Int × Value)} {ep : Nat} {t : SetTable} (ho : s.heap.get? a = some { cls := .type "set", dict := none, data := .set es ep t, slots := #[] })
    {es1 : Array (Int × Value)} {t2 : SetTable} {ks : List Key} (he : ElemsOf (mixKind prog w) es1.toList) (hb : es1.size < scanBound) (hf : t2.fits es1.size = true) (ht : TabOk t2 (!byTextW w)) (hn : ks.Nodup) (hk : (es1.toList.map fun e => kOf e.2).Perm ks)
    {wasDummy : Bool} {R : Option Bool → Shared → Prop}
    (h : ∀ h' es' ep' t', Heap.SameBut a s.heap h' → SetR prog w h' a ks es' ep' t' → R (some true) { s with heap := h' }) :
    wpAny (model prog w) A (do
        storeSet a es1 t2
        if (!wasDummy && t2.tooFull) = true then do
            g (relayAll t2 es1 (SetTable.grown es1.size)).2.2
            storeSet a (relayAll t2 es1 (SetTable.grown es1.size)).1 (relayAll t2 es1 (SetTable.grown es1.size)).2.1
            pure (some true)
          else pure (some true)) R E s := by
  refine wpAny_bind (wpAny_storeSet_of ho rfl ?_ (fits_of_scanBound hb))
  have ho1 := store_r ho es1 t2
  have sb1 := Heap.SameBut.update s.heap a (Obj.putSet es1 t2)
  split
  · have hp := relayAll_perm t2 es1 (SetTable.grown es1.size)
    have hfr := relayAll_fits t2 es1 (SetTable.grown es1.size)
    have hto := relayAll_ok ht es1 (SetTable.grown es1.size)
    generalize hRl : relayAll t2 es1 (SetTable.grown es1.size) = Rl at hp hfr hto ⊢
    obtain ⟨es2, t3, gave2⟩ := Rl
    dsimp only at hp hfr hto ⊢
    have hsz : es2.size = es1.size := by rw [← Array.length_toList, hp.length_eq, Array.length_toList]
    have hb2 : es2.size < scanBound := by rw [hsz]; exact hb
    refine wpAny_bind (hg _ _ _ ?_)
    refine wpAny_bind (wpAny_storeSet_of ho1 rfl ?_ (fits_of_scanBound hb2))
    exact wpAny_pure (h _ es2 _ t3 (sb1.trans (Heap.SameBut.update _ a _)) ⟨store_r ho1 es2 t3, he.perm hp, hb2, hfr, hto, hn, (hp.map _).trans hk⟩)
  · exact wpAny_pure (h _ es1 _ t2 sb1 ⟨ho1, he, hb, hf, ht, hn, hk⟩)
theorem add_hashed {a : Addr} {ks : List Key} {es : Array (Int × Value)} {ep : Nat} {t : SetTable} {k : Key} {x : Value} {Q : Bool → Shared → Prop} (hkey : keyIs k x = true) (hsc : x.scannable = true) (hS : SetR prog w s.heap a ks es ep t)
    (hroom : ks.length + 1 < scanBound)
    (h : ∀ b h' es' ep' t', Heap.SameBut a s.heap h' → SetR prog w h' a (addK ks k) es' ep' t' → Q b { s with heap := h' }) :
    wpAny (model prog w) A (setAddHashed a x ((mixKind prog w).hash k)) Q E s := by
  have hsize : es.size = ks.length := by rw [← hS.keys.length_eq, List.length_map, Array.length_toList]
  have hkey' : (mixKind prog w).is k x = true := hkey
  have hel := hS.els
  unfold setAddHashed setAddHashedIn
  refine wpAny_holding (wpAny_bind (wpAny_setState_of hS.obj rfl hS.fits ?_))
  dsimp only
  rw [byScan_of hsc hS.few hel]
  simp only [↓reduceIte]
  unfold setAddByScan
  refine wpAny_bind ?_
  refine wpAny_bind (wpAny_rule ?_)
  refine wpAny_bind (wpAny_setScan_of hkey' hS.obj rfl hS.fits hel ?_)
  cases hr : List.findIdx? (fun e => (mixKind prog w).is k e.2) es.toList with
  | some j =>
    dsimp only
    obtain ⟨hj, hpj, _⟩ := List.findIdx?_eq_some_iff_getElem.mp hr
    have hin : k ∈ ks := hS.mem.mp ⟨es.toList[j], List.getElem_mem hj, hpj⟩
    refine wpAny_pure (wpAny_pure ?_)
    have e : s = { s with heap := s.heap } := by cases s; rfl
    have := h false s.heap es ep t (Heap.SameBut.refl a s.heap) (by unfold addK; rw [if_pos hin]; exact hS)
    rw [e]
    exact this
  | none =>
    dsimp only
    have hout : k ∉ ks := fun hin => by
      obtain ⟨e, he, hp⟩ := hS.mem.mpr hin
      have := List.findIdx?_eq_none_iff.mp hr e he
      rw [hp] at this
      exact Bool.noConfusion this
    have hgw : ∀ (b : Bool) {s₁ : Shared} {Q' : Unit → Shared → Prop}, Q' () s₁ → wpAny (model prog w) A (match b with | true => rule "set.scan.the-table-gave-way" | false => pure ()) Q' E s₁ :=
      fun b s₁ Q' hq => by cases b <;> first | exact wpAny_pure hq | exact wpAny_rule hq
    have hperm := layNew_perm t es ((mixKind prog w).hash k) x
    have hfits := layNew_fits t es ((mixKind prog w).hash k) x
    have htab := layNew_ok hS.tab es ((mixKind prog w).hash k) x
    generalize hL : layNew t es ((mixKind prog w).hash k) x = L at hperm hfits htab ⊢
    obtain ⟨es1, t1, wasDummy, gave⟩ := L
    dsimp only at hperm hfits htab ⊢
    rw [Array.toList_push] at hperm
    have hel1 : ElemsOf (mixKind prog w) es1.toList := (hel.push hkey' hsc).perm hperm
    have hb1' : es1.size < scanBound := by
      rw [← Array.length_toList, hperm.length_eq, List.length_append, Array.length_toList, hsize]
      simpa using hroom
    have ead : addK ks k = ks ++ [k] := by unfold addK; rw [if_neg hout]
    have hnod : (addK ks k).Nodup := by
      rw [ead, List.nodup_append]
      exact ⟨hS.nod, by simp, fun x hx y hy e => by simp at hy; subst hy; subst e; exact hout hx⟩
    have hkeys : (es1.toList.map fun e => kOf e.2).Perm (addK ks k) := by
      rw [ead]
      refine (hperm.map _).trans ?_
      rw [List.map_append]
      refine hS.keys.append ?_
      show [kOf x].Perm [k]
      rw [kOf_is hkey]
    refine wpAny_bind (hgw _ ?_)
    split
    · refine wpAny_bind ?_
      rw [hashByValue_scannable 8 hsc]
      refine wpAny_pure ?_
      refine add_tail (ks := addK ks k) ?_ hS.obj hel1 hb1' ?_ ?_ hnod hkeys ?_
      · intro b s₁ Q' hq; cases b <;> first | exact wpAny_pure hq | exact wpAny_rule hq
      · split
        · exact hfits
        · exact SetTable.fits_plain_off hfits
      · split
        · exact htab
        · exact ⟨htab.ris, htab.dum, htab.led⟩
      · intro h' es' ep' t' hsb hS'; dsimp only; exact wpAny_pure (h true h' es' ep' t' hsb hS')
    · refine wpAny_bind (wpAny_pure ?_)
      simp only [↓reduceIte]
      refine add_tail (ks := addK ks k) ?_ hS.obj hel1 hb1' hfits htab hnod hkeys ?_
      · intro b s₁ Q' hq; cases b <;> first | exact wpAny_pure hq | exact wpAny_rule hq
      · intro h' es' ep' t' hsb hS'; dsimp only; exact wpAny_pure (h true h' es' ep' t' hsb hS')

noncomputable def metK (key : Nat → Key) : Nat → List Key
  | 0 => []
  | i + 1 => addK (metK key i) (key i)
theorem addK_len (ks : List Key) (k : Key) : (addK ks k).length ≤ ks.length + 1 := by
  unfold addK
  split
  · omega
  · simp
theorem metK_len (key : Nat → Key) : ∀ i, (metK key i).length ≤ i
  | 0 => Nat.le_refl _
  | i + 1 => Nat.le_trans (addK_len _ _) (Nat.succ_le_succ (metK_len key i))
theorem mem_addK {ks : List Key} {k x : Key} : x ∈ addK ks k ↔ x ∈ ks ∨ x = k := by
  unfold addK
  split
  · rename_i h
    exact ⟨.inl, fun q => q.elim id fun e => e ▸ h⟩
  · simp
theorem mem_metK {key : Nat → Key} {x : Key} : ∀ {i : Nat}, x ∈ metK key i ↔ ∃ j, j < i ∧ key j = x
  | 0 => by simp [metK]
  | i + 1 => by
    show x ∈ addK (metK key i) (key i) ↔ _
    rw [mem_addK, mem_metK]
    constructor
    · rintro (⟨j, hj, e⟩ | e)
      · exact ⟨j, Nat.lt_succ_of_lt hj, e⟩
      · exact ⟨i, Nat.lt_succ_self _, e.symm⟩
    · rintro ⟨j, hj, e⟩
      rcases Nat.lt_succ_iff_lt_or_eq.mp hj with q | q
      · exact .inl ⟨j, q, e⟩
      · exact .inr (by rw [← e, q])
end
section
variable {prog : Program} {w : World} {A : Around} {R : Result → Shared → Prop} {I : Addr} {fp wr : List Addr} {G : Array GenState → Array GenState → Prop} {n : Nat} {P : Nat → Value → Prop} {St : Nat → Shared → Prop}
theorem set_loop (W : WalksS prog w A.in1 I fp wr G n P St) (S : Addr) (hSf : S ∉ fp) (key : Nat → Key) (hval : ∀ i v, P i v → keyIs (key i) v = true ∧ v.scannable = true) (hb : n + 1 < scanBound) :
    ∀ (k i : Nat) (s : Shared) (es : Array (Int × Value)) (ep : Nat) (t : SetTable), n - i = k → i ≤ n → St i s → SetR prog w s.heap S (metK key i) es ep t →
      (∀ s' es' ep' t', Moved (S :: wr) G s s' → SetR prog w s'.heap S (metK key n) es' ep' t' → R (.ok (.ret .none)) s') →
      codeAny (model prog w) A (.builtin "set.update.loop" ⟨[.ref S, .ref I], []⟩) R s := by
  have hSw : S ∉ wr := fun h => hSf (W.sub _ h)
  have hsub : ∀ b ∈ wr, b ∈ S :: wr := fun b hb => List.mem_cons_of_mem _ hb
  intro k
  induction k with
  | zero =>
    intro i s es ep t hk hi hst hS hR
    have hin : i = n := by omega
    subst hin
    refine codeAny_builtin F.entry_set_update_loop ?_
    rw [Around.under_plainId F.plain_set_update_loop _]
    show wpAny _ A.in1 (pyNext (.ref I) >>= _) _ _ s
    refine wpAny_bind (W.done s _ _ hst fun s' hm => ?_)
    show wpAny _ A.in1 (ret Value.none) _ _ s'
    exact wpAny_pure (hR s' es ep t (hm.mono hsub) (hS.keep fun o e => hm.heap S o hSw e))
  | succ k ih =>
    intro i s es ep t hk hi hst hS hR
    have hlt : i < n := by omega
    refine codeAny_builtin F.entry_set_update_loop ?_
    rw [Around.under_plainId F.plain_set_update_loop _]
    show wpAny _ A.in1 (pyNext (.ref I) >>= _) _ _ s
    refine wpAny_bind (W.item i s _ _ hlt hst fun v s' hP hst' hm => ?_)
    obtain ⟨hv1, hv2⟩ := hval i v hP
    have hS' := hS.keep (h' := s'.heap) fun o e => hm.heap S o hSw e
    show wpAny _ A.in1 (holding [v] (setAdd S v) >>= _) _ _ s'
    refine wpAny_bind (wpAny_holding ?_)
    unfold setAdd
    refine wpAny_holding ?_
    refine wpAny_bind ((mixKind prog w).pyHash (k := key i) hv1 ?_)
    have hroom : (metK key i).length + 1 < scanBound := by have := metK_len key i; omega
    refine add_hashed (s := { s' with toks := s'.toks + 1 }) hv1 hv2 hS' hroom fun b h' es' ep' t' hsb hS2 => ?_
    refine wpAny_pure ⟨plainId_quiet F.plain_set_update_loop _, ih (i + 1) _ es' ep' t' (by omega) hlt (W.frame _ s' _ _ hst' (Nat.le_succ _) fun b hb o e => ?_) hS2 fun s'' es2 ep2 t2 hm'' hS'' => ?_⟩
    · rw [hsb.2 b (fun h : b = S => hSf (by rw [← h]; exact hb))]; exact e
    · refine hR s'' es2 ep2 t2 (Moved.trans W.gtrans ((hm.mono hsub).then_heap (Nat.le_succ _) fun b o hb e => ?_) hm'') hS''
      rw [hsb.2 b (fun h : b = S => hb (by rw [h]; exact List.mem_cons_self))]; exact e
end
section
variable {prog : Program} {w : World} {A : Around} {E : Value → Shared → Prop} {s : Shared}
theorem set_new_led (a : Value) {Q₁ : Value → Shared → Prop}
    (h : Q₁ (.ref s.heap.objs.size) { s with heap := s.heap.push { cls := .type "set", dict := none, data := .set #[] 0 (.fresh 0 0 (!byTextW w)) } }) :
    codeAny (model prog w) A (.call (.builtin "set.__new__") ⟨[.type "set", a], []⟩) (wants Q₁ E) s := by
  refine codeAny_of_tree ?_
  show wpAny _ A.in1 (do checkBuiltinCall "set.__new__" ⟨[.type "set", a], []⟩; again (.builtin "set.__new__" ⟨[.type "set", a], []⟩)) _ _ s
  refine wpAny_bind (wpAny_of_eq (F.newCall_set_1 a) (wpAny_pure ⟨plainId_quiet F.plain_set_new _, codeAny_builtin F.entry_set_new ?_⟩))
  rw [Around.under_plainId F.plain_set_new _]
  unfold Builtin.«set.__new__» Builtin.Frozenset.newClass
  have hsub := sub_set_self
  obtain ⟨hp, g, d, tk, os⟩ := s
  dsimp only
  wp_walk
  refine wpAny_askSetting (wpAny_pure ?_)
  dsimp only
  simp only [newObj]
  refine wpAny_bind (wpAny_alloc (wpAny_pure ?_))
  exact wpAny_pure h
end
end L2

set_option maxHeartbeats 8000000
namespace L2
open PySem PySem.Spec PyProof.Rows
theorem sub_tuple_set : isSubtype (.type "tuple") (.type "set") = pure false := by rw [isSubtype_type]; kernel_rfl
theorem sub_tuple_frozenset : isSubtype (.type "tuple") (.type "frozenset") = pure false := by rw [isSubtype_type]; kernel_rfl
/-- what set(..) is made of -/
structure SetSrc (prog : Program) (w : World) (T : String) (l : Addr) (items : Array Value) : Prop where
  sub1 : isSubtype (.type T) (.type "set") = pure false
  sub2 : isSubtype (.type T) (.type "frozenset") = pure false
  nd : (Value.type T == Value.type "dict") = false
  it : ∀ (A : Around) (s : Shared) (o : Obj), A.handled = none → s.heap.get? l = some o → o.cls = .type T → (∃ n, o.data = .seq items n) → ∃ (oI : Obj) (St : Nat → Heap → Prop),
    (∀ (E : Value → Shared → Prop) (Q : Value → Shared → Prop), Q (.ref s.heap.objs.size) { s with heap := s.heap.push oI } → wpAny (model prog w) A (pyIter (.ref l)) Q E s) ∧
    Walks prog w A s.heap.objs.size [s.heap.objs.size, l] [s.heap.objs.size] items.size (fun i v => items[i]? = some v) St ∧ St 0 (s.heap.push oI)
theorem src_list {prog : Program} {w : World} {l : Addr} {items : Array Value} : SetSrc prog w "list" l items where
  sub1 := F.sub_list_set
  sub2 := F.sub_list_frozenset
  nd := by decide
  it := fun A s o hh ho hc hd => by
    have hl : s.heap.IsList l items := ⟨o, ho, hc, hd⟩
    refine ⟨_, _, fun E Q q => wpAny_pyIter_list hl q, Walks.list hh _ l (Nat.ne_of_lt (Heap.lt_size ho)) items, ⟨_, Heap.get?_push_size _ rfl, rfl, rfl⟩, hl.push _⟩
theorem src_tup {prog : Program} {w : World} {l : Addr} {items : Array Value} : SetSrc prog w "tuple" l items where
  sub1 := sub_tuple_set
  sub2 := sub_tuple_frozenset
  nd := by decide
  it := fun A s o hh ho hc hd => by
    have hl : s.heap.IsTuple l items := ⟨o, ho, hc, hd⟩
    refine ⟨_, _, fun E Q q => wpAny_pyIter_tuple hl q, Walks.tuple hh _ l (Nat.ne_of_lt (Heap.lt_size ho)) items, ⟨_, Heap.get?_push_size _ rfl, rfl, rfl⟩, hl.push _⟩
section
variable {prog : Program} {w : World} {A : Around} {E : Value → Shared → Prop} {s : Shared}
theorem call_set_of {T : String} {l : Addr} {items : Array Value} {o : Obj} {key : Nat → Key} {Q : Value → Shared → Prop} (src : SetSrc prog w T l items)
    (hh : A.handled = none) (ho : s.heap.get? l = some o) (hc : o.cls = .type T) (hdt : ∃ n, o.data = .seq items n) (hi : ∀ i v, items[i]? = some v → keyIs (key i) v = true ∧ v.scannable = true) (hb : items.size + 1 < scanBound)
    (h : ∀ (h' : Heap) (tk : Nat) es ep t, SetR prog w h' s.heap.objs.size (metK key items.size) es ep t → (∀ b o, s.heap.get? b = some o → h'.get? b = some o) → Q (.ref s.heap.objs.size) { s with heap := h', toks := tk }) :
    wpAny (model prog w) A (call (.type "set") [.ref l]) Q E s := by
  obtain ⟨c, tl, hmro⟩ := F.called_set.mro
  have hmade := F.called_set.made
  have hsub := F.called_set.sub
  refine wpAny_call (codeAny_of_tree ?_)
  show wpAny _ _ (callAny (.type "set") _) _ _ _
  refine wpAny_pure ⟨Code.quiet_builtin _ (by decide +kernel), codeAny_builtin F.entry_type_call ?_⟩
  rw [Around.under_plain (weight_type_call_type "set" [.ref l] []) rfl]
  have h1 := F.called_set.notType
  have h2 := F.called_set.canCreate
  have hct := F.typeCall_set_1 (.ref l)
  repeat (any_goals (first | assumption | wp_step))
  refine codeAny_mono (set_new_led (.ref l) (E := E) (Q₁ := fun obj s₁ => obj = .ref s.heap.objs.size ∧ s₁ = { s with heap := s.heap.push { cls := .type "set", dict := none, data := .set #[] 0 (.fresh 0 0 (!byTextW w)) } }) ⟨rfl, rfl⟩) fun r s₁ hr => ?_
  cases r with
  | error e => exact hr
  | ok fl =>
    cases fl with
    | ret obj =>
      obtain ⟨rfl, rfl⟩ := hr
      have hS : (s.heap.push { cls := .type "set", dict := none, data := .set #[] 0 (.fresh 0 0 (!byTextW w)) }).get? s.heap.objs.size = some { cls := .type "set", dict := none, data := .set #[] 0 (.fresh 0 0 (!byTextW w)) } := Heap.get?_push_size _ rfl
      have hT : Shared.TypeIs { s with heap := s.heap.push { cls := .type "set", dict := none, data := .set #[] 0 (.fresh 0 0 (!byTextW w)) } } (.ref s.heap.objs.size) "set" := ⟨_, hS, rfl⟩
      have hli := F.called_set.init.lookup
      have hbi := F.called_set.init.bind (.ref s.heap.objs.size)
      repeat (any_goals (first | assumption | wp_step))
      refine codeAny_mono (codeAny_call_builtin (R := wants (fun r s₂ => r = .none ∧ ∃ h' tk es ep t, s₂ = { s with heap := h', toks := tk } ∧
          SetR prog w h' s.heap.objs.size (metK key items.size) es ep t ∧ (∀ b o, s.heap.get? b = some o → h'.get? b = some o)) E) F.called_set.init.plain F.entry_set_init (check_set_init_1 hT ?_)) fun r₂ s₂ hr₂ => ?_
      · have ho' : (s.heap.push { cls := .type "set", dict := none, data := .set #[] 0 (.fresh 0 0 (!byTextW w)) }).get? l = some o := Heap.get?_push_of_some _ ho
        have hTl : Shared.TypeIs { s with heap := s.heap.push { cls := .type "set", dict := none, data := .set #[] 0 (.fresh 0 0 (!byTextW w)) } } (.ref l) T := ⟨_, ho', hc⟩
        have hsls := src.sub1
        have hslf := src.sub2
        have hne := src.nd
        obtain ⟨oI, St, hit, W, st⟩ := src.it A.in1.in1.in1 { s with heap := s.heap.push { cls := .type "set", dict := none, data := .set #[] 0 (.fresh 0 0 (!byTextW w)) } } o (by simpa using hh) ho' hc hdt
        unfold Builtin.«set.__init__» noKeywords Builtin.Frozenset.updateFrom
        generalize hPI : pyIter = PI
        wp_walk
        subst hPI
        refine wpAny_of_in1 (hit _ _ ?_)
        refine wpAny_bind (wpAny_runValue ?_)
        have hlS : l < s.heap.objs.size := Heap.lt_size ho
        have hsz : (s.heap.push { cls := .type "set", dict := none, data := .set #[] 0 (.fresh 0 0 (!byTextW w)) }).objs.size = s.heap.objs.size + 1 := Heap.size_push _ _
        have hSf : s.heap.objs.size ∉ [(s.heap.push { cls := .type "set", dict := none, data := .set #[] 0 (.fresh 0 0 (!byTextW w)) }).objs.size, l] := by
          rw [hsz]; simp only [List.mem_cons, List.not_mem_nil, or_false, not_or]
          exact ⟨Nat.ne_of_lt (Nat.lt_succ_self _), Nat.ne_of_gt hlS⟩
        refine set_loop W.toS s.heap.objs.size hSf key (fun i v hv => hi i v hv) hb (items.size - 0) 0 _ #[] 0 (SetTable.fresh 0 0 (!byTextW w)) (by omega) (Nat.zero_le _) st ?hS0 ?hR
        case hS0 =>
          have hget := Heap.get?_push_of_some oI hS
          exact ⟨hget, fun e he => absurd he (by simp), by unfold scanBound; decide, by simp [SetTable.fits, SetTable.fresh, SetTable.fill], ⟨List.Pairwise.nil, rfl, rfl⟩, List.nodup_nil, by simp [metK]⟩
        case hR =>
          intro s' es' ep' t' hm hS'
          obtain ⟨h', g', d', tk', os'⟩ := s'
          have eg : g' = s.gens := hm.gens
          have ed : d' = s.drawn := hm.drawn
          have eo : os' = s.os := hm.os
          subst eg; subst ed; subst eo
          show wpAny _ _ _ _ _ _
          refine wpAny_pure ?_
          show wpAny _ _ (ret Value.none) _ _ _
          refine wpAny_pure ⟨rfl, h', tk', es', ep', t', rfl, hS', fun b o e => ?_⟩
          have hb1 : b ≠ s.heap.objs.size := Nat.ne_of_lt (Heap.lt_size e)
          have hb2 : b ≠ (s.heap.push { cls := .type "set", dict := none, data := .set #[] 0 (.fresh 0 0 (!byTextW w)) }).objs.size := by
            rw [hsz]; exact Nat.ne_of_lt (Nat.lt_succ_of_lt (Heap.lt_size e))
          exact hm.heap b o (by simp only [List.mem_cons, List.not_mem_nil, or_false, not_or]; exact ⟨hb1, hb2⟩) (Heap.get?_push_of_some _ (Heap.get?_push_of_some _ e))
      · cases r₂ with
        | error e => exact hr₂
        | ok fl₂ =>
          cases fl₂ with
          | ret r =>
            obtain ⟨rfl, h', tk, es, ep, t, rfl, hS', hk'⟩ := hr₂
            repeat (any_goals (first | assumption | wp_step))
            exact h _ _ es ep t hS' hk'
          | _ => exact hr₂.elim
    | _ => exact hr.elim
end
end L2

set_option maxHeartbeats 8000000
namespace L2
open PySem PySem.Spec PyProof.Rows
theorem entry_set_iter' : entryFor table "set.__iter__" = some Builtin.«frozenset.__iter__» :=
  entryFor_alias (id' := "frozenset.__iter__") (by kernel_rfl) rfl (by decide +kernel) (by kernel_rfl)
theorem slot_si_next : Slot "set_iterator" "__next__" "set_iterator.__next__" :=
  .of (owner := "set_iterator") (n := "__next__") (by rw [typeLookup_type, builtinLookup_eq_fast]; kernel_rfl) (by decide +kernel) (by decide +kernel) (by decide +kernel)
    (by first | exact .inl (by decide +kernel) | exact .inr (by decide +kernel)) (by rw [isSubtype_type]; kernel_rfl)
theorem entry_si_next : entryFor table "set_iterator.__next__" = some Builtin.«set_iterator.__next__» := entryFor_of_fast (by kernel_rfl)
theorem args_si_next (a : Value) : argsOk "set_iterator.__next__" ⟨[a], []⟩ := by unfold argsOk; kernel_rfl
section
variable {prog : Program} {w : World} {A : Around} {E : Value → Shared → Prop} {s : Shared}
theorem choose_ok {src : Source} {n : Nat} {Q : Nat → Shared → Prop} (hn : n ≠ 0) (h : ∀ k d, k < n → Q k { s with drawn := d }) : wpAny (model prog w) A (choose src n) Q E s := fun _ _ _ =>
  ⟨hn, h _ _ (Nat.mod_lt _ (Nat.pos_of_ne_zero hn))⟩
theorem eraseIdx_perm {α : Type} : ∀ {xs : List α} {i : Nat} {x : α}, xs[i]? = some x → (x :: xs.eraseIdx i).Perm xs
  | [], i, x, h => by simp at h
  | y :: ys, 0, x, h => by
    have e : y = x := by simpa using h
    subst e
    exact List.Perm.refl _
  | y :: ys, i + 1, x, h => by
    have h' : ys[i]? = some x := by simpa using h
    exact (List.Perm.swap _ _ _).trans ((eraseIdx_perm h').cons y)
theorem drawOrder_ok {α : Type} : ∀ (n : Nat) (xs : List α) (s : Shared) {Q : List α → Shared → Prop}, xs.length = n → (∀ ys d, ys.Perm xs → Q ys { s with drawn := d }) → wpAny (model prog w) A (drawOrder n xs) Q E s
  | 0, xs, s, Q, e, h => by
    have : xs = [] := List.length_eq_zero_iff.mp e
    subst this
    unfold drawOrder
    exact wpAny_pure (h [] s.drawn (List.Perm.refl _))
  | n + 1, [], s, Q, e, h => by cases e
  | n + 1, x :: xs, s, Q, e, h => by
    unfold drawOrder
    refine wpAny_bind (choose_ok (by simp) fun k d hk => ?_)
    have hk' : (x :: xs)[k]? = some (x :: xs)[k] := List.getElem?_eq_getElem hk
    rw [hk']
    dsimp only
    refine wpAny_bind (drawOrder_ok n _ _ (by rw [List.length_eraseIdx_of_lt hk, e]; rfl) fun ys d' hp => ?_)
    exact wpAny_pure (h _ d' ((hp.cons _).trans (eraseIdx_perm hk')))
abbrev siObj (first : Value) (i : Nat) (S : Addr) (n ep : Nat) : Obj := { cls := .type "set_iterator", data := .fields #[first, .int i 0, .ref S, .int n 0, .int ep 0] }
def drawnB (es : Array (Int × Value)) (t : SetTable) : Bool := !t.plain && decide (es.size > 1)
theorem set_iter {S : Addr} {ks : List Key} {es : Array (Int × Value)} {ep : Nat} {t : SetTable} {Q : Value → Shared → Prop} (hS : SetR prog w s.heap S ks es ep t)
    (h1 : (!byTextW w && drawnB es t) = false → Q (.ref s.heap.objs.size) { s with heap := s.heap.push (siObj (.int 0 0) 0 S es.size ep) })
    (h2 : (!byTextW w && drawnB es t) = true → ∀ (d : Drawn) (ps : List Nat), ps.Perm (List.range es.size) → Q (.ref (s.heap.objs.size + 1)) { s with heap := (s.heap.push { cls := .type "tuple", data := .seq (ps.map fun (i : Nat) => Value.int i 0).toArray }).push (siObj (.ref s.heap.objs.size) 0 S es.size ep), drawn := d }) :
    wpAny (model prog w) A (pyIter (.ref S)) Q E s := by
  have hT : s.TypeIs (.ref S) "set" := ⟨_, hS.obj, rfl⟩
  have hz : es.size ≤ sizeLine := fits_of_scanBound hS.few
  refine wpAny_pyIter_slot hT F.slot_set_iter (wpAny_call_entry F.slot_set_iter hT entry_set_iter' ?_ (F.args_set_iter_1 _))
  unfold Builtin.«frozenset.__iter__» Builtin.Frozenset.slot0 slotArgs
  simp only [List.isEmpty_nil, Bool.not_true, Bool.false_eq_true, ↓reduceIte, bind_assoc, List.length_nil, bne_self_eq_false]
  unfold Builtin.Frozenset.addrOf Builtin.Frozenset.sizeOf
  refine wpAny_bind (wpAny_pure ?_)
  try dsimp only
  refine wpAny_bind (wpAny_pure ?_)
  refine wpAny_bind (wpAny_bind (wpAny_setEntries_of hS.obj rfl hS.fits (wpAny_pure ?_)))
  unfold setDrawn setsByText
  refine wpAny_bind (wpAny_bind (wpAny_setState_of hS.obj rfl hS.fits (wpAny_bind (wpAny_bind (wpAny_askSetting (wpAny_pure (wpAny_pure ?_)))))))
  show wpAny _ _ (if (!byTextW w && drawnB es t) = true then _ else _) _ _ _
  cases hb : (!byTextW w && drawnB es t)
  · rw [if_neg (by simp)]
    refine wpAny_bind (wpAny_pure ?_)
    refine wpAny_bind (wpAny_setEpoch_of hS.obj rfl hS.fits ?_)
    refine wpAny_bind (wpAny_newObj_type (wpAny_pure ⟨_, rfl, "set_iterator", _, ⟨_, Heap.get?_push_size _ rfl, rfl⟩, slot_si_next.lookup, ?_⟩))
    exact h1 hb
  · rw [if_pos rfl]
    refine wpAny_bind (drawOrder_ok es.size (List.range es.size) s (by simp) fun ps d hp => ?_)
    have hl : ps.length = es.size := by rw [hp.length_eq]; simp
    refine wpAny_bind (wpAny_newTuple ?_ (by rw [List.length_map, hl]; exact hz))
    have hS2 := hS.keep (h' := s.heap.push { cls := .type "tuple", data := .seq (ps.map fun (i : Nat) => rawInt i).toArray }) fun o e => Heap.get?_push_of_some _ e
    refine wpAny_bind (wpAny_setEpoch_of hS2.obj rfl hS2.fits ?_)
    refine wpAny_bind (wpAny_newObj_type (wpAny_pure ⟨_, rfl, "set_iterator", _, ⟨_, Heap.get?_push_size _ rfl, rfl⟩, slot_si_next.lookup, ?_⟩))
    have := h2 hb d ps hp
    rw [size_push']
    exact this

theorem si_start {I S : Addr} {first : Value} {i n ep : Nat} {Q : Option Value → Shared → Prop} (hI : s.heap.get? I = some (siObj first i S n ep))
    (h : wpAny (model prog w) A.in1 (Builtin.«set_iterator.__next__» ⟨[.ref I], []⟩) (fun fin s' => ∃ r, fin = .done (.ret r) ∧ Q (some r) s') (fun e s' => wpAny (model prog w) A (do if ← isInstance e (.type "StopIteration") then pure none else throw e) Q E s') s) :
    wpAny (model prog w) A (pyNext (.ref I)) Q E s := by
  have hT : s.TypeIs (.ref I) "set_iterator" := ⟨_, hI, rfl⟩
  unfold pyNext
  refine wpAny_bind (wpAny_attempt (wpAny_callSpecial?_slot (name := Str.ofString "__next__") hT slot_si_next (wpAny_call_entry slot_si_next hT entry_si_next ?_ (args_si_next _))))
  refine wpAny_mono h (fun fin s' q => ?_) fun e s' q => ?_
  · obtain ⟨r, rfl, q⟩ := q
    exact ⟨_, rfl, wpAny_pure q⟩
  · exact q
theorem si_field {I S : Addr} {first : Value} {i n ep : Nat} (hI : s.heap.get? I = some (siObj first i S n ep)) {first' : Value} {i' : Nat} {fs : Array Value} (k : Nat) (v : Value) (hk : k < 5) (e : (#[first, .int i 0, .ref S, .int n 0, .int ep 0] : Array Value).setIfInBounds k v = fs) :
    (s.heap.update I (Obj.mapFields (·.setIfInBounds k v))).get? I = some { cls := .type "set_iterator", data := .fields fs } := by
  have := Heap.get?_update_self (Obj.mapFields (·.setIfInBounds k v)) hI (Obj.isFreed_of_fields (Obj.data_mapFields (o := siObj first i S n ep) rfl _))
  rw [this, ← e]
  rfl
end
end L2

set_option maxHeartbeats 8000000
namespace L2
open PySem PySem.Spec PyProof.Rows
section
variable {prog : Program} {w : World} {A : Around} {E : Value → Shared → Prop} {s : Shared}
theorem si_raise {Q : Option Value → Shared → Prop} {h0 : Heap} {I : Addr} (hh : A.handled = none) (hQ : ∀ h', Heap.ExtBut I h0 h' → Q none { s with heap := h' }) (hs : Heap.ExtBut I h0 s.heap) :
    wpAny (model prog w) A.in1 (newExc (.type "StopIteration") [] >>= fun e => (raiseNew e : Sem Fin)) (fun fin s' => ∃ r, fin = .done (.ret r) ∧ Q (some r) s') (fun e s' => wpAny (model prog w) A (do if ← isInstance e (.type "StopIteration") then pure none else throw e) Q E s') s := by
  refine wpAny_bind ?_
  simp only [newExc, newTuple]
  refine wpAny_bind (wpAny_newObj_type ?_ (by size_fits))
  refine wpAny_bind (m := firstArgMember _ _) (wpAny_of_eq (a := Value.none) (by first | rfl | (simp only [firstArgMember]; rfl)) ?_)
  refine wpAny_newObj_type ?_ (by size_fits)
  simp only [raiseNew]
  refine wpAny_bind (wpAny_handled ?_)
  rw [show A.in1.handled = none from hh]
  refine wpAny_bind (wpAny_pure (wpAny_throw ?_))
  refine wpAny_bind (wpAny_isInstance (T := "StopIteration") (b := true) ⟨_, Heap.get?_push_size _ rfl, rfl⟩ isSubtype_stop ?_)
  exact wpAny_pure (hQ _ ((hs.push _).push _))
theorem si_open {I S : Addr} {ks : List Key} {es : Array (Int × Value)} {i ep : Nat} {t : SetTable} {first : Value} {R : Fin → Shared → Prop} {F : Value → Shared → Prop} (hI : s.heap.get? I = some (siObj first i S es.size ep)) (hS : SetR prog w s.heap S ks es ep t)
    (h : wpAny (model prog w) A (if let .int slot _ := first then do
        match ← setNext S slot.toNat i ep with
        | some (x, next) =>
          setField (.ref I) 0 (rawInt next)
          setField (.ref I) 1 (rawInt (i + 1))
          ret x
        | none => setField (.ref I) 2 .none; raiseNew (← newExc (.type "StopIteration") [])
      else do
        let some places ← seqItems? first | unsupported "internal:set_iterator"
        match places[i]? with
        | some (.int place _) =>
          let x ← setNextDrawn S place.toNat ep
          setField (.ref I) 1 (rawInt (i + 1))
          ret x
        | some _ => unsupported "internal:set_iterator"
        | none => setField (.ref I) 0 (rawInt 0); setField (.ref I) 2 .none; raiseNew (← newExc (.type "StopIteration") [])) R F s) :
    wpAny (model prog w) A (Builtin.«set_iterator.__next__» ⟨[.ref I], []⟩) R F s := by
  unfold Builtin.«set_iterator.__next__» slotArgs
  simp only [List.isEmpty_nil, Bool.not_true, Bool.false_eq_true, ↓reduceIte, bind_assoc, List.length_nil, bne_self_eq_false]
  refine wpAny_bind (wpAny_pure ?_)
  try dsimp only
  refine wpAny_bind (wpAny_fieldsOf hI rfl ?_)
  dsimp only
  refine wpAny_bind (wpAny_setEntries_of hS.obj rfl hS.fits ?_)
  rw [if_neg (by simp)]
  exact h

theorem si_item {I S : Addr} {ks : List Key} {es : Array (Int × Value)} {i ep slot next : Nat} {t : SetTable} {v : Value} {Q : Option Value → Shared → Prop} (hI : s.heap.get? I = some (siObj (.int slot 0) i S es.size ep)) (hS : SetR prog w s.heap S ks es ep t)
    (hn : ∀ (Q : Option (Value × Nat) → Shared → Prop) (E : Value → Shared → Prop), Q (some (v, next)) s → wpAny (model prog w) A.in1 (setNext S slot i ep) Q E s)
    (hQ : ∀ h', h'.get? I = some (siObj (.int next 0) (i + 1) S es.size ep) → (∀ b, b ≠ I → h'.get? b = s.heap.get? b) → Q (some v) { s with heap := h' }) : wpAny (model prog w) A (pyNext (.ref I)) Q E s := by
  refine si_start hI (si_open hI hS ?_)
  dsimp only
  refine wpAny_bind (hn _ _ ?_)
  dsimp only
  refine wpAny_bind (wpAny_setField hI rfl (by simp) ?_)
  have h1 := si_field (s := s) hI (first' := .none) (i' := 0) (fs := #[.int next 0, .int i 0, .ref S, .int es.size 0, .int ep 0]) 0 (rawInt next) (by decide) (by simp [rawInt])
  refine wpAny_bind (wpAny_setField h1 rfl (by simp) ?_)
  have h2 := si_field (s := { s with heap := s.heap.update I (Obj.mapFields (·.setIfInBounds 0 (rawInt next))) }) (first := .int next 0) (i := i) (S := S) (n := es.size) (ep := ep) h1 (first' := .none) (i' := 0) (fs := #[.int next 0, .int ((i + 1 : Nat) : Int) 0, .ref S, .int es.size 0, .int ep 0]) 1 (rawInt ((i : Int) + 1)) (by decide) (by simp [rawInt])
  refine wpAny_pure ⟨_, rfl, hQ _ h2 fun b hb => ?_⟩
  exact ((Heap.SameBut.update _ I _).2 b hb).trans ((Heap.SameBut.update _ I _).2 b hb)
theorem si_end {I S : Addr} {ks : List Key} {es : Array (Int × Value)} {i ep slot : Nat} {t : SetTable} {Q : Option Value → Shared → Prop} (hh : A.handled = none) (hI : s.heap.get? I = some (siObj (.int slot 0) i S es.size ep)) (hS : SetR prog w s.heap S ks es ep t)
    (hn : ∀ (Q : Option (Value × Nat) → Shared → Prop) (E : Value → Shared → Prop), Q none s → wpAny (model prog w) A.in1 (setNext S slot i ep) Q E s)
    (hQ : ∀ h', Heap.ExtBut I s.heap h' → Q none { s with heap := h' }) : wpAny (model prog w) A (pyNext (.ref I)) Q E s := by
  refine si_start hI (si_open hI hS ?_)
  dsimp only
  refine wpAny_bind (hn _ _ ?_)
  dsimp only
  refine wpAny_bind (wpAny_setField hI rfl (by simp) ?_)
  exact si_raise (s := { s with heap := s.heap.update I (Obj.mapFields (·.setIfInBounds 2 .none)) }) (I := I) (h0 := s.heap) hh hQ (Heap.SameBut.update ..).extBut
theorem sd_item {I S T : Addr} {ks : List Key} {es : Array (Int × Value)} {i ep p : Nat} {t : SetTable} {ps : Array Value} {hv : Int} {v : Value} {Q : Option Value → Shared → Prop} (hI : s.heap.get? I = some (siObj (.ref T) i S es.size ep)) (hS : SetR prog w s.heap S ks es ep t)
    (hT : s.heap.get? T = some { cls := .type "tuple", data := .seq ps }) (hp : ps[i]? = some (.int p 0)) (he : es[p]? = some (hv, v))
    (hQ : ∀ h', h'.get? I = some (siObj (.ref T) (i + 1) S es.size ep) → (∀ b, b ≠ I → h'.get? b = s.heap.get? b) → Q (some v) { s with heap := h' }) : wpAny (model prog w) A (pyNext (.ref I)) Q E s := by
  refine si_start hI (si_open hI hS ?_)
  dsimp only
  unfold seqItems?
  refine wpAny_bind (wpAny_bind (wpAny_load hT (wpAny_pure ?_)))
  dsimp only
  rw [hp]
  dsimp only
  unfold setNextDrawn
  refine wpAny_bind (wpAny_bind (wpAny_setState_of hS.obj rfl hS.fits ?_))
  dsimp only
  rw [if_neg (by simp)]
  rw [show es[(p : Int).toNat]? = some (hv, v) from he]
  refine wpAny_pure ?_
  refine wpAny_bind (wpAny_setField hI rfl (by simp) ?_)
  have h2 := si_field (s := s) hI (first' := .none) (i' := 0) (fs := #[.ref T, .int ((i + 1 : Nat) : Int) 0, .ref S, .int es.size 0, .int ep 0]) 1 (rawInt ((i : Int) + 1)) (by decide) (by simp [rawInt])
  exact wpAny_pure ⟨_, rfl, hQ _ h2 fun b hb => (Heap.SameBut.update _ I _).2 b hb⟩
theorem sd_end {I S T : Addr} {ks : List Key} {es : Array (Int × Value)} {i ep : Nat} {t : SetTable} {ps : Array Value} {Q : Option Value → Shared → Prop} (hh : A.handled = none) (hI : s.heap.get? I = some (siObj (.ref T) i S es.size ep)) (hS : SetR prog w s.heap S ks es ep t)
    (hT : s.heap.get? T = some { cls := .type "tuple", data := .seq ps }) (hp : ps[i]? = none)
    (hQ : ∀ h', Heap.ExtBut I s.heap h' → Q none { s with heap := h' }) : wpAny (model prog w) A (pyNext (.ref I)) Q E s := by
  refine si_start hI (si_open hI hS ?_)
  dsimp only
  unfold seqItems?
  refine wpAny_bind (wpAny_bind (wpAny_load hT (wpAny_pure ?_)))
  dsimp only
  rw [hp]
  dsimp only
  refine wpAny_bind (wpAny_setField hI rfl (by simp) ?_)
  have h1 := si_field (s := s) hI (first' := .none) (i' := 0) (fs := #[.int 0 0, .int i 0, .ref S, .int es.size 0, .int ep 0]) 0 (rawInt 0) (by decide) (by simp [rawInt])
  refine wpAny_bind (wpAny_setField h1 rfl (by simp) ?_)
  refine si_raise (s := { s with heap := (s.heap.update I (Obj.mapFields (·.setIfInBounds 0 (rawInt 0)))).update I (Obj.mapFields (·.setIfInBounds 2 .none)) }) (I := I) (h0 := s.heap) hh hQ ?_
  exact ((Heap.SameBut.update s.heap I _).trans (Heap.SameBut.update _ I _)).extBut
end
end L2

set_option maxHeartbeats 8000000
namespace L2
open PySem PySem.Spec PyProof.Rows
theorem pick_go {α : Type} (next : Nat → Nat) : ∀ (fuel k : Nat) (left : List α) (out : Array α), left.length = fuel → (pickOrder.go next fuel k left out).toList.Perm (out.toList ++ left)
  | 0, k, left, out, e => by
    have : left = [] := List.length_eq_zero_iff.mp e
    subst this
    unfold pickOrder.go
    simp
  | fuel + 1, k, left, out, e => by
    unfold pickOrder.go
    have hlt : next k % left.length < left.length := Nat.mod_lt _ (by omega)
    have hg : left[next k % left.length]? = some left[next k % left.length] := List.getElem?_eq_getElem hlt
    rw [hg]
    dsimp only
    refine (pick_go next fuel (k + 1) _ _ (by rw [List.length_eraseIdx_of_lt hlt, e]; rfl)).trans ?_
    rw [Array.toList_push, List.append_assoc]
    refine List.Perm.append_left _ ?_
    exact eraseIdx_perm hg
theorem pick_perm {α : Type} (next : Nat → Nat) (xs : Array α) : (pickOrder next xs).toList.Perm xs.toList := by
  unfold pickOrder
  have := pick_go next xs.size 0 xs.toList #[] (by simp)
  simpa using this
/-- the slot ahead of the i-th place -/
def slAt (place : Array Nat) : Nat → Nat
  | 0 => 0
  | i + 1 => (place[i]?.getD 0) + 1
theorem below_slAt {place : Array Nat} (h : Ris place) : ∀ {i : Nat}, i ≤ place.size → SetTable.below place (slAt place i) = i
  | 0, _ => by
    obtain ⟨h1, h2, h3⟩ := below_spec h 0
    show SetTable.below place 0 = 0
    rcases Nat.eq_zero_or_pos (SetTable.below place 0) with q | q
    · exact q
    · have hz : 0 < place.size := by omega
      have := h2 0 _ q (Array.getElem?_eq_getElem hz)
      omega
  | i + 1, hi => by
    have hlt : i < place.size := hi
    have eg : place[i]? = some place[i] := Array.getElem?_eq_getElem hlt
    have es : slAt place (i + 1) = place[i] + 1 := by show (place[i]?.getD 0) + 1 = _; rw [eg]; rfl
    rw [es]
    obtain ⟨h1, h2, h3⟩ := below_spec h (place[i] + 1)
    rcases Nat.lt_trichotomy (SetTable.below place (place[i] + 1)) (i + 1) with q | q | q
    · have := h3 i _ (by omega) eg
      omega
    · exact q
    · have hlt2 : i + 1 < place.size := by omega
      have e2 : place[i + 1]? = some place[i + 1] := Array.getElem?_eq_getElem hlt2
      have a := h2 (i + 1) _ q e2
      have b := h.lt (Nat.lt_succ_self i) eg e2
      omega
section
variable {prog : Program} {w : World}
/-- what the walk tells next -/
def Nx (prog : Program) (w : World) (S : Addr) (ks : List Key) (es : Array (Int × Value)) (ep : Nat) (t : SetTable) (sl : Nat → Nat) (vs : List Value) : Prop :=
  ∀ (i : Nat) (s : Shared) (A : Around) (E : Value → Shared → Prop) (Q : Option (Value × Nat) → Shared → Prop), SetR prog w s.heap S ks es ep t → i ≤ es.size → Q ((vs[i]?).map fun v => (v, sl (i + 1))) s → wpAny (model prog w) A (setNext S (sl i) i ep) Q E s
theorem nx_text {S : Addr} {ks : List Key} {es : Array (Int × Value)} {ep : Nat} {t : SetTable} (hb : byTextW w = true) : Nx prog w S ks es ep t (fun _ => 0) ((pickOrder (w.params.setOrder S ep) es).toList.map (·.2)) := by
  intro i s A E Q hS hi q
  unfold setNext setsByText
  refine wpAny_bind (wpAny_setState_of hS.obj rfl hS.fits ?_)
  dsimp only
  refine wpAny_bind (wpAny_bind (wpAny_askSetting (wpAny_pure ?_)))
  rw [if_pos (show (model prog w).w.params.followText "set-order" = true from hb), if_neg (by simp)]
  unfold setWalk setsByText
  refine wpAny_bind (wpAny_bind (wpAny_setState_of hS.obj rfl hS.fits ?_))
  dsimp only
  refine wpAny_bind (wpAny_bind (wpAny_askSetting (wpAny_pure ?_)))
  rw [if_pos (show (model prog w).w.params.followText "set-order" = true from hb)]
  refine wpAny_bind (wpAny_askSetting (wpAny_pure (wpAny_pure ?_)))
  rw [List.getElem?_map, Option.map_map, Array.getElem?_toList] at q
  exact q
theorem nx_plain {S : Addr} {ks : List Key} {es : Array (Int × Value)} {ep : Nat} {t : SetTable} (hb : byTextW w = false) (hd : drawnB es t = false) : Nx prog w S ks es ep t (slAt t.place) (es.toList.map (·.2)) := by
  intro i s A E Q hS hi q
  have hps : t.place.size = es.size := by have := hS.fits; simp [SetTable.fits] at this; exact this.1
  unfold setNext setsByText
  refine wpAny_bind (wpAny_setState_of hS.obj rfl hS.fits ?_)
  dsimp only
  refine wpAny_bind (wpAny_bind (wpAny_askSetting (wpAny_pure ?_)))
  rw [if_neg (show ¬ (model prog w).w.params.followText "set-order" = true by show ¬ byTextW w = true; rw [hb]; decide)]
  have hled : t.led = true := by rw [hS.tab.led, hb]; rfl
  show wpAny _ _ (if drawnB es t = true then _ else _) _ _ _
  rw [if_neg (by rw [hd]; decide)]
  show wpAny _ _ ((if (!t.led && !es.isEmpty) = true then unsupported _ else pure ()) >>= _) _ _ _
  rw [if_neg (by rw [hled]; simp)]
  refine wpAny_bind (wpAny_pure (wpAny_pure ?_))
  rw [below_slAt hS.tab.ris (by rw [hps]; exact hi)]
  rw [List.getElem?_map, Option.map_map, Array.getElem?_toList] at q
  by_cases hlt : i < es.size
  · rw [Array.getElem?_eq_getElem hlt] at q ⊢
    have hp2 : i < t.place.size := by rw [hps]; exact hlt
    have e2 : slAt t.place (i + 1) = t.place[i] + 1 := by show (t.place[i]?.getD 0) + 1 = _; rw [Array.getElem?_eq_getElem hp2]; rfl
    rw [Array.getElem?_eq_getElem hp2]
    dsimp only [Option.map_some, Function.comp] at q ⊢
    rw [e2] at q
    exact q
  · rw [Array.getElem?_eq_none (by omega)] at q ⊢
    exact q
theorem slot_si_iter : Slot "set_iterator" "__iter__" "set_iterator.__iter__" :=
  .of (owner := "set_iterator") (n := "__iter__") (by rw [typeLookup_type, builtinLookup_eq_fast]; kernel_rfl) (by decide +kernel) (by decide +kernel) (by decide +kernel)
    (by first | exact .inl (by decide +kernel) | exact .inr (by decide +kernel)) (by rw [isSubtype_type]; kernel_rfl)
theorem entry_si_iter : entryFor table "set_iterator.__iter__" = some Builtin.«dict_keyiterator.__iter__» :=
  entryFor_alias (id' := "dict_keyiterator.__iter__") (by kernel_rfl) rfl (by decide +kernel) (by kernel_rfl)
theorem args_si_iter (a : Value) : argsOk "set_iterator.__iter__" ⟨[a], []⟩ := by unfold argsOk; kernel_rfl
theorem si_self {A : Around} {E : Value → Shared → Prop} {s : Shared} {I S : Addr} {first : Value} {i n ep : Nat} {Q : Value → Shared → Prop} (hI : s.heap.get? I = some (siObj first i S n ep)) (h : Q (.ref I) s) : wpAny (model prog w) A (pyIter (.ref I)) Q E s := by
  have hT : s.TypeIs (.ref I) "set_iterator" := ⟨_, hI, rfl⟩
  refine wpAny_pyIter_slot hT slot_si_iter (wpAny_call_entry slot_si_iter hT entry_si_iter ?_ (args_si_iter _))
  show wpAny _ _ (ret (.ref I)) _ _ s
  exact wpAny_pure ⟨_, rfl, "set_iterator", _, hT, slot_si_next.lookup, h⟩
theorem walk_int {A : Around} (hh : A.handled = none) {I S : Addr} (hne : S ≠ I) {ks : List Key} {es : Array (Int × Value)} {ep : Nat} {t : SetTable} {sl : Nat → Nat} {vs : List Value} (hv : vs.length = es.size) (hn : Nx prog w S ks es ep t sl vs) :
    Walks prog w A I [I, S] [I] es.size (fun i v => vs[i]? = some v) (fun i h => h.get? I = some (siObj (.int (sl i) 0) i S es.size ep) ∧ SetR prog w h S ks es ep t) where
  sub := fun b hb => by simp at hb; simp [hb]
  frame := fun _ _ _ st hk => ⟨hk I (by simp) _ st.1, st.2.keep fun o e => hk S (by simp) o e⟩
  item := fun i s Q E hi st hQ => by
    have e : vs[i]? = some (vs[i]'(by omega)) := List.getElem?_eq_getElem (by omega)
    refine si_item (v := vs[i]'(by omega)) (next := sl (i + 1)) st.1 st.2 (fun Q E q => hn i s _ E Q st.2 (Nat.le_of_lt hi) (by rw [e]; exact q)) fun h' h1 h2 => ?_
    exact hQ _ h' s.toks e ⟨h1, st.2.keep fun o q => (h2 S hne).trans q⟩ fun b o hb q => (h2 b (by simpa using hb)).trans q
  done := fun s Q E st hQ => si_end hh st.1 st.2 (fun Q E q => hn es.size s _ E Q st.2 (Nat.le_refl _) (by rw [List.getElem?_eq_none (by omega)]; exact q)) fun h' he => hQ h' s.toks fun b o hb e => he b o (fun h => hb (by simp [h])) e
  self := fun i s Q E st hQ => si_self st.1 hQ
theorem walk_drawn {A : Around} (hh : A.handled = none) {I S T : Addr} (hne : S ≠ I) (hnt : T ≠ I) {ks : List Key} {es : Array (Int × Value)} {ep : Nat} {t : SetTable} {ps : List Nat} (hp : ps.Perm (List.range es.size)) :
    Walks prog w A I [I, S, T] [I] es.size (fun i v => (ps.filterMap fun j => (es[j]?).map (·.2))[i]? = some v) (fun i h => h.get? I = some (siObj (.ref T) i S es.size ep) ∧ SetR prog w h S ks es ep t ∧ h.get? T = some { cls := .type "tuple", data := .seq (ps.map fun (i : Nat) => Value.int i 0).toArray }) where
  sub := fun b hb => by simp at hb; simp [hb]
  frame := fun _ _ _ st hk => ⟨hk I (by simp) _ st.1, st.2.1.keep fun o e => hk S (by simp) o e, hk T (by simp) _ st.2.2⟩
  item := fun i s Q E hi st hQ => by
    have hl : ps.length = es.size := by rw [hp.length_eq]; simp
    have hlt : i < ps.length := by omega
    have hpi : ps[i] < es.size := List.mem_range.mp (hp.mem_iff.mp (List.getElem_mem hlt))
    have em : (ps.filterMap fun j => (es[j]?).map (·.2)) = ps.map fun j => (es.getD j (0, .none)).2 := by
      have gen : ∀ l : List Nat, (∀ j ∈ l, j < es.size) → (l.filterMap fun j => (es[j]?).map (·.2)) = l.map fun j => (es.getD j (0, .none)).2 := by
        intro l
        induction l with
        | nil => intro _; rfl
        | cons a l ih =>
          intro hl
          have ha := hl a List.mem_cons_self
          rw [List.filterMap_cons, ih fun j hj => hl j (List.mem_cons_of_mem _ hj)]
          simp [Array.getD, ha]
      exact gen ps fun j hj => List.mem_range.mp (hp.mem_iff.mp hj)
    refine sd_item (p := ps[i]) (hv := es[ps[i]].1) (v := es[ps[i]].2) st.1 st.2.1 st.2.2 (by simp [hlt]) (by rw [Array.getElem?_eq_getElem hpi]) fun h' h1 h2 => ?_
    refine hQ _ h' s.toks ?_ ⟨h1, st.2.1.keep fun o q => (h2 S hne).trans q, (h2 T hnt).trans st.2.2⟩ fun b o hb q => (h2 b (by simpa using hb)).trans q
    rw [em, List.getElem?_map, List.getElem?_eq_getElem hlt]
    simp [Array.getD, hpi]
  done := fun s Q E st hQ => by
    have hl : ps.length = es.size := by rw [hp.length_eq]; simp
    exact sd_end hh st.1 st.2.1 st.2.2 (by simp [hl]) fun h' he => hQ h' s.toks fun b o hb e => he b o (fun h => hb (by simp [h])) e
  self := fun i s Q E st hQ => si_self st.1 hQ
end
end L2

set_option maxHeartbeats 8000000
namespace L2
open PySem PySem.Spec PyProof.Rows
section
variable {prog : Program} {w : World} {A : Around} {E : Value → Shared → Prop} {s : Shared}
theorem set_walk (hh : A.handled = none) {S : Addr} {ks : List Key} {es : Array (Int × Value)} {ep : Nat} {t : SetTable} {Q : Value → Shared → Prop} (hS : SetR prog w s.heap S ks es ep t)
    (h : ∀ (I : Addr) (h1 : Heap) (d : Drawn) (fp : List Addr) (vs : List Value) (St : Nat → Heap → Prop), (∀ b o, s.heap.get? b = some o → h1.get? b = some o) → s.heap.objs.size ≤ I → (∀ b ∈ fp, b = S ∨ s.heap.objs.size ≤ b) →
      Walks prog w A I fp [I] es.size (fun i v => vs[i]? = some v) St → St 0 h1 → vs.length = es.size → vs.Perm (es.toList.map (·.2)) → Q (.ref I) { s with heap := h1, drawn := d }) :
    wpAny (model prog w) A (pyIter (.ref S)) Q E s := by
  have hlt : S < s.heap.objs.size := Heap.lt_size hS.obj
  refine set_iter hS (fun hb => ?_) fun hb d ps hp => ?_
  · have key : ∀ sl vs, sl 0 = 0 → vs.length = es.size → vs.Perm (es.toList.map (·.2)) → Nx prog w S ks es ep t sl vs → Q (.ref s.heap.objs.size) { s with heap := s.heap.push (siObj (.int 0 0) 0 S es.size ep) } := fun sl vs h0 hl hpm hn => by
      have W := walk_int (A := A) hh (I := s.heap.objs.size) (S := S) (Nat.ne_of_lt hlt) hl hn
      have := h s.heap.objs.size (s.heap.push (siObj (.int 0 0) 0 S es.size ep)) s.drawn _ vs _ (fun b o e => Heap.get?_push_of_some _ e) (Nat.le_refl _) (fun b hb => ?_) W ⟨?_, hS.keep fun o e => Heap.get?_push_of_some _ e⟩ hl hpm
      · exact this
      · simp only [List.mem_cons, List.not_mem_nil, or_false] at hb
        rcases hb with rfl | rfl
        · exact .inr (Nat.le_refl _)
        · exact .inl rfl
      · rw [h0]
        exact Heap.get?_push_size _ rfl
    cases hbt : byTextW w with
    | true => exact key _ _ rfl (by rw [List.length_map, (pick_perm _ _).length_eq, Array.length_toList]) ((pick_perm _ _).map _) (nx_text hbt)
    | false =>
      rw [hbt] at hb
      exact key _ _ rfl (by rw [List.length_map, Array.length_toList]) (List.Perm.refl _) (nx_plain hbt (by simpa using hb))
  · have hl : ps.length = es.size := by rw [hp.length_eq]; simp
    have W := walk_drawn (prog := prog) (w := w) (A := A) hh (I := s.heap.objs.size + 1) (S := S) (T := s.heap.objs.size) (Nat.ne_of_lt (Nat.lt_succ_of_lt hlt)) (Nat.ne_of_lt (Nat.lt_succ_self _)) (ks := ks) (es := es) (ep := ep) (t := t) hp
    have pm : (ps.filterMap fun j => (es[j]?).map (·.2)).Perm (es.toList.map (·.2)) := by
      refine (hp.filterMap _).trans ?_
      rw [← List.map_filterMap]
      rw [filterMap_getElem?_range]
    refine h (s.heap.objs.size + 1) _ d _ _ _ (fun b o e => Heap.get?_push_of_some _ (Heap.get?_push_of_some _ e)) (Nat.le_succ _) (fun b hb => ?_) W ⟨?_, hS.keep fun o e => Heap.get?_push_of_some _ (Heap.get?_push_of_some _ e), Heap.get?_push_of_some _ (Heap.get?_push_size _ rfl)⟩ (by rw [pm.length_eq, List.length_map, Array.length_toList]) pm
    · simp only [List.mem_cons, List.not_mem_nil, or_false] at hb
      rcases hb with rfl | rfl | rfl
      · exact .inr (Nat.le_succ _)
      · exact .inl rfl
      · exact .inr (Nat.le_refl _)
    · have := Heap.get?_push_size (s.heap.push { cls := .type "tuple", data := .seq (ps.map fun (i : Nat) => Value.int i 0).toArray }) (o := siObj (.ref s.heap.objs.size) 0 S es.size ep) rfl
      rw [size_push'] at this
      exact this
theorem hint_set {r : Addr} {Q : Bool → Shared → Prop} (hT : s.TypeIs (.ref r) "set") (h : Q false s) : wpAny (model prog w) A (Builtin.List.listLengthHint (.ref r)) Q E s := by
  unfold Builtin.List.listLengthHint
  refine wpAny_bind (wpAny_specialOf hT PySem.F.slot_set_len.lookup ?_)
  generalize hid : ("set.__len__" : String) = id0
  wp_delta
  rw [show splitId id0 = some ("set", "__len__") from by subst hid; decide +kernel]
  subst hid
  refine wpAny_bind (wpAny_isInstance (T := "set") (b := true) hT (by rw [isSubtype_type]; kernel_rfl) ?_)
  refine wpAny_ite_split (fun hab => absurd hab (by decide)) (fun _ => ?_)
  refine wpAny_ite_split (fun _ => ?_) (fun hab => absurd (by decide +kernel) hab)
  refine wpAny_bind (wpAny_typeOf hT ?_)
  exact wpAny_pure h

theorem set_extend {S L : Addr} {ks : List Key} {es : Array (Int × Value)} {ep : Nat} {t : SetTable} {R : Result → Shared → Prop} (hh : A.handled = none) (hS : SetR prog w s.heap S ks es ep t) (hSL : L ≠ S) (res : Value) (c₀ : Nat) (hL : s.heap.get? L = some { cls := .type "list", data := .seq #[] c₀ })
    (hR : ∀ h' tk d acc' c', (∀ b o, b ≠ L → s.heap.get? b = some o → h'.get? b = some o) → h'.get? L = some { cls := .type "list", dict := none, data := .seq acc' c', slots := #[] } → acc'.toList.Perm (es.toList.map (·.2)) → R (.ok (.ret res)) { s with heap := h', toks := tk, drawn := d }) :
    wpAny (model prog w) A.in1 (Builtin.List.listExtendWith (.ref L) (.ref S) res)
      (fun fin s' => match fin with | .done f => R (.ok f) s' | .again c' => c'.quiet = true ∧ codeAny (model prog w) A c' R s') (fun e s' => R (.error e) s') s := by
  have hT : s.TypeIs (.ref S) "set" := ⟨_, hS.obj, rfl⟩
  have hz : es.size ≤ sizeLine := fits_of_scanBound hS.few
  unfold Builtin.List.listExtendWith
  refine wpAny_bind (wpAny_typeOf hT ?_)
  have h1 : Builtin.List.listSameRef (.ref L) (.ref S) = false := by simp [Builtin.List.listSameRef, hSL]
  have h2 : (Value.type "set" == Value.type "list") = false := by decide
  have h3 : (Value.type "set" == Value.type "tuple") = false := by decide
  simp only [h1, h2, h3, Bool.or_false, Bool.false_eq_true, if_false]
  refine wpAny_bind (set_walk (A := A.in1) hh hS fun I h1 d fp vs St hk hI hfp W st hvl hpm => ?_)
  have hLlt : L < s.heap.objs.size := Heap.lt_size hL
  have hLI : L ≠ I := Nat.ne_of_lt (Nat.lt_of_lt_of_le hLlt hI)
  have hLf : L ∉ fp := fun hb => by
    rcases hfp L hb with e | e
    · exact hSL e
    · exact absurd hLlt (Nat.not_lt.mpr e)
  have key : ∀ (h : Heap) (c₁ tk : Nat), St 0 h → (∀ b o, b ≠ L → s.heap.get? b = some o → h.get? b = some o) →
      h.get? L = some { cls := .type "list", data := .seq #[] c₁ } → codeAny (model prog w) A (.builtin "list.extend.loop" ⟨[.ref L, .ref I, res], []⟩) R { s with heap := h, toks := tk, drawn := d } := by
    intro h c₁ tk hst hkk hS₁
    refine codeAny_extend_loopS W.toS hz L hLf res es.size 0 _ #[] c₁ rfl (Nat.zero_le _) hst hS₁ (ItemsOf.nil _) fun s' acc' c' hm hS' hacc => ?_
    rw [Moved.eq_with hm]
    refine hR s'.heap s'.toks d acc' c' (fun b o hb e => hm.heap b o (fun hmem => ?_) (hkk b o hb e)) hS' ?_
    · rcases List.mem_cons.mp hmem with e' | hmem
      · exact hb e'
      · have := List.mem_singleton.mp hmem
        subst this
        exact absurd (Heap.lt_size e) (Nat.not_lt.mpr hI)
    · have ev : acc'.toList = vs := by
        refine List.ext_getElem? fun i => ?_
        rw [Array.getElem?_toList]
        by_cases hlt : i < es.size
        · have : i < acc'.size := by rw [hacc.1]; exact hlt
          rw [Array.getElem?_eq_getElem this]
          exact (hacc.2 i _ (Array.getElem?_eq_getElem this)).symm
        · rw [Array.getElem?_eq_none (by rw [hacc.1]; omega), List.getElem?_eq_none (by omega)]
      rw [ev]
      exact hpm
  have hS₁ : h1.get? L = some { cls := .type "list", data := .seq #[] c₀ } := hk _ _ hL
  refine wpAny_bind (wpAny_holding (hint_set (s := { s with heap := h1, drawn := d }) ⟨_, hk _ _ hS.obj, rfl⟩ ?_))
  refine wpAny_ite_split (fun _ => ?_) (fun _ => wpAny_pure ⟨plainId_quiet PySem.F.plain_extend_loop _, key _ c₀ _ st (fun b o _ e => hk b o e) hS₁⟩)
  refine wpAny_bind (wpAny_rule ?_)
  refine wpAny_bind ?_
  show wpAny _ _ (updateSeq L (·.push .none) >>= fun _ => updateSeq L (·.pop)) _ _ _
  refine wpAny_bind (wpAny_updateSeq hS₁ rfl ?_)
  have hS₂ := Heap.get?_update_self (Obj.mapSeq (·.push Value.none)) hS₁ rfl
  refine wpAny_updateSeq (hz := by seq_fits) hS₂ rfl ?_
  have hS₃ := Heap.get?_update_self (Obj.mapSeq (·.pop)) hS₂ rfl
  refine wpAny_pure ⟨plainId_quiet PySem.F.plain_extend_loop _, key _ _ _ ?_ (fun b o hb e => ?_) hS₃⟩
  · refine W.frame 0 _ _ st fun b hb o e => ?_
    have hbS : b ≠ L := fun h => hLf (h ▸ hb)
    exact (Heap.get?_update_other _ _ (Ne.symm hbS)).trans ((Heap.get?_update_other _ _ (Ne.symm hbS)).trans e)
  · exact (Heap.get?_update_other _ _ (Ne.symm hb)).trans ((Heap.get?_update_other _ _ (Ne.symm hb)).trans (hk _ _ e))
theorem set_collect {S : Addr} {ks : List Key} {es : Array (Int × Value)} {ep : Nat} {t : SetTable} {R : List Value → Shared → Prop} (hh : A.handled = none) (hS : SetR prog w s.heap S ks es ep t)
    (h : ∀ (h' : Heap) (tk : Nat) (d : Drawn) (vs : List Value), s.heap.objs.size ≤ h'.objs.size → (∀ b o, s.heap.get? b = some o → h'.get? b = some o) → vs.Perm (es.toList.map (·.2)) → R vs { s with heap := h', toks := tk, drawn := d }) :
    wpAny (model prog w) A (collect (.ref S)) R E s := by
  have hlt : S < s.heap.objs.size := Heap.lt_size hS.obj
  unfold collect
  refine wpAny_bind (wpAny_runValue (codeAny_builtin entry_proto_collect' ?_))
  rw [Around.under_plainId PySem.F.plain_proto_collect _]
  show wpAny _ A.in1 (newList [] >>= fun l => again (.builtin "list.__iadd__" ⟨[l, .ref S], []⟩)) _ _ s
  refine wpAny_bind (wpAny_newObj_type ?_)
  refine wpAny_pure ⟨plainId_quiet PySem.F.plain_list_iadd _, codeAny_builtin entry_list_iadd' ?_⟩
  rw [Around.under_plainId PySem.F.plain_list_iadd _]
  have hL : (s.heap.push { cls := .type "list", data := .seq ([] : List Value).toArray }).get? s.heap.objs.size = some { cls := .type "list", data := .seq #[] } := Heap.get?_push_size _ rfl
  show wpAny _ A.in1 (Builtin.List.listExtendWith (.ref s.heap.objs.size) (.ref S) (.ref s.heap.objs.size)) _ _ _
  have key := set_extend (A := A) (s := { s with heap := s.heap.push { cls := .type "list", data := .seq ([] : List Value).toArray } })
    (R := fun (q : Result) (s' : Shared) => ∃ (h' : Heap) (tk : Nat) (d : Drawn) (acc' : Array Value) (c' : Nat), q = .ok (.ret (.ref s.heap.objs.size)) ∧ s' = { s with heap := h', toks := tk, drawn := d } ∧
      (∀ b o, s.heap.get? b = some o → h'.get? b = some o) ∧ h'.get? s.heap.objs.size = some { cls := .type "list", dict := none, data := .seq acc' c', slots := #[] } ∧ acc'.toList.Perm (es.toList.map (·.2)))
    hh (hS.keep fun o e => Heap.get?_push_of_some _ e) (Nat.ne_of_gt hlt) (.ref s.heap.objs.size) 0 hL
    (fun h' tk d acc' c' hk hS' hacc => ⟨h', tk, d, acc', c', rfl, rfl, fun b o e => hk b o (Nat.ne_of_lt (Heap.lt_size e)) (Heap.get?_push_of_some _ e), hS', hacc⟩)
  refine wpAny_mono key (fun fin s' x => ?_) fun e s' x => ?_
  · cases fin with
    | done f =>
      obtain ⟨h', tk, d, acc', c', e, rfl, hk, hS', hacc⟩ := x
      cases e
      show wpAny _ A (load s.heap.objs.size >>= _) _ _ _
      refine wpAny_bind (wpAny_load hS' ?_)
      exact wpAny_pure (h h' tk d acc'.toList (Nat.le_of_lt (Heap.lt_size hS')) hk hacc)
    | again c₁ =>
      refine ⟨x.1, codeAny_mono x.2 fun q s₂ y => ?_⟩
      obtain ⟨h', tk, d, acc', c', rfl, rfl, hk, hS', hacc⟩ := y
      show wpAny _ A (load s.heap.objs.size >>= _) _ _ _
      refine wpAny_bind (wpAny_load hS' ?_)
      exact wpAny_pure (h h' tk d acc'.toList (Nat.le_of_lt (Heap.lt_size hS')) hk hacc)
  · obtain ⟨_, _, _, _, _, e', _⟩ := x
    cases e'
/-- sorted(a set): then the list is sorted -/
theorem set_sorted {S : Addr} {ks : List Key} {es : Array (Int × Value)} {ep : Nat} {t : SetTable} {Q : Value → Shared → Prop} (hh : A.handled = none) (hS : SetR prog w s.heap S ks es ep t)
    (h : ∀ (h' : Heap) (tk : Nat) (d : Drawn) (vs : List Value), s.heap.objs.size ≤ h'.objs.size → (∀ b o, s.heap.get? b = some o → h'.get? b = some o) → vs.Perm (es.toList.map (·.2)) →
      wpAny (model prog w) A.in1 (call (.builtin "list.sort") [.ref h'.objs.size]) (fun _ s' => Q (.ref h'.objs.size) s') E { s with heap := h'.push (seqObj "list" vs.toArray 0), toks := tk, drawn := d }) :
    wpAny (model prog w) A (call (.builtin "sorted") [.ref S]) Q E s := by
  refine Calls.call_function_entry kind_sorted plain_sorted entry_sorted (args_sorted1 _) ?_
  unfold Builtin.«sorted»
  refine wpAny_bind (m := checkCount "sorted" 1 1 _) (wpAny_pure ?_)
  refine wpAny_bind (set_collect (A := A.in1) hh hS fun h' tk d vs hz hk hp => ?_)
  have hl : vs.length ≤ sizeLine := by rw [hp.length_eq, List.length_map, Array.length_toList]; exact fits_of_scanBound hS.few
  refine wpAny_bind (wpAny_newList ?_ hl)
  refine wpAny_bind (wpAny_holding (wpAny_mono (h h' tk d vs hz hk hp) (fun _ s' x => ?_) fun _ _ e => e))
  exact wpAny_pure ⟨_, rfl, x⟩
end
end L2

set_option maxHeartbeats 8000000
namespace L2
open PySem PySem.Spec PyProof.Rows
def ltS (x y : Str) : Prop := x.cps.toList < y.cps.toList
theorem boot_set' : bootBuiltins "set" = some (.type "set") := by kernel_rfl
theorem ltS_of {x y : Str} (h : ¬ y.cps.toList < x.cps.toList) (n : x ≠ y) : ltS x y := by
  unfold ltS
  have hle : x.cps.toList ≤ y.cps.toList := List.not_lt.mp h
  refine Decidable.byContradiction fun h2 => n ?_
  have hle2 : y.cps.toList ≤ x.cps.toList := List.not_lt.mp h2
  have e := List.le_antisymm hle hle2
  cases x; cases y
  simp at e
  subst e
  rfl
theorem out_str {vs : List Value} {ss : List Str} (hS : StrsAre vs ss) {xs : Array Keyed} (hp : xs.Perm (pairsOf vs)) (hs : SortedToK strKind xs (pairsOf vs).size) :
    ∃ ss', StrsAre (xs.map (·.2)).toList ss' ∧ ss'.Perm ss ∧ ss'.Pairwise fun a b => ¬ b.cps.toList < a.cps.toList := by
  have hl : xs.toList.Perm (vs.zip vs) := by rw [← pairsOf_toList]; exact Array.perm_iff_toList_perm.mp hp
  have hmem : ∀ p, p ∈ xs.toList → p.1 = p.2 ∧ p.1 ∈ vs := fun p hp' => mem_zip_self (hl.mem_iff.mp hp')
  refine ⟨xs.toList.map (fun p => strOf p.1), ?_, ?_, ?_⟩
  · have e : (xs.map (·.2)).toList = xs.toList.map (·.1) := by
      rw [Array.toList_map]; exact List.map_congr_left fun p hp' => (hmem p hp').1.symm
    rw [e]
    have h1 := strsAre_map (xs.toList.map (·.1)) (by
      intro v hv
      obtain ⟨p, hp', rfl⟩ := List.mem_map.mp hv
      exact hS.all _ (hmem p hp').2)
    rwa [List.map_map] at h1
  · have h1 := hl.map (fun p => strOf p.1)
    have e2 : (vs.zip vs).map (fun p => strOf p.1) = ss := by
      have : (vs.zip vs).map (fun p => strOf p.1) = ((vs.zip vs).map Prod.fst).map strOf := by rw [List.map_map]; rfl
      rw [this, List.map_fst_zip (Nat.le_refl _), hS.strs]
    rwa [e2] at h1
  · rw [List.pairwise_iff_getElem]
    intro i j hi hj hij
    have hi' : i < xs.size := by simpa using hi
    have hj' : j < xs.size := by simpa using hj
    have h1 := hs i j (Nat.le_of_lt hij) (by rw [← hp.size_eq]; exact hj')
    obtain ⟨x, t, ex⟩ := hS.all _ (hmem xs[i] (by simp)).2
    obtain ⟨y, u, ey⟩ := hS.all _ (hmem xs[j] (by simp)).2
    rw [KK_str hi' (x := x) (t := t) (q := xs[i].2) (Prod.ext ex rfl), KK_str hj' (x := y) (t := u) (q := xs[j].2) (Prod.ext ey rfl)] at h1
    change decide (y.cps.toList < x.cps.toList) = false at h1
    simp only [List.getElem_map, Array.getElem_toList]
    rw [show strOf xs[i].1 = x by rw [ex]; rfl, show strOf xs[j].1 = y by rw [ey]; rfl]
    exact of_decide_eq_false h1
section
variable {prog : Program} {w : World} {A : Around} {E : Value → Shared → Prop} {s : Shared}
theorem sort_ints {a : Addr} {vs : List Value} {ns : List Int} {Q : Value → Shared → Prop} (ho : s.heap.get? a = some (seqObj "list" vs.toArray 0)) (hI : IntsAre vs ns) (h64 : vs.length < 64)
    (h : ∀ (out : Array Value) (ns' : List Int), IntsAre out.toList ns' → ns'.Perm ns → ns'.Pairwise (· ≤ ·) → Q .none { s with heap := sortedHeap s.heap a vs out }) : wpAny (model prog w) A (call (.builtin "list.sort") [.ref a]) Q E s :=
  wpAny_call_entry slot_list_sort ⟨_, ho, rfl⟩ entry_list_sort (list_sort_tree ho hI h64 fun out ns' a1 a2 a3 => ⟨_, rfl, h out ns' a1 a2 a3⟩) (args_list_sort _)
theorem sort_strs {a : Addr} {vs : List Value} {ss : List Str} {Q : Value → Shared → Prop} (ho : s.heap.get? a = some (seqObj "list" vs.toArray 0)) (hS : StrsAre vs ss) (h64 : vs.length < 64)
    (h : ∀ (out : Array Value) (ss' : List Str), StrsAre out.toList ss' → ss'.Perm ss → (ss'.Pairwise fun a b => ¬ b.cps.toList < a.cps.toList) → Q .none { s with heap := sortedHeap s.heap a vs out }) : wpAny (model prog w) A (call (.builtin "list.sort") [.ref a]) Q E s :=
  wpAny_call_entry slot_list_sort ⟨_, ho, rfl⟩ entry_list_sort (list_sort_treeK strKind_oneLt ho hS.keysOf (fun v₁ v₂ rest e => keyKind_strs (by rw [← e]; exact hS)) h64 fun st' hp hs => ⟨_, rfl, by
    obtain ⟨ss', h1, h2, h3⟩ := out_str hS hp hs
    exact h _ ss' h1 h2 h3⟩) (args_list_sort _)
end
/-- what is told of sorted(set(xs)) -/
def SortedOf (xs ys : List V) : Prop :=
  (∃ ns ms : List Int, xs = ns.map V.int ∧ ys = ms.map V.int ∧ ms.Pairwise (· < ·) ∧ ∀ n, n ∈ ms ↔ n ∈ ns) ∨ ∃ ns ms : List Str, xs = ns.map V.str ∧ ys = ms.map V.str ∧ ms.Pairwise ltS ∧ ∀ n, n ∈ ms ↔ n ∈ ns
def tSortSet (K : PySem.W.Frag) (te : TE) : TE := fun σ H Q => te σ H fun x H1 => ∃ a xs, x = .ref a ∧ (SqL K H1 a xs ∨ SqT K H1 a xs) ∧ xs.length < 64 ∧ ((∃ ns : List Int, xs = ns.map V.int) ∨ ∃ ss : List Str, xs = ss.map V.str) ∧
  ∀ p ys, H1 p = none → SortedOf xs ys → Q (.ref p) (upd H1 p (.lst ys))
theorem nod_of {ms ms' : List Int} (h : ms.Pairwise (· ≤ ·)) (n : ms.Nodup) : ms.Pairwise (· < ·) := by
  rw [List.pairwise_iff_getElem] at h ⊢
  intro i j hi hj hij
  have h1 := h i j hi hj hij
  have h2 := List.pairwise_iff_getElem.mp n i j hi hj hij
  omega
theorem ints_of {ns : List Int} : ∀ {us : List Value}, Vals (ns.map V.int) us → IntsAre us ns := by
  induction ns with
  | nil => intro us r; cases r; exact .nil
  | cons y ys ih =>
    intro us r
    cases r with
    | cons h t =>
      obtain ⟨tk, rfl⟩ := h
      exact .cons _ _ (ih t)
theorem vals_intsA {ns : List Int} : ∀ {us : List Value}, IntsAre us ns → Vals (ns.map V.int) us := by
  induction ns with
  | nil => intro us r; cases r; exact .nil
  | cons y ys ih => intro us r; cases r with | cons _ t r => exact .cons ⟨t, rfl⟩ (ih r)
theorem vals_strs' {ns : List Str} : ∀ {us : List Value}, StrsAre us ns → Vals (ns.map V.str) us := by
  induction ns with
  | nil => intro us r; cases r; exact .nil
  | cons y ys ih => intro us r; cases r with | cons _ t r => exact .cons ⟨t, rfl⟩ (ih r)

def keyV : V → Key
  | .int n => .inl n
  | .str x => .inr x
  | _ => .inl 0
def keyAt (xs : List V) (i : Nat) : Key := ((xs[i]?).map keyV).getD (.inl 0)
theorem mem_keyAt {xs : List V} {k : Key} : k ∈ metK (keyAt xs) xs.length ↔ ∃ x ∈ xs, keyV x = k := by
  rw [mem_metK]
  constructor
  · rintro ⟨j, hj, e⟩
    refine ⟨xs[j], List.getElem_mem hj, ?_⟩
    unfold keyAt at e
    rw [List.getElem?_eq_getElem hj] at e
    exact e
  · rintro ⟨x, hx, e⟩
    obtain ⟨j, hj, rfl⟩ := List.mem_iff_getElem.mp hx
    refine ⟨j, hj, ?_⟩
    unfold keyAt
    rw [List.getElem?_eq_getElem hj]
    exact e
theorem keyAt_is {xs : List V} {its : List Value} (r : Vals xs its) (hx : ∀ x ∈ xs, (∃ n, x = .int n) ∨ ∃ y, x = .str y) (i : Nat) (v : Value) (e : its.toArray[i]? = some v) : keyIs (keyAt xs i) v = true ∧ v.scannable = true := by
  have e' : its[i]? = some v := by simpa using e
  have hl := r.length
  have hi : i < xs.length := by rw [hl]; exact (List.getElem?_eq_some_iff.mp e').1
  obtain ⟨u, hu, ru⟩ := r.get (List.getElem?_eq_getElem hi)
  rw [e'] at hu
  cases hu
  have ek : keyAt xs i = keyV xs[i] := by unfold keyAt; rw [List.getElem?_eq_getElem hi]; rfl
  rw [ek]
  rcases hx xs[i] (List.getElem_mem hi) with ⟨n, q⟩ | ⟨y, q⟩
  · rw [q] at ru ⊢
    obtain ⟨t, rfl⟩ := ru
    exact ⟨keyIs_int n t, rfl⟩
  · rw [q] at ru ⊢
    obtain ⟨t, rfl⟩ := ru
    exact ⟨keyIs_str y t, rfl⟩
section
variable {X : Cx} {e : Expr} {te : TE} {p1 p2 pos pos2 : Pos}
theorem sortset_run {pins : List (Addr × Obj)} {σ : St} {H : Hp} {s : Shared} {Q : VK} {S : Addr} {xs : List V} {es : Array (Int × Value)} {ep : Nat} {t : SetTable} (hc : X.calm = true) (I : Inv X pins σ H s) (hS : SetR X.prog X.w s.heap S (metK (keyAt xs) xs.length) es ep t) (h64 : xs.length < 64)
    (hx : (∃ ns : List Int, xs = ns.map V.int) ∨ ∃ ss : List Str, xs = ss.map V.str) (q : ∀ p ys, H p = none → SortedOf xs ys → Q (.ref p) (upd H p (.lst ys))) :
    wpAny (model X.prog X.w) X.A (call (.builtin "sorted") [.ref S]) (EP X pins σ Q) X.xe s := by
  refine set_sorted (I.ok.hd hc) hS fun h' tk d vs hz hk hp => ?_
  have hn : H h'.objs.size = none := I.hok.fresh hz
  have hperm : (vs.map kOf).Perm (metK (keyAt xs) xs.length) := by
    refine (hp.map kOf).trans ?_
    rw [List.map_map]
    exact hS.keys
  have hlen : vs.length < 64 := by
    have h1 := hperm.length_eq
    have h2 := metK_len (keyAt xs) xs.length
    rw [List.length_map] at h1
    omega
  have hel : ∀ v ∈ vs, ∃ k, keyIs k v = true ∧ k ∈ metK (keyAt xs) xs.length := fun v hv => by
    obtain ⟨e, he, rfl⟩ := List.mem_map.mp (hp.mem_iff.mp hv)
    obtain ⟨⟨k, hk', _⟩, _⟩ := hS.els e he
    exact ⟨k, hk', hS.mem.mp ⟨e, he, hk'⟩⟩
  have hob : (h'.push (seqObj "list" vs.toArray 0)).get? h'.objs.size = some (seqObj "list" vs.toArray 0) := Heap.get?_push_size _ rfl
  -- the end
  have fin : ∀ (ys : List V) (out : Array Value), Vals ys out.toList → ys.length < 64 → SortedOf xs ys → EP X pins σ Q (.ref h'.objs.size) { s with heap := sortedHeap (h'.push (seqObj "list" vs.toArray 0)) h'.objs.size vs out, toks := tk, drawn := d } := fun ys out r hl so => by
    have keep : ∀ b o, s.heap.get? b = some o → (sortedHeap (h'.push (seqObj "list" vs.toArray 0)) h'.objs.size vs out).get? b = some o := fun b o e => by
      have hb := hk b o e
      have hlt := Heap.lt_size hb
      rw [sortedHeap_old (Nat.ne_of_lt hlt) (by rw [size_push']; exact Nat.lt_succ_of_lt hlt)]
      exact Heap.get?_push_of_some _ hb
    obtain ⟨c, hat⟩ : ∃ c, (sortedHeap (h'.push (seqObj "list" vs.toArray 0)) h'.objs.size vs out).get? h'.objs.size = some (seqObj "list" out c) := sortedHeap_at hob
    have hobj : ObjOk X.prog X.w (upd H h'.objs.size (.lst ys)) (sortedHeap (h'.push (seqObj "list" vs.toArray 0)) h'.objs.size vs out) h'.objs.size (.lst ys) := ⟨by rw [sizeLine_eq]; omega, out.toList, c, r, by rw [hat]⟩
    refine ⟨.ref h'.objs.size, upd H h'.objs.size (.lst ys), ?_, rfl, q _ _ hn so⟩
    exact I.call' (s' := { s with heap := sortedHeap (h'.push (seqObj "list" vs.toArray 0)) h'.objs.size vs out, toks := tk, drawn := d }) (ch := []) rfl (Un.laid keep hz hn) (I.hok.laid keep hz hobj) I.bare fun b hb => absurd hb (by simp)
  rcases hx with ⟨ns, rfl⟩ | ⟨ss, rfl⟩
  · have hint : ∀ v ∈ vs, ∃ n t, v = Value.int n t := fun v hv => by
      obtain ⟨k, hk1, hk2⟩ := hel v hv
      obtain ⟨x, hx, e⟩ := mem_keyAt.mp hk2
      obtain ⟨n, hn', rfl⟩ := List.mem_map.mp hx
      subst e
      rcases keyIs_shape hk1 with ⟨i, t, e1, e2⟩ | ⟨y, t, e1, e2⟩
      · exact ⟨i, t, e2⟩
      · cases e1
    have hI := intsAre_map vs hint
    refine sort_ints hob hI hlen fun out ns' a1 a2 a3 => ?_
    have ek : vs.map kOf = (vs.map numOf).map Sum.inl := by
      rw [List.map_map]
      refine List.map_congr_left fun v hv => ?_
      obtain ⟨n, t, rfl⟩ := hint v hv
      rfl
    have hnod : ns'.Nodup := by
      refine a2.nodup_iff.mpr ?_
      have h1 := hperm.nodup_iff.mpr hS.nod
      rw [ek] at h1
      exact (List.pairwise_map.mp h1).imp fun hne e => hne (congrArg _ e)
    refine fin (ns'.map V.int) out (vals_intsA a1) (by rw [List.length_map, a2.length_eq, List.length_map]; exact hlen) (.inl ⟨ns, ns', rfl, rfl, nod_of (ms' := []) a3 hnod, fun n => ?_⟩)
    rw [a2.mem_iff]
    have : n ∈ vs.map numOf ↔ (Sum.inl n : Key) ∈ vs.map kOf := by
      rw [ek]
      constructor
      · exact fun h => List.mem_map.mpr ⟨n, h, rfl⟩
      · intro h
        obtain ⟨m, hm, e⟩ := List.mem_map.mp h
        cases e
        exact hm
    rw [this, hperm.mem_iff, mem_keyAt]
    constructor
    · rintro ⟨x, hx, e⟩
      obtain ⟨m, hm, rfl⟩ := List.mem_map.mp hx
      cases e
      exact hm
    · exact fun h => ⟨.int n, List.mem_map.mpr ⟨n, h, rfl⟩, rfl⟩
  · have hstr : ∀ v ∈ vs, ∃ n t, v = Value.str n t := fun v hv => by
      obtain ⟨k, hk1, hk2⟩ := hel v hv
      obtain ⟨x, hx, e⟩ := mem_keyAt.mp hk2
      obtain ⟨n, hn', rfl⟩ := List.mem_map.mp hx
      subst e
      rcases keyIs_shape hk1 with ⟨i, t, e1, e2⟩ | ⟨y, t, e1, e2⟩
      · cases e1
      · exact ⟨y, t, e2⟩
    have hI := strsAre_map vs hstr
    refine sort_strs hob hI hlen fun out ns' a1 a2 a3 => ?_
    have ek : vs.map kOf = (vs.map strOf).map Sum.inr := by
      rw [List.map_map]
      refine List.map_congr_left fun v hv => ?_
      obtain ⟨n, t, rfl⟩ := hstr v hv
      rfl
    have hnod : ns'.Nodup := by
      refine a2.nodup_iff.mpr ?_
      have h1 := hperm.nodup_iff.mpr hS.nod
      rw [ek] at h1
      exact (List.pairwise_map.mp h1).imp fun hne e => hne (congrArg _ e)
    refine fin (ns'.map V.str) out (vals_strs' a1) (by rw [List.length_map, a2.length_eq, List.length_map]; exact hlen) (.inr ⟨ss, ns', rfl, rfl, ?_, fun n => ?_⟩)
    · rw [List.pairwise_iff_getElem] at a3 ⊢
      intro i j hi hj hij
      exact ltS_of (a3 i j hi hj hij) (List.pairwise_iff_getElem.mp hnod i j hi hj hij)
    rw [a2.mem_iff]
    have : n ∈ vs.map strOf ↔ (Sum.inr n : Key) ∈ vs.map kOf := by
      rw [ek]
      constructor
      · exact fun h => List.mem_map.mpr ⟨n, h, rfl⟩
      · intro h
        obtain ⟨m, hm, e⟩ := List.mem_map.mp h
        cases e
        exact hm
    rw [this, hperm.mem_iff, mem_keyAt]
    constructor
    · rintro ⟨x, hx, e⟩
      obtain ⟨m, hm, rfl⟩ := List.mem_map.mp hx
      cases e
      exact hm
    · exact fun h => ⟨.str n, List.mem_map.mpr ⟨n, h, rfl⟩, rfl⟩
/-- sorted(set(e)) -/
theorem pe_sortset (hc : X.calm = true) (hg1 : Gl X "sorted") (hm1 : X.mg "sorted" = none) (hg2 : Gl X "set") (hm2 : X.mg "set" = none) (he : PE X e te) (hs1 : starEach [e] X.env = [(false, eval e X.env)] := by rfl)
    (hs2 : starEach [Expr.Call (.Name "set" p2) [e] [] pos2] X.env = [(false, eval (.Call (.Name "set" p2) [e] [] pos2) X.env)] := by rfl) :
    PE X (.Call (.Name "sorted" p1) [.Call (.Name "set" p2) [e] [] pos2] [] pos) (tSortSet X.K te) := by
  intro pins s σ H Q I h
  refine wpAny_Call_Name_kw (ld_blt I hg1 hm1 boot_sorted ?_ (by decide) (by decide))
  refine PyProof.Rows.callWith_builtin1 ?_ hs2 rfl
  rw [hs2]
  refine Calls.spliced_cons ?_
  refine wpAny_Call_Name_kw (ld_blt I hg2 hm2 boot_set' ?_ (by decide) (by decide))
  refine PyProof.Rows.callWith_type1 ?_ hs1 rfl
  rw [hs1]
  refine Calls.spliced_cons (thn (he pins s σ H _ I h) fun u s1 ⟨x, H1, I1, r1, a, xs, ex, hsq, h64, hx, q⟩ => ?_)
  refine Calls.spliced_nil ?_
  subst ex
  cases r1
  have hx' : ∀ x ∈ xs, (∃ n, x = .int n) ∨ ∃ y, x = .str y := fun x hxm => by
    rcases hx with ⟨ns, rfl⟩ | ⟨ss, rfl⟩
    · obtain ⟨n, _, rfl⟩ := List.mem_map.mp hxm; exact .inl ⟨n, rfl⟩
    · obtain ⟨n, _, rfl⟩ := List.mem_map.mp hxm; exact .inr ⟨n, rfl⟩
  have go : ∀ {T : String} {its : List Value} {o : Obj}, SetSrc X.prog X.w T a its.toArray → Vals xs its → s1.heap.get? a = some o → o.cls = .type T → (∃ n, o.data = .seq its.toArray n) →
      wpAny (model X.prog X.w) X.A (call (.type "set") [.ref a]) (fun v s2 => wpAny (model X.prog X.w) X.A (spliced []) (fun vs s3 => wpAny (model X.prog X.w) X.A (call (.builtin "sorted") (v :: vs)) (EP X pins σ Q) X.xe s3) X.xe s2) X.xe s1 := fun {T its o} src r ho hcl hd => by
    have hl := r.length
    refine call_set_of (key := keyAt xs) src (I1.ok.hd hc) ho hcl hd (keyAt_is r hx') (by simp [scanBound]; omega) fun h' tk es ep t hS hk => ?_
    refine Calls.spliced_nil ?_
    have esz : its.toArray.size = xs.length := by rw [List.size_toArray, hl]
    rw [esz] at hS
    exact sortset_run hc (I1.kept (t' := tk) hk) hS h64 hx q
  rcases hsq with hsq | hsq
  · obtain ⟨its, r, pl, _⟩ := I1.list hsq
    obtain ⟨o, ho, hcl, hd⟩ := pl.isList
    exact go src_list r ho hcl hd
  · obtain ⟨its, r, pl, _⟩ := I1.tuple hsq
    obtain ⟨o, ho, hcl, hd⟩ := pl
    exact go src_tup r ho hcl hd
end
end L2

set_option maxHeartbeats 4000000
namespace CS
open PySem L2
abbrev Spn := Option Int × Option Int
def eV : Option Int → V
  | none => .non
  | some n => .int n
inductive CSet where
  | num (sps : List Spn)
  | wrd (b : Bool) (ws : List Str)
structure SpansAt (H : Hp) (t : Addr) (as : List Addr) (sps : List Spn) : Prop where
  tup : H t = some (.tup (as.map V.ref))
  len : as.length = sps.length
  at_ : ∀ (i : Nat) a s, as[i]? = some a → sps[i]? = some s → H a = some (.tup [eV s.1, eV s.2])
def SetAt (H : Hp) (a : Addr) : CSet → Prop
  | .num sps => ∃ t as, H a = some (.tup [.str "n", .ref t]) ∧ SpansAt H t as sps
  | .wrd b ws => ∃ t, H a = some (.tup [.str "w", .bl b, .ref t]) ∧ H t = some (.tup (ws.map V.str))
theorem SpansAt.keep {H H' : Hp} {t : Addr} {as : List Addr} {sps : List Spn} (k : ∀ a xs, H a = some (.tup xs) → H' a = some (.tup xs)) (h : SpansAt H t as sps) : SpansAt H' t as sps :=
  ⟨k _ _ h.tup, h.len, fun i a s e1 e2 => k _ _ (h.at_ i a s e1 e2)⟩
theorem SetAt.keep {H H' : Hp} {a : Addr} {S : CSet} (k : ∀ a xs, H a = some (.tup xs) → H' a = some (.tup xs)) (h : SetAt H a S) : SetAt H' a S := by
  cases S with
  | num sps => obtain ⟨t, as, h1, h2⟩ := h; exact ⟨t, as, k _ _ h1, h2.keep k⟩
  | wrd b ws => obtain ⟨t, h1, h2⟩ := h; exact ⟨t, k _ _ h1, k _ _ h2⟩
theorem SetAt.same {H H' : Hp} {a : Addr} {S : CSet} (s : Same H H') (h : SetAt H a S) : SetAt H' a S := h.keep fun _ _ e => s _ _ e
theorem SpansAt.same {H H' : Hp} {t : Addr} {as : List Addr} {sps : List Spn} (s : Same H H') (h : SpansAt H t as sps) : SpansAt H' t as sps := h.keep fun _ _ e => s _ _ e
theorem SetAt.grow {p : Addr} {H H' : Hp} {a : Addr} {S : CSet} (hP : PotAt H p) (g : Grow p H H') (h : SetAt H a S) : SetAt H' a S := h.keep fun c xs e => g.keep c _ (fun z => by
  subst z
  obtain ⟨_, _, q, _⟩ := hP
  rw [q] at e
  cases e) e
def inSp (s : Spn) (n : Int) : Bool := s.1.all (fun l => decide (l ≤ n)) && s.2.all (fun h => decide (n ≤ h))
def hasV : CSet → V → Bool
  | .num sps, .int n => sps.any fun s => inSp s n
  | .num _, _ => false
  | .wrd b ws, .str x => decide (x ∈ ws) == b
  | .wrd _ _, _ => false
def relS (s s' : Spn) : Prop := ∃ h l, s.2 = some h ∧ s'.1 = some l ∧ h + 1 < l
def okSp (s : Spn) : Prop := (∀ l h, s.1 = some l → s.2 = some h → l ≤ h) ∧ ∀ n, s.1 = some n ∨ s.2 = some n → -(10 ^ 60) < n ∧ n < 10 ^ 60
def someSp : Spn → List Int
  | (none, none) => [0, 1]
  | (none, some h) => [h, h - 1]
  | (some l, hh) => if hh = some l then [l] else [l, l + 1]
def goW : Nat → Nat → List Nat → List Nat
  | 0, _, w => w
  | f + 1, l, w => if l = 0 then w else goW f ((l - 1) / 26) ((97 + (l - 1) % 26) :: w)
def wbn (n : Nat) : Str := ⟨(goW (n + 1) (n + 1) []).toArray⟩
def besides (ws : List Str) : List Str := ((List.range (ws.length + 2)).map wbn).filter fun x => !decide (x ∈ ws)
def someV : CSet → List V
  | .num sps => (sps.flatMap someSp).map V.int
  | .wrd true ws => ws.map V.str
  | .wrd false ws => (besides ws).map V.str
def manyGo : Int → List Spn → Int
  | acc, [] => acc
  | acc, (some l, some h) :: r => manyGo (acc + if h - l + 1 < 3 then h - l + 1 else 3) r
  | _, _ :: _ => 3
def manyS : CSet → Int
  | .num sps => manyGo 0 sps
  | .wrd b ws => if b = true then ws.length else 3
def okCellOf : CSet → V → Prop
  | .num _, v => ∃ n, v = .int n
  | .wrd _ _, v => ∃ x, v = .str x ∧ isW x
/-! ### what is reckoned -/
theorem ltS_irrefl {x : Str} (h : ltS x x) : False := List.lt_irrefl _ h
theorem nodup_of {ws : List Str} (h : ws.Pairwise ltS) : ws.Nodup := h.imp fun hl e => by subst e; exact ltS_irrefl hl
structure GoodS (S : CSet) : Prop where
  mem : ∀ x ∈ someV S, hasV S x = true ∧ okCellOf S x
  tri : (manyS S = 0 ∧ someV S = [] ∧ ∀ v, hasV S v = false) ∨ (manyS S = 1 ∧ ∃ c, someV S = [c] ∧ ∀ v, hasV S v = true → v = c) ∨ (2 ≤ manyS S ∧ ∃ x ∈ someV S, ∃ y ∈ someV S, x ≠ y)
end CS

set_option maxHeartbeats 4000000
namespace L2
open PySem
mutual
/-- data without lists: what the pot's draws leave as it is -/
def noL : D → Bool
  | .tup ds => noLs ds
  | .lst _ => false
  | _ => true
def noLs : List D → Bool
  | [] => true
  | d :: ds => noL d && noLs ds
end
mutual
theorem DAt.keepT {K : PySem.W.Frag} {H H' : Hp} (k : ∀ a xs, SqT K H a xs → SqT K H' a xs) : ∀ {d : D} {v : V}, noL d = true → DAt K H d v → DAt K H' d v
  | .int _, v, _, h => by rw [DAt] at h ⊢; exact h
  | .str _, v, _, h => by rw [DAt] at h ⊢; exact h
  | .non, v, _, h => by rw [DAt] at h ⊢; exact h
  | .bl _, v, _, h => by rw [DAt] at h ⊢; exact h
  | .tup ds, v, n, h => by
    rw [DAt] at h ⊢
    obtain ⟨a, vs, e, h1, h2⟩ := h
    exact ⟨a, vs, e, k a vs h1, DsAt.keepT k (by simpa [noL] using n) h2⟩
  | .lst ds, v, n, h => by simp [noL] at n
theorem DsAt.keepT {K : PySem.W.Frag} {H H' : Hp} (k : ∀ a xs, SqT K H a xs → SqT K H' a xs) : ∀ {ds : List D} {vs : List V}, noLs ds = true → DsAt K H ds vs → DsAt K H' ds vs
  | [], vs, _, h => by rw [DsAt] at h ⊢; exact h
  | d :: ds, vs, n, h => by
    rw [noLs, Bool.and_eq_true] at n
    rw [DsAt] at h ⊢
    obtain ⟨v, r, e, h1, h2⟩ := h
    exact ⟨v, r, e, DAt.keepT k n.1 h1, DsAt.keepT k n.2 h2⟩
end
theorem Grow.seqT {K : PySem.W.Frag} {p a : Addr} {H H1 : Hp} {xs : List V} (hP : PotAt H p) (g : Grow p H H1) (h : SqT K H a xs) : SqT K H1 a xs := by
  obtain ⟨x, y, e, _⟩ := hP
  rcases h with (h | ⟨o, h⟩) | h
  · exact .inl (.inl (g.keep _ _ (fun z => by rw [z, e] at h; cases h) h))
  · exact .inl (.inr ⟨o, g.keep _ _ (fun z => by rw [z, e] at h; cases h) h⟩)
  · exact .inr h
theorem DAt.grow {K : PySem.W.Frag} {p : Addr} {H H1 : Hp} {d : D} {v : V} (hP : PotAt H p) (g : Grow p H H1) (n : noL d = true) (h : DAt K H d v) : DAt K H1 d v := h.keepT (fun _ _ q => g.seqT hP q) n
theorem DsAt.grow {K : PySem.W.Frag} {p : Addr} {H H1 : Hp} {d : List D} {v : List V} (hP : PotAt H p) (g : Grow p H H1) (n : noLs d = true) (h : DsAt K H d v) : DsAt K H1 d v := h.keepT (fun _ _ q => g.seqT hP q) n
theorem noLs_all {ds : List D} : noLs ds = true ↔ ∀ d ∈ ds, noL d = true := by
  induction ds with
  | nil => simp [noLs]
  | cons d ds ih => rw [noLs, Bool.and_eq_true, ih]; simp
end L2
namespace My
open PySem L2 CT CS
abbrev sASort : Stmt := top 11
abbrev sCell' : Stmt := top 12
abbrev sSet : Stmt := top 13
abbrev sColumn : Stmt := top 14
abbrev sColumns : Stmt := top 15
abbrev sPairs : Stmt := top 16
abbrev sState : Stmt := top 17
abbrev sMoves : Stmt := top 18
abbrev sOrder : Stmt := top 19
abbrev sOneRow : Stmt := top 20
abbrev sOther : Stmt := top 21
abbrev sJoining : Stmt := top 22
abbrev sWorker : Stmt := top 23
abbrev sPipe : Stmt := top 24
abbrev sMany : Stmt := top 25
abbrev sDrawn : Stmt := top 26
abbrev sLPlaces : Stmt := top 27
abbrev sLaw : Stmt := top 28
abbrev sBranches : Stmt := top 2
abbrev sPlaces : Stmt := top 4
theorem scASort : FnScope ["_law_pot_here", "_law_sort"] ["_law_pot_here", "_law_sort"] (defScope sASort) := ⟨rfl, rfl, rfl, by decide +kernel, rfl, by decide +kernel, by decide +kernel⟩
theorem scCell' : FnScope ["_law_pot_here", "_law_sort"] ["_law_pot_here", "_law_sort"] (defScope sCell') := ⟨rfl, rfl, rfl, by decide +kernel, rfl, by decide +kernel, by decide +kernel⟩
theorem scSet : FnScope ["_law_pot_here", "_law_sort", "_law_low", "_law_some"] ["_law_pot_here", "_law_sort"] (defScope sSet) := ⟨rfl, rfl, rfl, by decide +kernel, rfl, by decide +kernel, by decide +kernel⟩
theorem scColumn : FnScope ["_law_pot_here", "_law_head"] ["_law_pot_here", "_law_head"] (defScope sColumn) := ⟨rfl, rfl, rfl, by decide +kernel, rfl, by decide +kernel, by decide +kernel⟩
theorem scColumns : FnScope ["_law_pot_here", "_law_head", "_law_many_here"] ["_law_pot_here", "_law_head", "_law_many_here"] (defScope sColumns) := ⟨rfl, rfl, rfl, by decide +kernel, rfl, by decide +kernel, by decide +kernel⟩
theorem scState : FnScope ["_law_pot_here"] ["_law_pot_here"] (defScope sState) := ⟨rfl, rfl, rfl, by decide +kernel, rfl, by decide +kernel, by decide +kernel⟩
structure Blt2 (mg : Str → Option Value) : Prop where
  int : mg "int" = none
  min : mg "min" = none
  all : mg "all" = none
  sorted : mg "sorted" = none
  set : mg "set" = none
def isCl (v : V) : Prop := (∃ n, v = .int n) ∨ ∃ x, v = .str x
/-- a head: the sorts of the columns -/
structure HeadAt (K : PySem.W.Frag) (H : Hp) (a : Addr) (hs : List Str) : Prop where
  tup : H a = some (.tup (hs.map V.str))
  pos : 1 ≤ hs.length
  few : hs.length ≤ 6
theorem HeadAt.grow {K : PySem.W.Frag} {p a : Addr} {H H1 : Hp} {hs : List Str} (hP : PotAt H p) (g : Grow p H H1) (h : HeadAt K H a hs) : HeadAt K H1 a hs :=
  ⟨g.keep _ _ (fun z => by obtain ⟨x, y, e, _⟩ := hP; have := h.tup; rw [z, e] at this; cases this) h.tup, h.pos, h.few⟩
def spASort : Sp := fun vs H Q _ => ∃ (p : Addr) (s : Str), vs = [.ref p, .str s] ∧ PotAt H p ∧ ∀ x H', Grow p H H' → Q (.str x) H'
def spCell' : Sp := fun vs H Q _ => ∃ (p : Addr) (s : Str), vs = [.ref p, .str s] ∧ PotAt H p ∧ ∀ v H', Grow p H H' → isCl v → Q v H'
def spColumn (K : PySem.W.Frag) : Sp := fun vs H Q _ => ∃ (p a : Addr) (hs : List Str), vs = [.ref p, .ref a] ∧ PotAt H p ∧ HeadAt K H a hs ∧ ∀ (n : Int) H', Grow p H H' → 1 ≤ n → n ≤ 12 → Q (.int n) H'
def spColumns (K : PySem.W.Frag) : Sp := fun vs H Q _ => ∃ (p a : Addr) (hs : List Str) (m : Int), vs = [.ref p, .ref a, .int m] ∧ PotAt H p ∧ HeadAt K H a hs ∧ 0 ≤ m ∧ m ≤ 10 ∧ ∀ t (ns : List Int) H', Grow p H H' → H' t = some (.tup (ns.map V.int)) → Q (.ref t) H'
def spState : Sp := fun vs H Q _ => ∃ (p : Addr), vs = [.ref p] ∧ PotAt H p ∧ ∀ x H', Grow p H H' → Q (.str x) H'
theorem log_small {m : Int} (h0 : 0 < m) (h1 : m ≤ 1000) : m.natAbs.log2 < 9000 := Nat.lt_of_le_of_lt (Nat.log2_le_self _) (by omega)
theorem p62a {j : Int} (h : 0 ≤ j) (h1 : j ≤ 1000) : -(2 ^ 62) ≤ j ∧ j < 2 ^ 62 := by
  have e : ((2 : Int) ^ 62) = 4611686018427387904 := by decide
  rw [e]; omega
section
variable {P : Program} {w : World} {K : PySem.W.Frag} {mg : Str → Option Value} {base : Heap} {f g1 g2 g3 : Addr} {fd d1 d2 d3 : FuncData}
theorem ok_asort (B2 : Blt2 mg) (F : Fun K "_law_a_sort" "_law_a_sort" sASort f fd) (G : FnOk P w K mg base CX0 1 g1 d1 ["_law_pot_here", "_law_many_here"] spDraw) (bG : Binds K d1 ["_law_pot_here", "_law_many_here"] []) (kG : PySem.W.keepIn K (.ref g1) = true) (mG : mg "_law_draw" = some (.ref g1)) :
    FnOk P w K mg base CX0 2 f fd ["_law_pot_here", "_law_sort"] spASort := by
  refine F.ok scASort (fun vs H Q E h => ?_) (fun cdv A outer s H vs Q E hr h => ?_)
  · obtain ⟨p, x, rfl, _⟩ := h
    rfl
  obtain ⟨p, x, rfl, hP, q⟩ := h
  refine ⟨_, pss_cons (ps_if (pt_cmpR op_eq (pe_call G hr rfl mG kG bG .nil pass0 (pa_cons (pv 0) (pa_cons pe_int pa_nil))) pe_int (nomark _)) (pss_one (ps_ret (pe_ix (r := rIxL K) ix_list (pe_lst (pa_cons pe_str (pa_cons pe_str pa_nil))) (pe_call G hr rfl mG kG bG .nil pass0 (pa_cons (pv 0) (pa_cons pe_int pa_nil))) (fun _ _ => rfl)))) pss_nil)
    (pss_one (ps_ret (pe_ix (r := rIxL K) ix_list (pe_lst (pa_cons pe_str (pa_cons (pv 1) pa_nil))) (pe_callTy call_int1 rfl B2.int PyProof.Rows.boot_int (pa_cons (pe_cmpR op_ne (pv 1) pe_str (nomark _)) pa_nil)) (fun _ _ => rfl)))), ?_⟩
  refine ⟨_, rfl, p, _, rfl, hP, by decide, by decide, fun e1 H1 g1 a1 b1 => ⟨rfl, _, rfl, ?_⟩⟩
  refine ite2 (fun _ => ?_) (fun _ => ?_)
  · refine ⟨(by show 2 ≤ sizeLine; decide), fun D hD => ?_⟩
    have g2 := g1.new (o := .lst [.str "n", .str "w"]) hD
    refine ⟨_, rfl, p, _, rfl, g2.pot, by decide, by decide, fun e2 H2 g3 a2 b2 => ?_⟩
    have hd : e2 = 0 ∨ e2 = 1 := by omega
    have hk := g3.keep D _ (g1.ne hD) upd_same
    rcases hd with z | z <;> subst z
    · exact ⟨D, _, _, _, rfl, rfl, SqL.of hk, rfl, q _ _ (g2.trans g3)⟩
    · exact ⟨D, _, _, _, rfl, rfl, SqL.of hk, rfl, q _ _ (g2.trans g3)⟩
  · refine ⟨_, rfl, (by show 2 ≤ sizeLine; decide), fun D hD => ?_⟩
    have g2 := g1.new (o := .lst [.str "n", .str x]) hD
    refine ⟨_, rfl, rfl, .inr ⟨_, rfl, ?_⟩⟩
    have pickv : ∃ z : Str, atI [V.str "n", V.str x] (if (!decide (V.str x = V.str "t")) = true then 1 else 0) = some (.str z) := by
      cases (!decide (V.str x = V.str "t"))
      · exact ⟨_, rfl⟩
      · exact ⟨_, rfl⟩
    obtain ⟨z, hz⟩ := pickv
    exact ⟨D, _, _, _, rfl, rfl, SqL.of upd_same, hz, q z _ g2⟩
theorem ok_cell' (F : Fun K "_law_cell" "_law_cell" sCell' f fd) (G : FnOk P w K mg base CX0 2 g1 d1 ["_law_pot_here", "_law_sort"] spASort) (bG : Binds K d1 ["_law_pot_here", "_law_sort"] []) (kG : PySem.W.keepIn K (.ref g1) = true) (mG : mg "_law_a_sort" = some (.ref g1))
    (G3 : FnOk P w K mg base CX0 2 g3 d3 ["_law_pot_here"] spWord) (b3 : Binds K d3 ["_law_pot_here"] []) (k3 : PySem.W.keepIn K (.ref g3) = true) (m3 : mg "_law_word" = some (.ref g3))
    (G2 : FnOk P w K mg base CX0 2 g2 d2 ["_law_pot_here"] spNumber) (b2 : Binds K d2 ["_law_pot_here"] []) (k2 : PySem.W.keepIn K (.ref g2) = true) (m2 : mg "_law_number" = some (.ref g2)) :
    FnOk P w K mg base CX0 3 f fd ["_law_pot_here", "_law_sort"] spCell' := by
  refine F.ok scCell' (fun vs H Q E h => ?_) (fun cdv A outer s H vs Q E hr h => ?_)
  · obtain ⟨p, x, rfl, _⟩ := h
    rfl
  obtain ⟨p, x, rfl, hP, q⟩ := h
  refine ⟨_, pss_cons (ps_if (pt_cmpR op_eq (pe_call G hr rfl mG kG bG .nil pass0 (pa_cons (pv 0) (pa_cons (pv 1) pa_nil))) pe_str (nomark _)) (pss_one (ps_ret (pe_call G3 hr rfl m3 k3 b3 .nil pass0 (pa_cons (pv 0) pa_nil)))) pss_nil)
    (pss_one (ps_ret (pe_call G2 hr rfl m2 k2 b2 .nil pass0 (pa_cons (pv 0) pa_nil)))), ?_⟩
  refine ⟨_, rfl, _, rfl, p, x, rfl, hP, fun y H1 g1 => ⟨rfl, _, rfl, ?_⟩⟩
  refine ite2 (fun _ => ?_) (fun _ => ?_)
  · exact ⟨_, rfl, p, rfl, g1.pot, fun z H2 g2 n1 => q _ _ (g1.trans g2) (.inr ⟨z, rfl⟩)⟩
  · exact ⟨_, rfl, p, rfl, g1.pot, fun n H2 g2 n1 n2 => q _ _ (g1.trans g2) (.inl ⟨n, rfl⟩)⟩
theorem ok_column (B : Blt mg) (F : Fun K "_law_column" "_law_column" sColumn f fd) (G : FnOk P w K mg base CX0 1 g1 d1 ["_law_pot_here", "_law_many_here"] spDraw) (bG : Binds K d1 ["_law_pot_here", "_law_many_here"] []) (kG : PySem.W.keepIn K (.ref g1) = true) (mG : mg "_law_draw" = some (.ref g1)) :
    FnOk P w K mg base CX0 2 f fd ["_law_pot_here", "_law_head"] (spColumn K) := by
  refine F.ok scColumn (fun vs H Q E h => ?_) (fun cdv A outer s H vs Q E hr h => ?_)
  · obtain ⟨p, a, hs, rfl, _⟩ := h
    rfl
  obtain ⟨p, a, hs, rfl, hP, hh, q⟩ := h
  refine ⟨_, pss_cons (ps_if (pt_cmpR op_eq (pe_call G hr rfl mG kG bG .nil pass0 (pa_cons (pv 0) (pa_cons pe_int pa_nil))) pe_int (nomark _)) (pss_one (ps_ret (pe_op op_add pe_int (pe_call G hr rfl mG kG bG .nil pass0 (pa_cons (pv 0) (pa_cons pe_int pa_nil)))))) pss_nil)
    (pss_one (ps_ret (pe_op op_add pe_int (pe_call G hr rfl mG kG bG .nil pass0 (pa_cons (pv 0) (pa_cons (pe_callB call_len_seq rfl B.len PySem.boot_len (pa_cons (pv 1) pa_nil)) pa_nil)))))), ?_⟩
  refine ⟨_, rfl, p, _, rfl, hP, by decide, by decide, fun e1 H1 g1 a1 b1 => ⟨rfl, _, rfl, ?_⟩⟩
  refine ite2 (fun _ => ?_) (fun _ => ?_)
  · exact ⟨_, rfl, p, _, rfl, g1.pot, by decide, by decide, fun e2 H2 g2 a2 b2 => ⟨_, _, rfl, rfl, q _ _ (g1.trans g2) (by omega) (by omega)⟩⟩
  · have h1 := hh.grow hP g1
    have hl : (hs.map V.str).length = hs.length := List.length_map _
    have := hh.pos
    have := hh.few
    exact ⟨_, rfl, _, rfl, a, _, rfl, .inr (SqT.of h1.tup), p, _, rfl, g1.pot, by omega, log_small (by omega) (by omega), fun e2 H2 g2 a2 b2 => ⟨_, _, rfl, rfl, q _ _ (g1.trans g2) (by omega) (by omega)⟩⟩
theorem ok_columns (B : Blt mg) (F : Fun K "_law_columns" "_law_columns" sColumns f fd) (G : FnOk P w K mg base CX0 2 g1 d1 ["_law_pot_here", "_law_head"] (spColumn K)) (bG : Binds K d1 ["_law_pot_here", "_law_head"] []) (kG : PySem.W.keepIn K (.ref g1) = true) (mG : mg "_law_column" = some (.ref g1)) :
    FnOk P w K mg base CX0 3 f fd ["_law_pot_here", "_law_head", "_law_many_here"] (spColumns K) := by
  refine F.ok scColumns (fun vs H Q E h => ?_) (fun cdv A outer s H vs Q E hr h => ?_)
  · obtain ⟨p, a, hs, m, rfl, _⟩ := h
    rfl
  obtain ⟨p, a, hs, m, rfl, hP, hh, m0, m1, q⟩ := h
  refine ⟨_, pss_one (ps_ret (pe_callTy call_tuple_of rfl B.tuple PyProof.Rows.boot_tuple (pa_cons (pe_lcomp (N' := ["_law_k", "_law_pot_here", "_law_head"]) (src := [none, some 0, some 1]) rfl (CompSc.ofB (by kernel_rfl)) (pi_range1 rfl B.range (pa_cons (pv 2) pa_nil)) (fun cl C s H fp => pgl (i := 0)) (fun cl C s H fp => pifs_nil)
      (fun cl C s H fp => pe_call G hr glc mG kG bG .nil pass0 (pa_cons (pvf 1) (pa_cons (pvf 2) pa_nil)))) pa_nil))), ?_⟩
  have g0 := Grow.refl hP
  refine ⟨_, rfl, m, rfl, (p62a m0 (by omega)).1, (p62a m0 (by omega)).2, fun D hD => ?_⟩
  have nD := g0.ne hD
  refine comp_range (n := m.toNat) (fun i σ ys H' => (∃ o, σ = [o, some (.ref p), some (.ref a)]) ∧ (∃ ns : List Int, ys = ns.map V.int ∧ ns.length = i) ∧ H' D = some (.lst ys) ∧ Grow p H H')
    ⟨⟨none, rfl⟩, ⟨[], rfl, rfl⟩, upd_same, g0.new hD⟩ ?_ ?_ ?_ ?_
  · rintro i σ ys H' _ ⟨_, ⟨ns, rfl, rfl⟩, h, _⟩
    exact ⟨h, by rw [List.length_map]; exact Nat.le_refl _⟩
  · exact Nat.le_trans (show m.toNat ≤ 10 by omega) (by decide)
  · rintro i σ ys H' hi ⟨⟨o, rfl⟩, ⟨ns, rfl, rfl⟩, h, g⟩
    exact ⟨_, rfl, _, rfl, p, a, hs, rfl, g.pot, hh.grow hP g, fun n H2 g2 n1 n2 => ⟨g2.keep D _ nD h, ⟨_, rfl⟩, ⟨ns ++ [n], by rw [List.map_append]; rfl, by rw [List.length_append]; rfl⟩, upd_same, g0.put hD nD (g.trans g2)⟩⟩
  · rintro σ ys H' ⟨_, ⟨ns, rfl, _⟩, h, g⟩
    exact ⟨D, _, rfl, .inl ⟨SqL.of h, fun t ht => q t ns _ (g.new ht) upd_same⟩⟩
theorem ok_state (F : Fun K "_law_state" "_law_state" sState f fd) (G : FnOk P w K mg base CX0 2 g1 d1 ["_law_pot_here", "_law_many_here"] spDraw) (bG : Binds K d1 ["_law_pot_here", "_law_many_here"] []) (kG : PySem.W.keepIn K (.ref g1) = true) (mG : mg "_law_draw" = some (.ref g1))
    (G3 : FnOk P w K mg base CX0 2 g3 d3 ["_law_pot_here"] spWord) (b3 : Binds K d3 ["_law_pot_here"] []) (k3 : PySem.W.keepIn K (.ref g3) = true) (m3 : mg "_law_word" = some (.ref g3)) :
    FnOk P w K mg base CX0 3 f fd ["_law_pot_here"] spState := by
  refine F.ok scState (fun vs H Q E h => ?_) (fun cdv A outer s H vs Q E hr h => ?_)
  · obtain ⟨p, rfl, _⟩ := h
    rfl
  obtain ⟨p, rfl, hP, q⟩ := h
  refine ⟨_, pss_cons (ps_if (pt_cmpR op_eq (pe_call G hr rfl mG kG bG .nil pass0 (pa_cons (pv 0) (pa_cons pe_int pa_nil))) pe_int (nomark _)) (pss_one (ps_ret (pe_call G3 hr rfl m3 k3 b3 .nil pass0 (pa_cons (pv 0) pa_nil)))) pss_nil)
    (pss_one (ps_ret (pe_ix (r := rIxL K) ix_list (pe_lst (pa_cons pe_str (pa_cons pe_str (pa_cons pe_str pa_nil)))) (pe_call G hr rfl mG kG bG .nil pass0 (pa_cons (pv 0) (pa_cons pe_int pa_nil))) (fun _ _ => rfl)))), ?_⟩
  refine ⟨_, rfl, p, _, rfl, hP, by decide, by decide, fun e1 H1 g1 a1 b1 => ⟨rfl, _, rfl, ?_⟩⟩
  refine ite2 (fun _ => ?_) (fun _ => ?_)
  · exact ⟨_, rfl, p, rfl, g1.pot, fun z H2 g2 n1 => q _ _ (g1.trans g2)⟩
  · refine ⟨(by show 3 ≤ sizeLine; decide), fun D hD => ?_⟩
    have g2 := g1.new (o := .lst [.str "s", .str "t", .str "u"]) hD
    refine ⟨_, rfl, p, _, rfl, g2.pot, by decide, by decide, fun e2 H2 g3 a2 b2 => ?_⟩
    have hd : e2 = 0 ∨ e2 = 1 ∨ e2 = 2 := by omega
    have hk := g3.keep D _ (g1.ne hD) upd_same
    rcases hd with z | z | z <;> subst z
    · exact ⟨D, _, _, _, rfl, rfl, SqL.of hk, rfl, q _ _ (g2.trans g3)⟩
    · exact ⟨D, _, _, _, rfl, rfl, SqL.of hk, rfl, q _ _ (g2.trans g3)⟩
    · exact ⟨D, _, _, _, rfl, rfl, SqL.of hk, rfl, q _ _ (g2.trans g3)⟩
end
end My

set_option maxHeartbeats 4000000
namespace CS
open PySem L2
/-! ### spans being built -/
structure SpL (H : Hp) (l : Addr) (as : List Addr) (sps : List Spn) : Prop where
  lst : H l = some (.lst (as.map V.ref))
  len : as.length = sps.length
  at_ : ∀ (i : Nat) a s, as[i]? = some a → sps[i]? = some s → H a = some (.tup [eV s.1, eV s.2])
theorem pot_ne_tup {H : Hp} {p a : Addr} {xs : List V} (hP : PotAt H p) (e : H a = some (.tup xs)) : a ≠ p := fun z => by
  subst z
  obtain ⟨_, _, q, _⟩ := hP
  rw [q] at e
  cases e
theorem SpL.grow {p : Addr} {H H' : Hp} {l : Addr} {as : List Addr} {sps : List Spn} (hP : PotAt H p) (n : l ≠ p) (g : Grow p H H') (h : SpL H l as sps) : SpL H' l as sps :=
  ⟨g.keep _ _ n h.lst, h.len, fun i a s e1 e2 => g.keep _ _ (pot_ne_tup hP (h.at_ i a s e1 e2)) (h.at_ i a s e1 e2)⟩
theorem SpL.same {H H' : Hp} {l : Addr} {as : List Addr} {sps : List Spn} (s : Same H H') (h : SpL H l as sps) : SpL H' l as sps :=
  ⟨s _ _ h.lst, h.len, fun i a sp e1 e2 => s _ _ (h.at_ i a sp e1 e2)⟩
/-- the list is written anew -/
theorem SpL.put {H : Hp} {l : Addr} {as as2 : List Addr} {sps sps2 : List Spn} {old : List V} (h : H l = some (.lst old)) (hl : as2.length = sps2.length) (hat : ∀ (i : Nat) a s, as2[i]? = some a → sps2[i]? = some s → H a = some (.tup [eV s.1, eV s.2])) :
    SpL (upd H l (.lst (as2.map V.ref))) l as2 sps2 :=
  ⟨upd_same, hl, fun i a s e1 e2 => by rw [upd_ne (ne_of (hat i a s e1 e2) h (by intro z; cases z))]; exact hat i a s e1 e2⟩
/-! ### the spans that are built lie apart -/
/-- both ends are there, below all that is to come -/
def Bd (ms : List Int) (s : Spn) : Prop := ∃ l h, s = (some l, some h) ∧ l ≤ h ∧ (-(10 ^ 60) < l ∧ h < 10 ^ 60) ∧ ∀ m ∈ ms, h < m
structure GoodL (ms : List Int) (sps : List Spn) : Prop where
  pw : sps.Pairwise relS
  bd : ∀ s ∈ sps, Bd ms s
theorem GoodL.nil (ms : List Int) : GoodL ms [] := ⟨.nil, by simp⟩
/-- the spans are a set's -/
structure OkL (sps : List Spn) : Prop where
  pw : sps.Pairwise relS
  ok : ∀ s ∈ sps, okSp s
theorem GoodL.ok {ms : List Int} {sps : List Spn} (g : GoodL ms sps) : OkL sps := ⟨g.pw, fun s hs => by
  obtain ⟨l, h, rfl, h1, h2, _⟩ := g.bd s hs
  refine ⟨fun a b e1 e2 => ?_, fun n hn => ?_⟩
  · cases e1; cases e2; exact h1
  · rcases hn with e | e
    · cases e
      exact ⟨h2.1, by omega⟩
    · cases e
      exact ⟨by omega, h2.2⟩⟩
theorem OkL.first {s : Spn} {r : List Spn} (g : OkL (s :: r)) : OkL ((none, s.2) :: r) := by
  refine ⟨?_, fun s' hs => ?_⟩
  · have h := List.pairwise_cons.mp g.pw
    exact List.pairwise_cons.mpr ⟨fun b hb => h.1 b hb, h.2⟩
  · rcases List.mem_cons.mp hs with rfl | z
    · refine ⟨fun l h e _ => (by cases e), fun n hn => (g.ok s List.mem_cons_self).2 n ?_⟩
      rcases hn with e | e
      · cases e
      · exact .inr e
    · exact g.ok s' (List.mem_cons_of_mem _ z)
/-! ### sorted(set(..)) -/
theorem nodup_le {α : Type} [DecidableEq α] : ∀ {ms ns : List α}, ms.Nodup → (∀ m ∈ ms, m ∈ ns) → ms.length ≤ ns.length
  | [], _, _, _ => Nat.zero_le _
  | m :: ms, ns, nd, h => by
    have nd' := List.nodup_cons.mp nd
    have hm := h m List.mem_cons_self
    have ih := nodup_le (ms := ms) (ns := ns.erase m) nd'.2 fun x hx => (List.mem_erase_of_ne (fun e => nd'.1 (by rw [← e]; exact hx))).mpr (h x (List.mem_cons_of_mem _ hx))
    rw [List.length_erase_of_mem hm] at ih
    have : 0 < ns.length := List.length_pos_of_mem hm
    rw [List.length_cons]
    omega
theorem sorted_strs {ns : List Str} {ys : List V} (h : SortedOf (ns.map V.str) ys) : ∃ ms : List Str, ys = ms.map V.str ∧ ms.Pairwise ltS ∧ (∀ n ∈ ms, n ∈ ns) ∧ ms.length ≤ ns.length := by
  rcases h with ⟨ss, ms, e1, e2, h1, h2⟩ | ⟨ns', ms, e1, e2, h1, h2⟩
  · cases ns with
    | nil =>
      cases ss with
      | nil =>
        cases ms with
        | nil => exact ⟨[], e2, .nil, by simp, Nat.le_refl _⟩
        | cons m ms => exact absurd ((h2 m).mp List.mem_cons_self) (by simp)
      | cons s ss => cases e1
    | cons n ns =>
      cases ss with
      | nil => cases e1
      | cons s ss => simp at e1
  · have : ns = ns' := by
      have := congrArg (List.map fun v => match v with | V.str n => n | _ => "") e1
      simpa [List.map_map, Function.comp_def] using this
    subst this
    exact ⟨ms, e2, h1, fun n hn => (h2 n).mp hn, nodup_le (nodup_of h1) fun n hn => (h2 n).mp hn⟩
end CS

set_option maxHeartbeats 4000000
namespace My
open PySem L2 CT CS
theorem gName_go {i : Nat} {v : V} {σ : St} {H : Hp} {k : St → Hp → Prop} (h : k (σ.set i (some v)) H) : gName i v σ H k := h
def spSet (K : PySem.W.Frag) : Sp := fun vs H Q _ => ∃ (p : Addr) (s : Str), vs = [.ref p, .str s] ∧ PotAt H p ∧ ∀ v d H', Grow p H H' → DAt K H' d v → noL d = true → Q v H'
theorem noLs_map {α : Type} {f : α → D} (h : ∀ a, noL (f a) = true) : ∀ l : List α, noLs (l.map f) = true
  | [] => rfl
  | a :: l => by rw [List.map_cons, noLs, h a, noLs_map h l]; rfl
theorem dsat_strs {K : PySem.W.Frag} {H : Hp} : ∀ ws : List Str, DsAt K H (ws.map D.str) (ws.map V.str)
  | [] => DsAt.nil
  | w :: ws => DsAt.cons (dat_str w) (dsat_strs ws)
theorem dsat_ints {K : PySem.W.Frag} {H : Hp} : ∀ ws : List Int, DsAt K H (ws.map D.int) (ws.map V.int)
  | [] => DsAt.nil
  | w :: ws => DsAt.cons (dat_int w) (dsat_ints ws)
/-- an end of a span -/
theorem dat_pair {K : PySem.W.Frag} {H : Hp} {t t2 : Addr} {x y : V} {dx dy : D} (hx : DAt K H dx x) (hy : DAt K H dy y) (h1 : H t = some (.tup [x, y])) (h2 : H t2 = some (.tup [.ref t])) : DAt K H (.tup [.tup [dx, dy]]) (.ref t2) :=
  dat_tup h2 (DsAt.cons (dat_tup h1 (DsAt.cons hx (DsAt.cons hy DsAt.nil))) DsAt.nil)
section
variable {P : Program} {w : World} {K : PySem.W.Frag} {mg : Str → Option Value} {base : Heap} {f g1 g2 g3 g4 : Addr} {fd d1 d2 d3 d4 : FuncData}
theorem ok_set (B : Blt mg) (B2 : Blt2 mg) (F : Fun K "_law_set" "_law_set" sSet f fd) (GA : FnOk P w K mg base CX0 2 g4 d4 ["_law_pot_here", "_law_sort"] spASort) (bA : Binds K d4 ["_law_pot_here", "_law_sort"] []) (kA : PySem.W.keepIn K (.ref g4) = true) (mA : mg "_law_a_sort" = some (.ref g4))
    (G : FnOk P w K mg base CX0 2 g1 d1 ["_law_pot_here", "_law_many_here"] spDraw) (bG : Binds K d1 ["_law_pot_here", "_law_many_here"] []) (kG : PySem.W.keepIn K (.ref g1) = true) (mG : mg "_law_draw" = some (.ref g1))
    (G3 : FnOk P w K mg base CX0 2 g3 d3 ["_law_pot_here"] spWord) (b3 : Binds K d3 ["_law_pot_here"] []) (k3 : PySem.W.keepIn K (.ref g3) = true) (m3 : mg "_law_word" = some (.ref g3))
    (G2 : FnOk P w K mg base CX0 2 g2 d2 ["_law_pot_here"] spNumber) (b2 : Binds K d2 ["_law_pot_here"] []) (k2 : PySem.W.keepIn K (.ref g2) = true) (m2 : mg "_law_number" = some (.ref g2)) :
    FnOk P w K mg base CX0 3 f fd ["_law_pot_here", "_law_sort"] (spSet K) := by
  refine F.ok scSet (fun vs H Q E h => ?_) (fun cdv A outer s H vs Q E hr h => ?_)
  · obtain ⟨p, x, rfl, _⟩ := h
    rfl
  obtain ⟨p, x, rfl, hP, q⟩ := h
  refine ⟨_, pss_cons (ps_if (pt_cmpR op_eq (pe_call GA hr rfl mA kA bA .nil pass0 (pa_cons (pv 0) (pa_cons (pv 1) pa_nil))) pe_str (nomark _))
      (pss_one (ps_ret (pe_tup (pa_cons pe_str (pa_cons (pe_cmpR op_eq (pe_call G hr rfl mG kG bG .nil pass0 (pa_cons (pv 0) (pa_cons pe_int pa_nil))) pe_int (nomark _)) (pa_cons (pe_callTy call_tuple_of rfl B.tuple PyProof.Rows.boot_tuple (pa_cons (pe_sortset rfl rfl B2.sorted rfl B2.set
        (pe_lcomp (N' := ["_law_k", "_law_pot_here"]) (src := [none, some 0]) rfl (CompSc.ofB (by kernel_rfl)) (pi_range1 rfl B.range (pa_cons (pe_call G hr rfl mG kG bG .nil pass0 (pa_cons (pv 0) (pa_cons pe_int pa_nil))) pa_nil)) (fun cl C s H fp => pgl (i := 0)) (fun cl C s H fp => pifs_nil)
          (fun cl C s H fp => pe_call G3 hr glc m3 k3 b3 .nil pass0 (pa_cons (pvf 1) pa_nil)))) pa_nil)) pa_nil)))))) pss_nil)
    (pss_cons (ps_set (i := 2) scSet.nd rfl (Or.inl rfl) (pe_callB (call_min2 rfl) rfl B2.min PyProof.Rows.boot_min (pa_cons (pe_call G2 hr rfl m2 k2 b2 .nil pass0 (pa_cons (pv 0) pa_nil)) (pa_cons (pe_op op_sub (pe_op op_pow pe_int pe_int) pe_int) pa_nil))))
    (pss_cons (ps_set (i := 3) scSet.nd rfl (Or.inl rfl) (pe_lst (pa_cons (pe_tup pa_nil) (pa_cons (pe_tup (pa_cons (pe_tup (pa_cons pe_non (pa_cons pe_non pa_nil))) pa_nil)) (pa_cons (pe_tup (pa_cons (pe_tup (pa_cons (pv 2) (pa_cons (pe_op op_add (pv 2) (pe_call G hr rfl mG kG bG .nil pass0 (pa_cons (pv 0) (pa_cons pe_int pa_nil)))) pa_nil))) pa_nil))
        (pa_cons (pe_tup (pa_cons (pe_tup (pa_cons pe_non (pa_cons (pv 2) pa_nil))) pa_nil)) (pa_cons (pe_tup (pa_cons (pe_tup (pa_cons (pv 2) (pa_cons pe_non pa_nil))) pa_nil)) pa_nil)))))))
    (pss_one (ps_ret (pe_tup (pa_cons pe_str (pa_cons (pe_ix (r := rIxL K) ix_list (pe_op op_cat (pv 3) (pe_lst (pa_cons (pe_tup (pa_cons (pe_tup (pa_cons (pv 2) (pa_cons (pv 2) pa_nil))) (pa_cons (pe_tup (pa_cons (pe_op op_add (pv 2) pe_int) (pa_cons (pe_op op_add (pv 2) pe_int) pa_nil))) pa_nil))) pa_nil)))
        (pe_call G hr rfl mG kG bG .nil pass0 (pa_cons (pv 0) (pa_cons pe_int pa_nil))) (fun _ _ => rfl)) pa_nil))))))), ?_⟩
  refine ⟨_, rfl, _, rfl, p, x, rfl, hP, fun y H1 g1 => ⟨rfl, _, rfl, ?_⟩⟩
  refine ite2 (fun _ => ?_) (fun _ => ?_)
  · refine ⟨_, rfl, p, _, rfl, g1.pot, by decide, by decide, fun e2 H2 g2 a2 b2 => ⟨rfl, _, rfl, p, _, rfl, g2.pot, by decide, by decide, fun j H3 g3 j0 j1 => ?_⟩⟩
    have gg := (g1.trans g2).trans g3
    refine ⟨j, rfl, (p62a j0 (by omega)).1, (p62a j0 (by omega)).2, fun Dw hD => ?_⟩
    have nD : Dw ≠ p := gg.ne hD
    refine comp_range (n := j.toNat) (fun i σ ys H' => ∃ (o : Option V) (ns : List Str), σ = [o, some (.ref p)] ∧ ys = ns.map V.str ∧ ns.length = i ∧ H' Dw = some (.lst ys) ∧ Grow p H H')
      ⟨none, [], rfl, rfl, rfl, upd_same, gg.new hD⟩ ?_ ?_ ?_ ?_
    · rintro i σ ys H' _ ⟨o, ns, _, rfl, rfl, h, _⟩
      exact ⟨h, by rw [List.length_map]; exact Nat.le_refl _⟩
    · exact Nat.le_trans (show j.toNat ≤ 40 by omega) (by decide)
    · rintro i σ ys H' hi ⟨o, ns, rfl, rfl, rfl, h, g'⟩
      exact ⟨_, rfl, p, rfl, g'.pot, fun n H4 g4 n1 => ⟨g4.keep Dw _ nD h, some (.int (0 + (ns.length : Nat))), ns ++ [n], rfl, by rw [List.map_append]; rfl, by rw [List.length_append]; rfl, upd_same, gg.put hD nD (g'.trans g4)⟩⟩
    rintro σ0 ys0 H4 ⟨o0, ns, _, rfl, hns, hD4, g4⟩
    refine ⟨Dw, _, rfl, .inl (SqL.of hD4), by rw [List.length_map]; omega, .inr ⟨ns, rfl⟩, fun SA ys hSA hso => ?_⟩
    obtain ⟨ms, rfl, hms, hsub, hml⟩ := sorted_strs hso
    refine ⟨SA, _, rfl, .inl ⟨SqL.of upd_same, fun t ht => ⟨(by show 3 ≤ sizeLine; decide), fun a ha => ?_⟩⟩⟩
    have gf := ((g4.new (o := .lst (ms.map V.str)) hSA).new (o := .tup (ms.map V.str)) ht).new (o := .tup [.str "w", .bl (decide (V.int e2 = V.int 0)), .ref t]) ha
    exact q _ (.tup [.str "w", .bl (decide (V.int e2 = V.int 0)), .tup (ms.map D.str)]) _ gf (dat_tup upd_same (DsAt.cons (dat_str _) (DsAt.cons (dat_bl _) (DsAt.cons (dat_tup (same_new ha _ _ _ upd_same) (dsat_strs ms)) DsAt.nil)))) (by simp only [noL, noLs, Bool.true_and, Bool.and_true]; exact noLs_map (fun _ => by simp [noL]) ms)
  · refine ⟨_, rfl, p, rfl, g1.pot, fun n H2 g2 n1 n2 => ⟨_, _, rfl, rfl, ⟨by decide, by decide, by decide⟩, _, _, rfl, rfl, _, _, rfl, ?_⟩⟩
    have gg := g1.trans g2
    generalize (if _ < n then _ else n : Int) = low
    refine ⟨Nat.zero_le _, fun t0 h0 => ⟨(by show 2 ≤ sizeLine; decide), fun t1 h1 => ⟨(by show 1 ≤ sizeLine; decide), fun t2 h2 => ?_⟩⟩⟩
    have k0 := gg.new (o := .tup []) h0
    have k1 := k0.new (o := .tup [.non, .non]) h1
    have k2 := k1.new (o := .tup [.ref t1]) h2
    refine ⟨_, rfl, _, rfl, _, rfl, p, _, rfl, k2.pot, by decide, by decide, fun e3 H3 g3 a3 b3 => ?_⟩
    have k3 := k2.trans g3
    refine ⟨_, _, rfl, rfl, (by show 2 ≤ sizeLine; decide), fun t3 h3 => ⟨(by show 1 ≤ sizeLine; decide), fun t4 h4 => ?_⟩⟩
    refine ⟨_, rfl, (by show 2 ≤ sizeLine; decide), fun t5 h5 => ⟨(by show 1 ≤ sizeLine; decide), fun t6 h6 => ?_⟩⟩
    refine ⟨_, rfl, (by show 2 ≤ sizeLine; decide), fun t7 h7 => ⟨(by show 1 ≤ sizeLine; decide), fun t8 h8 => ?_⟩⟩
    refine ⟨(by show 5 ≤ sizeLine; decide), fun L hL => ?_⟩
    have k5 := k3.new (o := .tup [.int low, .int (low + e3)]) h3
    have k6 := k5.new (o := .tup [.ref t3]) h4
    have k7 := k6.new (o := .tup [.non, .int low]) h5
    have k8 := k7.new (o := .tup [.ref t5]) h6
    have k9 := k8.new (o := .tup [.int low, .non]) h7
    have k10 := k9.new (o := .tup [.ref t7]) h8
    have k11 := k10.new (o := .lst [.ref t0, .ref t2, .ref t4, .ref t6, .ref t8]) hL
    have nL := k10.ne hL
    refine gName_go ?_
    dsimp only
    refine ⟨_, rfl, _, rfl, _, rfl, (by show 2 ≤ sizeLine; decide), fun t9 h9 => ?_⟩
    refine ⟨_, rfl, _, _, rfl, rfl, _, rfl, _, _, rfl, rfl, (by show 2 ≤ sizeLine; decide), fun t10 h10 => ⟨(by show 2 ≤ sizeLine; decide), fun t11 h11 => ⟨(by show 1 ≤ sizeLine; decide), fun L2 hL2 => ?_⟩⟩⟩
    have k12 := k11.new (o := .tup [.int low, .int low]) h9
    have k13 := k12.new (o := .tup [.int (low + 2), .int (low + 5)]) h10
    have k14 := k13.new (o := .tup [.ref t9, .ref t10]) h11
    have k15 := k14.new (o := .lst [.ref t11]) hL2
    have s12 := (same_new h9 (.tup [.int low, .int low])).trans ((same_new h10 (.tup [.int (low + 2), .int (low + 5)])).trans ((same_new h11 (.tup [.ref t9, .ref t10])).trans (same_new hL2 (.lst [.ref t11]))))
    refine ⟨L, L2, _, _, rfl, rfl, s12 _ _ upd_same, upd_same, (by show 6 ≤ sizeLine; decide), fun L3 hL3 => ?_⟩
    have k16 := k15.new (o := .lst ([.ref t0, .ref t2, .ref t4, .ref t6, .ref t8] ++ [.ref t11])) hL3
    have c11 := same_new hL3 (.lst ([.ref t0, .ref t2, .ref t4, .ref t6, .ref t8] ++ [.ref t11]))
    have c10 := (same_new hL2 (.lst [.ref t11])).trans c11
    have c9 := (same_new h11 (.tup [.ref t9, .ref t10])).trans c10
    have c8 := (same_new h10 (.tup [.int (low + 2), .int (low + 5)])).trans c9
    have c7 := (same_new h9 (.tup [.int low, .int low])).trans c8
    have c6 := (same_new hL (.lst [.ref t0, .ref t2, .ref t4, .ref t6, .ref t8])).trans c7
    have c5 := (same_new h8 (.tup [.ref t7])).trans c6
    have c4 := (same_new h7 (.tup [.int low, .non])).trans c5
    have c3 := (same_new h6 (.tup [.ref t5])).trans c4
    have c2 := (same_new h5 (.tup [.non, .int low])).trans c3
    have c1 := (same_new h4 (.tup [.ref t3])).trans c2
    have c0 := (same_new h3 (.tup [.int low, .int (low + e3)])).trans c1
    have d0 := same_new h1 (.tup [.non, .non])
    have d1 := d0.trans (same_new h2 (.tup [.ref t1]))
    have np : ∀ {X Y : Hp} {a : Addr} {xs : List V}, PotAt X p → Grow p X Y → X a = some (.tup xs) → Y a = some (.tup xs) := fun {X Y a xs} hp g e => g.keep _ _ (fun z => by obtain ⟨x, y, e2, _⟩ := hp; rw [z, e2] at e; cases e) e
    have e0 := c0 _ _ (np k2.pot g3 (d1 _ _ upd_same))
    have e1 := c0 _ _ (np k2.pot g3 ((same_new h2 (.tup [.ref t1])) _ _ upd_same))
    have e2 := c0 _ _ (np k2.pot g3 upd_same)
    have f3 := c1 _ _ (upd_same (H := H3) (a := t3) (o := .tup [.int low, .int (low + e3)]))
    have f4 := c2 _ _ (upd_same (a := t4) (o := .tup [.ref t3]))
    have f5 := c3 _ _ (upd_same (a := t5) (o := .tup [.non, .int low]))
    have f6 := c4 _ _ (upd_same (a := t6) (o := .tup [.ref t5]))
    have f7 := c5 _ _ (upd_same (a := t7) (o := .tup [.int low, .non]))
    have f8 := c6 _ _ (upd_same (a := t8) (o := .tup [.ref t7]))
    have f9 := c8 _ _ (upd_same (a := t9) (o := .tup [.int low, .int low]))
    have f10 := c9 _ _ (upd_same (a := t10) (o := .tup [.int (low + 2), .int (low + 5)]))
    have f11 := c10 _ _ (upd_same (a := t11) (o := .tup [.ref t9, .ref t10]))
    have nL3 := k15.ne hL3
    refine ⟨_, rfl, p, _, rfl, k16.pot, by decide, by decide, fun e4 H4 g4 a4 b4 => ?_⟩
    have hL4 := g4.keep L3 _ nL3 upd_same
    have pickv : ∃ v d, atI ([V.ref t0, .ref t2, .ref t4, .ref t6, .ref t8] ++ [.ref t11]) e4 = some v ∧ noL d = true ∧ DAt K H4 d v := by
      have hd : e4 = 0 ∨ e4 = 1 ∨ e4 = 2 ∨ e4 = 3 ∨ e4 = 4 ∨ e4 = 5 := by omega
      rcases hd with z | z | z | z | z | z <;> rw [z]
      · exact ⟨_, .tup [], rfl, rfl, DAt.grow k16.pot g4 rfl (dat_tup e0 DsAt.nil)⟩
      · exact ⟨_, _, rfl, rfl, DAt.grow k16.pot g4 rfl (dat_pair dat_non dat_non e1 e2)⟩
      · exact ⟨_, _, rfl, rfl, DAt.grow k16.pot g4 rfl (dat_pair (dat_int _) (dat_int _) f3 f4)⟩
      · exact ⟨_, _, rfl, rfl, DAt.grow k16.pot g4 rfl (dat_pair dat_non (dat_int _) f5 f6)⟩
      · exact ⟨_, _, rfl, rfl, DAt.grow k16.pot g4 rfl (dat_pair (dat_int _) dat_non f7 f8)⟩
      · exact ⟨_, .tup [.tup [.int low, .int low], .tup [.int (low + 2), .int (low + 5)]], rfl, rfl, DAt.grow k16.pot g4 rfl (dat_tup f11 (DsAt.cons (dat_tup f9 (DsAt.cons (dat_int _) (DsAt.cons (dat_int _) DsAt.nil))) (DsAt.cons (dat_tup f10 (DsAt.cons (dat_int _) (DsAt.cons (dat_int _) DsAt.nil))) DsAt.nil)))⟩
    obtain ⟨v, d, hv, nd, hd⟩ := pickv
    refine ⟨L3, _, _, v, rfl, rfl, SqL.of hL4, hv, (by show 2 ≤ sizeLine; decide), fun a ha => ?_⟩
    have sa := same_new ha (.tup [.str "n", v])
    exact q _ (.tup [.str "n", d]) _ ((k16.trans g4).new ha) (dat_tup upd_same (DsAt.cons (dat_str _) (DsAt.cons (hd.same sa) DsAt.nil))) (by simp [noL, noLs, nd])
end
end My

set_option maxHeartbeats 4000000
namespace My
open PySem L2 CT CS
theorem scPairs : FnScope ["_law_pot_here", "_law_here", "_law_there", "_law_pairs_here", "_law_k", "_law_pair"] ["_law_pot_here", "_law_here", "_law_there"] (defScope sPairs) := ⟨rfl, rfl, rfl, by decide +kernel, rfl, by decide +kernel, by decide +kernel⟩
theorem scOrder : FnScope ["_law_pot_here", "_law_head", "_law_order_here", "_law_k", "_law_column_here"] ["_law_pot_here", "_law_head"] (defScope sOrder) := ⟨rfl, rfl, rfl, by decide +kernel, rfl, by decide +kernel, by decide +kernel⟩
/-- a tuple of data without lists -/
def spTupOf (K : PySem.W.Frag) (pre : List V → Hp → Addr → Prop) : Sp := fun vs H Q _ => ∃ (p : Addr), pre vs H p ∧ PotAt H p ∧ ∀ t ds H', Grow p H H' → DAt K H' (.tup ds) (.ref t) → noLs ds = true → Q (.ref t) H'
def spPairs (K : PySem.W.Frag) : Sp := spTupOf K fun vs _ p => ∃ s1 s2 : Str, vs = [.ref p, .str s1, .str s2]
def spOrder (K : PySem.W.Frag) : Sp := spTupOf K fun vs H p => ∃ a hs, vs = [.ref p, .ref a] ∧ HeadAt K H a hs
def PairV (H : Hp) (v : V) : Prop := ∃ t x y, v = .ref t ∧ H t = some (.tup [x, y]) ∧ flatV x = true ∧ flatV y = true
theorem PairV.keep {H H' : Hp} {v : V} (k : ∀ a xs, H a = some (.tup xs) → H' a = some (.tup xs)) (h : PairV H v) : PairV H' v := by
  obtain ⟨t, x, y, e, h1, h2, h3⟩ := h
  exact ⟨t, x, y, e, k _ _ h1, h2, h3⟩
def flD : V → D
  | .int i => .int i
  | .str x => .str x
  | .bl b => .bl b
  | _ => .non
theorem dat_flat {K : PySem.W.Frag} {H : Hp} {v : V} (h : flatV v = true) : DAt K H (flD v) v ∧ noL (flD v) = true := by
  cases v <;> first | (exact ⟨by first | exact dat_int _ | exact dat_str _ | exact dat_bl _ | exact dat_non, by simp [flD, noL]⟩) | (simp [flatV] at h)
theorem pairs_data {K : PySem.W.Frag} {H : Hp} : ∀ {vs : List V}, (∀ v ∈ vs, PairV H v) → ∃ ds, DsAt K H ds vs ∧ noLs ds = true
  | [], _ => ⟨[], DsAt.nil, rfl⟩
  | v :: vs, h => by
    obtain ⟨ds, h1, h2⟩ := pairs_data (K := K) (vs := vs) fun w hw => h w (List.mem_cons_of_mem _ hw)
    obtain ⟨t, x, y, rfl, ht, fx, fy⟩ := h v (List.mem_cons_self ..)
    refine ⟨.tup [flD x, flD y] :: ds, DsAt.cons (dat_tup ht (DsAt.cons (dat_flat fx).1 (DsAt.cons (dat_flat fy).1 DsAt.nil))) h1, ?_⟩
    simp [noLs, noL, (dat_flat (K := K) (H := H) fx).2, (dat_flat (K := K) (H := H) fy).2, h2]
theorem tup_grow {p a : Addr} {H H' : Hp} {xs : List V} (hP : PotAt H p) (g : Grow p H H') (e : H a = some (.tup xs)) : H' a = some (.tup xs) := g.keep _ _ (fun z => by obtain ⟨x, y, e2, _⟩ := hP; rw [z, e2] at e; cases e) e
theorem cl_flat {v : V} (h : isCl v) : flatV v = true := by rcases h with ⟨n, rfl⟩ | ⟨x, rfl⟩ <;> rfl
section
variable {P : Program} {w : World} {K : PySem.W.Frag} {mg : Str → Option Value} {base : Heap} {f g1 g2 g3 g4 : Addr} {fd d1 d2 d3 d4 : FuncData}
theorem ok_pairs (B : Blt mg) (B2 : Blt2 mg) (F : Fun K "_law_pairs" "_law_pairs" sPairs f fd) (G : FnOk P w K mg base CX0 3 g1 d1 ["_law_pot_here", "_law_many_here"] spDraw) (bG : Binds K d1 ["_law_pot_here", "_law_many_here"] []) (kG : PySem.W.keepIn K (.ref g1) = true) (mG : mg "_law_draw" = some (.ref g1))
    (G2 : FnOk P w K mg base CX0 3 g2 d2 ["_law_pot_here", "_law_sort"] spCell') (b2 : Binds K d2 ["_law_pot_here", "_law_sort"] []) (k2 : PySem.W.keepIn K (.ref g2) = true) (m2 : mg "_law_cell" = some (.ref g2)) :
    FnOk P w K mg base CX0 4 f fd ["_law_pot_here", "_law_here", "_law_there"] (spPairs K) := by
  refine F.ok scPairs (fun vs H Q E h => ?_) (fun cdv A outer s H vs Q E hr h => ?_)
  · obtain ⟨p, ⟨s1, s2, rfl⟩, _⟩ := h
    rfl
  obtain ⟨p, ⟨s1, s2, rfl⟩, hP, q⟩ := h
  refine ⟨_, pss_cons (ps_set (i := 3) scPairs.nd rfl (Or.inl rfl) (pe_lst pa_nil))
    (pss_cons (ps_for PassesOwn.never rfl (pi_range1 rfl B.range (pa_cons (pe_ix (r := rIxL K) ix_list (pe_lst (pa_cons (pe_op op_add pe_int (pe_call G hr rfl mG kG bG .nil pass0 (pa_cons (pv 0) (pa_cons pe_int pa_nil)))) (pa_cons pe_int pa_nil)))
        (pe_callTy call_int1 rfl B2.int PyProof.Rows.boot_int (pa_cons (pe_cmpR op_eq (pe_call G hr rfl mG kG bG .nil pass0 (pa_cons (pv 0) (pa_cons pe_int pa_nil))) pe_int (nomark _)) pa_nil)) (fun _ _ => rfl)) pa_nil)) (pg_name (i := 4) scPairs.nd rfl (Or.inl rfl))
      (pss_cons (ps_set (i := 5) scPairs.nd rfl (Or.inl rfl) (pe_tup (pa_cons (pe_call G2 hr rfl m2 k2 b2 .nil pass0 (pa_cons (pv 0) (pa_cons (pv 1) pa_nil))) (pa_cons (pe_call G2 hr rfl m2 k2 b2 .nil pass0 (pa_cons (pv 0) (pa_cons (pv 2) pa_nil))) pa_nil))))
      (pss_one (ps_if (pt_cmpR op_notIn_seq (pe_ixt (pv 5) pe_int (fun _ _ => rfl)) (pe_lcomp (N' := ["_law_a", "_law_b"]) (src := [none, none]) rfl (CompSc.ofB (by kernel_rfl)) (pi_list (pv 3))
          (g := gTup K 2 (gCons (gName 0) (gCons (gName 1) gNil))) (fun cl C s H fp => pg_tup rfl (pgs_cons (pgl (i := 0)) (pgs_cons (pgl (i := 1)) pgs_nil))) (fun cl C s H fp => pifs_nil) (fun cl C s H fp => pvl 0)) rfl)
        (pss_one (ps_expr (pe_bm PySem.F.plainAttrs_list PySem.F.slot_list_append PySem.F.type_list_append mt_append (pv 3) (pa_cons (pv 5) pa_nil)))) pss_nil))))
    (pss_one (ps_ret (pe_callTy call_tuple_of rfl B.tuple PyProof.Rows.boot_tuple (pa_cons (pv 3) pa_nil))))), ?_⟩
  have g0 := Grow.refl hP
  refine ⟨Nat.zero_le _, fun L hL => ?_⟩
  have nL := g0.ne hL
  have gL := g0.new (o := .lst []) hL
  refine ⟨_, rfl, p, _, rfl, gL.pot, by decide, by decide, fun e1 H1 g1 a1 b1 => ⟨_, _, rfl, rfl, (by show 2 ≤ sizeLine; decide), fun R hR => ?_⟩⟩
  have k1 := gL.trans g1
  have k2 := k1.new (o := .lst [.int (1 + e1), .int 8]) hR
  refine ⟨_, rfl, p, _, rfl, k2.pot, by decide, by decide, fun e2 H2 g2 a2 b2 => ⟨rfl, .inr ⟨_, rfl, ?_⟩⟩⟩
  have k3 := k2.trans g2
  have pickv : ∃ m : Int, atI [V.int (1 + e1), V.int 8] (if decide (V.int e2 = V.int 8) = true then 1 else 0) = some (.int m) ∧ 0 ≤ m ∧ m ≤ 8 := by
    cases decide (V.int e2 = V.int 8)
    · exact ⟨_, rfl, by omega, by omega⟩
    · exact ⟨_, rfl, by decide, by decide⟩
  obtain ⟨m, hm, m0, m1⟩ := pickv
  refine ⟨R, _, _, _, rfl, rfl, SqL.of (g2.keep R _ (k1.ne hR) upd_same), hm, m, rfl, (p62a m0 (by omega)).1, (p62a m0 (by omega)).2, ?_⟩
  have hL3 := g2.keep L _ nL ((same_new hR (.lst [.int (1 + e1), .int 8])) _ _ (g1.keep L _ nL upd_same))
  refine for_range (n := m.toNat) (fun i σ H' => (∃ o4 o5, σ = [some (.ref p), some (.str s1), some (.str s2), some (.ref L), o4, o5]) ∧ (∃ vs, H' L = some (.lst vs) ∧ vs.length ≤ i ∧ ∀ v ∈ vs, PairV H' v) ∧ Grow p H H')
    ⟨⟨none, none, rfl⟩, ⟨[], hL3, Nat.le_refl _, by simp⟩, k3⟩ ?_ ?_
  · rintro i σ H' hi ⟨⟨o4, o5, rfl⟩, ⟨vs, hv, hl, hp⟩, g⟩
    refine ⟨_, rfl, _, rfl, p, s1, rfl, g.pot, fun x H4 g4 cx => ?_⟩
    refine ⟨_, rfl, _, rfl, p, s2, rfl, g4.pot, fun y H5 g5 cy => ⟨(by show 2 ≤ sizeLine; decide), fun T hT => ?_⟩⟩
    have sT := same_new hT (.tup [x, y])
    have g45 := g4.trans g5
    have gT := (g.trans g45).new (o := .tup [x, y]) hT
    have hv5 := sT _ _ (g45.keep L _ nL hv)
    have hp5 : ∀ v ∈ vs, PairV (upd H5 T (.tup [x, y])) v := fun v h => (hp v h).keep fun a xs e => sT _ _ (tup_grow g.pot g45 e)
    refine ⟨_, rfl, T, _, _, _, rfl, rfl, SqT.of upd_same, rfl, ?_⟩
    refine ⟨_, rfl, L, rfl, ⟨_, SqL.of hv5⟩, fun Dc hDc => ?_⟩
    refine comp_list (xs := vs) (fun i σ ys H' => (∃ o o', σ = [o, o']) ∧ ys.length ≤ i ∧ ys.all flatV = true ∧ H' Dc = some (.lst ys) ∧ Same (upd H5 T (.tup [x, y])) H')
      ⟨⟨none, none, rfl⟩, Nat.le_refl _, rfl, upd_same, same_new hDc _⟩ ?_ ?_ ?_ ?_ ?_
    · rintro i σ ys H' _ ⟨_, hl, _, h, _⟩
      exact ⟨h, hl⟩
    · rintro i σ ys H' _ ⟨_, _, _, _, sm⟩
      exact SqL.of (sm _ _ hv5)
    · exact Nat.le_trans (show vs.length ≤ 1000 by omega) (by decide)
    · rintro i v σ ys H' hv ⟨⟨o, o', rfl⟩, hl, hf, h, sm⟩
      obtain ⟨t, x', y', rfl, ht, fx, fy⟩ := hp5 v (List.mem_of_getElem? hv)
      refine ⟨t, _, rfl, SqT.of (sm _ _ ht), rfl, _, _, rfl, _, _, rfl, rfl, _, rfl, h, ⟨_, _, rfl⟩, by rw [List.length_append]; exact Nat.add_le_add_right hl 1, ?_, upd_same, fun b u eb => ?_⟩
      · rw [List.all_append, hf]; simp [fx]
      · by_cases hb : b = Dc
        · subst hb; exact absurd eb (by rw [hDc]; simp)
        · rw [upd_ne hb]; exact sm _ _ eb
    · rintro σ ys H6 ⟨_, _, hf, h, sm⟩
      refine ⟨Dc, _, rfl, .inl (SqL.of h), cl_flat cx, hf, _, rfl, ?_⟩
      have gS := gT.trans (Grow.same gT.pot sm)
      refine ite2 (fun _ => ?_) (fun _ => ?_)
      · refine ⟨_, rfl, .inl ⟨rfl, _, SqL.of (sm _ _ hv5)⟩, _, rfl, L, _, _, rfl, rfl, sm _ _ hv5, Nat.lt_of_le_of_lt (show vs.length ≤ 1000 by omega) (by decide), ?_⟩
        refine ⟨⟨_, _, rfl⟩, ⟨vs ++ [.ref T], upd_same, by rw [List.length_append]; exact Nat.add_le_add_right hl 1, fun v hv => ?_⟩, g0.put hL nL gS⟩
        have kk : ∀ a xs, upd H5 T (.tup [x, y]) a = some (.tup xs) → upd H6 L (.lst (vs ++ [.ref T])) a = some (.tup xs) := fun a xs e => by
          rw [upd_ne (fun z => by rw [z, hv5] at e; cases e)]; exact sm _ _ e
        rcases List.mem_append.mp hv with z | z
        · exact (hp5 v z).keep kk
        · rw [List.mem_singleton.mp z]; exact ⟨T, x, y, rfl, kk _ _ upd_same, cl_flat cx, cl_flat cy⟩
      · exact ⟨⟨_, _, rfl⟩, ⟨vs, sm _ _ hv5, Nat.le_succ_of_le hl, fun v hv => (hp5 v hv).keep fun a xs e => sm _ _ e⟩, gS⟩
  · rintro σ H' ⟨⟨o4, o5, rfl⟩, ⟨vs, hv, hl, hp⟩, g⟩
    refine ⟨_, rfl, L, _, rfl, .inl ⟨SqL.of hv, fun t ht => ?_⟩⟩
    have st := same_new ht (.tup vs)
    obtain ⟨ds, h1, h2⟩ := pairs_data (K := K) (H := upd H' t (.tup vs)) (vs := vs) fun v h => (hp v h).keep fun a xs e => st _ _ e
    exact q t ds _ (g.new ht) (dat_tup upd_same h1) h2
end
end My

set_option maxHeartbeats 4000000
namespace My
open PySem L2 CT CS
section
variable {P : Program} {w : World} {K : PySem.W.Frag} {mg : Str → Option Value} {base : Heap} {f g1 g2 g3 g4 : Addr} {fd d1 d2 d3 d4 : FuncData}
theorem ok_order (B : Blt mg) (F : Fun K "_law_order" "_law_order" sOrder f fd) (G : FnOk P w K mg base CX0 2 g1 d1 ["_law_pot_here", "_law_many_here"] spDraw) (bG : Binds K d1 ["_law_pot_here", "_law_many_here"] []) (kG : PySem.W.keepIn K (.ref g1) = true) (mG : mg "_law_draw" = some (.ref g1))
    (G2 : FnOk P w K mg base CX0 2 g2 d2 ["_law_pot_here", "_law_head"] (spColumn K)) (b2 : Binds K d2 ["_law_pot_here", "_law_head"] []) (k2 : PySem.W.keepIn K (.ref g2) = true) (m2 : mg "_law_column" = some (.ref g2)) :
    FnOk P w K mg base CX0 3 f fd ["_law_pot_here", "_law_head"] (spOrder K) := by
  refine F.ok scOrder (fun vs H Q E h => ?_) (fun cdv A outer s H vs Q E hr h => ?_)
  · obtain ⟨p, ⟨a, hs, rfl, _⟩, _⟩ := h
    rfl
  obtain ⟨p, ⟨a, hs, rfl, hh⟩, hP, q⟩ := h
  refine ⟨_, pss_cons (ps_set (i := 2) scOrder.nd rfl (Or.inl rfl) (pe_lst pa_nil))
    (pss_cons (ps_for PassesOwn.never rfl (pi_range1 rfl B.range (pa_cons (pe_op op_add pe_int (pe_call G hr rfl mG kG bG .nil pass0 (pa_cons (pv 0) (pa_cons pe_int pa_nil)))) pa_nil)) (pg_name (i := 3) scOrder.nd rfl (Or.inl rfl))
      (pss_cons (ps_set (i := 4) scOrder.nd rfl (Or.inl rfl) (pe_call G2 hr rfl m2 k2 b2 .nil pass0 (pa_cons (pv 0) (pa_cons (pv 1) pa_nil))))
      (pss_one (ps_if (pt_cmpR op_notIn_seq (pv 4) (pe_lcomp (N' := ["_law_other_here", "_law_is_falling"]) (src := [none, none]) rfl (CompSc.ofB (by kernel_rfl)) (pi_list (pv 2))
          (g := gTup K 2 (gCons (gName 0) (gCons (gName 1) gNil))) (fun cl C s H fp => pg_tup rfl (pgs_cons (pgl (i := 0)) (pgs_cons (pgl (i := 1)) pgs_nil))) (fun cl C s H fp => pifs_nil) (fun cl C s H fp => pvl 0)) rfl)
        (pss_one (ps_expr (pe_bm PySem.F.plainAttrs_list PySem.F.slot_list_append PySem.F.type_list_append mt_append (pv 2) (pa_cons (pe_tup (pa_cons (pv 4) (pa_cons (pe_cmpR op_eq (pe_call G hr rfl mG kG bG .nil pass0 (pa_cons (pv 0) (pa_cons pe_int pa_nil))) pe_int (nomark _)) pa_nil))) pa_nil)))) pss_nil))))
    (pss_one (ps_ret (pe_callTy call_tuple_of rfl B.tuple PyProof.Rows.boot_tuple (pa_cons (pv 2) pa_nil))))), ?_⟩
  have g0 := Grow.refl hP
  refine ⟨Nat.zero_le _, fun L hL => ?_⟩
  have nL := g0.ne hL
  have gL := g0.new (o := .lst []) hL
  refine ⟨_, rfl, p, _, rfl, gL.pot, by decide, by decide, fun e1 H1 g1 a1 b1 => ⟨_, _, rfl, rfl, 1 + e1, rfl, (p62a (by omega) (by omega)).1, (p62a (by omega) (by omega)).2, ?_⟩⟩
  have k1 := gL.trans g1
  have hL1 := g1.keep L _ nL upd_same
  refine for_range (n := (1 + e1).toNat) (fun i σ H' => (∃ o4 o5, σ = [some (.ref p), some (.ref a), some (.ref L), o4, o5]) ∧ (∃ vs, H' L = some (.lst vs) ∧ vs.length ≤ i ∧ ∀ v ∈ vs, PairV H' v) ∧ Grow p H H')
    ⟨⟨none, none, rfl⟩, ⟨[], hL1, Nat.le_refl _, by simp⟩, k1⟩ ?_ ?_
  · rintro i σ H' hi ⟨⟨o4, o5, rfl⟩, ⟨vs, hv, hl, hp⟩, g⟩
    refine ⟨_, rfl, _, rfl, p, a, hs, rfl, g.pot, hh.grow hP g, fun n H5 g5 n1 n2 => ?_⟩
    refine gName_go ?_
    dsimp only
    have hv5 := g5.keep L _ nL hv
    have hp5 : ∀ v ∈ vs, PairV H5 v := fun v h => (hp v h).keep fun a xs e => tup_grow g.pot g5 e
    refine ⟨_, rfl, _, rfl, L, rfl, ⟨_, SqL.of hv5⟩, fun Dc hDc => ?_⟩
    refine comp_list (xs := vs) (fun i σ ys H' => (∃ o o', σ = [o, o']) ∧ ys.length ≤ i ∧ ys.all flatV = true ∧ H' Dc = some (.lst ys) ∧ Same H5 H')
      ⟨⟨none, none, rfl⟩, Nat.le_refl _, rfl, upd_same, same_new hDc _⟩ ?_ ?_ ?_ ?_ ?_
    · rintro i σ ys H' _ ⟨_, hl, _, h, _⟩
      exact ⟨h, hl⟩
    · rintro i σ ys H' _ ⟨_, _, _, _, sm⟩
      exact SqL.of (sm _ _ hv5)
    · exact Nat.le_trans (show vs.length ≤ 1000 by omega) (by decide)
    · rintro i v σ ys H' hv ⟨⟨o, o', rfl⟩, hl, hf, h, sm⟩
      obtain ⟨t, x', y', rfl, ht, fx, fy⟩ := hp5 v (List.mem_of_getElem? hv)
      refine ⟨t, _, rfl, SqT.of (sm _ _ ht), rfl, _, _, rfl, _, _, rfl, rfl, _, rfl, h, ⟨_, _, rfl⟩, by rw [List.length_append]; exact Nat.add_le_add_right hl 1, ?_, upd_same, fun b u eb => ?_⟩
      · rw [List.all_append, hf]; simp [fx]
      · by_cases hb : b = Dc
        · subst hb; exact absurd eb (by rw [hDc]; simp)
        · rw [upd_ne hb]; exact sm _ _ eb
    · rintro σ ys H6 ⟨_, _, hf, h, sm⟩
      refine ⟨Dc, _, rfl, .inl (SqL.of h), rfl, hf, _, rfl, ?_⟩
      have g5' := g.trans g5
      have gS := g5'.trans (Grow.same g5'.pot sm)
      refine ite2 (fun _ => ?_) (fun _ => ?_)
      · refine ⟨_, rfl, .inl ⟨rfl, _, SqL.of (sm _ _ hv5)⟩, _, rfl, _, rfl, p, _, rfl, gS.pot, by decide, by decide, fun e7 H7 g7 a7 b7 => ⟨rfl, (by show 2 ≤ sizeLine; decide), fun T hT => ?_⟩⟩
        have sT := same_new hT (.tup [.int n, .bl (decide (V.int e7 = V.int 0))])
        have hv7 := sT _ _ (g7.keep L _ nL (sm _ _ hv5))
        refine ⟨L, _, _, rfl, rfl, hv7, Nat.lt_of_le_of_lt (show vs.length ≤ 1000 by omega) (by decide), ?_⟩
        refine ⟨⟨_, _, rfl⟩, ⟨vs ++ [.ref T], upd_same, by rw [List.length_append]; exact Nat.add_le_add_right hl 1, fun v hv => ?_⟩, g0.put hL nL ((gS.trans g7).new hT)⟩
        have kk : ∀ a xs, upd H7 T (.tup [.int n, .bl (decide (V.int e7 = V.int 0))]) a = some (.tup xs) → upd (upd H7 T (.tup [.int n, .bl (decide (V.int e7 = V.int 0))])) L (.lst (vs ++ [.ref T])) a = some (.tup xs) := fun a xs e => by
          rw [upd_ne (fun z => by rw [z, hv7] at e; cases e)]; exact e
        rcases List.mem_append.mp hv with z | z
        · exact (hp5 v z).keep fun a xs e => kk _ _ (sT _ _ (tup_grow gS.pot g7 (sm _ _ e)))
        · rw [List.mem_singleton.mp z]; exact ⟨T, _, _, rfl, kk _ _ upd_same, rfl, rfl⟩
      · exact ⟨⟨_, _, rfl⟩, ⟨vs, sm _ _ hv5, Nat.le_succ_of_le hl, fun v hv => (hp5 v hv).keep fun a xs e => sm _ _ e⟩, gS⟩
  · rintro σ H' ⟨⟨o4, o5, rfl⟩, ⟨vs, hv, hl, hp⟩, g⟩
    refine ⟨_, rfl, L, _, rfl, .inl ⟨SqL.of hv, fun t ht => ?_⟩⟩
    have st := same_new ht (.tup vs)
    obtain ⟨ds, h1, h2⟩ := pairs_data (K := K) (H := upd H' t (.tup vs)) (vs := vs) fun v h => (hp v h).keep fun a xs e => st _ _ e
    exact q t ds _ (g.new ht) (dat_tup upd_same h1) h2
end
end My

set_option maxHeartbeats 4000000
namespace My
open PySem L2 CT CS
theorem scMoves : FnScope ["_law_pot_here", "_law_sort", "_law_moves_here", "_law_k", "_law_move"] ["_law_pot_here", "_law_sort"] (defScope sMoves) := ⟨rfl, rfl, rfl, by decide +kernel, rfl, by decide +kernel, by decide +kernel⟩
def spMoves (K : PySem.W.Frag) : Sp := spTupOf K fun vs _ p => ∃ s1 : Str, vs = [.ref p, .str s1]
def TripV (H : Hp) (v : V) : Prop := ∃ t x y z, v = .ref t ∧ H t = some (.tup [x, y, z]) ∧ flatV x = true ∧ flatV y = true ∧ flatV z = true
theorem TripV.keep {H H' : Hp} {v : V} (k : ∀ a xs, H a = some (.tup xs) → H' a = some (.tup xs)) (h : TripV H v) : TripV H' v := by
  obtain ⟨t, x, y, z, e, h1, h2⟩ := h
  exact ⟨t, x, y, z, e, k _ _ h1, h2⟩
theorem trips_data {K : PySem.W.Frag} {H : Hp} : ∀ {vs : List V}, (∀ v ∈ vs, TripV H v) → ∃ ds, DsAt K H ds vs ∧ noLs ds = true
  | [], _ => ⟨[], DsAt.nil, rfl⟩
  | v :: vs, h => by
    obtain ⟨ds, h1, h2⟩ := trips_data (K := K) (vs := vs) fun w hw => h w (List.mem_cons_of_mem _ hw)
    obtain ⟨t, x, y, z, rfl, ht, fx, fy, fz⟩ := h v (List.mem_cons_self ..)
    refine ⟨.tup [flD x, flD y, flD z] :: ds, DsAt.cons (dat_tup ht (DsAt.cons (dat_flat fx).1 (DsAt.cons (dat_flat fy).1 (DsAt.cons (dat_flat fz).1 DsAt.nil)))) h1, ?_⟩
    simp [noLs, noL, (dat_flat (K := K) (H := H) fx).2, (dat_flat (K := K) (H := H) fy).2, (dat_flat (K := K) (H := H) fz).2, h2]
theorem flD_depth (v : V) : (flD v).depth = 0 := by cases v <;> simp [flD, D.depth]
theorem pairs_flat {K : PySem.W.Frag} {H : Hp} : ∀ {vs : List V}, (∀ v ∈ vs, PairV H v) → ∃ ds, DsAt K H ds vs ∧ depths ds ≤ 1
  | [], _ => ⟨[], DsAt.nil, by simp [depths]⟩
  | v :: vs, h => by
    obtain ⟨ds, h1, h2⟩ := pairs_flat (K := K) (vs := vs) fun w hw => h w (List.mem_cons_of_mem _ hw)
    obtain ⟨t, x, y, rfl, ht, fx, fy⟩ := h v (List.mem_cons_self ..)
    refine ⟨.tup [flD x, flD y] :: ds, DsAt.cons (dat_tup ht (DsAt.cons (dat_flat fx).1 (DsAt.cons (dat_flat fy).1 DsAt.nil))) h1, ?_⟩
    simp only [depths, D.depth, flD_depth]; omega
section
variable {P : Program} {w : World} {K : PySem.W.Frag} {mg : Str → Option Value} {base : Heap} {f g1 g2 g3 g4 : Addr} {fd d1 d2 d3 d4 : FuncData}
theorem ok_moves (B : Blt mg) (B2 : Blt2 mg) (F : Fun K "_law_moves" "_law_moves" sMoves f fd) (G : FnOk P w K mg base CX0 3 g1 d1 ["_law_pot_here", "_law_many_here"] spDraw) (bG : Binds K d1 ["_law_pot_here", "_law_many_here"] []) (kG : PySem.W.keepIn K (.ref g1) = true) (mG : mg "_law_draw" = some (.ref g1))
    (G3 : FnOk P w K mg base CX0 3 g3 d3 ["_law_pot_here"] spState) (b3 : Binds K d3 ["_law_pot_here"] []) (k3 : PySem.W.keepIn K (.ref g3) = true) (m3 : mg "_law_state" = some (.ref g3))
    (G2 : FnOk P w K mg base CX0 3 g2 d2 ["_law_pot_here", "_law_sort"] spCell') (b2 : Binds K d2 ["_law_pot_here", "_law_sort"] []) (k2 : PySem.W.keepIn K (.ref g2) = true) (m2 : mg "_law_cell" = some (.ref g2)) :
    FnOk P w K mg base CX0 4 f fd ["_law_pot_here", "_law_sort"] (spMoves K) := by
  refine F.ok scMoves (fun vs H Q E h => ?_) (fun cdv A outer s H vs Q E hr h => ?_)
  · obtain ⟨p, ⟨s1, rfl⟩, _⟩ := h
    rfl
  obtain ⟨p, ⟨s1, rfl⟩, hP, q⟩ := h
  have hu : (A.deeper (PyProof.Rows.envOfC "_law_moves" (defScope sMoves) s.heap.objs.size f cdv)).units + 1 + 1 < cLine := by have := hr.units; omega
  refine ⟨_, pss_cons (ps_set (i := 2) scMoves.nd rfl (Or.inl rfl) (pe_lst pa_nil))
    (pss_cons (ps_for PassesOwn.never rfl (pi_range1 rfl B.range (pa_cons (pe_ix (r := rIxL K) ix_list (pe_lst (pa_cons (pe_call G hr rfl mG kG bG .nil pass0 (pa_cons (pv 0) (pa_cons pe_int pa_nil))) (pa_cons pe_int pa_nil)))
        (pe_callTy call_int1 rfl B2.int PyProof.Rows.boot_int (pa_cons (pe_cmpR op_eq (pe_call G hr rfl mG kG bG .nil pass0 (pa_cons (pv 0) (pa_cons pe_int pa_nil))) pe_int (nomark _)) pa_nil)) (fun _ _ => rfl)) pa_nil)) (pg_name (i := 3) scMoves.nd rfl (Or.inl rfl))
      (pss_cons (ps_set (i := 4) scMoves.nd rfl (Or.inl rfl) (pe_tup (pa_cons (pe_call G3 hr rfl m3 k3 b3 .nil pass0 (pa_cons (pv 0) pa_nil)) (pa_cons (pe_ix (r := rIxL K) ix_list (pe_lst (pa_cons (pe_call G2 hr rfl m2 k2 b2 .nil pass0 (pa_cons (pv 0) (pa_cons (pv 1) pa_nil))) (pa_cons pe_non pa_nil)))
          (pe_callTy call_int1 rfl B2.int PyProof.Rows.boot_int (pa_cons (pe_cmpR op_eq (pe_call G hr rfl mG kG bG .nil pass0 (pa_cons (pv 0) (pa_cons pe_int pa_nil))) pe_int (nomark _)) pa_nil)) (fun _ _ => rfl)) (pa_cons (pe_call G3 hr rfl m3 k3 b3 .nil pass0 (pa_cons (pv 0) pa_nil)) pa_nil)))))
      (pss_one (ps_if (pt_cmpR op_notInD (pe_slice sl_tup (pv 4) po_none (po_some pe_int)) (pe_lcomp (N' := ["_law_state_here", "_law_cell_here", "_law_after"]) (src := [none, none, none]) rfl (CompSc.ofB (by kernel_rfl)) (pi_list (pv 2))
          (g := gTup K 3 (gCons (gName 0) (gCons (gName 1) (gCons (gName 2) gNil)))) (fun cl C s H fp => pg_tup rfl (pgs_cons (pgl (i := 0)) (pgs_cons (pgl (i := 1)) (pgs_cons (pgl (i := 2)) pgs_nil)))) (fun cl C s H fp => pifs_nil) (fun cl C s H fp => pe_tup (pa_cons (pvl 0) (pa_cons (pvl 1) pa_nil)))) rfl)
        (pss_one (ps_expr (pe_bm PySem.F.plainAttrs_list PySem.F.slot_list_append PySem.F.type_list_append mt_append (pv 2) (pa_cons (pv 4) pa_nil)))) pss_nil))))
    (pss_one (ps_ret (pe_callTy call_tuple_of rfl B.tuple PyProof.Rows.boot_tuple (pa_cons (pv 2) pa_nil))))), ?_⟩
  have g0 := Grow.refl hP
  refine ⟨Nat.zero_le _, fun L hL => ?_⟩
  have nL := g0.ne hL
  have gL := g0.new (o := .lst []) hL
  refine ⟨_, rfl, p, _, rfl, gL.pot, by decide, by decide, fun e1 H1 g1 a1 b1 => ⟨(by show 2 ≤ sizeLine; decide), fun R hR => ?_⟩⟩
  have k1 := gL.trans g1
  have k2 := k1.new (o := .lst [.int e1, .int 16]) hR
  refine ⟨_, rfl, p, _, rfl, k2.pot, by decide, by decide, fun e2 H2 g2 a2 b2 => ⟨rfl, .inr ⟨_, rfl, ?_⟩⟩⟩
  have k3 := k2.trans g2
  have pickv : ∃ m : Int, atI [V.int e1, V.int 16] (if decide (V.int e2 = V.int 8) = true then 1 else 0) = some (.int m) ∧ 0 ≤ m ∧ m ≤ 16 := by
    cases decide (V.int e2 = V.int 8)
    · exact ⟨_, rfl, by omega, by omega⟩
    · exact ⟨_, rfl, by decide, by decide⟩
  obtain ⟨m, hm, m0, m1⟩ := pickv
  refine ⟨R, _, _, _, rfl, rfl, SqL.of (g2.keep R _ (k1.ne hR) upd_same), hm, m, rfl, (p62a m0 (by omega)).1, (p62a m0 (by omega)).2, ?_⟩
  have hL3 := g2.keep L _ nL ((same_new hR (.lst [.int e1, .int 16])) _ _ (g1.keep L _ nL upd_same))
  refine for_range (n := m.toNat) (fun i σ H' => (∃ o4 o5, σ = [some (.ref p), some (.str s1), some (.ref L), o4, o5]) ∧ (∃ vs, H' L = some (.lst vs) ∧ vs.length ≤ i ∧ ∀ v ∈ vs, TripV H' v) ∧ Grow p H H')
    ⟨⟨none, none, rfl⟩, ⟨[], hL3, Nat.le_refl _, by simp⟩, k3⟩ ?_ ?_
  · rintro i σ H' hi ⟨⟨o4, o5, rfl⟩, ⟨vs, hv, hl, hp⟩, g⟩
    refine ⟨_, rfl, p, rfl, g.pot, fun x H3 g3 => ?_⟩
    refine ⟨_, rfl, _, rfl, p, s1, rfl, g3.pot, fun y H4 g4 cy => ⟨(by show 2 ≤ sizeLine; decide), fun R2 hR2 => ?_⟩⟩
    have l1 := (g3.trans g4).new (o := .lst [y, .non]) hR2
    refine ⟨_, rfl, p, _, rfl, l1.pot, by decide, by decide, fun e5 H5 g5 a5 b5 => ⟨rfl, .inr ⟨_, rfl, ?_⟩⟩⟩
    have pick2 : ∃ y2 : V, atI [y, V.non] (if decide (V.int e5 = V.int 0) = true then 1 else 0) = some y2 ∧ flatV y2 = true := by
      cases decide (V.int e5 = V.int 0)
      · exact ⟨_, rfl, cl_flat cy⟩
      · exact ⟨_, rfl, rfl⟩
    obtain ⟨y2, hy2, fy2⟩ := pick2
    refine ⟨R2, _, _, _, rfl, rfl, SqL.of (g5.keep R2 _ ((g3.trans g4).ne hR2) upd_same), hy2, ?_⟩
    have l2 := l1.trans g5
    refine ⟨_, rfl, p, rfl, l2.pot, fun z H6 g6 => ⟨(by show 3 ≤ sizeLine; decide), fun T hT => ?_⟩⟩
    have l3 := l2.trans g6
    have sT := same_new hT (.tup [.str x, y2, .str z])
    have hv6 := sT _ _ (l3.keep L _ nL hv)
    have hp6 : ∀ v ∈ vs, TripV (upd H6 T (.tup [.str x, y2, .str z])) v := fun v h => (hp v h).keep fun a xs e => sT _ _ (tup_grow g.pot l3 e)
    have gT := (g.trans l3).new (o := .tup [.str x, y2, .str z]) hT
    refine gName_go ?_
    dsimp only
    refine ⟨_, rfl, _, rfl, T, _, rfl, SqT.of upd_same, (by show ¬ (HT.sIx 3 0 none = 0 ∧ HT.sIx 3 3 (some 2) = 3); decide), fun r hr => ?_⟩
    have sr := same_new hr (.tup [.str x, y2])
    have hv7 := sr _ _ hv6
    have hp7 : ∀ v ∈ vs, TripV (upd (upd H6 T (.tup [.str x, y2, .str z])) r (.tup [.str x, y2])) v := fun v h => (hp6 v h).keep fun a xs e => sr _ _ e
    have hT7 := sr _ _ (upd_same (H := H6) (a := T) (o := .tup [.str x, y2, .str z]))
    have hr7 := upd_same (H := upd H6 T (.tup [.str x, y2, .str z])) (a := r) (o := .tup [.str x, y2])
    have gr := gT.trans (Grow.same gT.pot sr)
    refine ⟨_, rfl, L, rfl, ⟨_, SqL.of hv7⟩, fun Dc hDc => ?_⟩
    rw [show cutV [V.str x, y2, V.str z] none (some 2) = [V.str x, y2] from rfl] at hDc ⊢
    generalize upd (upd H6 T (.tup [.str x, y2, .str z])) r (.tup [.str x, y2]) = H7 at *
    refine comp_list (xs := vs) (fun i σ ys H' => (∃ o o' o'', σ = [o, o', o'']) ∧ ys.length ≤ i ∧ (∀ v ∈ ys, PairV H' v) ∧ H' Dc = some (.lst ys) ∧ Same H7 H')
      ⟨⟨none, none, none, rfl⟩, Nat.le_refl _, by simp, upd_same, same_new hDc _⟩ ?_ ?_ ?_ ?_ ?_
    · rintro i σ ys H' _ ⟨_, hl, _, h, _⟩
      exact ⟨h, hl⟩
    · rintro i σ ys H' _ ⟨_, _, _, _, sm⟩
      exact SqL.of (sm _ _ hv7)
    · exact Nat.le_trans (show vs.length ≤ 1000 by omega) (by decide)
    · rintro i v σ ys H' hv ⟨⟨o, o', o'', rfl⟩, hl, hf, h, sm⟩
      obtain ⟨t, x', y', z', rfl, ht, fx, fy, fz⟩ := hp7 v (List.mem_of_getElem? hv)
      refine ⟨t, _, rfl, SqT.of (sm _ _ ht), rfl, _, _, rfl, _, _, rfl, _, _, rfl, rfl, _, rfl, _, rfl, (by show 2 ≤ sizeLine; decide), fun U hU => ?_⟩
      have sU := same_new hU (.tup [x', y'])
      have hD8 := sU _ _ h
      refine ⟨hD8, ⟨_, _, _, rfl⟩, by rw [List.length_append]; exact Nat.add_le_add_right hl 1, fun v hv => ?_, upd_same, fun b u eb => ?_⟩
      · have kk : ∀ a xs, upd H' U (.tup [x', y']) a = some (.tup xs) → upd (upd H' U (.tup [x', y'])) Dc (.lst (ys ++ [.ref U])) a = some (.tup xs) := fun a xs e => by
          rw [upd_ne (fun z => by rw [z, hD8] at e; cases e)]; exact e
        rcases List.mem_append.mp hv with z | z
        · exact (hf v z).keep fun a xs e => kk _ _ (sU _ _ e)
        · rw [List.mem_singleton.mp z]; exact ⟨U, x', y', rfl, kk _ _ upd_same, fx, fy⟩
      · by_cases hb : b = Dc
        · subst hb; exact absurd eb (by rw [hDc]; simp)
        · rw [upd_ne hb]; exact sU _ _ (sm _ _ eb)
    · rintro σ ys H8 ⟨_, _, hf, h, sm⟩
      obtain ⟨es, h1, h2⟩ := pairs_flat (K := K) hf
      refine ⟨.tup [.str x, flD y2], es, Dc, ys, rfl, .inl (SqL.of h), dat_tup (sm _ _ hr7) (DsAt.cons (dat_str _) (DsAt.cons (dat_flat fy2).1 DsAt.nil)), h1, ?_, _, rfl, ?_⟩
      · exact Nat.lt_of_le_of_lt (Nat.add_le_add_left h2 _) hu
      have gS := gr.trans (Grow.same gr.pot sm)
      refine ite2 (fun _ => ?_) (fun _ => ?_)
      · refine ⟨_, rfl, .inl ⟨rfl, _, SqL.of (sm _ _ hv7)⟩, _, rfl, L, _, _, rfl, rfl, sm _ _ hv7, Nat.lt_of_le_of_lt (show vs.length ≤ 1000 by omega) (by decide), ?_⟩
        refine ⟨⟨_, _, rfl⟩, ⟨vs ++ [.ref T], upd_same, by rw [List.length_append]; exact Nat.add_le_add_right hl 1, fun v hv => ?_⟩, g0.put hL nL gS⟩
        have kk : ∀ a xs, H7 a = some (.tup xs) → upd H8 L (.lst (vs ++ [.ref T])) a = some (.tup xs) := fun a xs e => by
          rw [upd_ne (fun z => by rw [z, hv7] at e; cases e)]; exact sm _ _ e
        rcases List.mem_append.mp hv with z | z
        · exact (hp7 v z).keep kk
        · rw [List.mem_singleton.mp z]; exact ⟨T, _, _, _, rfl, kk _ _ hT7, rfl, fy2, rfl⟩
      · exact ⟨⟨_, _, rfl⟩, ⟨vs, sm _ _ hv7, Nat.le_succ_of_le hl, fun v hv => (hp7 v hv).keep fun a xs e => sm _ _ e⟩, gS⟩
  · rintro σ H' ⟨⟨o4, o5, rfl⟩, ⟨vs, hv, hl, hp⟩, g⟩
    refine ⟨_, rfl, L, _, rfl, .inl ⟨SqL.of hv, fun t ht => ?_⟩⟩
    have st := same_new ht (.tup vs)
    obtain ⟨ds, h1, h2⟩ := trips_data (K := K) (H := upd H' t (.tup vs)) (vs := vs) fun v h => (hp v h).keep fun a xs e => st _ _ e
    exact q t ds _ (g.new ht) (dat_tup upd_same h1) h2
end
end My

set_option maxHeartbeats 4000000
namespace L2
open PySem PySem.Spec PyProof.Rows
/-! ### t * k, t a tuple with items, k at least 2 -/
theorem noFill_tup_mul : fillsNumberSlot (.type "tuple") "mul" = pure false := PySem.fillsNumberSlot_seq (id := "tuple.__mul__") (r := some (.builtin "tuple.__rmul__")) F.slot_tuple_mul.lookup (by decide +kernel) F.slot_tuple_rmul.lookup (by decide +kernel)
theorem rep_tup : seqRepeat? (.type "tuple") = pure (some (.builtin "tuple.__mul__")) := by
  unfold seqRepeat?
  rw [PySem.seqSlot_of (T := "tuple") (name := "__mul__") F.slot_tuple_mul.lookup (by decide +kernel), PySem.seqSlot_of (T := "tuple") (name := "__rmul__") F.slot_tuple_rmul.lookup (by decide +kernel)]
  rfl
theorem rmul_int_tup (a : Int) (t : Tok) (l : Addr) (items : Array Value) (n : Nat) (dd : Option Addr) (sl : Array (Option Value)) : Meets (Builtin.«int.__rmul__» ⟨[.int a t, .ref l], []⟩) (fun _ R s => s.heap.get? l = some ⟨.type "tuple", dd, .seq items n, sl⟩ ∧ R (.ok (.ret Value.notImplemented)) s) :=
  .of_wp fun prog w A R s h => by
    obtain ⟨hp, g, d, tk, os⟩ := s; obtain ⟨hl, h⟩ := h
    wp_walk
    exact ⟨_, rfl, h⟩
theorem mul_tup (l : Addr) (items : Array Value) (n : Nat) (dd : Option Addr) (sl : Array (Option Value)) (k : Int) (t : Tok) (h1 : 2 ≤ k) (h2 : k < 1000) (hi : items.isEmpty = false) (hz : items.size * k.toNat ≤ 10000) :
    Meets (Builtin.«tuple.__mul__» ⟨[.ref l, .int k t], []⟩) (fun _ R s => s.heap.get? l = some ⟨.type "tuple", dd, .seq items n, sl⟩ ∧
      R (.ok (.ret (.ref s.heap.objs.size))) { s with heap := s.heap.push { cls := .type "tuple", data := .seq ((List.replicate k.toNat items).foldl (· ++ ·) #[]) } }) :=
  .of_wp fun prog w A R s h => by
    obtain ⟨hp, g, d, tk, os⟩ := s; obtain ⟨hl, h⟩ := h
    have p63 : (2 : Int) ^ 63 = 9223372036854775808 := by decide
    have hsk : (items.size : Int) * k ≤ 10000 := by
      have : ((items.size * k.toNat : Nat) : Int) ≤ 10000 := by exact_mod_cast hz
      rw [Int.natCast_mul, Int.toNat_of_nonneg (by omega)] at this
      exact this
    have c1 : ¬ (decide (k < -2 ^ 63) || decide (k ≥ 2 ^ 63)) = true := by
      rw [p63]; simp; omega
    have c2 : ¬ (items.isEmpty || k == 1) = true := by
      rw [hi, Bool.false_or]; simp; omega
    have c3 : ¬ (decide (k ≤ 0) || items.isEmpty) = true := by
      rw [hi, Bool.or_false]; simp; omega
    have c4 : ¬ (items.size : Int) * k > (2 ^ 63 - 1) / 8 := by
      rw [p63]; omega
    have c5 : ¬ Builtin.Tuple.tupleTooMany ((items.size : Int) * k) = true := by
      unfold Builtin.Tuple.tupleTooMany
      have : ((sizeLine : Nat) : Int) ≥ 10000 := by decide
      simp; omega
    have c6 : ¬ (List.foldl (fun x1 x2 => x1 ++ x2) #[] (List.replicate k.toNat items)).size > sizeLine := by
      have e : List.foldl (fun x1 x2 => x1 ++ x2) #[] (List.replicate k.toNat items) = (List.replicate k.toNat items.toList).flatten.toArray := by
        have := foldl_rep items.toList k.toNat []
        rw [List.nil_append] at this
        exact this
      rw [e, List.size_toArray, len_rep, Array.length_toList, Nat.mul_comm]
      have : 10000 ≤ sizeLine := by decide
      omega
    wp_walk
    rw [if_neg c1]
    wp_walk
    rw [if_neg c2]
    wp_walk
    rw [if_neg c3]
    wp_walk
    rw [if_neg c4]
    wp_walk
    exact ⟨_, rfl, h⟩
section
variable {X : Cx}
def rRepT (K : PySem.W.Frag) : R2 := fun x y H Q => ∃ l k xs, x = .ref l ∧ y = .int k ∧ SqT K H l xs ∧ xs ≠ [] ∧ 2 ≤ k ∧ k < 1000 ∧ xs.length * k.toNat ≤ 10000 ∧
  ∀ p, H p = none → Q (.ref p) (upd H p (.tup (List.replicate k.toNat xs).flatten))
theorem op_repT : OpR X (binaryOp .Mult) (rRepT X.K) := by
  intro pins s σ H x y v u Q I rx ry h
  obtain ⟨l, k, xs, rfl, rfl, hq, hx, h1, h2, hz, q⟩ := h
  cases rx
  obtain ⟨t, rfl⟩ := ry
  obtain ⟨its, r, ⟨o, e, hc, n, hd⟩, _⟩ := I.tuple hq
  obtain ⟨c, dd, da, sl⟩ := o
  cases (show c = .type "tuple" from hc)
  cases (show da = .seq its.toArray n from hd)
  have hl := r.length
  have hi : its.toArray.isEmpty = false := by
    cases its with
    | nil => exact absurd (List.eq_nil_of_length_eq_zero (by rw [hl]; rfl)) hx
    | cons a r => rfl
  have hnew : List.foldl (fun x1 x2 => x1 ++ x2) #[] (List.replicate k.toNat its.toArray) = (List.replicate k.toNat its).flatten.toArray := by
    have := foldl_rep its k.toNat []
    rw [List.nil_append] at this
    exact this
  refine wpAny_binaryOp_repeat_ref (T := "tuple") (U := "int") (by decide) ⟨_, e, rfl⟩ (fun s' => typeIs_int s' k t) noFill_tup_mul F.fills_int_mul F.slot_int_rmul rep_tup F.slot_int_index.lookup
    (call_meets F.slot_int_rmul (typeIs_int s k t) F.entry_int_rmul (F.args_int_rmul_2 _ _) (rmul_int_tup k t l its.toArray n dd sl)
      ⟨e, rfl, ⟨_, e, rfl⟩, call_meets F.slot_tuple_mul ⟨_, e, rfl⟩ F.entry_tuple_mul (F.args_tuple_mul_2 _ _) (mul_tup l its.toArray n dd sl k t h1 h2 hi (by rw [List.size_toArray, ← hl]; exact hz)) ⟨e, ?_⟩⟩)
  rw [hnew]
  refine ⟨.ref s.heap.objs.size, _, I.laid (t' := s.toks) (o := .tup (List.replicate k.toNat xs).flatten) (fun b ob q => Heap.get?_push_of_some _ q) (Nat.le_refl _) ?_, rfl, q _ (I.hok.fresh (Nat.le_refl _))⟩
  exact ⟨by rw [len_rep, Nat.mul_comm]; exact Nat.le_trans hz (by decide), _, r.rep k.toNat, IsTup.new _ _⟩
end
end L2

set_option maxHeartbeats 4000000
namespace My
open PySem L2 CT CS
theorem scOneRow : FnScope ["_law_pot_here", "_law_head", "_law_word_here", "_law_column_here", "_law_sort"] ["_law_pot_here", "_law_head", "_law_word_here"] (defScope sOneRow) := ⟨rfl, rfl, rfl, by decide +kernel, rfl, by decide +kernel, by decide +kernel⟩
theorem scOther : FnScope ["_law_pot_here", "_law_head", "_law_word_here", "_law_column_here"] ["_law_pot_here", "_law_head", "_law_word_here"] (defScope sOther) := ⟨rfl, rfl, rfl, by decide +kernel, rfl, by decide +kernel, by decide +kernel⟩
/-- a worker that is no both and no meet -/
def spPlain (K : PySem.W.Frag) : Sp := fun vs H Q _ => ∃ (p a : Addr) (hs : List Str) (wd : Str), vs = [.ref p, .ref a, .str wd] ∧ PotAt H p ∧ HeadAt K H a hs ∧ ∀ t ds H', Grow p H H' → DAt K H' (.tup (.str wd :: ds)) (.ref t) → noLs ds = true → Q (.ref t) H'
/-- (head + ("n",) * 12)[c - 1] -/
theorem rd_sort {K : PySem.W.Frag} {H : Hp} {p a : Addr} {hs : List Str} {σ : St} {Q : VK} {c : Int} {i j : Nat} (hP : PotAt H p) (hh : HeadAt K H a hs) (e1 : σ[i]? = some (some (.ref a))) (e2 : σ[j]? = some (some (.int c))) (c1 : 1 ≤ c) (c2 : c ≤ 12) (q : ∀ x H', Grow p H H' → Q (.str x) H') :
    tOp (rIxT K) (tOp (rCatT K) (tVar i) (tOp (rRepT K) (tTup (tCons (tC (.str "n")) tNil)) (tC (.int 12)))) (tOp (rI0 fun i j => .int (i - j)) (tVar j) (tC (.int 1))) σ H Q := by
  refine ⟨_, e1, (by show 1 ≤ sizeLine; decide), fun t ht => ⟨t, 12, _, rfl, rfl, SqT.of upd_same, by simp, by decide, by decide, by decide, fun u hu => ?_⟩⟩
  have g0 := Grow.refl hP
  have g1 := g0.new (o := .tup [.str "n"]) ht
  have g2 := g1.new (o := .tup (List.replicate (12 : Int).toNat [V.str "n"]).flatten) hu
  have h2 := hh.grow hP g2
  have hp1 := hh.pos
  have hf := hh.few
  refine ⟨a, u, _, _, rfl, rfl, SqT.of h2.tup, SqT.of upd_same, ?_, ?_, fun z => absurd z (by decide), fun _ w hw => ?_⟩
  · intro z
    rw [List.map_eq_nil_iff.mp z] at hp1
    exact absurd hp1 (by decide)
  · rw [List.length_map]
    exact Nat.le_trans (show hs.length + 12 ≤ 18 by omega) (by decide)
  have hl : (hs.map V.str ++ (List.replicate (12 : Int).toNat [V.str "n"]).flatten).length = hs.length + 12 := by rw [List.length_append, List.length_map]; rfl
  have hi : (c - 1).toNat < (hs.map V.str ++ (List.replicate (12 : Int).toNat [V.str "n"]).flatten).length := by rw [hl]; omega
  have hv : atI (hs.map V.str ++ (List.replicate (12 : Int).toNat [V.str "n"]).flatten) (c - 1) = some ((hs.map V.str ++ (List.replicate (12 : Int).toNat [V.str "n"]).flatten)[(c - 1).toNat]) := by
    have := atI_nat (j := (c - 1).toNat) (List.getElem?_eq_getElem hi)
    rw [show (((c - 1).toNat : Nat) : Int) = c - 1 by omega] at this
    exact this
  have hm := List.getElem_mem hi
  have hx : ∃ x : Str, (hs.map V.str ++ (List.replicate (12 : Int).toNat [V.str "n"]).flatten)[(c - 1).toNat] = .str x := by
    rcases List.mem_append.mp hm with z | z
    · obtain ⟨x, _, e⟩ := List.mem_map.mp z
      exact ⟨x, e.symm⟩
    · obtain ⟨l, hl, hz⟩ := List.mem_flatten.mp z
      rw [List.eq_of_mem_replicate hl] at hz
      exact ⟨"n", List.mem_singleton.mp hz⟩
  obtain ⟨x, ex⟩ := hx
  rw [ex] at hv
  exact ⟨_, e2, _, _, rfl, rfl, w, _, _, _, rfl, rfl, SqT.of upd_same, hv, q x _ (g2.new hw)⟩
section
variable {P : Program} {w : World} {K : PySem.W.Frag} {mg : Str → Option Value} {base : Heap} {f fD fC fCs fS fP fT fM fO : Addr} {fd dD dC dCs dS dP dT dM dO : FuncData}
theorem ok_onerow (B2 : Blt2 mg) (F : Fun K "_law_one_row" "_law_one_row" sOneRow f fd)
    (GC : FnOk P w K mg base CX0 4 fC dC ["_law_pot_here", "_law_head"] (spColumn K)) (bC : Binds K dC ["_law_pot_here", "_law_head"] []) (kC : PySem.W.keepIn K (.ref fC) = true) (mC : mg "_law_column" = some (.ref fC))
    (GCs : FnOk P w K mg base CX0 4 fCs dCs ["_law_pot_here", "_law_head", "_law_many_here"] (spColumns K)) (bCs : Binds K dCs ["_law_pot_here", "_law_head", "_law_many_here"] []) (kCs : PySem.W.keepIn K (.ref fCs) = true) (mCs : mg "_law_columns" = some (.ref fCs))
    (GD : FnOk P w K mg base CX0 4 fD dD ["_law_pot_here", "_law_many_here"] spDraw) (bD : Binds K dD ["_law_pot_here", "_law_many_here"] []) (kD : PySem.W.keepIn K (.ref fD) = true) (mD : mg "_law_draw" = some (.ref fD))
    (GS : FnOk P w K mg base CX0 4 fS dS ["_law_pot_here", "_law_sort"] (spSet K)) (bS : Binds K dS ["_law_pot_here", "_law_sort"] []) (kS : PySem.W.keepIn K (.ref fS) = true) (mS : mg "_law_set" = some (.ref fS))
    (GP : FnOk P w K mg base CX0 4 fP dP ["_law_pot_here", "_law_here", "_law_there"] (spPairs K)) (bP : Binds K dP ["_law_pot_here", "_law_here", "_law_there"] []) (kP : PySem.W.keepIn K (.ref fP) = true) (mP : mg "_law_pairs" = some (.ref fP)) :
    FnOk P w K mg base CX0 5 f fd ["_law_pot_here", "_law_head", "_law_word_here"] (spPlain K) := by
  refine F.ok scOneRow (fun vs H Q E h => ?_) (fun cdv A outer s H vs Q E hr h => ?_)
  · obtain ⟨p, a, hs, wd, rfl, _⟩ := h
    rfl
  obtain ⟨p, a, hs, wd, rfl, hP, hh, q⟩ := h
  refine ⟨_, pss_cons (ps_if (pt_cmpR op_eq (pv 2) pe_str (nomark _)) (pss_one (ps_ret (pe_tup (pa_cons pe_str (pa_cons (pe_call GC hr rfl mC kC bC .nil pass0 (pa_cons (pv 0) (pa_cons (pv 1) pa_nil))) (pa_cons (pe_call GC hr rfl mC kC bC .nil pass0 (pa_cons (pv 0) (pa_cons (pv 1) pa_nil))) pa_nil)))))) pss_nil)
    (pss_cons (ps_if (pt_cmpR op_eq (pv 2) pe_str (nomark _)) (pss_one (ps_ret (pe_tup (pa_cons pe_str (pa_cons (pe_call GCs hr rfl mCs kCs bCs .nil pass0 (pa_cons (pv 0) (pa_cons (pv 1) (pa_cons (pe_op op_add pe_int (pe_call GD hr rfl mD kD bD .nil pass0 (pa_cons (pv 0) (pa_cons pe_int pa_nil)))) pa_nil)))) pa_nil))))) pss_nil)
    (pss_cons (ps_set (i := 3) scOneRow.nd rfl (Or.inl rfl) (pe_call GC hr rfl mC kC bC .nil pass0 (pa_cons (pv 0) (pa_cons (pv 1) pa_nil))))
    (pss_cons (ps_set (i := 4) scOneRow.nd rfl (Or.inl rfl) (pe_ix (r := rIxT K) ix_tup (pe_op op_catT (pv 1) (pe_op op_repT (pe_tup (pa_cons pe_str pa_nil)) pe_int)) (pe_op op_sub (pv 3) pe_int) (fun _ _ => rfl)))
    (pss_cons (ps_if (pt_cmpR op_eq (pv 2) pe_str (nomark _)) (pss_one (ps_ret (pe_tup (pa_cons pe_str (pa_cons (pv 3) (pa_cons (pe_call GS hr rfl mS kS bS .nil pass0 (pa_cons (pv 0) (pa_cons (pv 4) pa_nil))) pa_nil)))))) pss_nil)
    (pss_one (ps_ret (pe_tup (pa_cons (pv 2) (pa_cons (pv 3) (pa_cons (pe_call GP hr rfl mP kP bP .nil pass0 (pa_cons (pv 0) (pa_cons (pv 4) (pa_cons (pe_ix (r := rIxL K) ix_list (pe_lst (pa_cons (pv 4) (pa_cons (pe_ix (r := rIxL K) ix_list (pe_lst (pa_cons pe_str (pa_cons pe_str pa_nil))) (pe_call GD hr rfl mD kD bD .nil pass0 (pa_cons (pv 0) (pa_cons pe_int pa_nil))) (fun _ _ => rfl)) pa_nil)))
      (pe_callTy call_int1 rfl B2.int PyProof.Rows.boot_int (pa_cons (pe_cmpR op_eq (pv 2) pe_str (nomark _)) pa_nil)) (fun _ _ => rfl)) pa_nil)))) pa_nil)))))))))), ?_⟩
  refine ⟨_, rfl, rfl, _, rfl, ?_⟩
  refine ite2 (fun c => ?_) (fun _ => ?_)
  · have e : wd = "same" := by have := of_decide_eq_true c; injection this
    subst e
    refine ⟨_, rfl, _, rfl, p, a, hs, rfl, hP, hh, fun n H1 g1 _ _ => ?_⟩
    refine ⟨_, rfl, _, rfl, p, a, hs, rfl, g1.pot, hh.grow hP g1, fun m H2 g2 _ _ => ⟨(by show 3 ≤ sizeLine; decide), fun t ht => ?_⟩⟩
    exact q t [.int n, .int m] _ ((g1.trans g2).new ht) (dat_tup upd_same (DsAt.cons (dat_str _) (DsAt.cons (dat_int _) (DsAt.cons (dat_int _) DsAt.nil)))) rfl
  refine ⟨_, rfl, rfl, _, rfl, ?_⟩
  refine ite2 (fun c => ?_) (fun _ => ?_)
  · have e : wd = "cut" := by have := of_decide_eq_true c; injection this
    subst e
    refine ⟨_, rfl, _, rfl, _, rfl, p, _, rfl, hP, by decide, by decide, fun d H1 g1 a1 b1 => ⟨_, _, rfl, rfl, ?_⟩⟩
    refine ⟨p, a, hs, _, rfl, g1.pot, hh.grow hP g1, by omega, by omega, fun t2 ns H2 g2 h2 => ⟨(by show 2 ≤ sizeLine; decide), fun t ht => ?_⟩⟩
    exact q t [.tup (ns.map D.int)] _ ((g1.trans g2).new ht) (dat_tup upd_same (DsAt.cons (dat_str _) (DsAt.cons (dat_tup (same_new ht _ _ _ h2) (dsat_ints ns)) DsAt.nil))) (by simp only [noL, noLs, Bool.and_true]; exact noLs_map (fun _ => by simp [noL]) ns)
  refine ⟨_, rfl, _, rfl, p, a, hs, rfl, hP, hh, fun n H1 g1 n1 n2 => ?_⟩
  refine gName_go ?_
  dsimp only
  have hh1 := hh.grow hP g1
  refine rd_sort g1.pot hh1 rfl rfl n1 n2 fun x H2 g2 => ?_
  have gg := g1.trans g2
  refine gName_go ?_
  dsimp only
  refine ⟨_, rfl, rfl, _, rfl, ?_⟩
  refine ite2 (fun c => ?_) (fun _ => ?_)
  · have e : wd = "keep" := by have := of_decide_eq_true c; injection this
    subst e
    refine ⟨_, rfl, _, rfl, _, rfl, p, x, rfl, gg.pot, fun v d H3 g3 hd nd => ⟨(by show 3 ≤ sizeLine; decide), fun t ht => ?_⟩⟩
    have st := same_new ht (.tup [.str "keep", .int n, v])
    exact q t [.int n, d] _ ((gg.trans g3).new ht) (dat_tup upd_same (DsAt.cons (dat_str _) (DsAt.cons (dat_int _) (DsAt.cons (hd.same st) DsAt.nil)))) (by simp [noLs, noL, nd])
  refine ⟨_, rfl, _, rfl, _, rfl, _, rfl, _, rfl, (by show 2 ≤ sizeLine; decide), fun R hR => ?_⟩
  have k1 := gg.new (o := .lst [.str "n", .str "w"]) hR
  refine ⟨_, rfl, p, _, rfl, k1.pot, by decide, by decide, fun d H3 g3 a3 b3 => ?_⟩
  have hk := g3.keep R _ (gg.ne hR) upd_same
  have pick1 : ∃ y : Str, atI [V.str "n", V.str "w"] d = some (.str y) := by
    have hd : d = 0 ∨ d = 1 := by omega
    rcases hd with z | z <;> rw [z]
    · exact ⟨_, rfl⟩
    · exact ⟨_, rfl⟩
  obtain ⟨y, hy⟩ := pick1
  refine ⟨R, _, _, _, rfl, rfl, SqL.of hk, hy, (by show 2 ≤ sizeLine; decide), fun R2 hR2 => ?_⟩
  have k2 := (k1.trans g3).new (o := .lst [.str x, .str y]) hR2
  refine ⟨_, rfl, rfl, .inr ⟨_, rfl, ?_⟩⟩
  have pick2 : ∃ z : Str, atI [V.str x, V.str y] (if decide (V.str wd = V.str "must") = true then 1 else 0) = some (.str z) := by
    cases decide (V.str wd = V.str "must")
    · exact ⟨_, rfl⟩
    · exact ⟨_, rfl⟩
  obtain ⟨z, hz⟩ := pick2
  refine ⟨R2, _, _, _, rfl, rfl, SqL.of upd_same, hz, ?_⟩
  refine ⟨p, ⟨x, z, rfl⟩, k2.pot, fun t2 ds H4 g4 hd nd => ⟨(by show 3 ≤ sizeLine; decide), fun t ht => ?_⟩⟩
  have st := same_new ht (.tup [.str wd, .int n, .ref t2])
  exact q t [.int n, .tup ds] _ ((k2.trans g4).new ht) (dat_tup upd_same (DsAt.cons (dat_str _) (DsAt.cons (dat_int _) (DsAt.cons (hd.same st) DsAt.nil)))) (by simp [noLs, noL, nd])
end
end My

set_option maxHeartbeats 4000000
namespace My
open PySem L2 CT CS
section
variable {P : Program} {w : World} {K : PySem.W.Frag} {mg : Str → Option Value} {base : Heap} {f fD fC fCs fS fP fT fM fO : Addr} {fd dD dC dCs dS dP dT dM dO : FuncData}
theorem ok_other (F : Fun K "_law_other" "_law_other" sOther f fd)
    (GC : FnOk P w K mg base CX0 4 fC dC ["_law_pot_here", "_law_head"] (spColumn K)) (bC : Binds K dC ["_law_pot_here", "_law_head"] []) (kC : PySem.W.keepIn K (.ref fC) = true) (mC : mg "_law_column" = some (.ref fC))
    (GT : FnOk P w K mg base CX0 4 fT dT ["_law_pot_here"] spState) (bT : Binds K dT ["_law_pot_here"] []) (kT : PySem.W.keepIn K (.ref fT) = true) (mT : mg "_law_state" = some (.ref fT))
    (GM : FnOk P w K mg base CX0 4 fM dM ["_law_pot_here", "_law_sort"] (spMoves K)) (bM : Binds K dM ["_law_pot_here", "_law_sort"] []) (kM : PySem.W.keepIn K (.ref fM) = true) (mM : mg "_law_moves" = some (.ref fM))
    (GO : FnOk P w K mg base CX0 4 fO dO ["_law_pot_here", "_law_head"] (spOrder K)) (bO : Binds K dO ["_law_pot_here", "_law_head"] []) (kO : PySem.W.keepIn K (.ref fO) = true) (mO : mg "_law_order" = some (.ref fO))
    (GCs : FnOk P w K mg base CX0 4 fCs dCs ["_law_pot_here", "_law_head", "_law_many_here"] (spColumns K)) (bCs : Binds K dCs ["_law_pot_here", "_law_head", "_law_many_here"] []) (kCs : PySem.W.keepIn K (.ref fCs) = true) (mCs : mg "_law_columns" = some (.ref fCs))
    (GD : FnOk P w K mg base CX0 4 fD dD ["_law_pot_here", "_law_many_here"] spDraw) (bD : Binds K dD ["_law_pot_here", "_law_many_here"] []) (kD : PySem.W.keepIn K (.ref fD) = true) (mD : mg "_law_draw" = some (.ref fD)) :
    FnOk P w K mg base CX0 5 f fd ["_law_pot_here", "_law_head", "_law_word_here"] (spPlain K) := by
  refine F.ok scOther (fun vs H Q E h => ?_) (fun cdv A outer s H vs Q E hr h => ?_)
  · obtain ⟨p, a, hs, wd, rfl, _⟩ := h
    rfl
  obtain ⟨p, a, hs, wd, rfl, hP, hh, q⟩ := h
  refine ⟨_, pss_cons (ps_if (pt_cmpR op_eq (pv 2) pe_str (nomark _)) (pss_cons (ps_set (i := 3) scOther.nd rfl (Or.inl rfl) (pe_call GC hr rfl mC kC bC .nil pass0 (pa_cons (pv 0) (pa_cons (pv 1) pa_nil))))
      (pss_one (ps_ret (pe_tup (pa_cons pe_str (pa_cons (pv 3) (pa_cons (pe_call GT hr rfl mT kT bT .nil pass0 (pa_cons (pv 0) pa_nil)) (pa_cons (pe_call GM hr rfl mM kM bM .nil pass0 (pa_cons (pv 0) (pa_cons (pe_ix (r := rIxT K) ix_tup (pe_op op_catT (pv 1) (pe_op op_repT (pe_tup (pa_cons pe_str pa_nil)) pe_int)) (pe_op op_sub (pv 3) pe_int) (fun _ _ => rfl)) pa_nil))) pa_nil)))))))) pss_nil)
    (pss_cons (ps_if (pt_cmpR op_eq (pv 2) pe_str (nomark _)) (pss_one (ps_ret (pe_tup (pa_cons pe_str (pa_cons (pe_call GO hr rfl mO kO bO .nil pass0 (pa_cons (pv 0) (pa_cons (pv 1) pa_nil))) pa_nil))))) pss_nil)
    (pss_cons (ps_if (pt_cmpR op_eq (pv 2) pe_str (nomark _)) (pss_one (ps_ret (pe_tup (pa_cons pe_str (pa_cons (pe_call GCs hr rfl mCs kCs bCs .nil pass0 (pa_cons (pv 0) (pa_cons (pv 1) (pa_cons (pe_call GD hr rfl mD kD bD .nil pass0 (pa_cons (pv 0) (pa_cons pe_int pa_nil))) pa_nil)))) pa_nil))))) pss_nil)
    (pss_cons (ps_if (pt_cmpR op_eq (pv 2) pe_str (nomark _)) (pss_one (ps_ret (pe_tup (pa_cons pe_str (pa_cons (pe_call GCs hr rfl mCs kCs bCs .nil pass0 (pa_cons (pv 0) (pa_cons (pv 1) (pa_cons (pe_call GD hr rfl mD kD bD .nil pass0 (pa_cons (pv 0) (pa_cons pe_int pa_nil))) pa_nil)))) (pa_cons (pe_call GC hr rfl mC kC bC .nil pass0 (pa_cons (pv 0) (pa_cons (pv 1) pa_nil))) pa_nil)))))) pss_nil)
    (pss_cons (ps_if (pt_cmpR op_eq (pv 2) pe_str (nomark _)) (pss_one (ps_ret (pe_tup (pa_cons pe_str (pa_cons (pe_ix (r := rIxL K) ix_list (pe_lst (pa_cons (pe_call GD hr rfl mD kD bD .nil pass0 (pa_cons (pv 0) (pa_cons pe_int pa_nil))) (pa_cons (pe_call GD hr rfl mD kD bD .nil pass0 (pa_cons (pv 0) (pa_cons pe_int pa_nil))) pa_nil))) (pe_call GD hr rfl mD kD bD .nil pass0 (pa_cons (pv 0) (pa_cons pe_int pa_nil))) (fun _ _ => rfl)) pa_nil))))) pss_nil)
    (pss_one (ps_ret (pe_tup (pa_cons (pv 2) pa_nil)))))))), ?_⟩
  refine ⟨_, rfl, rfl, _, rfl, ?_⟩
  refine ite2 (fun c => ?_) (fun _ => ?_)
  · have e : wd = "walk" := by have := of_decide_eq_true c; injection this
    subst e
    refine ⟨_, rfl, _, rfl, p, a, hs, rfl, hP, hh, fun n H1 g1 n1 n2 => ?_⟩
    refine gName_go ?_
    dsimp only
    refine ⟨_, rfl, _, rfl, p, rfl, g1.pot, fun st H2 g2 => ?_⟩
    have gg := g1.trans g2
    refine ⟨_, rfl, rd_sort gg.pot (hh.grow hP gg) rfl rfl n1 n2 fun x H3 g3 => ?_⟩
    have g5 := gg.trans g3
    refine ⟨p, ⟨x, rfl⟩, g5.pot, fun t2 ds H4 g4 hd nd => ⟨(by show 4 ≤ sizeLine; decide), fun t ht => ?_⟩⟩
    have sn := same_new ht (.tup [.str "walk", .int n, .str st, .ref t2])
    exact q t [.int n, .str st, .tup ds] _ ((g5.trans g4).new ht) (dat_tup upd_same (DsAt.cons (dat_str _) (DsAt.cons (dat_int _) (DsAt.cons (dat_str _) (DsAt.cons (hd.same sn) DsAt.nil))))) (by simp [noLs, noL, nd])
  refine ⟨_, rfl, rfl, _, rfl, ?_⟩
  refine ite2 (fun c => ?_) (fun _ => ?_)
  · have e : wd = "sort" := by have := of_decide_eq_true c; injection this
    subst e
    refine ⟨_, rfl, _, rfl, p, ⟨a, hs, rfl, hh⟩, hP, fun t2 ds H4 g4 hd nd => ⟨(by show 2 ≤ sizeLine; decide), fun t ht => ?_⟩⟩
    have sn := same_new ht (.tup [.str "sort", .ref t2])
    exact q t [.tup ds] _ (g4.new ht) (dat_tup upd_same (DsAt.cons (dat_str _) (DsAt.cons (hd.same sn) DsAt.nil))) (by simp [noLs, noL, nd])
  refine ⟨_, rfl, rfl, _, rfl, ?_⟩
  refine ite2 (fun c => ?_) (fun _ => ?_)
  · have e : wd = "count" := by have := of_decide_eq_true c; injection this
    subst e
    refine ⟨_, rfl, _, rfl, _, rfl, p, _, rfl, hP, by decide, by decide, fun d H1 g1 a1 b1 => ?_⟩
    refine ⟨p, a, hs, _, rfl, g1.pot, hh.grow hP g1, by omega, by omega, fun t2 ns H2 g2 h2 => ⟨(by show 2 ≤ sizeLine; decide), fun t ht => ?_⟩⟩
    exact q t [.tup (ns.map D.int)] _ ((g1.trans g2).new ht) (dat_tup upd_same (DsAt.cons (dat_str _) (DsAt.cons (dat_tup (same_new ht _ _ _ h2) (dsat_ints ns)) DsAt.nil))) (by simp only [noL, noLs, Bool.and_true]; exact noLs_map (fun _ => by simp [noL]) ns)
  refine ⟨_, rfl, rfl, _, rfl, ?_⟩
  refine ite2 (fun c => ?_) (fun _ => ?_)
  · have e : wd = "sum" := by have := of_decide_eq_true c; injection this
    subst e
    refine ⟨_, rfl, _, rfl, _, rfl, p, _, rfl, hP, by decide, by decide, fun d H1 g1 a1 b1 => ?_⟩
    refine ⟨p, a, hs, _, rfl, g1.pot, hh.grow hP g1, by omega, by omega, fun t2 ns H2 g2 h2 => ?_⟩
    have gg := g1.trans g2
    refine ⟨_, rfl, _, rfl, p, a, hs, rfl, gg.pot, hh.grow hP gg, fun n H3 g3 n1 n2 => ⟨(by show 3 ≤ sizeLine; decide), fun t ht => ?_⟩⟩
    have h3 := tup_grow gg.pot g3 h2
    exact q t [.tup (ns.map D.int), .int n] _ ((gg.trans g3).new ht) (dat_tup upd_same (DsAt.cons (dat_str _) (DsAt.cons (dat_tup (same_new ht _ _ _ h3) (dsat_ints ns)) (DsAt.cons (dat_int _) DsAt.nil)))) (by simp only [noL, noLs, Bool.and_true]; exact noLs_map (fun _ => by simp [noL]) ns)
  refine ⟨_, rfl, rfl, _, rfl, ?_⟩
  refine ite2 (fun c => ?_) (fun _ => ?_)
  · have e : wd = "first" := by have := of_decide_eq_true c; injection this
    subst e
    refine ⟨_, rfl, p, _, rfl, hP, by decide, by decide, fun d H1 g1 a1 b1 => ?_⟩
    refine ⟨_, rfl, p, _, rfl, g1.pot, by decide, by decide, fun d2 H2 g2 a2 b2 => ⟨(by show 2 ≤ sizeLine; decide), fun R hR => ?_⟩⟩
    have gg := (g1.trans g2).new (o := .lst [.int d, .int d2]) hR
    refine ⟨_, rfl, p, _, rfl, gg.pot, by decide, by decide, fun d3 H3 g3 a3 b3 => ?_⟩
    have hk := g3.keep R _ ((g1.trans g2).ne hR) upd_same
    have pick1 : ∃ y : Int, atI [V.int d, V.int d2] d3 = some (.int y) := by
      have hd : d3 = 0 ∨ d3 = 1 := by omega
      rcases hd with z | z <;> rw [z]
      · exact ⟨_, rfl⟩
      · exact ⟨_, rfl⟩
    obtain ⟨y, hy⟩ := pick1
    refine ⟨R, _, _, _, rfl, rfl, SqL.of hk, hy, (by show 2 ≤ sizeLine; decide), fun t ht => ?_⟩
    exact q t [.int y] _ ((gg.trans g3).new ht) (dat_tup upd_same (DsAt.cons (dat_str _) (DsAt.cons (dat_int _) DsAt.nil))) rfl
  refine ⟨_, rfl, (by show 1 ≤ sizeLine; decide), fun t ht => ?_⟩
  exact q t [] _ ((Grow.refl hP).new ht) (dat_tup upd_same (DsAt.cons (dat_str _) DsAt.nil)) rfl
end
end My

set_option maxHeartbeats 4000000
namespace My
open PySem L2 CT CS
theorem scJoining : FnScope ["_law_pot_here", "_law_head", "_law_deep", "_law_word_here", "_law_one", "_law_other_here"] ["_law_pot_here", "_law_head", "_law_deep", "_law_word_here"] (defScope sJoining) := ⟨rfl, rfl, rfl, by decide +kernel, rfl, by decide +kernel, by decide +kernel⟩
theorem scWorker : FnScope ["_law_pot_here", "_law_head", "_law_deep", "_law_words", "_law_word_here"] ["_law_pot_here", "_law_head", "_law_deep"] (defScope sWorker) := ⟨rfl, rfl, rfl, by decide +kernel, rfl, by decide +kernel, by decide +kernel⟩
theorem scPipe : FnScope ["_law_pot_here", "_law_head", "_law_deep", "_law_many_here"] ["_law_pot_here", "_law_head", "_law_deep", "_law_many_here"] (defScope sPipe) := ⟨rfl, rfl, rfl, by decide +kernel, rfl, by decide +kernel, by decide +kernel⟩
def isBr (wd : Str) : Prop := wd = "both" ∨ wd = "meet"
/-- a worker as data: its branches, if it has some, stand last -/
def WkD (PP : D → Prop) (w : D) : Prop := ∃ wd ds, w = .tup (.str wd :: ds) ∧ (¬ isBr wd ∨ (isBr wd ∧ ∃ pre q r, ds = pre ++ [q, r] ∧ PP q ∧ PP r))
def sub (PP : Nat → D → Prop) : Nat → D → Prop
  | 0, _ => False
  | n + 1, d => PP n d
def PpD : Nat → D → Prop
  | 0, d => ∃ ws, d = .tup ws ∧ ws.length ≤ 10 ∧ ∀ w ∈ ws, WkD (fun _ => False) w
  | n + 1, d => ∃ ws, d = .tup ws ∧ ws.length ≤ 10 ∧ ∀ w ∈ ws, WkD (PpD n) w
theorem PpD.iff {n : Nat} {d : D} : PpD n d ↔ ∃ ws, d = .tup ws ∧ ws.length ≤ 10 ∧ ∀ w ∈ ws, WkD (sub PpD n) w := by
  cases n <;> (unfold PpD; rfl)
def spPipe (K : PySem.W.Frag) (n : Nat) : Sp := fun vs H Q _ => ∃ (p a : Addr) (hs : List Str) (m : Int), vs = [.ref p, .ref a, .int n, .int m] ∧ PotAt H p ∧ HeadAt K H a hs ∧ 0 ≤ m ∧ m ≤ 8 ∧ ∀ t d H', Grow p H H' → DAt K H' d (.ref t) → noL d = true → PpD n d → Q (.ref t) H'
def spWorker (K : PySem.W.Frag) (n : Nat) : Sp := fun vs H Q _ => ∃ (p a : Addr) (hs : List Str), vs = [.ref p, .ref a, .int n] ∧ PotAt H p ∧ HeadAt K H a hs ∧ ∀ t d H', Grow p H H' → DAt K H' d (.ref t) → noL d = true → WkD (sub PpD n) d → Q (.ref t) H'
def spJoin (K : PySem.W.Frag) : Nat → Sp
  | 0 => fun _ _ _ _ => False
  | n + 1 => fun vs H Q _ => ∃ (p a : Addr) (hs : List Str) (wd : Str), vs = [.ref p, .ref a, .int ((n + 1 : Nat) : Int), .str wd] ∧ isBr wd ∧ PotAt H p ∧ HeadAt K H a hs ∧ ∀ t d H', Grow p H H' → DAt K H' d (.ref t) → noL d = true → WkD (PpD n) d → Q (.ref t) H'
section
variable {P : Program} {w : World} {K : PySem.W.Frag} {mg : Str → Option Value} {base : Heap} {f fD fC fP fR fO fJ fW : Addr} {fd dD dC dP dR dO dJ dW : FuncData} {L : Nat}
theorem ok_join0 (F : Fun K "_law_joining" "_law_joining" sJoining f fd) : FnOk P w K mg base CX0 (L + 1) f fd ["_law_pot_here", "_law_head", "_law_deep", "_law_word_here"] (spJoin K 0) :=
  F.ok scJoining (fun vs H Q E h => False.elim h) (fun cdv A outer s H vs Q E hr h => False.elim h)
theorem ok_joinS {n : Nat} (F : Fun K "_law_joining" "_law_joining" sJoining f fd)
    (GP : FnOk P w K mg base CX0 L fP dP ["_law_pot_here", "_law_head", "_law_deep", "_law_many_here"] (spPipe K n)) (bP : Binds K dP ["_law_pot_here", "_law_head", "_law_deep", "_law_many_here"] []) (kP : PySem.W.keepIn K (.ref fP) = true) (mP : mg "_law_pipe" = some (.ref fP))
    (GD : FnOk P w K mg base CX0 L fD dD ["_law_pot_here", "_law_many_here"] spDraw) (bD : Binds K dD ["_law_pot_here", "_law_many_here"] []) (kD : PySem.W.keepIn K (.ref fD) = true) (mD : mg "_law_draw" = some (.ref fD))
    (GC : FnOk P w K mg base CX0 L fC dC ["_law_pot_here", "_law_head"] (spColumn K)) (bC : Binds K dC ["_law_pot_here", "_law_head"] []) (kC : PySem.W.keepIn K (.ref fC) = true) (mC : mg "_law_column" = some (.ref fC)) :
    FnOk P w K mg base CX0 (L + 1) f fd ["_law_pot_here", "_law_head", "_law_deep", "_law_word_here"] (spJoin K (n + 1)) := by
  refine F.ok scJoining (fun vs H Q E h => ?_) (fun cdv A outer s H vs Q E hr h => ?_)
  · obtain ⟨p, a, hs, wd, rfl, _⟩ := h
    rfl
  obtain ⟨p, a, hs, wd, rfl, hb, hP, hh, q⟩ := h
  refine ⟨_, pss_cons (ps_set (i := 4) scJoining.nd rfl (Or.inl rfl) (pe_call GP hr rfl mP kP bP .nil pass0 (pa_cons (pv 0) (pa_cons (pv 1) (pa_cons (pe_op op_sub (pv 2) pe_int) (pa_cons (pe_call GD hr rfl mD kD bD .nil pass0 (pa_cons (pv 0) (pa_cons pe_int pa_nil))) pa_nil))))))
    (pss_cons (ps_set (i := 5) scJoining.nd rfl (Or.inl rfl) (pe_call GP hr rfl mP kP bP .nil pass0 (pa_cons (pv 0) (pa_cons (pv 1) (pa_cons (pe_op op_sub (pv 2) pe_int) (pa_cons (pe_call GD hr rfl mD kD bD .nil pass0 (pa_cons (pv 0) (pa_cons pe_int pa_nil))) pa_nil))))))
    (pss_cons (ps_if (pt_cmpR op_eq (pv 3) pe_str (nomark _)) (pss_one (ps_ret (pe_tup (pa_cons pe_str (pa_cons (pv 4) (pa_cons (pv 5) pa_nil)))))) pss_nil)
    (pss_one (ps_ret (pe_tup (pa_cons pe_str (pa_cons (pe_call GC hr rfl mC kC bC .nil pass0 (pa_cons (pv 0) (pa_cons (pv 1) pa_nil))) (pa_cons (pe_call GC hr rfl mC kC bC .nil pass0 (pa_cons (pv 0) (pa_cons (pv 1) pa_nil))) (pa_cons (pv 4) (pa_cons (pv 5) pa_nil)))))))))), ?_⟩
  have en : (((n + 1 : Nat) : Int) - 1) = (n : Int) := by omega
  refine ⟨_, rfl, _, rfl, _, rfl, _, _, rfl, rfl, _, rfl, p, _, rfl, hP, by decide, by decide, fun m1 H1 g1 a1 b1 => ?_⟩
  refine ⟨p, a, hs, m1, (by show [V.ref p, V.ref a, V.int (((n + 1 : Nat) : Int) - 1), V.int m1] = _; rw [en]), g1.pot, hh.grow hP g1, a1, by omega, fun t1 q1 H2 g2 hq1 nq1 pq1 => ?_⟩
  have k2 := g1.trans g2
  refine gName_go ?_
  dsimp only
  refine ⟨_, rfl, _, rfl, _, rfl, _, _, rfl, rfl, _, rfl, p, _, rfl, k2.pot, by decide, by decide, fun m2 H3 g3 a3 b3 => ?_⟩
  have k3 := k2.trans g3
  refine ⟨p, a, hs, m2, (by show [V.ref p, V.ref a, V.int (((n + 1 : Nat) : Int) - 1), V.int m2] = _; rw [en]), k3.pot, hh.grow hP k3, a3, by omega, fun t2 q2 H4 g4 hq2 nq2 pq2 => ?_⟩
  have k4 := k3.trans g4
  have hq1' : DAt K H4 q1 (.ref t1) := DAt.grow k2.pot (g3.trans g4) nq1 hq1
  refine gName_go ?_
  dsimp only
  refine ⟨_, rfl, rfl, _, rfl, ?_⟩
  refine ite2 (fun c => ?_) (fun c => ?_)
  · refine ⟨_, rfl, _, rfl, (by show 3 ≤ sizeLine; decide), fun t ht => ?_⟩
    have sn := same_new ht (.tup [.str "both", .ref t1, .ref t2])
    exact q t (.tup [.str "both", q1, q2]) _ (k4.new ht) (dat_tup upd_same (DsAt.cons (dat_str _) (DsAt.cons (hq1'.same sn) (DsAt.cons (hq2.same sn) DsAt.nil)))) (by simp [noL, noLs, nq1, nq2]) ⟨_, _, rfl, .inr ⟨.inl rfl, [], q1, q2, rfl, pq1, pq2⟩⟩
  · refine ⟨_, rfl, _, rfl, p, a, hs, rfl, k4.pot, hh.grow hP k4, fun c1 H5 g5 _ _ => ?_⟩
    have k5 := k4.trans g5
    refine ⟨_, rfl, _, rfl, p, a, hs, rfl, k5.pot, hh.grow hP k5, fun c2 H6 g6 _ _ => ?_⟩
    have k6 := k5.trans g6
    refine ⟨_, rfl, _, rfl, (by show 5 ≤ sizeLine; decide), fun t ht => ?_⟩
    have sn := same_new ht (.tup [.str "meet", .int c1, .int c2, .ref t1, .ref t2])
    have h1 : DAt K H6 q1 (.ref t1) := DAt.grow k4.pot (g5.trans g6) nq1 hq1'
    have h2 : DAt K H6 q2 (.ref t2) := DAt.grow k4.pot (g5.trans g6) nq2 hq2
    exact q t (.tup [.str "meet", .int c1, .int c2, q1, q2]) _ (k6.new ht) (dat_tup upd_same (DsAt.cons (dat_str _) (DsAt.cons (dat_int _) (DsAt.cons (dat_int _) (DsAt.cons (h1.same sn) (DsAt.cons (h2.same sn) DsAt.nil)))))) (by simp [noL, noLs, nq1, nq2]) ⟨_, _, rfl, .inr ⟨.inr rfl, [.int c1, .int c2], q1, q2, rfl, pq1, pq2⟩⟩
theorem ok_pipe {n : Nat} (B : Blt mg) (F : Fun K "_law_pipe" "_law_pipe" sPipe f fd)
    (GW : FnOk P w K mg base CX0 L fW dW ["_law_pot_here", "_law_head", "_law_deep"] (spWorker K n)) (bW : Binds K dW ["_law_pot_here", "_law_head", "_law_deep"] []) (kW : PySem.W.keepIn K (.ref fW) = true) (mW : mg "_law_worker" = some (.ref fW)) :
    FnOk P w K mg base CX0 (L + 1) f fd ["_law_pot_here", "_law_head", "_law_deep", "_law_many_here"] (spPipe K n) := by
  refine F.ok scPipe (fun vs H Q E h => ?_) (fun cdv A outer s H vs Q E hr h => ?_)
  · obtain ⟨p, a, hs, m, rfl, _⟩ := h
    rfl
  obtain ⟨p, a, hs, m, rfl, hP, hh, m0, m1, q⟩ := h
  refine ⟨_, pss_one (ps_ret (pe_callTy call_tuple_of rfl B.tuple PyProof.Rows.boot_tuple (pa_cons (pe_lcomp (N' := ["_law_k", "_law_pot_here", "_law_head", "_law_deep"]) (src := [none, some 0, some 1, some 2]) rfl (CompSc.ofB (by kernel_rfl)) (pi_range1 rfl B.range (pa_cons (pv 3) pa_nil)) (fun cl C s H fp => pgl (i := 0)) (fun cl C s H fp => pifs_nil)
      (fun cl C s H fp => pe_call GW hr glc mW kW bW .nil pass0 (pa_cons (pvf 1) (pa_cons (pvf 2) (pa_cons (pvf 3) pa_nil))))) pa_nil))), ?_⟩
  have g0 := Grow.refl hP
  refine ⟨_, rfl, m, rfl, (p62a m0 (by omega)).1, (p62a m0 (by omega)).2, fun Dl hD => ?_⟩
  have nD := g0.ne hD
  refine comp_range (n := m.toNat) (fun i σ ys H' => (∃ o, σ = [o, some (.ref p), some (.ref a), some (.int n)]) ∧ (∃ ds, DsAt K H' ds ys ∧ ds.length = i ∧ noLs ds = true ∧ ∀ d ∈ ds, WkD (sub PpD n) d) ∧ H' Dl = some (.lst ys) ∧ Grow p H H')
    ⟨⟨none, rfl⟩, ⟨[], DsAt.nil, rfl, rfl, by simp⟩, upd_same, g0.new hD⟩ ?_ ?_ ?_ ?_
  · rintro i σ ys H' _ ⟨_, ⟨ds, h1, rfl, _⟩, h, _⟩
    exact ⟨h, by rw [← h1.length]; exact Nat.le_refl _⟩
  · exact Nat.le_trans (show m.toNat ≤ 10 by omega) (by decide)
  · rintro i σ ys H' hi ⟨⟨o, rfl⟩, ⟨ds, h1, rfl, h2, h3⟩, h, g⟩
    refine ⟨_, rfl, _, rfl, _, rfl, p, a, hs, rfl, g.pot, hh.grow hP g, fun t d H2 g2 hd nd wd => ?_⟩
    have hk := g2.keep Dl _ nD h
    refine ⟨hk, ⟨_, rfl⟩, ⟨ds ++ [d], ?_, by rw [List.length_append]; rfl, ?_, fun d' hd' => ?_⟩, upd_same, g0.put hD nD (g.trans g2)⟩
    · have hs2 : ∀ c xs, SqT K H2 c xs → SqT K (upd H2 Dl (.lst (ys ++ [.ref t]))) c xs := fun c xs e => by
        rcases e with (e | ⟨o, e⟩) | e
        · exact .inl (.inl (by rw [upd_ne (fun z => by rw [z, hk] at e; cases e)]; exact e))
        · exact .inl (.inr ⟨o, by rw [upd_ne (fun z => by rw [z, hk] at e; cases e)]; exact e⟩)
        · exact .inr e
      exact DsAt.append ((h1.grow g.pot g2 h2).keepT hs2 h2) (DsAt.cons (hd.keepT hs2 nd) DsAt.nil)
    · refine noLs_all.mpr fun e he => ?_
      rcases List.mem_append.mp he with z | z
      · exact noLs_all.mp h2 e z
      · rw [List.mem_singleton.mp z]; exact nd
    · rcases List.mem_append.mp hd' with z | z
      · exact h3 d' z
      · rw [List.mem_singleton.mp z]; exact wd
  · rintro σ ys H' ⟨_, ⟨ds, h1, hl, h2, h3⟩, h, g⟩
    refine ⟨Dl, _, rfl, .inl ⟨SqL.of h, fun t ht => ?_⟩⟩
    exact q t (.tup ds) _ (g.new ht) (dat_tup upd_same (h1.same (same_new ht _))) (by simpa [noL] using h2) (PpD.iff.mpr ⟨ds, rfl, by omega, h3⟩)
end
end My

set_option maxHeartbeats 8000000
namespace L2
open PySem
/-! the rules once more, of types that no one unfolds: a long written list would be reckoned through else -/
structure EO (X : Cx) (e : Expr) (t : TE) : Prop where
  h : PE X e t
structure AO (X : Cx) (es : List Expr) (t : TA) : Prop where
  h : PA X es t
structure SO (X : Cx) (sts : List Stmt) (t : TS) : Prop where
  h : PSs X sts t
section
variable {X : Cx} {a b e : Expr} {es : List Expr} {ta tb te : TE} {t : TA} {pos pos' : Pos}
theorem ao_nil : AO X [] tNil := ⟨pa_nil⟩
theorem ao_cons (ha : EO X e te) (hr : AO X es t) (hs : starEach (e :: es) X.env = (false, eval e X.env) :: starEach es X.env := by rfl) : AO X (e :: es) (tCons te t) := ⟨pa_cons ha.h hr.h hs⟩
theorem eo_lst (h : AO X es t) : EO X (.List es pos) (tLst t) := ⟨pe_lst h.h⟩
theorem so_set {i : Nat} {x : Str} {rest : List Stmt} {u : TS} (hN : X.N.Nodup) (hi : X.N[i]? = some x) (hx : Loc X.env.scope x) (he : EO X e te) (h2 : SO X rest u) (hs : swapsWith e (some (.Name x pos')) pos.line X.env = pure false := by rfl) (hf : X.fn x = true ∨ X.env.scope.names.lookup x = some .local := by first | exact .inl rfl | exact .inr rfl | assumption) :
    SO X (.Assign [.Name x pos'] e pos :: rest) (tSeq (tAsg te (gName i)) u) := ⟨pss_cons (ps_set hN hi hx he.h hs hf) h2.h⟩
end
theorem ex_so {X : Cx} {sts : List Stmt} {t : TS} {R : TS → Prop} (h : SO X sts t) (r : R t) : ∃ t, PSs X sts t ∧ R t := ⟨t, h.h, r⟩
end L2

set_option maxHeartbeats 4000000
namespace My
open PySem L2 CT CS
abbrev wordsV : List V := [.str "keep", .str "same", .str "cut", .str "turn", .str "must", .str "walk", .str "sort", .str "apart", .str "count", .str "sum", .str "number", .str "first"]
abbrev brV : List V := [.str "both", .str "meet"]
abbrev rowV : List V := [.str "keep", .str "same", .str "cut", .str "turn", .str "must"]
/-- the drawn word: a worker of one row, a joining one, another one -/
theorem word_case {n : Nat} {e d : Int} (he : (n = 0 ∧ e = 0) ∨ (0 < n ∧ e = 2)) (h0 : 0 ≤ d) (h1 : d < 12 + e) : ∃ wd : Str, atI (wordsV ++ cutV brV none (some e)) d = some (.str wd) ∧
    ((inV (.str wd) rowV = true ∧ ¬ isBr wd) ∨ (inV (.str wd) rowV = false ∧ inV (.str wd) brV = true ∧ isBr wd ∧ 0 < n) ∨ (inV (.str wd) rowV = false ∧ inV (.str wd) brV = false ∧ ¬ isBr wd)) := by
  have pl : ∀ wd : Str, inV (.str wd) brV = false → ¬ isBr wd := fun wd h z => by
    rcases z with rfl | rfl
    · exact absurd h (by decide +kernel)
    · exact absurd h (by decide +kernel)
  have a12 : ∀ d : Int, 0 ≤ d → d < 12 → ∀ xs : List V, ∃ wd : Str, atI (wordsV ++ xs) d = some (.str wd) ∧ ((inV (.str wd) rowV = true ∧ inV (.str wd) brV = false) ∨ (inV (.str wd) rowV = false ∧ inV (.str wd) brV = false)) := fun d h0 h1 xs => by
    have hi : d.toNat < wordsV.length := by show d.toNat < 12; omega
    have e1 : (wordsV ++ xs)[d.toNat]? = wordsV[d.toNat]? := List.getElem?_append_left hi
    have hd : d.toNat = 0 ∨ d.toNat = 1 ∨ d.toNat = 2 ∨ d.toNat = 3 ∨ d.toNat = 4 ∨ d.toNat = 5 ∨ d.toNat = 6 ∨ d.toNat = 7 ∨ d.toNat = 8 ∨ d.toNat = 9 ∨ d.toNat = 10 ∨ d.toNat = 11 := by omega
    have key : ∃ wd : Str, wordsV[d.toNat]? = some (.str wd) ∧ ((inV (.str wd) rowV = true ∧ inV (.str wd) brV = false) ∨ (inV (.str wd) rowV = false ∧ inV (.str wd) brV = false)) := by
      rcases hd with z | z | z | z | z | z | z | z | z | z | z | z <;> rw [z]
      · exact ⟨_, rfl, .inl (by decide +kernel)⟩
      · exact ⟨_, rfl, .inl (by decide +kernel)⟩
      · exact ⟨_, rfl, .inl (by decide +kernel)⟩
      · exact ⟨_, rfl, .inl (by decide +kernel)⟩
      · exact ⟨_, rfl, .inl (by decide +kernel)⟩
      · exact ⟨_, rfl, .inr (by decide +kernel)⟩
      · exact ⟨_, rfl, .inr (by decide +kernel)⟩
      · exact ⟨_, rfl, .inr (by decide +kernel)⟩
      · exact ⟨_, rfl, .inr (by decide +kernel)⟩
      · exact ⟨_, rfl, .inr (by decide +kernel)⟩
      · exact ⟨_, rfl, .inr (by decide +kernel)⟩
      · exact ⟨_, rfl, .inr (by decide +kernel)⟩
    obtain ⟨wd, k1, k2⟩ := key
    have := atI_nat (xs := wordsV ++ xs) (j := d.toNat) (e1.trans k1)
    rw [show ((d.toNat : Nat) : Int) = d by omega] at this
    exact ⟨wd, this, k2⟩
  by_cases h12 : d < 12
  · obtain ⟨wd, k1, k2⟩ := a12 d h0 h12 (cutV brV none (some e))
    refine ⟨wd, k1, ?_⟩
    rcases k2 with ⟨k2, k3⟩ | ⟨k2, k3⟩
    · exact .inl ⟨k2, pl wd k3⟩
    · exact .inr (.inr ⟨k2, k3, pl wd k3⟩)
  · rcases he with ⟨hn, rfl⟩ | ⟨hn, rfl⟩
    · omega
    · have hd : d = 12 ∨ d = 13 := by omega
      rcases hd with z | z <;> subst z
      · exact ⟨"both", rfl, .inr (.inl ⟨by decide +kernel, by decide +kernel, .inl rfl, hn⟩)⟩
      · exact ⟨"meet", rfl, .inr (.inl ⟨by decide +kernel, by decide +kernel, .inr rfl, hn⟩)⟩
section
variable {P : Program} {w : World} {K : PySem.W.Frag} {mg : Str → Option Value} {base : Heap} {f fD fC fP fR fO fJ fW : Addr} {fd dD dC dP dR dO dJ dW : FuncData} {L : Nat}
theorem ok_worker {n : Nat} (B : Blt mg) (B2 : Blt2 mg) (F : Fun K "_law_worker" "_law_worker" sWorker f fd)
    (GD : FnOk P w K mg base CX0 L fD dD ["_law_pot_here", "_law_many_here"] spDraw) (bD : Binds K dD ["_law_pot_here", "_law_many_here"] []) (kD : PySem.W.keepIn K (.ref fD) = true) (mD : mg "_law_draw" = some (.ref fD))
    (GR : FnOk P w K mg base CX0 L fR dR ["_law_pot_here", "_law_head", "_law_word_here"] (spPlain K)) (bR : Binds K dR ["_law_pot_here", "_law_head", "_law_word_here"] []) (kR : PySem.W.keepIn K (.ref fR) = true) (mR : mg "_law_one_row" = some (.ref fR))
    (GJ : FnOk P w K mg base CX0 L fJ dJ ["_law_pot_here", "_law_head", "_law_deep", "_law_word_here"] (spJoin K n)) (bJ : Binds K dJ ["_law_pot_here", "_law_head", "_law_deep", "_law_word_here"] []) (kJ : PySem.W.keepIn K (.ref fJ) = true) (mJ : mg "_law_joining" = some (.ref fJ))
    (GO : FnOk P w K mg base CX0 L fO dO ["_law_pot_here", "_law_head", "_law_word_here"] (spPlain K)) (bO : Binds K dO ["_law_pot_here", "_law_head", "_law_word_here"] []) (kO : PySem.W.keepIn K (.ref fO) = true) (mO : mg "_law_other" = some (.ref fO)) :
    FnOk P w K mg base CX0 (L + 1) f fd ["_law_pot_here", "_law_head", "_law_deep"] (spWorker K n) := by
  refine F.ok scWorker (fun vs H Q E h => ?_) (fun cdv A outer s H vs Q E hr h => ?_)
  · obtain ⟨p, a, hs, rfl, _⟩ := h
    rfl
  obtain ⟨p, a, hs, rfl, hP, hh, q⟩ := h
  refine ex_so (so_set (i := 3) scWorker.nd rfl (Or.inl rfl) (eo_lst (ao_cons ⟨pe_str⟩ (ao_cons ⟨pe_str⟩ (ao_cons ⟨pe_str⟩ (ao_cons ⟨pe_str⟩ (ao_cons ⟨pe_str⟩ (ao_cons ⟨pe_str⟩ (ao_cons ⟨pe_str⟩ (ao_cons ⟨pe_str⟩ (ao_cons ⟨pe_str⟩ (ao_cons ⟨pe_str⟩ (ao_cons ⟨pe_str⟩ (ao_cons ⟨pe_str⟩ ao_nil)))))))))))))
    ⟨pss_cons (ps_set (i := 4) scWorker.nd rfl (Or.inl rfl) (pe_ix (r := rIxL K) ix_list (pe_op op_cat (pv 3) (pe_slice sl_list (pe_lst (pa_cons pe_str (pa_cons pe_str pa_nil))) po_none (po_some (pe_op op_mul pe_int (pe_callTy call_int1 rfl B2.int PyProof.Rows.boot_int (pa_cons (pe_cmpR op_gt (pv 2) pe_int (nomark _)) pa_nil))))))
        (pe_call GD hr rfl mD kD bD .nil pass0 (pa_cons (pv 0) (pa_cons (pe_op op_add (pe_callB call_len_seq rfl B.len PySem.boot_len (pa_cons (pv 3) pa_nil)) (pe_op op_mul pe_int (pe_callTy call_int1 rfl B2.int PyProof.Rows.boot_int (pa_cons (pe_cmpR op_gt (pv 2) pe_int (nomark _)) pa_nil)))) pa_nil))) (fun _ _ => rfl)))
    (pss_cons (ps_if (pt_cmpR op_in_seq (pv 4) (pe_lst (pa_cons pe_str (pa_cons pe_str (pa_cons pe_str (pa_cons pe_str (pa_cons pe_str pa_nil)))))) rfl) (pss_one (ps_ret (pe_call GR hr rfl mR kR bR .nil pass0 (pa_cons (pv 0) (pa_cons (pv 1) (pa_cons (pv 4) pa_nil)))))) pss_nil)
    (pss_cons (ps_if (pt_cmpR op_in_seq (pv 4) (pe_lst (pa_cons pe_str (pa_cons pe_str pa_nil))) rfl) (pss_one (ps_ret (pe_call GJ hr rfl mJ kJ bJ .nil pass0 (pa_cons (pv 0) (pa_cons (pv 1) (pa_cons (pv 2) (pa_cons (pv 4) pa_nil))))))) pss_nil)
    (pss_one (ps_ret (pe_call GO hr rfl mO kO bO .nil pass0 (pa_cons (pv 0) (pa_cons (pv 1) (pa_cons (pv 4) pa_nil))))))))⟩) ?_
  have g0 := Grow.refl hP
  refine ⟨(by show 12 ≤ sizeLine; decide), fun W hW => ?_⟩
  have k0 := g0.new (o := .lst wordsV) hW
  have nW := g0.ne hW
  refine gName_go ?_
  dsimp only
  have he : ∃ e : Int, (2 : Int) * (if decide ((0 : Int) < (n : Int)) = true then 1 else 0) = e ∧ ((n = 0 ∧ e = 0) ∨ (0 < n ∧ e = 2)) := by
    by_cases z : (0 : Int) < (n : Int)
    · rw [decide_eq_true z]; exact ⟨2, rfl, .inr ⟨by omega, rfl⟩⟩
    · rw [decide_eq_false z]; exact ⟨0, rfl, .inl ⟨by omega, rfl⟩⟩
  obtain ⟨e, e1, e2⟩ := he
  have cm : CMul 2 (if decide ((0 : Int) < (n : Int)) = true then 1 else 0) := .inl ⟨by decide, by decide⟩
  refine ⟨_, rfl, (by show 2 ≤ sizeLine; decide), fun B1 hB1 => ⟨_, rfl, _, _, rfl, rfl, .inr ⟨_, rfl, _, _, rfl, rfl, cm, _, rfl, B1, _, rfl, SqL.of upd_same, fun B3 hB3 => ?_⟩⟩⟩
  rw [e1]
  have k1 := k0.new (o := .lst brV) hB1
  have k2 := k1.new (o := .lst (cutV brV none (some e))) hB3
  have hW2 := (same_new hB3 (.lst (cutV brV none (some e)))) _ _ ((same_new hB1 (.lst brV)) _ _ (upd_same (H := H) (a := W) (o := .lst wordsV)))
  have cl := cutV_length brV none (some e)
  refine ⟨W, B3, _, _, rfl, rfl, hW2, upd_same, Nat.le_trans (show wordsV.length + (cutV brV none (some e)).length ≤ 14 from Nat.add_le_add_left cl 12) (by decide), fun C hC => ?_⟩
  have k3 := k2.new (o := .lst (wordsV ++ cutV brV none (some e))) hC
  have hW3 := (same_new hC (.lst (wordsV ++ cutV brV none (some e)))) _ _ hW2
  have nC := k2.ne hC
  refine ⟨_, rfl, _, rfl, W, _, rfl, .inl (SqL.of hW3), _, rfl, _, _, rfl, rfl, .inr ⟨_, rfl, _, _, rfl, rfl, cm, _, _, rfl, rfl, ?_⟩⟩
  rw [e1]
  have l12 : ((wordsV.length : Nat) : Int) = 12 := rfl
  refine ⟨p, _, rfl, k3.pot, by rw [l12]; omega, log_small (by rw [l12]; omega) (by rw [l12]; omega), fun d H4 g4 a4 b4 => ?_⟩
  rw [l12] at b4
  obtain ⟨wd, hv, hc⟩ := word_case e2 a4 b4
  have k4 := k3.trans g4
  refine ⟨C, _, _, _, rfl, rfl, SqL.of (g4.keep C _ nC upd_same), hv, ?_⟩
  refine gName_go ?_
  dsimp only
  refine ⟨_, rfl, (by show 5 ≤ sizeLine; decide), fun R1 hR1 => ⟨R1, _, rfl, .inl (SqL.of upd_same), rfl, rfl, _, rfl, ?_⟩⟩
  have k5 := k4.new (o := .lst rowV) hR1
  rcases hc with ⟨i1, nb⟩ | ⟨i1, i2, nb, hn⟩ | ⟨i1, i2, nb⟩
  · refine ite2 (fun _ => ?_) (fun c => absurd i1 c)
    refine ⟨_, rfl, _, rfl, _, rfl, p, a, hs, wd, rfl, k5.pot, hh.grow hP k5, fun t ds H6 g6 hd nd => ?_⟩
    exact q t _ _ (k5.trans g6) hd (by simp [noL, noLs, nd]) ⟨wd, ds, rfl, .inl nb⟩
  · refine ite2 (fun c => absurd (i1.symm.trans c) (by decide)) (fun _ => ?_)
    refine ⟨_, rfl, (by show 2 ≤ sizeLine; decide), fun R2 hR2 => ⟨R2, _, rfl, .inl (SqL.of upd_same), rfl, rfl, _, rfl, ?_⟩⟩
    have k6 := k5.new (o := .lst brV) hR2
    refine ite2 (fun _ => ?_) (fun c => absurd i2 c)
    cases n with
    | zero => omega
    | succ n =>
      refine ⟨_, rfl, _, rfl, _, rfl, _, rfl, p, a, hs, wd, rfl, nb, k6.pot, hh.grow hP k6, fun t d H7 g7 hd nd wk => ?_⟩
      exact q t d _ (k6.trans g7) hd nd wk
  · refine ite2 (fun c => absurd (i1.symm.trans c) (by decide)) (fun _ => ?_)
    refine ⟨_, rfl, (by show 2 ≤ sizeLine; decide), fun R2 hR2 => ⟨R2, _, rfl, .inl (SqL.of upd_same), rfl, rfl, _, rfl, ?_⟩⟩
    have k6 := k5.new (o := .lst brV) hR2
    refine ite2 (fun c => absurd (i2.symm.trans c) (by decide)) (fun _ => ?_)
    refine ⟨_, rfl, _, rfl, _, rfl, p, a, hs, wd, rfl, k6.pot, hh.grow hP k6, fun t ds H7 g7 hd nd => ?_⟩
    exact q t _ _ (k6.trans g7) hd (by simp [noL, noLs, nd]) ⟨wd, ds, rfl, .inl nb⟩
end
end My

namespace L2
open PySem PySem.Spec PyProof.Rows
section
variable {X : Cx} {pins : List (Addr × Obj)} {σ : List (Option V)} {H H' : Hp} {s : Shared} {h' : Heap}
/-- records of ours have turned, and a tuple was made that is tracked from now on -/
theorem Inv.turnedNew {t' : Nat} {fp : List Addr} {T : Addr} {xs : List V} (I : Inv X pins σ H s) (hf : ∀ b ∈ fp, FpOk X pins H b) (k : ∀ b o, b ∉ fp → s.heap.get? b = some o → h'.get? b = some o) (hT : s.heap.objs.size ≤ T)
    (new : ObjOk X.prog X.w (upd H T (.tup xs)) h' T (.tup xs)) : Inv X pins σ (upd H T (.tup xs)) { s with heap := h', toks := t' } := by
  have nT : H T = none := I.hok.fresh hT
  have nit : ∀ b u, H b = some u → b ∉ fp := fun b u e z => by rw [(hf b z).1] at e; cases e
  have nbT : ∀ b o, s.heap.get? b = some o → b ≠ T := fun b o e z => by
    have := Heap.lt_size e
    rw [z] at this
    exact absurd (Nat.lt_of_lt_of_le this hT) (Nat.lt_irrefl _)
  refine I.step (g' := s.gens) (d' := s.drawn) (ch := fp) (fun b hb => ?_) (fun b o _ _ hc e _ => k b o hc e) (fun b o _ _ hc e _ => ⟨o.slots, k b o hc e⟩) (fun b o hc e n => by rw [upd_ne (nbT b o e)]; exact n)
    (fun b o hc e => ⟨o, k b o hc e⟩) (fun b ys e => by rw [upd_ne (ne_of_none e nT)]; exact e) (fun b o u e => by rw [upd_ne (ne_of_none e nT)]; exact e) (fun b ps e => ⟨#[], by rw [upd_ne (ne_of_none e nT), e]; simp⟩) (fun m hm => ?_) (fun b u e => ?_) I.bare
  · obtain ⟨f0, f1, f2, f3, f4, f5⟩ := hf b hb
    exact ⟨f3, f1, f4, f5⟩
  · obtain ⟨o, es, ep, ho, r⟩ := hm
    exact ⟨o, es, ep, k _ o (fun z => (hf _ z).2.1 rfl) ho, r⟩
  · by_cases hb : b = T
    · subst hb; rw [upd_same] at e; cases e; exact new
    · rw [upd_ne hb] at e
      refine (I.hok b u e).stay (fun c v hc q => k c v ?_ q) (fun c q => by rw [upd_ne (ne_of_none q nT)]; exact q) fun c ys q => by rw [upd_ne (ne_of_none q nT)]; exact q
      rcases hc with z | z
      · rw [z]; exact nit b u e
      · exact nit c _ z
theorem Inv.turnedMany {t' : Nat} {fp : List Addr} (I : Inv X pins σ H s) (hf : ∀ b ∈ fp, FpOk X pins H b) (k : ∀ b o, b ∉ fp → s.heap.get? b = some o → h'.get? b = some o) : Inv X pins σ H { s with heap := h', toks := t' } := by
  have nit : ∀ b u, H b = some u → b ∉ fp := fun b u e z => by rw [(hf b z).1] at e; cases e
  refine I.step (g' := s.gens) (d' := s.drawn) (ch := fp) (fun b hb => ?_) (fun b o _ _ hc e _ => k b o hc e) (fun b o _ _ hc e _ => ⟨o.slots, k b o hc e⟩) (fun b o hc e n => n)
    (fun b o hc e => ⟨o, k b o hc e⟩) (fun b ys e => e) (fun b o u e => e) (fun b ps e => ⟨#[], by rw [e]; simp⟩) (fun m hm => ?_) (fun b u e => ?_) I.bare
  · obtain ⟨f0, f1, f2, f3, f4, f5⟩ := hf b hb
    exact ⟨f3, f1, f4, f5⟩
  · obtain ⟨o, es, ep, ho, r⟩ := hm
    exact ⟨o, es, ep, k _ o (fun z => (hf _ z).2.1 rfl) ho, r⟩
  · refine (I.hok b u e).stay (fun c v hc q => k c v ?_ q) (fun _ q => q) fun _ _ q => q
    rcases hc with z | z
    · rw [z]; exact nit b u e
    · exact nit c _ z
end
end L2
namespace L2
open PySem PySem.Spec PyProof.Rows
section
variable {X : Cx}
end
end L2

set_option maxHeartbeats 4000000
namespace L2
open PySem PySem.Spec PyProof.Rows
/-! zip of a list and a tuple that is no shorter -/
section
variable {prog : Program} {w : World} {A : Around} {E : Value → Shared → Prop} {s : Shared}
theorem nextOf_tup {it t : Addr} {i : Nat} {items : Array Value} {x : Value} {Q : Value → Shared → Prop} (hit : s.heap.IsTupleIter it t i) (ht : s.heap.IsTuple t items) (hx : items[i]? = some x)
    (hQ : ∀ h', h'.IsTupleIter it t (i + 1) → Heap.SameBut it s.heap h' → Q x { s with heap := h' }) : wpAny (model prog w) A (Builtin.SmallTypes.nextOf (.ref it)) Q E s := by
  obtain ⟨o, ho, hc, hd⟩ := id hit
  obtain ⟨ol, hol, _, nl, hdl⟩ := ht
  unfold Builtin.SmallTypes.nextOf
  refine wpAny_bind (wpAny_callSpecial?_slot (name := Str.ofString "__next__") hit.typeIs F.slot_tuple_iterator_next (wpAny_call_entry F.slot_tuple_iterator_next hit.typeIs F.entry_tuple_iterator_next ?_ (F.args_tuple_iterator_next_1 _)))
  show wpAny _ _ (field (.ref it) 0 >>= _) _ _ s
  refine wpAny_bind (wpAny_field ho hd (x := .ref t) rfl ?_)
  show wpAny _ _ (if (Value.ref t == Value.none) = true then _ else _) _ _ s
  rw [if_neg (show ¬ ((Value.ref t == Value.none) = true) from Bool.false_ne_true)]
  show wpAny _ _ (field (.ref it) 1 >>= _) _ _ s
  refine wpAny_bind (wpAny_field ho hd (x := .int i 0) rfl ?_)
  show wpAny _ _ (seqItems? (.ref t) >>= _) _ _ s
  refine wpAny_bind (wpAny_seqItems hol hdl ?_)
  simp only [Int.toNat_natCast, hx]
  refine wpAny_bind (wpAny_setField ho hd (by simp) (wpAny_pure ⟨x, rfl, wpAny_pure (hQ _ ?_ (Heap.SameBut.update ..))⟩))
  exact ⟨_, Heap.get?_update_self _ ho (Obj.isFreed_of_fields (Obj.data_mapFields hd _)), (Obj.cls_mapFields ..).trans hc, by rw [Obj.data_mapFields hd]; simp [rawInt]⟩
end
section
variable {X : Cx}
end
end L2

set_option maxHeartbeats 4000000
/-! enumerate of a tuple -/
namespace L2
open PySem PySem.Spec PyProof.Rows
section
variable {prog : Program} {w : World} {A : Around} {E : Value → Shared → Prop} {s : Shared}
theorem nextOf_tup_end {it t : Addr} {i : Nat} {items : Array Value} {Q : Value → Shared → Prop} (hh : A.handled = none) (hit : s.heap.IsTupleIter it t i) (ht : s.heap.IsTuple t items) (hx : items[i]? = none)
    (hE : ∀ h' e, Heap.ExtBut it s.heap h' → (∃ o, h'.get? e = some o ∧ o.cls = .type "StopIteration") → E (.ref e) { s with heap := h' }) : wpAny (model prog w) A (Builtin.SmallTypes.nextOf (.ref it)) Q E s := by
  obtain ⟨o, ho, hc, hd⟩ := id hit
  obtain ⟨ol, hol, _, nl, hdl⟩ := ht
  unfold Builtin.SmallTypes.nextOf
  refine wpAny_bind (wpAny_callSpecial?_slot (name := Str.ofString "__next__") hit.typeIs F.slot_tuple_iterator_next (wpAny_call_entry F.slot_tuple_iterator_next hit.typeIs F.entry_tuple_iterator_next ?_ (F.args_tuple_iterator_next_1 _)))
  show wpAny _ _ (field (.ref it) 0 >>= _) _ _ s
  refine wpAny_bind (wpAny_field ho hd (x := .ref t) rfl ?_)
  show wpAny _ _ (if (Value.ref t == Value.none) = true then _ else _) _ _ s
  rw [if_neg (show ¬ ((Value.ref t == Value.none) = true) from Bool.false_ne_true)]
  show wpAny _ _ (field (.ref it) 1 >>= _) _ _ s
  refine wpAny_bind (wpAny_field ho hd (x := .int i 0) rfl ?_)
  show wpAny _ _ (seqItems? (.ref t) >>= _) _ _ s
  refine wpAny_bind (wpAny_seqItems hol hdl ?_)
  simp only [Int.toNat_natCast, hx]
  refine wpAny_bind (wpAny_rule (wpAny_bind (wpAny_setField ho hd (by simp) ?_)))
  show wpAny _ _ (newExc (.type "StopIteration") [] >>= _) _ _ _
  refine wpAny_bind ?_
  simp only [newExc, newTuple]
  refine wpAny_bind (wpAny_newObj_type ?_ (by size_fits))
  refine wpAny_bind (m := firstArgMember _ _) (wpAny_of_eq (a := Value.none) (by first | rfl | (simp only [firstArgMember]; rfl)) ?_)
  refine wpAny_newObj_type ?_ (by size_fits)
  simp only [raiseNew]
  refine wpAny_bind (wpAny_handled ?_)
  first | rw [show A.in1.handled = none from hh] | rw [hh]
  refine wpAny_bind (wpAny_pure (wpAny_throw ?_))
  exact hE _ _ (((Heap.SameBut.update ..).extBut.push _).push _) ⟨_, Heap.get?_push_size _ rfl, rfl⟩
theorem tupIs_extBut {h h' : Heap} {a b : Addr} {xs : Array Value} (x : h.IsTuple a xs) (hs : Heap.ExtBut b h h') (hab : a ≠ b) : h'.IsTuple a xs := let ⟨o, ho, r⟩ := x; ⟨o, hs a o hab ho, r⟩
theorem draws_tup (hh : A.handled = none) (it t : Addr) (hne : t ≠ it) (items : Array Value) : Draws prog w A it [it, t] items.size (fun i v => items[i]? = some v) (fun i h => h.IsTupleIter it t i ∧ h.IsTuple t items) where
  live := fun _ _ st => let ⟨o, ho, _⟩ := st.1; ⟨o, ho⟩
  frame := fun _ _ _ st hk => ⟨st.1.at fun o e => hk it (by simp) o e, let ⟨o, ho, r⟩ := st.2; ⟨o, hk t (by simp) o ho, r⟩⟩
  item := fun i s Q E hi st hQ => by
    refine nextOf_tup st.1 st.2 (x := items[i]) (by simp [hi]) fun h' hit' hs' => ?_
    exact hQ _ h' s.toks (by simp [hi]) ⟨hit', tupIs_extBut st.2 hs'.extBut hne⟩ hs'
  done := fun s Q E st hE => nextOf_tup_end hh st.1 st.2 (by simp) hE
abbrev eT1 (h : Heap) (t : Addr) : Heap := h.push { cls := .type "tuple_iterator", data := .fields #[.ref t, .int 0 0] }
abbrev eT2 (h : Heap) (t : Addr) : Heap := (eT1 h t).push { cls := .type "enumerate", data := .fields #[.none, .bool false, .ref h.objs.size, rawInt 0, .none, .none] }
theorem meets_enumT (t : Addr) (items : Array Value) (n : Nat) (dct : Option Addr) (sl : Array (Option Value)) :
    Meets (Builtin.«enumerate.__new__» ⟨[.type "enumerate", .ref t], []⟩) (fun _ R s => s.heap.get? t = some { cls := .type "tuple", dict := dct, data := .seq items n, slots := sl } ∧ R (.ok (.ret (.ref (eT1 s.heap t).objs.size))) { s with heap := eT2 s.heap t }) :=
  .of_wp fun prog w A R s h => by
    obtain ⟨hp, g, d, tk, os⟩ := s; obtain ⟨hl, h⟩ := h
    have hsub := sub_enumerate
    have hL : Heap.IsTuple (Shared.heap ⟨hp, g, d, tk, os⟩) t items := ⟨_, hl, rfl, n, rfl⟩
    wp_walk using AutoSeq1.wpAny_loadPart' hl
    refine wpAny_stack_any fun st => wpAny_pure ?_
    split
    · rename_i c _ _ _ _ _
      cases (c == Value.type "enumerate")
      · wp_walk using AutoSeq1.wpAny_loadPart' hl, wpAny_pyIter_tuple hL
        exact ⟨_, rfl, h⟩
      · wp_walk using AutoSeq1.wpAny_loadPart' hl, wpAny_pyIter_tuple hL
        exact ⟨_, rfl, h⟩
    · wp_walk using AutoSeq1.wpAny_loadPart' hl, wpAny_pyIter_tuple hL
      exact ⟨_, rfl, h⟩
theorem call_enumT {t : Addr} {items : Array Value} {Q : Value → Shared → Prop} (hL : s.heap.IsTuple t items)
    (h : ∀ h', IsEnum h' (s.heap.objs.size + 1) s.heap.objs.size 0 .none → h'.IsTupleIter s.heap.objs.size t 0 → h'.objs.size = s.heap.objs.size + 2 → (∀ b o, s.heap.get? b = some o → h'.get? b = some o) → Q (.ref (s.heap.objs.size + 1)) { s with heap := h' }) :
    wpAny (model prog w) A (call (.type "enumerate") [.ref t]) Q E s := by
  obtain ⟨⟨c, dct, dt, sl⟩, hl, hc, n, hd⟩ := hL
  replace hc : c = .type "tuple" := hc
  replace hd : dt = .seq items n := hd
  subst hc hd
  refine callType_new F.called_enumerate (by decide) (F.typeCall_enumerate_1 _) (F.newCall_enumerate_1 _) (fun obj => F.args_object_init_2 obj _) F.entry_enumerate_new (meets_enumT t items n dct sl) ⟨hl, ?_⟩
  have hz : (eT1 s.heap t).objs.size = s.heap.objs.size + 1 := Heap.size_push ..
  show _ ∧ _
  have he : (eT2 s.heap t).get? (eT1 s.heap t).objs.size = some _ := Heap.get?_push_size _ rfl
  rw [hz] at he
  rw [hz]
  exact ⟨⟨_, he, rfl⟩, h _ he ⟨_, Heap.get?_push_of_some _ (Heap.get?_push_size _ rfl), rfl, rfl⟩ (by rw [Heap.size_push, hz]) fun b o x => Heap.get?_push_of_some _ (Heap.get?_push_of_some _ x)⟩
end
/-- the tuple at a, each item with its number, a tuple made at each turn -/
def Ite (K : PySem.W.Frag) (a : Addr) : It :=
  ⟨fun i H => ∃ xs x, SqT K H a xs ∧ xs[i]? = some x,
   fun i H v H' => ∃ T x, v = .ref T ∧ H T = none ∧ H' = upd H T (.tup [.int (i : Nat), x]) ∧ ∀ xs, SqT K H a xs → xs[i]? = some x,
   fun i H => ∃ xs, SqT K H a xs ∧ xs.length ≤ i⟩
theorem turn_enumT {P : Program} {w : World} {K : PySem.W.Frag} {es : List Expr} {x1 : Nat} {pos : Pos} (a e it : Addr) (hne : e ≠ it) :
    Turn P w K (.Tuple es x1 pos) (Ite K a) [e, it] e (fun i h => (∃ old, IsEnum h e it (i : Nat) old) ∧ h.IsTupleIter it a i) where
  mem := by simp
  obj := fun i h st c hc => by
    obtain ⟨⟨old, h1⟩, ⟨o4, e4, c4, d4⟩⟩ := st
    simp only [List.mem_cons, List.not_mem_nil, or_false] at hc
    rcases hc with rfl | rfl
    · exact ⟨_, h1, fun v z => by cases (show Data.fields _ = Data.cell v from z)⟩
    · exact ⟨o4, e4, fun v z => by rw [d4] at z; cases z⟩
  keep := fun i h h' st k => by
    obtain ⟨⟨old, h1⟩, h4⟩ := st
    exact ⟨⟨old, k e (by simp) _ h1⟩, h4.at fun o q => k it (by simp) o q⟩
  item := by
    intro X hP hw hK hc i pins s σ H E I hf st hg
    subst hP hw hK
    obtain ⟨xs, x, hq, hx⟩ := hg
    obtain ⟨its, rv, p, hz⟩ := I.tuple hq
    obtain ⟨u, hu, ru⟩ := rv.get hx
    obtain ⟨⟨old, h1⟩, h4⟩ := st
    have p' : s.heap.IsTuple a its.toArray := p
    have nea : e ≠ a := fun z => by obtain ⟨o, eo, co, _⟩ := p'; rw [← z, h1] at eo; cases eo; exact absurd (Value.type.inj co) (by decide)
    have nia : a ≠ it := fun z => by obtain ⟨o, eo, co, _⟩ := p'; obtain ⟨o4, e4, c4, _⟩ := h4; rw [z, e4] at eo; cases eo; exact absurd (Value.type.inj (c4.symm.trans co)) (by decide)
    have hu' : its.toArray[i]? = some u := by simpa using hu
    have hlt : i < its.toArray.size := by
      rcases Nat.lt_or_ge i its.toArray.size with z | z
      · exact z
      · rw [Array.getElem?_eq_none z] at hu'; cases hu'
    refine wpAny_pyNext_enum_itemD (draws_tup (show X.A.in1.handled = none from I.ok.hd hc) it a nia its.toArray) h1 ⟨h4, p'⟩ hlt hne (by simp [hne, nea]) fun y h' tk hy g1 g2 g3 gs g6 => ⟨_, rfl, ?_⟩
    have hyu : y = u := by rw [hu'] at hy; exact (Option.some.inj hy).symm
    subst hyu
    refine wpAny_letOwnedTupleGo_enum (show IsEnumOut h' e it ((i : Int) + 1) y s.heap.objs.size from g1) fun h'' f1 fs => ?_
    have elt : e < s.heap.objs.size := Heap.lt_size h1
    have tne : s.heap.objs.size ≠ e := Nat.ne_of_gt elt
    have kk : ∀ c o, c ∉ [e, it] → s.heap.get? c = some o → h''.get? c = some o := fun c o hc q => by
      simp only [List.mem_cons, List.not_mem_nil, or_false, not_or] at hc
      exact fs.extBut _ _ hc.1 (g6 c o hc.1 hc.2 q)
    have pT := fs.extBut _ _ tne g3
    have I1 : Inv X pins σ (upd H s.heap.objs.size (.tup [.int (i : Nat), x])) { s with heap := h'', toks := tk + 1 } := I.turnedNew hf kk (Nat.le_refl _) ⟨by show 2 ≤ sizeLine; decide, [.int (i : Nat) tk, y], .cons ⟨tk, rfl⟩ (.cons ru .nil), ⟨_, pT, rfl, _, rfl⟩⟩
    refine ⟨.ref s.heap.objs.size, _, I1, rfl, ⟨_, x, rfl, I.hok.fresh (Nat.le_refl _), rfl, fun ys hy' => by rw [I.tuple_inj hy' hq]; exact hx⟩, ⟨⟨_, f1⟩, g2.1.extBut fs.extBut hne.symm⟩, fun c hc => ?_⟩
    have hn := (hf c hc).1
    have : c ≠ s.heap.objs.size := by
      simp only [List.mem_cons, List.not_mem_nil, or_false] at hc
      obtain ⟨o4, e4, _⟩ := h4
      rcases hc with rfl | rfl
      · exact Nat.ne_of_lt elt
      · exact Nat.ne_of_lt (Heap.lt_size e4)
    rw [upd_ne this]; exact hn
  done := by
    intro X hP hw hK hc i pins s σ H E I hf st hg
    subst hP hw hK
    obtain ⟨xs, hq, hx⟩ := hg
    obtain ⟨its, rv, p, hz⟩ := I.tuple hq
    obtain ⟨⟨old, h1⟩, h4⟩ := st
    have hl := rv.length
    have hn : its.toArray[i]? = none := by simp; omega
    unfold pyNext
    have hT : s.TypeIs (.ref e) "enumerate" := ⟨_, h1, rfl⟩
    refine wpAny_bind (wpAny_attempt (wpAny_callSpecial?_slot (name := Str.ofString "__next__") hT F.slot_enumerate_next (wpAny_call_entry F.slot_enumerate_next hT F.entry_enumerate_next ?_ (F.args_enumerate_next_1 _))))
    show wpAny _ _ (field (.ref e) 2 >>= _) _ _ _
    refine wpAny_bind (wpAny_field h1 rfl (x := .ref it) rfl ?_)
    refine wpAny_bind (nextOf_tup_end (show X.A.in1.handled = none from I.ok.hd hc) h4 (show s.heap.IsTuple a its.toArray from p) hn fun h' x he' hx' => ?_)
    obtain ⟨o, ho, hco⟩ := hx'
    refine wpAny_bind (wpAny_isInstance (T := "StopIteration") (b := true) ⟨o, ho, hco⟩ isSubtype_stop ?_)
    refine wpAny_pure ⟨rfl, I.turnedMany (t' := s.toks) hf fun c o hc q => ?_⟩
    simp only [List.mem_cons, List.not_mem_nil, or_false, not_or] at hc
    exact he' c o hc.2 q
  self := fun _ _ _ _ _ st h => let ⟨⟨_, h1⟩, _⟩ := st; wpAny_pyIter_enum h1 h
section
variable {X : Cx}
def iEnum (K : PySem.W.Frag) (ta : TA) : TI := fun σ H R => ta σ H fun vs H1 => ∃ a, vs = [.ref a] ∧ (∃ xs, SqT K H1 a xs) ∧ R (Ite K a) H1
theorem pi_enumT {es : List Expr} {x1 : Nat} {tpos : Pos} {a : Expr} {ta : TA} {p pos : Pos} (hg : Gl X "enumerate") (hm : X.mg "enumerate" = none) (ha : PA X [a] ta) (hs : starEach [a] X.env = [(false, eval a X.env)] := by rfl) :
    PI X (.Tuple es x1 tpos) (.Call (.Name "enumerate" p) [a] [] pos) (iEnum X.K ta) := by
  intro pins s σ H R I h
  refine Call_ (ld_blt I hg hm (by decide +kernel : bootBuiltins "enumerate" = some (.type "enumerate")) (PyProof.Rows.callWith_type1 (thn (ha pos pins s σ H _ I h) fun us s1 ⟨vs, H1, I1, r1, q1⟩ => ?_) hs rfl))
  obtain ⟨l1, e, ⟨xs, hq1⟩, q⟩ := q1
  subst e
  cases r1 with
  | cons r rr =>
    cases rr
    cases r
    obtain ⟨its, rv, p1, hz⟩ := I1.tuple hq1
    refine call_enumT p1 fun h' he hi hsz hk => ?_
    refine wpAny_pyIter_enum (show IsEnum h' _ _ _ _ from he) ?_
    refine ⟨_, [s1.heap.objs.size + 1, s1.heap.objs.size], _, _, H1, rfl, I1.kept (t' := s1.toks) hk, turn_enumT _ _ _ (Nat.succ_ne_self _), ⟨⟨_, he⟩, hi⟩, fun c hc => ?_, q⟩
    simp only [List.mem_cons, List.not_mem_nil, or_false] at hc
    have hle : s1.heap.objs.size ≤ c := by rcases hc with rfl | rfl <;> first | exact Nat.le_refl _ | exact Nat.le_add_right _ _
    exact I1.fpOk hle (I1.hok.fresh hle)
end
/-- a loop over the numbered items of a tuple -/
theorem for_enumT {K : PySem.W.Frag} {a : Addr} {xs : List V} {g : TG} {tb : TS} {D : Ends} {σ : St} {H : Hp} (Pv : Nat → St → Hp → Prop) (h0 : Pv 0 σ H) (hl : ∀ i σ H, i ≤ xs.length → Pv i σ H → SqT K H a xs)
    (hs : ∀ i x σ H T, xs[i]? = some x → Pv i σ H → H T = none → g (.ref T) σ (upd H T (.tup [.int (i : Nat), x])) fun σ2 H2 => tb { D with nx := Pv (i + 1), ct := Pv (i + 1), bk := D.nx } σ2 H2) (hd : ∀ σ H, Pv xs.length σ H → D.nx σ H) :
    ∃ W : Nat → Nat → St → Hp → Prop, (∃ m, W 0 m σ H) ∧ ∀ i m σ H, W i m σ H →
      ((Ite K a).stop i H ∧ D.nx σ H) ∨ ((Ite K a).go i H ∧ ∃ N : St → Hp → Prop, (∀ σ' H', N σ' H' → ∃ m', m' < m ∧ W (i + 1) m' σ' H') ∧ ∀ x H', (Ite K a).yld i H x H' → g x σ H' fun σ2 H2 => tb { D with nx := N, ct := N, bk := D.nx } σ2 H2) := by
  refine ⟨fun i m σ H => m = xs.length - i ∧ i ≤ xs.length ∧ Pv i σ H, ⟨xs.length, by simp, Nat.zero_le _, h0⟩, ?_⟩
  rintro i m σ H ⟨rfl, hi, p⟩
  have q := hl i σ H hi p
  by_cases hlt : i < xs.length
  · refine .inr ⟨⟨xs, xs[i], q, by simp [hlt]⟩, Pv (i + 1), fun σ' H' p' => ⟨xs.length - (i + 1), by omega, rfl, hlt, p'⟩, fun v H' y => ?_⟩
    obtain ⟨T, x, rfl, hT, rfl, hx⟩ := y
    exact hs i x σ H T (hx xs q) p hT
  · have e : i = xs.length := by omega
    subst e
    exact .inl ⟨⟨xs, q, Nat.le_refl _⟩, hd σ H p⟩
end L2

set_option maxHeartbeats 4000000
namespace L2
open PySem
/-- a written list changes: tuples stay -/
theorem sqT_put {K : PySem.W.Frag} {H : Hp} {F : Addr} {vs : List V} {o : HO} (hk : H F = some (.lst vs)) : ∀ c xs, SqT K H c xs → SqT K (upd H F o) c xs := fun c xs e => by
  rcases e with (e | ⟨o, e⟩) | e
  · exact .inl (.inl (by rw [upd_ne (fun z => by rw [z, hk] at e; cases e)]; exact e))
  · exact .inl (.inr ⟨o, by rw [upd_ne (fun z => by rw [z, hk] at e; cases e)]; exact e⟩)
  · exact .inr e
theorem Same.sqT {K : PySem.W.Frag} {H H' : Hp} (s : Same H H') : ∀ c xs, SqT K H c xs → SqT K H' c xs := fun c xs e => by
  rcases e with (e | ⟨o, e⟩) | e
  · exact .inl (.inl (s _ _ e))
  · exact .inl (.inr ⟨o, s _ _ e⟩)
  · exact .inr e
theorem Same.put {H H' : Hp} {F : Addr} {o : HO} (s : Same H H') (hF : H F = none) : Same H (upd H' F o) := fun b u e => by
  rw [upd_ne (ne_of_none e hF)]; exact s _ _ e
theorem DsAt.split {K : PySem.W.Frag} {H : Hp} : ∀ {xs ys : List D} {vs : List V}, DsAt K H (xs ++ ys) vs → ∃ us ws, vs = us ++ ws ∧ DsAt K H xs us ∧ DsAt K H ys ws
  | [], ys, vs, h => ⟨[], vs, rfl, DsAt.nil, h⟩
  | x :: xs, ys, vs, h => by
    rw [List.cons_append, DsAt] at h
    obtain ⟨v, r, rfl, h1, h2⟩ := h
    obtain ⟨us, ws, rfl, h3, h4⟩ := DsAt.split h2
    exact ⟨v :: us, ws, rfl, DsAt.cons h1 h3, h4⟩
end L2
namespace My
open PySem L2 CT CS
/-! the places of a pipe, as a list of lists of numbers -/
def wEnds : D → List D
  | .tup (.str wd :: ds) => if wd = "both" ∨ wd = "meet" then ds.drop (ds.length - 2) else []
  | _ => []
def brP (f : D → List (List Int)) (k : Nat) : List D → List (List Int)
  | [q, r] => (f q).map ([(k : Int), 0] ++ ·) ++ (f r).map ([(k : Int), 1] ++ ·)
  | _ => []
def plFrom (f : D → List (List Int)) : Nat → List D → List (List Int)
  | _, [] => []
  | k, w :: ws => ([(k : Int)] :: brP f k (wEnds w)) ++ plFrom f (k + 1) ws
def plG (f : D → List (List Int)) : D → List (List Int)
  | .tup ws => plFrom f 0 ws ++ [[(ws.length : Int)]]
  | _ => []
def plD : Nat → D → List (List Int)
  | 0 => plG fun _ => []
  | n + 1 => plG (plD n)
/-- the places of the branches of a pipe of depth n -/
def plS : Nat → D → List (List Int)
  | 0 => fun _ => []
  | n + 1 => plD n
theorem plD_eq (n : Nat) : plD n = plG (plS n) := by cases n <;> rfl
theorem plFrom_snoc (f : D → List (List Int)) (w : D) : ∀ (ws : List D) (k : Nat), plFrom f k (ws ++ [w]) = plFrom f k ws ++ ([((k + ws.length : Nat) : Int)] :: brP f (k + ws.length) (wEnds w))
  | [], k => by simp [plFrom]
  | x :: ws, k => by
    rw [List.cons_append, plFrom, plFrom_snoc f w ws (k + 1), plFrom, List.length_cons, show k + 1 + ws.length = k + (ws.length + 1) by omega, List.append_assoc]
theorem take_snoc {α : Type} {ws : List α} {i : Nat} {w : α} (h : ws[i]? = some w) : ws.take (i + 1) = ws.take i ++ [w] := by
  rw [List.take_add_one, h]; rfl
theorem plFrom_step {f : D → List (List Int)} {ws : List D} {i : Nat} {w : D} (h : ws[i]? = some w) : plFrom f 0 (ws.take (i + 1)) = plFrom f 0 (ws.take i) ++ ([(i : Int)] :: brP f i (wEnds w)) := by
  have hi : i < ws.length := (List.getElem?_eq_some_iff.mp h).1
  have hl : (ws.take i).length = i := by rw [List.length_take]; omega
  rw [take_snoc h, plFrom_snoc, hl, Nat.zero_add]
theorem wEnds_not {wd : Str} {ds : List D} (h : ¬ isBr wd) : wEnds (.tup (.str wd :: ds)) = [] := by
  show (if wd = "both" ∨ wd = "meet" then _ else _) = _
  exact if_neg h
theorem wEnds_br {wd : Str} {pre : List D} {q r : D} (h : isBr wd) : wEnds (.tup (.str wd :: (pre ++ [q, r]))) = [q, r] := by
  show (if wd = "both" ∨ wd = "meet" then (pre ++ [q, r]).drop ((pre ++ [q, r]).length - 2) else []) = _
  rw [if_pos (show wd = "both" ∨ wd = "meet" from h), List.length_append, show pre.length + [q, r].length - 2 = pre.length by simp, List.drop_left]
/-! how many -/
def bnd : Nat → Nat
  | 0 => 11
  | n + 1 => 21 + 20 * bnd n
theorem brP_len {f : D → List (List Int)} {b k : Nat} {es : List D} (h : ∀ d ∈ es, (f d).length ≤ b) : (brP f k es).length ≤ 2 * b := by
  unfold brP
  split
  · rename_i q r
    have h1 := h q (by simp)
    have h2 := h r (by simp)
    rw [List.length_append, List.length_map, List.length_map]
    omega
  · simp
theorem plFrom_len' {f : D → List (List Int)} {b : Nat} : ∀ (ws : List D) (k : Nat), (∀ w ∈ ws, ∀ d ∈ wEnds w, (f d).length ≤ b) → (plFrom f k ws).length ≤ ws.length * (1 + 2 * b)
  | [], _, _ => by simp [plFrom]
  | w :: ws, k, h => by
    have h1 := brP_len (k := k) (h w (by simp))
    have h2 := plFrom_len' ws (k + 1) fun x hx => h x (by simp [hx])
    rw [plFrom, List.length_append, List.length_cons, List.length_cons, Nat.add_mul]
    omega
theorem wk_ends {PP : D → Prop} {w : D} (h : WkD PP w) : (wEnds w = [] ∨ ∃ q r, wEnds w = [q, r]) ∧ ∀ d ∈ wEnds w, PP d := by
  obtain ⟨wd, ds, rfl, h | ⟨hb, pre, q, r, rfl, h1, h2⟩⟩ := h
  · rw [wEnds_not h]; exact ⟨.inl rfl, by simp⟩
  · rw [wEnds_br hb]
    refine ⟨.inr ⟨q, r, rfl⟩, fun d hd => ?_⟩
    simp only [List.mem_cons, List.not_mem_nil, or_false] at hd
    rcases hd with rfl | rfl
    · exact h1
    · exact h2
theorem pl_len : ∀ {n : Nat} {d : D}, PpD n d → (plD n d).length ≤ bnd n
  | 0, d, h => by
    obtain ⟨ws, rfl, hl, hw⟩ := PpD.iff.mp h
    have := plFrom_len' (f := fun _ => []) (b := 0) ws 0 fun w hm d hd => by simp
    show (plFrom (fun _ => []) 0 ws ++ [[(ws.length : Int)]]).length ≤ 11
    rw [List.length_append, List.length_singleton]
    omega
  | n + 1, d, h => by
    obtain ⟨ws, rfl, hl, hw⟩ := PpD.iff.mp h
    have := plFrom_len' (f := plD n) (b := bnd n) ws 0 fun w hm d hd => pl_len ((wk_ends (hw w hm)).2 d hd)
    have h2 : ws.length * (1 + 2 * bnd n) ≤ 10 * (1 + 2 * bnd n) := Nat.mul_le_mul_right _ hl
    show (plFrom (plD n) 0 ws ++ [[(ws.length : Int)]]).length ≤ 21 + 20 * bnd n
    rw [List.length_append, List.length_singleton]
    omega
theorem bnd_le {n : Nat} (h : n ≤ 3) : bnd n ≤ 100000 := by
  have : n = 0 ∨ n = 1 ∨ n = 2 ∨ n = 3 := by omega
  rcases this with rfl | rfl | rfl | rfl <;> decide
def tD (p : List Int) : D := .tup (p.map D.int)
theorem noL_ints (p : List Int) : noLs (p.map D.int) = true := noLs_all.mpr fun d hd => by
  obtain ⟨i, _, rfl⟩ := List.mem_map.mp hd
  rfl
theorem noL_tD (ps : List (List Int)) : noLs (ps.map tD) = true := noLs_all.mpr fun d hd => by
  obtain ⟨p, _, rfl⟩ := List.mem_map.mp hd
  simp [tD, noL, noL_ints]
theorem ints_at {K : PySem.W.Frag} {H : Hp} : ∀ (p : List Int), DsAt K H (p.map D.int) (p.map V.int)
  | [] => DsAt.nil
  | i :: p => DsAt.cons (dat_int i) (ints_at p)
theorem ints_of {K : PySem.W.Frag} {H : Hp} : ∀ {p : List Int} {vs : List V}, DsAt K H (p.map D.int) vs → vs = p.map V.int
  | [], vs, h => by rw [List.map_nil, DsAt] at h; exact h
  | i :: p, vs, h => by
    rw [List.map_cons, DsAt] at h
    obtain ⟨v, r, rfl, h1, h2⟩ := h
    rw [DAt] at h1
    rw [h1, ints_of h2]; rfl
section
variable {P : Program} {w : World} {K : PySem.W.Frag} {mg : Str → Option Value} {base : Heap} {f fB fM : Addr} {fd dB dM : FuncData} {L : Nat}
/-! the branches of a worker -/
theorem scBranches : FnScope ["worker"] ["worker"] (defScope sBranches) := ⟨rfl, rfl, rfl, by decide +kernel, rfl, by decide +kernel, by decide +kernel⟩
def spBr (K : PySem.W.Frag) : Sp := fun vs H Q _ => ∃ (t : Addr) (wd : D) (PP : D → Prop), vs = [.ref t] ∧ DAt K H wd (.ref t) ∧ WkD PP wd ∧ ∀ u us H', Same H H' → SqT K H' u us → DsAt K H' (wEnds wd) us → Q (.ref u) H'
structure BrC (K : PySem.W.Frag) (mg : Str → Option Value) (a : Addr) : Prop where
  m : mg "BRANCHED" = some (.ref a)
  t : ∀ H, SqT K H a brV
theorem eqS_of {x y : Str} (h : eqV (.str x) (.str y) = true) : x = y := by
  have h' : (x == y) = true := h
  exact eq_of_beq h'
theorem inV_br {wd : Str} : inV (.str wd) brV = true ↔ isBr wd := by
  unfold inV
  simp only [List.any_cons, List.any_nil, Bool.or_false, Bool.or_eq_true]
  constructor
  · rintro (h | h)
    · left
      exact (eqS_of h).symm
    · right
      exact (eqS_of h).symm
  · rintro (rfl | rfl)
    · left; decide +kernel
    · right; decide +kernel
theorem cut_last {us : List V} {a b : V} : cutV (us ++ [a, b]) (some (-2)) none = [a, b] := by
  unfold cutV HT.sIx
  have hl : (us ++ [a, b]).length = us.length + 2 := by simp
  rw [hl]
  show List.take (us.length + 2 - (if (-2 : Int) < 0 then ((-2 : Int) + ((us.length + 2 : Nat) : Int)).toNat else _)) (List.drop (if (-2 : Int) < 0 then ((-2 : Int) + ((us.length + 2 : Nat) : Int)).toNat else _) (us ++ [a, b])) = _
  rw [if_pos (by decide), show ((-2 : Int) + ((us.length + 2 : Nat) : Int)).toNat = us.length by omega, List.drop_left, show us.length + 2 - us.length = 2 by omega]
  rfl
end
end My

set_option maxHeartbeats 4000000
namespace My
open PySem L2 CT CS
theorem atI_head {α : Type} {x : α} {xs : List α} : atI (x :: xs) 0 = some x := atI_nat (xs := x :: xs) (j := 0) rfl
section
variable {P : Program} {w : World} {K : PySem.W.Frag} {mg : Str → Option Value} {base : Heap} {f fB fM a : Addr} {fd dB dM : FuncData} {L : Nat}
theorem ok_branches (Bc : BrC K mg a) (F : Fun K "branches_of" "branches_of" sBranches f fd) : FnOk P w K mg base CX0 (L + 1) f fd ["worker"] (spBr K) := by
  refine F.ok scBranches (fun vs H Q E h => ?_) (fun cdv A outer s H vs Q E hr h => ?_)
  · obtain ⟨t, wd, PP, rfl, _⟩ := h
    rfl
  obtain ⟨t, wd, PP, rfl, hd, hw, q⟩ := h
  refine ⟨_, pss_one (ps_ret (pe_ifExp (pt_cmpR op_in_seq (pe_ix ix_tup (pv 0) pe_int (fun _ _ => rfl)) (pe_glob (v := .ref a) rfl Bc.m rfl) rfl) (pe_slice sl_tup (pv 0) (po_some (pe_un un_neg pe_int)) po_none) (pe_tup pa_nil))), ?_⟩
  obtain ⟨nm, ds, rfl, hc⟩ := hw
  rw [DAt] at hd
  obtain ⟨t', vs, e, hT, hds⟩ := hd
  cases e
  rw [DsAt] at hds
  obtain ⟨v0, r, rfl, h0, h1⟩ := hds
  rw [DAt] at h0
  subst h0
  refine ⟨_, rfl, t, _, 0, V.str nm, rfl, rfl, hT, atI_head, a, brV, rfl, .inr (Bc.t _), rfl, rfl, _, rfl, ?_⟩
  refine ite2 (fun c => ?_) (fun c => ?_)
  · have hb := inV_br.mp c
    rcases hc with hn | ⟨_, pre, d1, d2, rfl, _, _⟩
    · exact absurd hb hn
    obtain ⟨us, ws, rfl, hu, hws⟩ := DsAt.split h1
    rw [DsAt] at hws
    obtain ⟨x1, r1, rfl, hx1, hr1⟩ := hws
    rw [DsAt] at hr1
    obtain ⟨x2, r2, rfl, hx2, hr2⟩ := hr1
    rw [DsAt] at hr2
    subst hr2
    refine ⟨_, rfl, _, rfl, _, rfl, t, _, rfl, hT, ?_, fun p hp => ?_⟩
    · rintro ⟨z, _⟩
      have z' : ((-2 : Int) + ((V.str nm :: (us ++ [x1, x2])).length : Nat)).toNat = 0 := z
      simp at z'
      omega
    · rw [show V.str nm :: (us ++ [x1, x2]) = (V.str nm :: us) ++ [x1, x2] from rfl]
      rw [show cutV ((V.str nm :: us) ++ [x1, x2]) (some (-2)) none = [x1, x2] from cut_last]
      have sn := same_new hp (.tup [x1, x2])
      exact q p _ _ sn (SqT.of upd_same) (by rw [wEnds_br hb]; exact DsAt.cons (hx1.same sn) (DsAt.cons (hx2.same sn) DsAt.nil))
  · have hb : ¬ isBr nm := fun z => c (inV_br.mpr z)
    refine ⟨(by show 0 ≤ sizeLine; decide), fun p hp => ?_⟩
    exact q p _ _ (same_new hp _) (SqT.of upd_same) (by rw [wEnds_not hb]; exact DsAt.nil)
end
end My

set_option maxHeartbeats 4000000
namespace My
open PySem L2 CT CS
theorem atI_m2 {us : List V} {a b : V} : atI (us ++ [a, b]) (-2) = some a := by
  unfold atI ixN
  have hl : (us ++ [a, b]).length = us.length + 2 := by simp
  rw [hl, if_neg (by decide), if_pos (by omega), show ((-2 : Int) + ((us.length + 2 : Nat) : Int)).toNat = us.length by omega, Option.bind_some, List.getElem?_append_right (Nat.le_refl _), Nat.sub_self]
  rfl
theorem atI_m1 {us : List V} {a b : V} : atI (us ++ [a, b]) (-1) = some b := by
  unfold atI ixN
  have hl : (us ++ [a, b]).length = us.length + 2 := by simp
  rw [hl, if_neg (by decide), if_pos (by omega), show ((-1 : Int) + ((us.length + 2 : Nat) : Int)).toNat = us.length + 1 by omega, Option.bind_some, List.getElem?_append_right (by omega), show us.length + 1 - us.length = 1 by omega]
  rfl
/-- a worker laid open: its name, and where it has branches their values, last -/
theorem wk_open {K : PySem.W.Frag} {H : Hp} {PP : D → Prop} {d : D} {v : V} (hd : DAt K H d v) (hw : WkD PP d) : ∃ t nm vs, v = .ref t ∧ SqT K H t (.str nm :: vs) ∧
    ((¬ isBr nm ∧ wEnds d = []) ∨ (isBr nm ∧ ∃ us x1 x2 d1 d2, V.str nm :: vs = us ++ [x1, x2] ∧ wEnds d = [d1, d2] ∧ DAt K H d1 x1 ∧ DAt K H d2 x2 ∧ PP d1 ∧ PP d2)) := by
  obtain ⟨nm, ds, rfl, hc⟩ := hw
  rw [DAt] at hd
  obtain ⟨t, vs, rfl, hT, hds⟩ := hd
  rw [DsAt] at hds
  obtain ⟨v0, r, rfl, h0, h1⟩ := hds
  rw [DAt] at h0
  subst h0
  refine ⟨t, nm, r, rfl, hT, ?_⟩
  rcases hc with hn | ⟨hb, pre, d1, d2, rfl, p1, p2⟩
  · exact .inl ⟨hn, wEnds_not hn⟩
  · obtain ⟨us, ws, rfl, hu, hws⟩ := DsAt.split h1
    rw [DsAt] at hws
    obtain ⟨x1, r1, rfl, hx1, hr1⟩ := hws
    rw [DsAt] at hr1
    obtain ⟨x2, r2, rfl, hx2, hr2⟩ := hr1
    rw [DsAt] at hr2
    subst hr2
    exact .inr ⟨hb, .str nm :: us, x1, x2, d1, d2, rfl, wEnds_br hb, hx1, hx2, p1, p2⟩
/-- a pipe laid open -/
theorem pp_open {K : PySem.W.Frag} {H : Hp} {n : Nat} {d : D} {v : V} (hd : DAt K H d v) (hp : PpD n d) : ∃ t ws vs, d = .tup ws ∧ v = .ref t ∧ SqT K H t vs ∧ DsAt K H ws vs ∧ ws.length ≤ 10 ∧ ∀ w ∈ ws, WkD (sub PpD n) w := by
  obtain ⟨ws, rfl, hl, hw⟩ := PpD.iff.mp hp
  rw [DAt] at hd
  obtain ⟨t, vs, rfl, hT, hds⟩ := hd
  exact ⟨t, ws, vs, rfl, rfl, hT, hds, hl, hw⟩
def spMany (K : PySem.W.Frag) (n : Nat) : Sp := fun vs H Q _ => ∃ (v : V) (d : D), vs = [v] ∧ DAt K H d v ∧ noL d = true ∧ PpD n d ∧ ∀ m H', Same H H' → (d = .tup [] → m = 0) → Q (.int m) H'
def spManyS (K : PySem.W.Frag) : Nat → Sp
  | 0 => fun _ _ _ _ => False
  | n + 1 => spMany K n
theorem sub_S {n : Nat} {d : D} (h : sub PpD n d) : ∃ m, n = m + 1 ∧ PpD m d := by
  cases n with
  | zero => exact False.elim h
  | succ m => exact ⟨m, rfl, h⟩
theorem scMany : FnScope ["_law_pipe_here", "_law_many_here", "_law_worker_here"] ["_law_pipe_here"] (defScope sMany) := ⟨rfl, rfl, rfl, by decide +kernel, rfl, by decide +kernel, by decide +kernel⟩
theorem noLs_mem {ds : List D} {d : D} (h : noLs ds = true) (hd : d ∈ ds) : noL d = true := noLs_all.mp h d hd
theorem noL_ends {PP : D → Prop} {d e : D} (h : noL d = true) (hw : WkD PP d) (he : e ∈ wEnds d) : noL e = true := by
  obtain ⟨nm, ds, rfl, hc⟩ := hw
  rw [noL, noLs, Bool.and_eq_true] at h
  rcases hc with hn | ⟨hb, pre, d1, d2, rfl, _⟩
  · rw [wEnds_not hn] at he; simp at he
  · rw [wEnds_br hb] at he
    exact noLs_mem h.2 (List.mem_append_right _ he)
section
variable {P : Program} {w : World} {K : PySem.W.Frag} {mg : Str → Option Value} {base : Heap} {f fM : Addr} {fd dM : FuncData} {L : Nat}
theorem ok_many0 (F : Fun K "_law_many" "_law_many" sMany f fd) : FnOk P w K mg base CX0 (L + 1) f fd ["_law_pipe_here"] (spManyS K 0) :=
  F.ok scMany (fun vs H Q E h => False.elim h) (fun cdv A outer s H vs Q E hr h => False.elim h)
theorem ok_manyS {n : Nat} (F : Fun K "_law_many" "_law_many" sMany f fd)
    (GM : FnOk P w K mg base CX0 L fM dM ["_law_pipe_here"] (spManyS K n)) (bM : Binds K dM ["_law_pipe_here"] []) (kM : PySem.W.keepIn K (.ref fM) = true) (mM : mg "_law_many" = some (.ref fM)) :
    FnOk P w K mg base CX0 (L + 1) f fd ["_law_pipe_here"] (spManyS K (n + 1)) := by
  refine F.ok scMany (fun vs H Q E h => ?_) (fun cdv A outer s H vs Q E hr h => ?_)
  · obtain ⟨v, d, rfl, _⟩ := h
    rfl
  obtain ⟨v, d, rfl, hd, nd, hp, q⟩ := h
  refine ⟨_, pss_cons (ps_set (i := 1) scMany.nd rfl (Or.inl rfl) pe_int)
    (pss_cons (ps_for PassesOwn.never rfl (pi_tup (pv 0)) (pg_name (i := 2) scMany.nd rfl (Or.inl rfl))
      (pss_cons (ps_set (i := 1) scMany.nd rfl (Or.inl rfl) (pe_op op_add (pv 1) pe_int))
      (pss_one (ps_if (pt_cmpR op_in_seq (pe_ix ix_tup (pv 2) pe_int (fun _ _ => rfl)) (pe_lst (pa_cons pe_str (pa_cons pe_str pa_nil))) rfl)
        (pss_one (ps_set (i := 1) scMany.nd rfl (Or.inl rfl) (pe_op op_add (pe_op op_add (pv 1) (pe_call GM hr rfl mM kM bM .nil pass0 (pa_cons (pe_ix ix_tup (pv 2) (pe_un un_neg pe_int) (fun _ _ => rfl)) pa_nil))) (pe_call GM hr rfl mM kM bM .nil pass0 (pa_cons (pe_ix ix_tup (pv 2) (pe_un un_neg pe_int) (fun _ _ => rfl)) pa_nil))))) pss_nil))))
    (pss_one (ps_ret (pv 1)))), ?_⟩
  obtain ⟨t, ws, xs, rfl, rfl, hT, hds, hl, hw⟩ := pp_open hd hp
  rw [noL] at nd
  refine gName_go ?_
  dsimp only
  refine ⟨_, rfl, t, rfl, ⟨_, hT⟩, ?_⟩
  refine for_tup (xs := xs) (fun i σ H' => (∃ m o, σ = [some (.ref t), some (.int m), o] ∧ (i = 0 → m = 0)) ∧ Same H H') ⟨⟨0, none, rfl, fun _ => rfl⟩, Same.refl _⟩ ?_ ?_ ?_
  · rintro i σ H' _ ⟨_, sm⟩
    exact sm.sqT _ _ hT
  · rintro i x σ H' hx ⟨⟨m, o, rfl, _⟩, sm⟩
    obtain ⟨d1, e1, hd1⟩ := DsAt.get hds hx
    have mem1 := List.mem_of_getElem? e1
    have w1 := hw d1 mem1
    have n1 := noLs_mem nd mem1
    obtain ⟨t1, nm, vs, rfl, hT1, hc⟩ := wk_open (hd1.same sm) w1
    refine gName_go ?_
    dsimp only
    refine ⟨_, rfl, _, _, rfl, rfl, ?_⟩
    refine gName_go ?_
    dsimp only
    refine ⟨_, rfl, t1, _, 0, V.str nm, rfl, rfl, hT1, atI_head, (by show 2 ≤ sizeLine; decide), fun R hR => ⟨R, _, rfl, .inl (SqL.of upd_same), rfl, rfl, _, rfl, ?_⟩⟩
    have s2 := same_new hR (.lst [.str "both", .str "meet"])
    refine ite2 (fun c => ?_) (fun c => ?_)
    · have hb := inV_br.mp c
      rcases hc with ⟨hn, _⟩ | ⟨_, us, x1, x2, q1, q2, ev, ew, hq1, hq2, p1, p2⟩
      · exact absurd hb hn
      obtain ⟨n', rfl, pp1⟩ := sub_S p1
      obtain ⟨n'', e'', pp2⟩ := sub_S p2
      cases e''
      have nq1 := noL_ends n1 w1 (e := q1) (by rw [ew]; simp)
      have nq2 := noL_ends n1 w1 (e := q2) (by rw [ew]; simp)
      have hT2 := s2.sqT _ _ hT1
      rw [ev] at hT2
      refine ⟨_, rfl, _, rfl, _, rfl, t1, _, _, _, rfl, rfl, hT2, atI_m2, x1, q1, rfl, hq1.same s2, nq1, pp1, fun m1 H3 s3 _ => ?_⟩
      refine ⟨_, _, rfl, rfl, _, rfl, _, rfl, t1, _, _, _, rfl, rfl, s3.sqT _ _ hT2, atI_m1, x2, q2, rfl, (hq2.same s2).same s3, nq2, pp2, fun m2 H4 s4 _ => ?_⟩
      refine ⟨_, _, rfl, rfl, ?_⟩
      refine gName_go ?_
      exact ⟨⟨_, _, rfl, fun z => absurd z (by omega)⟩, ((sm.trans s2).trans s3).trans s4⟩
    · exact ⟨⟨_, _, rfl, fun z => absurd z (by omega)⟩, sm.trans s2⟩
  · rintro σ H' ⟨⟨m, o, rfl, hm⟩, sm⟩
    refine ⟨_, rfl, q m H' sm fun z => hm ?_⟩
    have : ws = [] := by cases z; rfl
    rw [← hds.length, this]; rfl
end
end My

set_option maxHeartbeats 4000000
namespace My
open PySem L2 CT CS
def spDrawn (K : PySem.W.Frag) : Sp := fun vs H Q _ => ∃ (p : Addr), vs = [.ref p] ∧ PotAt H p ∧ ∀ t d H', Grow p H H' → DAt K H' d (.ref t) → noL d = true → PpD 3 d → Q (.ref t) H'
theorem scDrawn : FnScope ["_law_pot_here", "_law_head", "_law_pipe_here"] ["_law_pot_here"] (defScope sDrawn) := ⟨rfl, rfl, rfl, by decide +kernel, rfl, by decide +kernel, by decide +kernel⟩
theorem cut_init {xs : List V} (h : xs ≠ []) : cutV xs none (some (-1)) = xs.dropLast := by
  have h1 : 1 ≤ xs.length := by cases xs with | nil => exact absurd rfl h | cons _ _ => simp
  have e : HT.sIx xs.length xs.length (some (-1)) = xs.length - 1 := by
    show (if (-1 : Int) < 0 then ((-1 : Int) + (xs.length : Int)).toNat else min (-1 : Int).toNat xs.length) = _
    rw [if_pos (by decide)]
    omega
  unfold cutV
  rw [e, HT.sIx_none, Nat.sub_zero, List.drop_zero, ← List.dropLast_eq_take]
theorem dsAt_dropLast {K : PySem.W.Frag} {H : Hp} {ds : List D} {vs : List V} (h : DsAt K H ds vs) : DsAt K H ds.dropLast vs.dropLast := by
  by_cases hn : ds = []
  · subst hn
    rw [DsAt] at h
    rw [h]
    exact DsAt.nil
  · rw [← List.dropLast_concat_getLast hn] at h
    obtain ⟨us, ws, rfl, h1, h2⟩ := DsAt.split h
    rw [DsAt] at h2
    obtain ⟨v, r, rfl, _, h3⟩ := h2
    rw [DsAt] at h3
    subst h3
    rw [List.dropLast_concat]
    exact h1
theorem mem_dropLast {ds : List D} {d : D} (h : d ∈ ds.dropLast) : d ∈ ds := List.dropLast_subset ds h
section
variable {P : Program} {w : World} {K : PySem.W.Frag} {mg : Str → Option Value} {base : Heap} {f fD fP fM : Addr} {fd dD dP dM : FuncData} {L : Nat}
theorem ok_drawn (B : Blt mg) (F : Fun K "_law_drawn" "_law_drawn" sDrawn f fd)
    (GD : FnOk P w K mg base CX0 L fD dD ["_law_pot_here", "_law_many_here"] spDraw) (bD : Binds K dD ["_law_pot_here", "_law_many_here"] []) (kD : PySem.W.keepIn K (.ref fD) = true) (mD : mg "_law_draw" = some (.ref fD))
    (GP : FnOk P w K mg base CX0 L fP dP ["_law_pot_here", "_law_head", "_law_deep", "_law_many_here"] (spPipe K 3)) (bP : Binds K dP ["_law_pot_here", "_law_head", "_law_deep", "_law_many_here"] []) (kP : PySem.W.keepIn K (.ref fP) = true) (mP : mg "_law_pipe" = some (.ref fP))
    (GM : FnOk P w K mg base CX0 L fM dM ["_law_pipe_here"] (spManyS K 4)) (bM : Binds K dM ["_law_pipe_here"] []) (kM : PySem.W.keepIn K (.ref fM) = true) (mM : mg "_law_many" = some (.ref fM)) :
    FnOk P w K mg base CX0 (L + 1) f fd ["_law_pot_here"] (spDrawn K) := by
  refine F.ok scDrawn (fun vs H Q E h => ?_) (fun cdv A outer s H vs Q E hr h => ?_)
  · obtain ⟨p, rfl, _⟩ := h
    rfl
  obtain ⟨p, rfl, hP, q⟩ := h
  refine ⟨_, pss_cons (ps_set (i := 1) scDrawn.nd rfl (Or.inl rfl) (pe_callTy call_tuple_of rfl B.tuple PyProof.Rows.boot_tuple (pa_cons (pe_lcomp (N' := ["_law_k", "_law_pot_here"]) (src := [none, some 0]) rfl (CompSc.ofB (by kernel_rfl)) (pi_range1 rfl B.range (pa_cons (pe_op op_add pe_int (pe_call GD hr rfl mD kD bD .nil pass0 (pa_cons (pv 0) (pa_cons pe_int pa_nil)))) pa_nil)) (fun cl C s H fp => pgl (i := 0)) (fun cl C s H fp => pifs_nil)
      (te := tOp (rIxL K) (tLst (tCons (tC (.str "n")) (tCons (tC (.str "w")) tNil))) (tCall spDraw [] E0 (tCons (tVar 1) (tCons (tC (.int 2)) tNil))))
      (fun cl C s H fp => pe_ix (r := rIxL K) ix_list (pe_lst (pa_cons pe_str (pa_cons pe_str pa_nil))) (pe_call GD hr glc mD kD bD .nil pass0 (pa_cons (pvf 1) (pa_cons pe_int pa_nil))) (fun _ _ => rfl))) pa_nil)))
    (pss_cons (ps_set (i := 2) scDrawn.nd rfl (Or.inl rfl) (pe_call GP hr rfl mP kP bP .nil pass0 (pa_cons (pv 0) (pa_cons (pv 1) (pa_cons pe_int (pa_cons (pe_ix (r := rIxL K) ix_list (pe_lst (pa_cons (pe_call GD hr rfl mD kD bD .nil pass0 (pa_cons (pv 0) (pa_cons pe_int pa_nil))) (pa_cons (pe_call GD hr rfl mD kD bD .nil pass0 (pa_cons (pv 0) (pa_cons pe_int pa_nil))) pa_nil))) (pe_call GD hr rfl mD kD bD .nil pass0 (pa_cons (pv 0) (pa_cons pe_int pa_nil))) (fun _ _ => rfl)) pa_nil))))))
    (pss_cons (ps_while PassesOwn.never (pt_cmpR op_gt (pe_call GM hr rfl mM kM bM .nil pass0 (pa_cons (pv 2) pa_nil)) pe_int (nomark _))
      (pss_one (ps_set (i := 2) scDrawn.nd rfl (Or.inl rfl) (pe_slice sl_tup (pv 2) po_none (po_some (pe_un un_neg pe_int))))))
    (pss_one (ps_ret (pv 2))))), ?_⟩
  have g0 := Grow.refl hP
  refine ⟨_, rfl, p, _, rfl, hP, by decide, by decide, fun e1 H1 g1 a1 b1 => ⟨_, _, rfl, rfl, ?_⟩⟩
  refine ⟨_, rfl, (p62a (by omega) (by omega)).1, (p62a (by omega) (by omega)).2, fun Dl hD => ?_⟩
  have nD := g1.ne hD
  refine comp_range (n := (1 + e1).toNat) (fun i σ ys H' => (∃ o, σ = [o, some (.ref p)]) ∧ (∃ ns : List Str, ys = ns.map V.str ∧ ns.length = i) ∧ H' Dl = some (.lst ys) ∧ Grow p H H')
    ⟨⟨none, rfl⟩, ⟨[], rfl, rfl⟩, upd_same, g1.new hD⟩ ?_ ?_ ?_ ?_
  · rintro i σ ys H' _ ⟨_, ⟨ns, rfl, rfl⟩, h, _⟩
    exact ⟨h, by rw [List.length_map]; exact Nat.le_refl _⟩
  · exact Nat.le_trans (show (1 + e1).toNat ≤ 10 by omega) (by decide)
  · rintro i σ ys H' hi ⟨⟨o, rfl⟩, ⟨ns, rfl, rfl⟩, h, g⟩
    refine ⟨(by show 2 ≤ sizeLine; decide), fun R hR => ?_⟩
    have gr := g.new (o := .lst [.str "n", .str "w"]) hR
    refine ⟨_, rfl, p, _, rfl, gr.pot, by decide, by decide, fun e2 H2 g2 a2 b2 => ?_⟩
    have hk := g2.keep R _ (g.ne hR) upd_same
    have hk2 := g2.keep Dl _ nD ((same_new hR _) _ _ h)
    have hz : ∃ z : Str, atI [V.str "n", V.str "w"] e2 = some (.str z) := by
      have : e2 = 0 ∨ e2 = 1 := by omega
      rcases this with z | z <;> subst z
      · exact ⟨_, rfl⟩
      · exact ⟨_, rfl⟩
    obtain ⟨z, hz⟩ := hz
    refine ⟨R, _, _, _, rfl, rfl, SqL.of hk, hz, hk2, ⟨_, rfl⟩, ⟨ns ++ [z], by rw [List.map_append]; rfl, by rw [List.length_append]; rfl⟩, upd_same, ?_⟩
    exact g1.put hD nD (gr.trans g2)
  · rintro σ ys H' ⟨_, ⟨ns, rfl, hl⟩, h, g⟩
    refine ⟨Dl, _, rfl, .inl ⟨SqL.of h, fun a ht => ?_⟩⟩
    have ga := g.new (o := .tup (ns.map V.str)) ht
    have hh : HeadAt K (upd H' a (.tup (ns.map V.str))) a ns := ⟨upd_same, by omega, by omega⟩
    refine gName_go ?_
    dsimp only
    refine ⟨_, rfl, _, rfl, ?_⟩
    refine ⟨_, rfl, p, _, rfl, ga.pot, by decide, by decide, fun m1 H2 g2 a2 b2 => ?_⟩
    have k2 := ga.trans g2
    refine ⟨_, rfl, p, _, rfl, k2.pot, by decide, by decide, fun m2 H3 g3 a3 b3 => ?_⟩
    have k3 := k2.trans g3
    refine ⟨(by show 2 ≤ sizeLine; decide), fun R hR => ?_⟩
    have k4 := k3.new (o := .lst [.int m1, .int m2]) hR
    refine ⟨_, rfl, p, _, rfl, k4.pot, by decide, by decide, fun m3 H5 g5 a5 b5 => ?_⟩
    have k5 := k4.trans g5
    have hk := g5.keep R _ (k3.ne hR) upd_same
    have hz : ∃ z : Int, atI [V.int m1, V.int m2] m3 = some (.int z) ∧ 0 ≤ z ∧ z ≤ 8 := by
      have : m3 = 0 ∨ m3 = 1 := by omega
      rcases this with z | z <;> subst z
      · exact ⟨m1, rfl, by omega, by omega⟩
      · exact ⟨m2, rfl, by omega, by omega⟩
    obtain ⟨z, hz, z0, z1⟩ := hz
    refine ⟨R, _, _, _, rfl, rfl, SqL.of hk, hz, ?_⟩
    refine ⟨p, a, ns, z, rfl, k5.pot, ?_, z0, z1, fun t d H6 g6 hd nd pd => ?_⟩
    · exact hh.grow ga.pot ((g2.trans g3).trans ((Grow.refl k3.pot).new hR |>.trans g5))
    have k6 := k5.trans g6
    refine gName_go ?_
    dsimp only
    refine ⟨fun m σ H' => ∃ t ws, σ = [some (.ref p), some (.ref a), some (.ref t)] ∧ ws.length = m ∧ DAt K H' (.tup ws) (.ref t) ∧ noLs ws = true ∧ PpD 3 (.tup ws) ∧ Grow p H H', ?_, ?_⟩
    · obtain ⟨ws, rfl, _⟩ := PpD.iff.mp pd
      exact ⟨ws.length, t, ws, rfl, rfl, hd, by simpa [noL] using nd, pd, k6⟩
    · rintro m σ H' ⟨t, ws, rfl, hm, hd, nd, pd, g⟩
      refine ⟨_, rfl, .ref t, .tup ws, rfl, hd, by simpa [noL] using nd, pd, fun c H7 s7 hc => ?_⟩
      refine ⟨_, _, rfl, rfl, _, rfl, ?_⟩
      have g7 := g.trans (Grow.same g.pot s7)
      refine ite2 (fun cc => ?_) (fun cc => ?_)
      · have cc' : (20 : Int) < c := by simpa using cc
        have hne : ws ≠ [] := fun z => by
          have := hc (by rw [z])
          omega
        obtain ⟨t', ws', vs, e', e2, hT, hds, hl, hw⟩ := pp_open (hd.same s7) pd
        cases e2
        cases e'
        have vne : vs ≠ [] := fun z => by rw [z] at hds; exact hne (List.eq_nil_of_length_eq_zero hds.length)
        have vl : 1 ≤ vs.length := by cases vs with | nil => exact absurd rfl vne | cons _ _ => simp
        refine ⟨fun σ' H'' => ∃ m', m' < m ∧ ∃ t ws, σ' = [some (.ref p), some (.ref a), some (.ref t)] ∧ ws.length = m' ∧ DAt K H'' (.tup ws) (.ref t) ∧ noLs ws = true ∧ PpD 3 (.tup ws) ∧ Grow p H H'', fun σ' H'' z => z, ?_⟩
        refine ⟨_, rfl, _, rfl, _, rfl, t, _, rfl, hT, ?_, fun u hu => ?_⟩
        · rintro ⟨_, z⟩
          have z' : ((-1 : Int) + (vs.length : Int)).toNat = vs.length := z
          omega
        · rw [cut_init vne]
          refine gName_go ?_
          dsimp only
          have sn := same_new hu (.tup vs.dropLast)
          refine ⟨ws.length - 1, ?_, u, ws.dropLast, rfl, by rw [List.length_dropLast], dat_tup upd_same ((dsAt_dropLast hds).same sn), noLs_all.mpr fun d hd => noLs_mem nd (mem_dropLast hd), PpD.iff.mpr ⟨_, rfl, by rw [List.length_dropLast]; omega, fun d hd => hw d (mem_dropLast hd)⟩, g7.new hu⟩
          have := hds.length
          omega
      · exact ⟨_, rfl, q t _ H7 g7 (hd.same s7) (by simpa [noL] using nd) pd⟩
end
end My

set_option maxHeartbeats 4000000
namespace L2
open PySem
/-- t + u of tuples, the first perhaps empty -/
def rCatB (K : PySem.W.Frag) : R2 := fun x y H Q => ∃ a b xs ys, x = .ref a ∧ y = .ref b ∧ SqT K H a xs ∧ SqT K H b ys ∧ ys ≠ [] ∧ xs.length + ys.length ≤ sizeLine ∧ ∀ t H', Same H H' → SqT K H' t (xs ++ ys) → Q (.ref t) H'
theorem op_catB {X : Cx} : OpR X (binaryOp .Add) (rCatB X.K) := by
  intro pins s σ H x y v u Q I rx ry h
  obtain ⟨a, b, xs, ys, rfl, rfl, ha, hb, hy, hz, q⟩ := h
  by_cases hx : xs = []
  · subst hx
    exact op_catT0 pins s σ H _ _ v u Q I rx ry ⟨a, b, ys, rfl, rfl, ha, hb, q b H (Same.refl _) hb⟩
  · exact op_catT pins s σ H _ _ v u Q I rx ry ⟨a, b, xs, ys, rfl, rfl, ha, hb, hx, hz, fun z => absurd z hy, fun _ p hp => q p _ (same_new hp _) (SqT.of upd_same)⟩
end L2
namespace My
open PySem L2 CT CS
theorem pf_len {n : Nat} {ws : List D} (hn : n ≤ 3) (hl : ws.length ≤ 10) (hw : ∀ w ∈ ws, WkD (sub PpD n) w) (i : Nat) : (plFrom (plS n) 0 (ws.take i)).length ≤ 2000010 := by
  have h := plFrom_len' (f := plS n) (b := 100000) (ws.take i) 0 fun w hm d hd => by
    obtain ⟨m, rfl, hp⟩ := sub_S ((wk_ends (hw w (List.mem_of_mem_take hm))).2 d hd)
    exact Nat.le_trans (pl_len hp) (bnd_le (by omega))
  have h2 : (ws.take i).length ≤ 10 := by rw [List.length_take]; omega
  have h3 := Nat.mul_le_mul_right (1 + 2 * 100000) h2
  omega
def spLP (K : PySem.W.Frag) (n : Nat) : Sp := fun vs H Q _ => ∃ (v : V) (a : Addr) (d : D) (as : List Int), vs = [v, .ref a] ∧ DAt K H d v ∧ noL d = true ∧ PpD n d ∧ n ≤ 3 ∧ SqT K H a (as.map V.int) ∧ as.length + 2 * n ≤ 100 ∧ ∀ l us H', Same H H' → H l = none → H' l = some (.lst us) → DsAt K H' (((plD n d).map (as ++ ·)).map tD) us → Q (.ref l) H'
def spLPS (K : PySem.W.Frag) : Nat → Sp
  | 0 => fun _ _ _ _ => False
  | n + 1 => spLP K n
theorem scLPlaces : FnScope ["_law_pipe_here", "_law_ahead", "_law_found", "_law_number_here", "_law_worker_here"] ["_law_pipe_here", "_law_ahead"] (defScope sLPlaces) := ⟨rfl, rfl, rfl, by decide +kernel, rfl, by decide +kernel, by decide +kernel⟩
theorem dat_ints {K : PySem.W.Frag} {H : Hp} {t : Addr} {p : List Int} (h : SqT K H t (p.map V.int)) : DAt K H (tD p) (.ref t) := by
  unfold tD
  rw [DAt]
  exact ⟨t, _, rfl, h, ints_at p⟩
theorem step_both (as : List Int) (k : Int) (xs a b : List (List Int)) : List.map tD (List.map (as ++ ·) (xs ++ ([k] :: (a.map ([k, 0] ++ ·) ++ b.map ([k, 1] ++ ·))))) =
    (List.map tD (List.map (as ++ ·) xs) ++ [tD (as ++ [k])]) ++ (List.map tD (a.map ((as ++ [k, 0]) ++ ·)) ++ List.map tD (b.map ((as ++ [k, 1]) ++ ·))) := by
  simp [Function.comp_def]
section
variable {P : Program} {w : World} {K : PySem.W.Frag} {mg : Str → Option Value} {base : Heap} {f fM : Addr} {fd dM : FuncData} {L : Nat}
theorem ok_lp0 (F : Fun K "_law_places" "_law_places" sLPlaces f fd) : FnOk P w K mg base CX0 (L + 1) f fd ["_law_pipe_here", "_law_ahead"] (spLPS K 0) :=
  F.ok scLPlaces (fun vs H Q E h => False.elim h) (fun cdv A outer s H vs Q E hr h => False.elim h)
theorem ok_lpS {n : Nat} (B : Blt mg) (mE : mg "enumerate" = none) (F : Fun K "_law_places" "_law_places" sLPlaces f fd)
    (GM : FnOk P w K mg base CX0 L fM dM ["_law_pipe_here", "_law_ahead"] (spLPS K n)) (bM : Binds K dM ["_law_pipe_here", "_law_ahead"] []) (kM : PySem.W.keepIn K (.ref fM) = true) (mM : mg "_law_places" = some (.ref fM)) :
    FnOk P w K mg base CX0 (L + 1) f fd ["_law_pipe_here", "_law_ahead"] (spLPS K (n + 1)) := by
  refine F.ok scLPlaces (fun vs H Q E h => ?_) (fun cdv A outer s H vs Q E hr h => ?_)
  · obtain ⟨v, a, d, as, rfl, _⟩ := h
    rfl
  obtain ⟨v, a, d, as, rfl, hd, nd, hp, hn, hA, hs, q⟩ := h
  refine ⟨_, pss_cons (ps_set (i := 2) scLPlaces.nd rfl (Or.inl rfl) (pe_lst pa_nil))
    (pss_cons (ps_for PassesOwn.never rfl (pi_enumT rfl mE (pa_cons (pv 0) pa_nil)) (pg_tup rfl (pgs_cons (pg_name (i := 3) scLPlaces.nd rfl (Or.inl rfl)) (pgs_cons (pg_name (i := 4) scLPlaces.nd rfl (Or.inl rfl)) pgs_nil)))
      (pss_cons (ps_expr (pe_bm PySem.F.plainAttrs_list PySem.F.slot_list_append PySem.F.type_list_append mt_append (pv 2) (pa_cons (pe_op op_catB (pv 1) (pe_tup (pa_cons (pv 3) pa_nil))) pa_nil)))
      (pss_one (ps_if (pt_cmpR op_in_seq (pe_ix ix_tup (pv 4) pe_int (fun _ _ => rfl)) (pe_lst (pa_cons pe_str (pa_cons pe_str pa_nil))) rfl)
        (pss_one (ps_set (i := 2) scLPlaces.nd rfl (Or.inl rfl) (pe_op op_cat (pe_op op_cat (pv 2) (pe_call GM hr rfl mM kM bM .nil pass0 (pa_cons (pe_ix ix_tup (pv 4) (pe_un un_neg pe_int) (fun _ _ => rfl)) (pa_cons (pe_op op_catB (pv 1) (pe_tup (pa_cons (pv 3) (pa_cons pe_int pa_nil)))) pa_nil))))
          (pe_call GM hr rfl mM kM bM .nil pass0 (pa_cons (pe_ix ix_tup (pv 4) (pe_un un_neg pe_int) (fun _ _ => rfl)) (pa_cons (pe_op op_catB (pv 1) (pe_tup (pa_cons (pv 3) (pa_cons pe_int pa_nil)))) pa_nil)))))) pss_nil))))
    (pss_one (ps_ret (pe_op op_cat (pv 2) (pe_lst (pa_cons (pe_op op_catB (pv 1) (pe_tup (pa_cons (pe_callB call_len_seq rfl B.len PySem.boot_len (pa_cons (pv 0) pa_nil)) pa_nil))) pa_nil)))))), ?_⟩
  obtain ⟨t, ws, xs, rfl, rfl, hT, hds, hl, hw⟩ := pp_open hd hp
  rw [noL] at nd
  refine ⟨Nat.zero_le _, fun F0 hF0 => ?_⟩
  refine gName_go ?_
  dsimp only
  have s0 := same_new hF0 (.lst [])
  refine ⟨_, rfl, t, rfl, ⟨_, s0.sqT _ _ hT⟩, ?_⟩
  refine for_enumT (xs := xs) (fun i σ H' => ∃ F us, (∃ o1 o2, σ = [some (.ref t), some (.ref a), some (.ref F), o1, o2]) ∧ H F = none ∧ H' F = some (.lst us) ∧ DsAt K H' (((plFrom (plS n) 0 (ws.take i)).map (as ++ ·)).map tD) us ∧ Same H H')
    ⟨F0, [], ⟨none, none, rfl⟩, hF0, upd_same, DsAt.nil, s0⟩ ?_ ?_ ?_
  · rintro i σ H' _ ⟨_, _, _, _, _, _, sm⟩
    exact sm.sqT _ _ hT
  · rintro i x σ H' T hx ⟨F, us, ⟨o1, o2, rfl⟩, hF, hF', hus, sm⟩ hTn
    obtain ⟨d1, e1, hd1⟩ := DsAt.get hds hx
    have mem1 := List.mem_of_getElem? e1
    have w1 := hw d1 mem1
    have n1 := noLs_mem nd mem1
    have hi : i < ws.length := (List.getElem?_eq_some_iff.mp e1).1
    have sT := same_new hTn (.tup [.int (i : Nat), x])
    have lus : us.length ≤ 2000010 := by
      rw [← hus.length, List.length_map, List.length_map]; exact pf_len hn hl hw i
    refine ⟨T, _, rfl, SqT.of upd_same, rfl, _, _, rfl, ?_⟩
    refine gName_go ?_
    dsimp only
    refine ⟨_, _, rfl, ?_⟩
    refine gName_go ?_
    try dsimp only
    have s1 := sm.trans sT
    have hF1 := sT _ _ hF'
    refine ⟨rfl, ?_⟩
    refine ⟨_, rfl, .inl ⟨rfl, _, SqL.of hF1⟩, _, rfl, _, rfl, (by show 1 ≤ sizeLine; decide), fun u hu => ?_⟩
    have s2 := same_new hu (.tup [.int (i : Nat)])
    have s12 := s1.trans s2
    refine ⟨a, u, _, [.int (i : Nat)], rfl, rfl, s12.sqT _ _ hA, SqT.of upd_same, by simp, ?_, fun t2 H2 s3 hT2 => ?_⟩
    · rw [List.length_map]; exact Nat.le_trans (show as.length + 1 ≤ 200 by omega) (by decide)
    have s13 := s12.trans s3
    have hF3 := s3 _ _ (s2 _ _ hF1)
    have hT2' : SqT K H2 t2 ((as ++ [(i : Int)]).map V.int) := by rw [List.map_append]; exact hT2
    refine ⟨F, _, _, rfl, rfl, hF3, Nat.lt_of_le_of_lt lus (by decide), ?_⟩
    have s4 : Same H (upd H2 F (.lst (us ++ [.ref t2]))) := s13.put hF
    have kp := sqT_put (K := K) (o := .lst (us ++ [.ref t2])) hF3
    have hus4 : DsAt K (upd H2 F (.lst (us ++ [.ref t2]))) (((plFrom (plS n) 0 (ws.take i)).map (as ++ ·)).map tD ++ [tD (as ++ [(i : Int)])]) (us ++ [.ref t2]) :=
      DsAt.append (((hus.same ((sT.trans s2).trans s3))).keepT kp (noL_tD _)) (DsAt.cons (dat_ints (kp _ _ hT2')) DsAt.nil)
    have hd4 := DAt.keepT (fun c ys z => s4.sqT c ys z) n1 hd1
    obtain ⟨t1, nm, vs, rfl, hT1, hc⟩ := wk_open hd4 w1
    refine ⟨_, rfl, t1, _, 0, V.str nm, rfl, rfl, hT1, atI_head, (by show 2 ≤ sizeLine; decide), fun R hR => ⟨R, _, rfl, .inl (SqL.of upd_same), rfl, rfl, _, rfl, ?_⟩⟩
    have s5 := same_new hR (.lst [.str "both", .str "meet"])
    have s45 := s4.trans s5
    have hF5 := s5 _ _ (upd_same (H := H2) (a := F) (o := .lst (us ++ [.ref t2])))
    have st := plFrom_step (f := plS n) e1
    refine ite2 (fun c => ?_) (fun c => ?_)
    · have hb := inV_br.mp c
      rcases hc with ⟨hn', _⟩ | ⟨_, pu, x1, x2, q1, q2, ev, ew, hq1, hq2, p1, p2⟩
      · exact absurd hb hn'
      obtain ⟨n', rfl, pp1⟩ := sub_S p1
      obtain ⟨n'', e'', pp2⟩ := sub_S p2
      cases e''
      have nq1 := noL_ends n1 w1 (e := q1) (by rw [ew]; simp)
      have nq2 := noL_ends n1 w1 (e := q2) (by rw [ew]; simp)
      have hT5 := s5.sqT _ _ hT1
      rw [ev] at hT5
      refine ⟨_, rfl, _, rfl, _, rfl, t1, _, _, _, rfl, rfl, hT5, atI_m2, _, rfl, _, rfl, (by show 2 ≤ sizeLine; decide), fun u6 hu6 => ?_⟩
      have s6 := same_new hu6 (.tup [.int (i : Nat), .int 0])
      refine ⟨a, u6, _, [.int (i : Nat), .int 0], rfl, rfl, (s45.trans s6).sqT _ _ hA, SqT.of upd_same, by simp, ?_, fun t7 H7 s7 hT7 => ?_⟩
      · rw [List.length_map]; exact Nat.le_trans (show as.length + 2 ≤ 200 by omega) (by decide)
      have s67 := s6.trans s7
      have hT7' : SqT K H7 t7 ((as ++ [(i : Int), 0]).map V.int) := by rw [List.map_append]; exact hT7
      refine ⟨x1, t7, q1, as ++ [(i : Int), 0], rfl, (hq1.same s5).same s67, nq1, pp1, by omega, hT7', by simp; omega, fun l8 us8 H8 s8 hn8 hl8 hus8 => ?_⟩
      have s58 := (s5.trans s67).trans s8
      have s68 := s67.trans s8
      have hF8 := s68 _ _ hF5
      have l8' : us8.length ≤ 100000 := by
        rw [← hus8.length, List.length_map, List.length_map]; exact Nat.le_trans (pl_len pp1) (bnd_le (by omega))
      refine ⟨F, l8, _, _, rfl, rfl, hF8, hl8, ?_, fun C hC => ?_⟩
      · rw [List.length_append]; exact Nat.le_trans (show us.length + 1 + us8.length ≤ 3000000 by omega) (by decide)
      have s9 := same_new hC (.lst ((us ++ [.ref t2]) ++ us8))
      have hT9 := (s68.trans s9).sqT _ _ hT5
      refine ⟨_, rfl, _, rfl, t1, _, _, _, rfl, rfl, hT9, atI_m1, _, rfl, _, rfl, (by show 2 ≤ sizeLine; decide), fun ua hua => ?_⟩
      have sa := same_new hua (.tup [.int (i : Nat), .int 1])
      have s4a := ((s4.trans s58).trans s9).trans sa
      refine ⟨a, ua, _, [.int (i : Nat), .int 1], rfl, rfl, s4a.sqT _ _ hA, SqT.of upd_same, by simp, ?_, fun tb Hb sb hTb => ?_⟩
      · rw [List.length_map]; exact Nat.le_trans (show as.length + 2 ≤ 200 by omega) (by decide)
      have hTb' : SqT K Hb tb ((as ++ [(i : Int), 1]).map V.int) := by rw [List.map_append]; exact hTb
      have s9b := (s9.trans sa).trans sb
      refine ⟨x2, tb, q2, as ++ [(i : Int), 1], rfl, ((hq2.same s58).same s9b), nq2, pp2, by omega, hTb', by simp; omega, fun lc usc Hc sc hnc hlc husc => ?_⟩
      have s9c := s9b.trans sc
      have hCc := ((sa.trans sb).trans sc) _ _ (upd_same (H := H8) (a := C) (o := .lst ((us ++ [.ref t2]) ++ us8)))
      have lc' : usc.length ≤ 100000 := by
        rw [← husc.length, List.length_map, List.length_map]; exact Nat.le_trans (pl_len pp2) (bnd_le (by omega))
      refine ⟨C, lc, _, _, rfl, rfl, hCc, hlc, ?_, fun G hG => ?_⟩
      · rw [List.length_append, List.length_append]; exact Nat.le_trans (show us.length + 1 + us8.length + usc.length ≤ 3000000 by omega) (by decide)
      refine gName_go ?_
      have sg := same_new hG (.lst (((us ++ [.ref t2]) ++ us8) ++ usc))
      have sAll := ((s4.trans s58).trans s9c).trans sg
      refine ⟨G, _, ⟨_, _, rfl⟩, ?_, upd_same, ?_, sAll⟩
      · cases e : H G with
        | none => rfl
        | some o => exact absurd (((s4.trans s58).trans s9c) _ _ e) (by rw [hG]; simp)
      · rw [st, ew]
        show DsAt K _ (List.map tD (List.map (as ++ ·) (plFrom (plS (n' + 1)) 0 (ws.take i) ++ ([(i : Int)] :: ((plD n' q1).map ([(i : Int), 0] ++ ·) ++ (plD n' q2).map ([(i : Int), 1] ++ ·)))))) _
        rw [step_both]
        have r1 := (hus4.same ((s58.trans s9c).trans sg))
        have r2 := (hus8.same (s9c.trans sg))
        have r3 := husc.same sg
        rw [← List.append_assoc]
        exact DsAt.append (DsAt.append r1 r2) r3
    · have hn' : ¬ isBr nm := fun z => c (inV_br.mpr z)
      rcases hc with ⟨_, ew⟩ | ⟨hb, _⟩
      · refine ⟨F, _, ⟨_, _, rfl⟩, hF, hF5, ?_, s45⟩
        rw [st, ew]
        show DsAt K _ (List.map tD (List.map (as ++ ·) (plFrom (plS n) 0 (ws.take i) ++ [[(i : Int)]]))) _
        rw [List.map_append, List.map_append]
        exact hus4.same s5
      · exact absurd hb hn'
  · rintro σ H' ⟨F, us, ⟨o1, o2, rfl⟩, hF, hF', hus, sm⟩
    have hx := hds.length
    rw [← hx, List.take_length] at hus
    have lus : us.length ≤ 2000010 := by
      have := pf_len hn hl hw ws.length
      rw [List.take_length] at this
      rw [← hus.length, List.length_map, List.length_map]; exact this
    refine ⟨_, rfl, _, rfl, _, rfl, t, _, rfl, .inr (sm.sqT _ _ hT), (by show 1 ≤ sizeLine; decide), fun u hu => ?_⟩
    have s2 := same_new hu (.tup [.int (xs.length : Nat)])
    have s12 := sm.trans s2
    refine ⟨a, u, _, [.int (xs.length : Nat)], rfl, rfl, s12.sqT _ _ hA, SqT.of upd_same, by simp, ?_, fun t2 H2 s3 hT2 => ?_⟩
    · rw [List.length_map]; exact Nat.le_trans (show as.length + 1 ≤ 200 by omega) (by decide)
    have hT2' : SqT K H2 t2 ((as ++ [(xs.length : Int)]).map V.int) := by rw [List.map_append]; exact hT2
    refine ⟨(by show 1 ≤ sizeLine; decide), fun R hR => ?_⟩
    have s4 := same_new hR (.lst [.ref t2])
    have s24 := (s2.trans s3).trans s4
    refine ⟨F, R, _, _, rfl, rfl, s24 _ _ hF', upd_same, Nat.le_trans (show us.length + 1 ≤ 3000000 by omega) (by decide), fun G hG => ?_⟩
    have sg := same_new hG (.lst (us ++ [.ref t2]))
    refine q G _ _ ((sm.trans s24).trans sg) ?_ upd_same ?_
    · cases e : H G with
      | none => rfl
      | some o => exact absurd ((sm.trans s24) _ _ e) (by rw [hG]; simp)
    · rw [plD_eq]
      show DsAt K _ (List.map tD (List.map (as ++ ·) (plFrom (plS n) 0 ws ++ [[(ws.length : Int)]]))) _
      rw [List.map_append, List.map_append, hx]
      exact DsAt.append (hus.same (s24.trans sg)) (DsAt.cons (dat_ints ((s4.trans sg).sqT _ _ hT2')) DsAt.nil)
end
end My

set_option maxHeartbeats 4000000
namespace L2
open PySem
/-- t + u of tuples, the first not empty -/
def rCatC (K : PySem.W.Frag) : R2 := fun x y H Q => ∃ a b xs ys, x = .ref a ∧ y = .ref b ∧ SqT K H a xs ∧ SqT K H b ys ∧ xs ≠ [] ∧ xs.length + ys.length ≤ sizeLine ∧ ∀ t H', Same H H' → SqT K H' t (xs ++ ys) → Q (.ref t) H'
theorem op_catC {X : Cx} : OpR X (binaryOp .Add) (rCatC X.K) := by
  intro pins s σ H x y v u Q I rx ry h
  obtain ⟨a, b, xs, ys, rfl, rfl, ha, hb, hx, hz, q⟩ := h
  exact op_catT pins s σ H _ _ v u Q I rx ry ⟨a, b, xs, ys, rfl, rfl, ha, hb, hx, hz, fun z => by subst z; exact q a H (Same.refl _) (by rw [List.append_nil]; exact ha), fun _ p hp => q p _ (same_new hp _) (SqT.of upd_same)⟩
end L2
namespace My
open PySem L2 CT CS
theorem noL_t (p : List Int) : noL (tD p) = true := by simp [tD, noL, noL_ints]
theorem brP_deep {f : D → List (List Int)} {k : Nat} {es : List D} {p : List Int} (h : p ∈ brP f k es) : ∃ d ∈ es, ∃ p' ∈ f d, p.length = p'.length + 2 := by
  unfold brP at h
  split at h
  · rename_i q r
    rcases List.mem_append.mp h with z | z
    · obtain ⟨p', h1, rfl⟩ := List.mem_map.mp z
      exact ⟨q, by simp, p', h1, by simp⟩
    · obtain ⟨p', h1, rfl⟩ := List.mem_map.mp z
      exact ⟨r, by simp, p', h1, by simp⟩
  · simp at h
theorem plFrom_deep {f : D → List (List Int)} {p : List Int} : ∀ {ws : List D} {k : Nat}, p ∈ plFrom f k ws → p.length = 1 ∨ ∃ w ∈ ws, ∃ d ∈ wEnds w, ∃ p' ∈ f d, p.length = p'.length + 2
  | [], k, h => by simp [plFrom] at h
  | w :: ws, k, h => by
    rw [plFrom] at h
    rcases List.mem_append.mp h with z | z
    · rcases List.mem_cons.mp z with z | z
      · subst z; exact .inl rfl
      · obtain ⟨d, h1, h2⟩ := brP_deep z
        exact .inr ⟨w, by simp, d, h1, h2⟩
    · rcases plFrom_deep z with h1 | ⟨w', h1, h2⟩
      · exact .inl h1
      · exact .inr ⟨w', by simp [h1], h2⟩
theorem pl_deep : ∀ {n : Nat} {d : D}, PpD n d → ∀ p ∈ plD n d, p.length ≤ 2 * n + 1
  | n, d, h, p, hp => by
    obtain ⟨ws, rfl, hl, hw⟩ := PpD.iff.mp h
    rw [plD_eq] at hp
    rcases List.mem_append.mp (show p ∈ plFrom (plS n) 0 ws ++ [[(ws.length : Int)]] from hp) with z | z
    · rcases plFrom_deep z with h1 | ⟨w, h1, d, h2, p', h3, h4⟩
      · omega
      · obtain ⟨m, rfl, hm⟩ := sub_S ((wk_ends (hw w h1)).2 d h2)
        have := pl_deep hm p' h3
        omega
    · rw [List.mem_singleton.mp z]; simp
  termination_by n => n
def brF (f : D → List (List Int)) (k : Nat) : Nat → List D → List (List Int)
  | _, [] => []
  | s, e :: es => (f e).map ([(k : Int), (s : Int)] ++ ·) ++ brF f k (s + 1) es
theorem brF_snoc (f : D → List (List Int)) (k : Nat) (e : D) : ∀ (es : List D) (s : Nat), brF f k s (es ++ [e]) = brF f k s es ++ (f e).map ([(k : Int), ((s + es.length : Nat) : Int)] ++ ·)
  | [], s => by simp [brF]
  | x :: es, s => by
    rw [List.cons_append, brF, brF_snoc f k e es (s + 1), brF, List.length_cons, show s + 1 + es.length = s + (es.length + 1) by omega, List.append_assoc]
theorem brF_step {f : D → List (List Int)} {k j : Nat} {es : List D} {e : D} (h : es[j]? = some e) : brF f k 0 (es.take (j + 1)) = brF f k 0 (es.take j) ++ (f e).map ([(k : Int), (j : Int)] ++ ·) := by
  have hi : j < es.length := (List.getElem?_eq_some_iff.mp h).1
  have hl : (es.take j).length = j := by rw [List.length_take]; omega
  rw [take_snoc h, brF_snoc, hl, Nat.zero_add]
theorem brF_eq {f : D → List (List Int)} {k : Nat} {es : List D} (h : es = [] ∨ ∃ q r, es = [q, r]) : brF f k 0 es = brP f k es := by
  rcases h with rfl | ⟨q, r, rfl⟩
  · rfl
  · simp [brF, brP]
theorem brF_len {f : D → List (List Int)} {b k : Nat} : ∀ (es : List D) (s : Nat), (∀ d ∈ es, (f d).length ≤ b) → (brF f k s es).length ≤ es.length * b
  | [], _, _ => by simp [brF]
  | e :: es, s, h => by
    have h1 := h e (by simp)
    have h2 := brF_len (k := k) es (s + 1) fun d hd => h d (by simp [hd])
    rw [brF, List.length_append, List.length_map, List.length_cons, Nat.add_mul]
    omega
def spPl (K : PySem.W.Frag) (n : Nat) : Sp := fun vs H Q _ => ∃ (v : V) (d : D), vs = [v] ∧ DAt K H d v ∧ noL d = true ∧ PpD n d ∧ n ≤ 3 ∧ ∀ l us H', Same H H' → H l = none → H' l = some (.lst us) → DsAt K H' ((plD n d).map tD) us → Q (.ref l) H'
def spPlS (K : PySem.W.Frag) : Nat → Sp
  | 0 => fun _ _ _ _ => False
  | n + 1 => spPl K n
theorem scPlaces : FnScope ["pipe", "found", "at", "worker", "side", "branch"] ["pipe"] (defScope sPlaces) := ⟨rfl, rfl, rfl, by decide +kernel, rfl, by decide +kernel, by decide +kernel⟩
section
variable {P : Program} {w : World} {K : PySem.W.Frag} {mg : Str → Option Value} {base : Heap} {f fM fB : Addr} {fd dM dB : FuncData} {L : Nat}
theorem ok_pl0 (F : Fun K "places" "places" sPlaces f fd) : FnOk P w K mg base CX0 (L + 1) f fd ["pipe"] (spPlS K 0) :=
  F.ok scPlaces (fun vs H Q E h => False.elim h) (fun cdv A outer s H vs Q E hr h => False.elim h)
theorem ok_plS {n : Nat} (B : Blt mg) (mE : mg "enumerate" = none) (F : Fun K "places" "places" sPlaces f fd)
    (GB : FnOk P w K mg base CX0 L fB dB ["worker"] (spBr K)) (bB : Binds K dB ["worker"] []) (kB : PySem.W.keepIn K (.ref fB) = true) (mB : mg "branches_of" = some (.ref fB))
    (GM : FnOk P w K mg base CX0 L fM dM ["pipe"] (spPlS K n)) (bM : Binds K dM ["pipe"] []) (kM : PySem.W.keepIn K (.ref fM) = true) (mM : mg "places" = some (.ref fM)) :
    FnOk P w K mg base CX0 (L + 1) f fd ["pipe"] (spPlS K (n + 1)) := by
  refine F.ok scPlaces (fun vs H Q E h => ?_) (fun cdv A outer s H vs Q E hr h => ?_)
  · obtain ⟨v, d, rfl, _⟩ := h
    rfl
  obtain ⟨v, d, rfl, hd, nd, hp, hn, q⟩ := h
  refine ⟨_, pss_cons (ps_set (i := 1) scPlaces.nd rfl (Or.inl rfl) (pe_lst pa_nil))
    (pss_cons (ps_for PassesOwn.never rfl (pi_enumT rfl mE (pa_cons (pv 0) pa_nil)) (pg_tup rfl (pgs_cons (pg_name (i := 2) scPlaces.nd rfl (Or.inr rfl)) (pgs_cons (pg_name (i := 3) scPlaces.nd rfl (Or.inl rfl)) pgs_nil)))
      (pss_cons (ps_expr (pe_bm PySem.F.plainAttrs_list PySem.F.slot_list_append PySem.F.type_list_append mt_append (pv 1) (pa_cons (pe_tup (pa_cons (pv 2) pa_nil)) pa_nil)))
      (pss_one (ps_for PassesOwn.never rfl (pi_enumT rfl mE (pa_cons (pe_call GB hr rfl mB kB bB .nil pass0 (pa_cons (pv 3) pa_nil)) pa_nil)) (pg_tup rfl (pgs_cons (pg_name (i := 4) scPlaces.nd rfl (Or.inr rfl)) (pgs_cons (pg_name (i := 5) scPlaces.nd rfl (Or.inl rfl)) pgs_nil)))
        (pss_one (ps_expr (pe_bm PySem.F.plainAttrs_list PySem.F.slot_list_extend PySem.F.type_list_extend mt_extend (pv 1) (pa_cons (pe_lcomp (N' := ["inner", "at", "side"]) (src := [none, some 2, some 4]) rfl (CompSc.ofB (by kernel_rfl)) (pi_list (pe_call GM hr rfl mM kM bM .nil pass0 (pa_cons (pv 5) pa_nil))) (fun cl C s H fp => pgl (i := 0)) (fun cl C s H fp => pifs_nil)
          (te := tOp (rCatC K) (tTup (tCons (tVar 1) (tCons (tVar 2) tNil))) (tVar 0))
          (fun cl C s H fp => pe_op op_catC (pe_tup (pa_cons (pvf 1) (pa_cons (pvf 2) pa_nil))) (pvl 0))) pa_nil))))))))
    (pss_cons (ps_expr (pe_bm PySem.F.plainAttrs_list PySem.F.slot_list_append PySem.F.type_list_append mt_append (pv 1) (pa_cons (pe_tup (pa_cons (pe_callB call_len_seq rfl B.len PySem.boot_len (pa_cons (pv 0) pa_nil)) pa_nil)) pa_nil)))
    (pss_one (ps_ret (pv 1))))), ?_⟩
  obtain ⟨t, ws, xs, rfl, rfl, hT, hds, hl, hw⟩ := pp_open hd hp
  rw [noL] at nd
  refine ⟨Nat.zero_le _, fun F hF => ?_⟩
  refine gName_go ?_
  dsimp only
  have s0 := same_new hF (.lst [])
  refine ⟨_, rfl, t, rfl, ⟨_, s0.sqT _ _ hT⟩, ?_⟩
  refine for_enumT (xs := xs) (fun i σ H' => ∃ us, (∃ o1 o2 o3 o4, σ = [some (.ref t), some (.ref F), o1, o2, o3, o4]) ∧ H' F = some (.lst us) ∧ DsAt K H' ((plFrom (plS n) 0 (ws.take i)).map tD) us ∧ Same H H')
    ⟨[], ⟨none, none, none, none, rfl⟩, upd_same, DsAt.nil, s0⟩ ?_ ?_ ?_
  · rintro i σ H' _ ⟨_, _, _, _, sm⟩
    exact sm.sqT _ _ hT
  · rintro i x σ H' T hx ⟨us, ⟨o1, o2, o3, o4, rfl⟩, hF', hus, sm⟩ hTn
    obtain ⟨d1, e1, hd1⟩ := DsAt.get hds hx
    have mem1 := List.mem_of_getElem? e1
    have w1 := hw d1 mem1
    have n1 := noLs_mem nd mem1
    have hi : i < ws.length := (List.getElem?_eq_some_iff.mp e1).1
    have sT := same_new hTn (.tup [.int (i : Nat), x])
    have lus : us.length ≤ 2000010 := by
      rw [← hus.length, List.length_map]; exact pf_len hn hl hw i
    refine ⟨T, _, rfl, SqT.of upd_same, rfl, _, _, rfl, ?_⟩
    refine gName_go ?_
    dsimp only
    refine ⟨_, _, rfl, ?_⟩
    refine gName_go ?_
    try dsimp only
    have s1 := sm.trans sT
    have hF1 := sT _ _ hF'
    refine ⟨rfl, ?_⟩
    refine ⟨_, rfl, .inl ⟨rfl, _, SqL.of hF1⟩, _, rfl, (by show 1 ≤ sizeLine; decide), fun u hu => ?_⟩
    have s2 := same_new hu (.tup [.int (i : Nat)])
    have s12 := s1.trans s2
    have hF3 := s2 _ _ hF1
    refine ⟨F, _, _, rfl, rfl, hF3, Nat.lt_of_le_of_lt lus (by decide), ?_⟩
    have s4 : Same H (upd (upd (upd H' T (.tup [.int (i : Nat), x])) u (.tup [.int (i : Nat)])) F (.lst (us ++ [.ref u]))) := s12.put hF
    have kp := sqT_put (K := K) (o := .lst (us ++ [.ref u])) hF3
    have hus4 : DsAt K (upd (upd (upd H' T (.tup [.int (i : Nat), x])) u (.tup [.int (i : Nat)])) F (.lst (us ++ [.ref u]))) ((plFrom (plS n) 0 (ws.take i)).map tD ++ [tD [(i : Int)]]) (us ++ [.ref u]) :=
      DsAt.append (((hus.same (sT.trans s2))).keepT kp (noL_tD _)) (DsAt.cons (dat_ints (p := [(i : Int)]) (kp _ _ (SqT.of upd_same))) DsAt.nil)
    have hd4 := DAt.keepT (fun c ys z => s4.sqT c ys z) n1 hd1
    have hF4 : upd (upd (upd H' T (.tup [.int (i : Nat), x])) u (.tup [.int (i : Nat)])) F (.lst (us ++ [.ref u])) F = some (.lst (us ++ [.ref u])) := upd_same
    generalize upd (upd (upd H' T (.tup [.int (i : Nat), x])) u (.tup [.int (i : Nat)])) F (.lst (us ++ [.ref u])) = H4 at *
    obtain ⟨t1, nm, vs1, rfl, hT1, _⟩ := wk_open hd4 w1
    refine ⟨_, rfl, t1, d1, sub PpD n, rfl, hd4, w1, fun b bs H5 s5 hTb hbs => ?_⟩
    refine ⟨b, rfl, ⟨_, hTb⟩, ?_⟩
    have we := wk_ends w1
    have st := plFrom_step (f := plS n) e1
    have hus5 := hus4.same s5
    have blen : ∀ e ∈ wEnds d1, (plS n e).length ≤ 100000 := fun e he => by
      obtain ⟨m, rfl, hp'⟩ := sub_S (we.2 e he)
      exact Nat.le_trans (pl_len hp') (bnd_le (by omega))
    refine for_enumT (xs := bs) (fun j σ H'' => ∃ vs, (∃ o3 o4, σ = [some (.ref t), some (.ref F), some (.int (i : Nat)), some (.ref t1), o3, o4]) ∧ H'' F = some (.lst vs) ∧ DsAt K H'' ((plFrom (plS n) 0 (ws.take i)).map tD ++ [tD [(i : Int)]] ++ (brF (plS n) i 0 ((wEnds d1).take j)).map tD) vs ∧ Same H H'' ∧ ∀ c ys, SqT K H5 c ys → SqT K H'' c ys)
      ⟨us ++ [.ref u], ⟨_, _, rfl⟩, s5 _ _ hF4, by simpa [brF] using hus5, s4.trans s5, fun c ys z => z⟩ ?_ ?_ ?_
    · rintro j σ H'' _ ⟨_, _, _, _, _, kt⟩
      exact kt _ _ hTb
    · rintro j y σ H'' T2 hy ⟨vs, ⟨o3, o4, rfl⟩, hF6, hvs, s6, kt⟩ hT2n
      obtain ⟨e, ee, hde⟩ := DsAt.get hbs hy
      have me := List.mem_of_getElem? ee
      obtain ⟨n', rfl, pe⟩ := sub_S (we.2 e me)
      have ne := noL_ends n1 w1 me
      have hde6 := DAt.keepT kt ne hde
      have s7 := same_new hT2n (.tup [.int (j : Nat), y])
      refine ⟨T2, _, rfl, SqT.of upd_same, rfl, _, _, rfl, ?_⟩
      refine gName_go ?_
      dsimp only
      refine ⟨_, _, rfl, ?_⟩
      refine gName_go ?_
      try dsimp only
      refine ⟨rfl, ?_⟩
      refine ⟨_, rfl, .inl ⟨rfl, _, SqL.of (s7 _ _ hF6)⟩, ?_⟩
      refine ⟨_, rfl, y, e, rfl, hde6.same s7, ne, pe, by omega, fun l8 us8 H8 s8 hn8 hl8 hus8 => ?_⟩
      refine ⟨l8, rfl, ⟨_, SqL.of hl8⟩, fun Dc hDc => ?_⟩
      have l8' : us8.length ≤ 100000 := by
        rw [← hus8.length, List.length_map]; exact Nat.le_trans (pl_len pe) (bnd_le (by omega))
      refine comp_list (xs := us8) (fun k σ ys H9 => (∃ o, σ = [o, some (.int (i : Nat)), some (.int (j : Nat))]) ∧ DsAt K H9 (((plD n' e).take k).map fun p => tD ([(i : Int), (j : Int)] ++ p)) ys ∧ H9 Dc = some (.lst ys) ∧ Same H8 H9)
        ⟨⟨none, rfl⟩, DsAt.nil, upd_same, same_new hDc _⟩ ?_ ?_ ?_ ?_ ?_
      · rintro k σ ys H9 hk ⟨_, h9, hD9, _⟩
        refine ⟨hD9, ?_⟩
        rw [← h9.length, List.length_map, List.length_take]
        omega
      · rintro k σ ys H9 _ ⟨_, _, _, s9⟩
        exact SqL.of (s9 _ _ hl8)
      · exact Nat.le_trans l8' (by decide)
      · rintro k z σ ys H9 hz ⟨⟨o, rfl⟩, h9, hD9, s9⟩
        obtain ⟨pd, ep, hpd⟩ := DsAt.get hus8 hz
        rw [List.getElem?_map] at ep
        cases ek : (plD n' e)[k]? with
        | none => rw [ek] at ep; cases ep
        | some pk =>
          rw [ek] at ep
          have ep' : tD pk = pd := Option.some.inj ep
          subst ep'
          unfold tD at hpd
          rw [DAt] at hpd
          obtain ⟨tz, vz, rfl, hTz, hvz⟩ := hpd
          have := ints_of hvz
          subst this
          refine ⟨_, rfl, _, rfl, (by show 2 ≤ sizeLine; decide), fun ua hua => ?_⟩
          have sa := same_new hua (.tup [.int (i : Nat), .int (j : Nat)])
          refine ⟨_, rfl, ua, tz, [.int (i : Nat), .int (j : Nat)], pk.map V.int, rfl, rfl, SqT.of upd_same, (s9.trans sa).sqT _ _ hTz, by simp, ?_, fun tt Hb sb hTb' => ?_⟩
          · have := pl_deep pe pk (List.mem_of_getElem? ek)
            rw [List.length_map]
            exact Nat.le_trans (show 2 + pk.length ≤ 200 by omega) (by decide)
          have sab := sa.trans sb
          have hDb := sab _ _ hD9
          refine ⟨hDb, ⟨_, rfl⟩, ?_, upd_same, (s9.trans sab).put hDc⟩
          rw [take_snoc ek, List.map_append]
          have kq := sqT_put (K := K) (o := .lst (ys ++ [.ref tt])) hDb
          exact DsAt.append ((h9.same sab).keepT kq (noLs_all.mpr fun d' hd' => by
            obtain ⟨p', _, rfl⟩ := List.mem_map.mp hd'
            exact noL_t _)) (DsAt.cons (dat_ints (p := [(i : Int), (j : Int)] ++ pk) (kq _ _ (by rw [List.map_append]; exact hTb'))) DsAt.nil)
      · rintro σ ys H9 ⟨_, h9, hD9, s9⟩
        have e8 : us8.length = (plD n' e).length := by rw [← hus8.length, List.length_map]
        rw [e8, List.take_length] at h9
        have hF9 := s9 _ _ (s8 _ _ (s7 _ _ hF6))
        have lvs : vs.length ≤ 2300000 := by
          have a1 := pf_len hn hl hw i
          have a2 := brF_len (f := plS (n' + 1)) (b := 100000) (k := i) ((wEnds d1).take j) 0 fun d' hd' => blen d' (List.mem_of_mem_take hd')
          have a3 : ((wEnds d1).take j).length ≤ 2 := by
            rw [List.length_take]
            rcases we.1 with z | ⟨q1, r1, z⟩ <;> rw [z] <;> simp <;> omega
          have a4 := Nat.mul_le_mul_right 100000 a3
          rw [← hvs.length, List.length_append, List.length_append, List.length_map, List.length_map]
          simp
          omega
        have lys : ys.length ≤ 100000 := by rw [← h9.length, List.length_map]; omega
        refine ⟨F, Dc, _, _, rfl, rfl, hF9, hD9, Nat.le_trans (show vs.length + ys.length ≤ 3000000 by omega) (by decide), ?_⟩
        have kq := sqT_put (K := K) (o := .lst (vs ++ ys)) hF9
        have s79 := (s7.trans s8).trans s9
        refine ⟨vs ++ ys, ⟨_, _, rfl⟩, upd_same, ?_, (s6.trans s79).put hF, fun c zs hc => kq _ _ (s79.sqT _ _ (kt _ _ hc))⟩
        rw [brF_step ee, List.map_append, ← List.append_assoc]
        refine DsAt.append ((hvs.same s79).keepT kq ?_) ?_
        · exact noLs_all.mpr fun d' hd' => by
            rcases List.mem_append.mp hd' with z | z
            · rcases List.mem_append.mp z with z | z
              · exact noLs_all.mp (noL_tD _) _ z
              · rw [List.mem_singleton.mp z]; exact noL_t _
            · exact noLs_all.mp (noL_tD _) _ z
        · rw [List.map_map]
          exact h9.keepT kq (noLs_all.mpr fun d' hd' => by
            obtain ⟨p', _, rfl⟩ := List.mem_map.mp hd'
            exact noL_t _)
    · rintro σ H'' ⟨vs, ⟨o3, o4, rfl⟩, hF6, hvs, s6, kt⟩
      refine ⟨vs, ⟨_, _, _, _, rfl⟩, hF6, ?_, s6⟩
      rw [← hbs.length, List.take_length, brF_eq we.1] at hvs
      rw [st, List.map_append, List.map_cons]
      rw [List.append_assoc] at hvs
      exact hvs
  · rintro σ H' ⟨us, ⟨o1, o2, o3, o4, rfl⟩, hF', hus, sm⟩
    have hx := hds.length
    rw [← hx, List.take_length] at hus
    have lus : us.length ≤ 2000010 := by
      have := pf_len hn hl hw ws.length
      rw [List.take_length] at this
      rw [← hus.length, List.length_map]; exact this
    refine ⟨_, rfl, .inl ⟨rfl, _, SqL.of hF'⟩, _, rfl, t, _, rfl, .inr (sm.sqT _ _ hT), (by show 1 ≤ sizeLine; decide), fun u hu => ?_⟩
    have s2 := same_new hu (.tup [.int (xs.length : Nat)])
    have hF2 := s2 _ _ hF'
    have kp := sqT_put (K := K) (o := .lst (us ++ [.ref u])) hF2
    refine ⟨F, _, _, rfl, rfl, hF2, Nat.lt_of_le_of_lt lus (by decide), ?_⟩
    refine ⟨_, rfl, q F _ _ ((sm.trans s2).put hF) hF upd_same ?_⟩
    rw [plD_eq]
    show DsAt K _ (List.map tD (plFrom (plS n) 0 ws ++ [[(ws.length : Int)]])) _
    rw [List.map_append, hx]
    exact DsAt.append ((hus.same s2).keepT kp (noL_tD _)) (DsAt.cons (dat_ints (p := [(xs.length : Int)]) (kp _ _ (SqT.of upd_same))) DsAt.nil)
end
end My

set_option maxHeartbeats 4000000
namespace PySem
open Sem (wp)
section
variable {prog : Program} {w : World} {A : Around} {E : Value → Shared → Prop} {h : Heap} {g : Array GenState} {d : Drawn} {t : Nat} {os : OsState}
variable {nm q : Str} {C N : Addr} {bs bm bmB : List Value} {hdct : Bool} {sn : List Str} {sub : List Value} {ab : Bool} {col : Option Bool} {dd : Option Addr} {k0 k1 k2 k3 k5 : Option Value} {B newId initId : String}

end
end PySem

namespace L2
open PySem PySem.Spec PyProof.Rows
/-! ### exceptions of own classes -/
abbrev bmVE : List Value := [.type "ValueError", .type "Exception", .type "BaseException", .type "object"]
/-- an exception of the class C; its dict -/
abbrev xO (a C : Addr) (od : Option Addr) : HO := .ext fun h => ∃ fl sl, h.get? a = some { cls := .ref C, dict := od, data := .fields fl, slots := sl }
abbrev xD (d : Addr) (fs : List (Str × V)) : HO := .ext fun h => ∃ mA, h.Ns1 d mA ∧ ∀ f, RelO (fs.lookup f) (mA f)
section
variable {P : Program} {w : World} {H : Hp} {h h' : Heap} {a C d : Addr} {od : Option Addr} {fs : List (Str × V)} {o : HO}
theorem ObjOk.there (x : ObjOk P w H h a o) : ∃ u, h.get? a = some u := by
  cases o with
  | lst xs => obtain ⟨_, _, _, _, e⟩ := x; exact ⟨_, e⟩
  | tup xs => obtain ⟨_, _, _, p⟩ := x; obtain ⟨o, e, _⟩ := p; exact ⟨_, e⟩
  | dK kvs => obtain ⟨_, _, _, _, o, _, _, e, _⟩ := x; exact ⟨_, e⟩
  | dT kvs => obtain ⟨_, _, _, _, o, _, _, e, _⟩ := x; exact ⟨_, e⟩
  | set S n => obtain ⟨o, _, _, _, e, _⟩ := x; exact ⟨_, e⟩
  | ins C dx fs => obtain ⟨_, _, _, e, _⟩ := x; exact ⟨_, e⟩
  | own y => obtain ⟨_, e⟩ := x; exact ⟨_, e⟩
  | xd fs => obtain ⟨_, ⟨_, _, _, e, _⟩, _⟩ := x; exact ⟨_, e⟩
  | rng lo hi => obtain ⟨_, _, _, e⟩ := x; exact ⟨_, e⟩
  | frz ob u => obtain ⟨e, _⟩ := x; exact ⟨_, e⟩
  | tbl ps => exact ⟨_, (show h.get? a = some _ from x)⟩
  | met f y => exact ⟨_, (show h.get? a = some _ from x)⟩
  | ext φ => obtain ⟨_, ⟨_, e⟩, _⟩ := x; exact ⟨_, e⟩
end
/-- an own exception class, under PE, under ValueError -/
structure XCls (K : PySem.W.Frag) (C : Addr) : Prop where
  cls : ∃ cd PE, PySem.W.clsIn K C = some cd ∧ cd.mro = .ref C :: .ref PE :: bmVE ∧ cd.hasDict = true
  mo : PySem.W.mroIn K C (.type "object") = some true
  sa : PySem.W.findIn K (.ref C) "__setattr__" = some (some (.builtin "object.__setattr__"))
  ga : PySem.W.findIn K (.ref C) "__getattribute__" = some (some (.builtin "BaseException.__getattribute__"))
  gh : PySem.W.findIn K (.ref C) "__getattr__" = some none
  mb : PySem.W.mroIn K C (.type "BaseException") = some true
  ca : PySem.W.findIn K (.ref C) "__class__" = some (some (.builtin "object.__class__"))
  cg : PySem.W.specialIn K (.builtin "object.__class__") "__get__" = some (some (.builtin "getset_descriptor.__get__"))
  ct : PySem.W.takesIn K (.builtin "object.__class__") = some true
theorem XCls.hd {K : PySem.W.Frag} {C : Addr} (c : XCls K C) : PySem.W.hasDictIn K C = true := by
  obtain ⟨cd, PE, e, _, h⟩ := c.cls
  unfold PySem.W.hasDictIn
  rw [e]
  exact h

section
variable {prog : Program} {w : World} {A : Around} {E : Value → Shared → Prop} {R : Result → Shared → Prop} {s : Shared} {K : PySem.W.Frag} {x C : Addr} {ox : Obj} {od : Option Obj} {name : Str} {tk : Tok} {v : Value}
theorem bga_entry {Q : Fin → Shared → Prop} {r : Builtin.ObjectAttr.Found} (X : K.In s.heap) (I : PySem.W.InstAt s.heap x ox C od) (hf : PySem.W.findObj K C od name = some r)
    (h : wpAny (model prog w) A (match r with | .value v => ret v | .bind g a => Builtin.ObjectAttr.bindTo g a (.ref x) (.ref C) | .missing => Builtin.ObjectAttr.noSuchAttribute (.ref x) name) Q E s) :
    wpAny (model prog w) A (Builtin.«object.__getattribute__» ⟨[.ref x, .str name tk], []⟩) Q E s := by
  obtain ⟨hh', g, d, t, os⟩ := s
  have L0 := I.type (M := model prog w)
  have L1 := PySem.W.looks_find (M := model prog w) X I hf
  unfold Builtin.«object.__getattribute__»
  refine wpAny_bind (wpAny_pure ?_)
  refine wpAny_bind (wpAny_pure (wpAny_bind (L0.at (wpAny_bind (L1.at ?_)))))
  cases r with
  | value v => exact h
  | bind g a => exact h
  | missing => exact h
theorem xgetBy {fill expr : Bool} {Q : Value → Shared → Prop} {r : Builtin.ObjectAttr.Found} (c : XCls K C) (X : K.In s.heap) (I : PySem.W.InstAt s.heap x ox C od) (hf : PySem.W.findObj K C od name = some r)
    (h : codeAny (model prog w) A (.call (.builtin "BaseException.__getattribute__") ⟨[.ref x, .str name tk], []⟩) (fun r s' => match r with | .ok (.ret v) => wpAny (model prog w) A (handedOut v) Q E s' | _ => False) s) :
    wpAny (model prog w) A (getAttrBy (.ref x) (.str name tk) fill expr) Q E s := by
  obtain ⟨hh', g, d, t, os⟩ := s
  have L0 := I.type (M := model prog w)
  have L1 := PySem.W.looks_findIn (M := model prog w) X c.ga
  have LH := PySem.W.looks_hook (M := model prog w) (mc := .ref C) (r := none) X (by show PySem.W.findIn K (.ref C) "__getattr__" = _; exact c.gh)
  have hx2 : (Value.builtin "BaseException.__getattribute__" == Value.builtin "object.__getattribute__") = false := by decide +kernel
  have hx1 : (onTheHeap (Value.ref C) && Value.builtin "BaseException.__getattribute__" == Value.builtin "object.__getattribute__") = false := by rw [hx2]; rfl
  have hx0 : (expr && onTheHeap (Value.builtin "BaseException.__getattribute__")) = false := by cases expr <;> rfl
  unfold getAttrBy
  refine wpAny_holding (wpAny_bind (L0.at (wpAny_bind (L1.at ?_))))
  show wpAny _ _ (if (onTheHeap (Value.ref C) && Value.builtin "BaseException.__getattribute__" == Value.builtin "object.__getattribute__") = true then _ else _) _ _ _
  rw [if_neg (by rw [hx1]; exact Bool.false_ne_true)]
  unfold getAttrByItsOwn
  refine wpAny_bind (LH.at (wpAny_bind (wpAny_attempt (wpAny_holding ?_))))
  unfold callGetattribute
  rw [if_neg (by rw [hx0]; exact Bool.false_ne_true)]
  unfold boundAndCalled
  rw [PySem.F.excAttr_ValueError.ga.bind]
  refine wpAny_bind (wpAny_pure (wpAny_call (codeAny_mono h fun r s' z => ?_)))
  rcases r with e | (v | _ | _ | _) <;> first | exact z | exact z.elim
theorem bga_call {r : Builtin.ObjectAttr.Found} (c : XCls K C) (X : K.In s.heap) (I : PySem.W.InstAt s.heap x ox C od) (hf : PySem.W.findObj K C od name = some r)
    (h : wpAny (model prog w) A.in1 (match r with | .value v => ret v | .bind g a => Builtin.ObjectAttr.bindTo g a (.ref x) (.ref C) | .missing => Builtin.ObjectAttr.noSuchAttribute (.ref x) name)
      (fun fin s' => match fin with | .done f => R (.ok f) s' | .again c' => c'.quiet = true ∧ codeAny (model prog w) A c' R s') (fun e s' => R (.error e) s') s) :
    codeAny (model prog w) A (.call (.builtin "BaseException.__getattribute__") ⟨[.ref x, .str name tk], []⟩) R s := by
  have sub : PySem.W.Looks (model prog w) s.heap (isInstance (.ref x) (.type "BaseException")) true := I.type.andThen (PySem.W.looks_mroIn X c.mb)
  exact codeAny_call_builtin PySem.F.excAttr_ValueError.ga.plain PySem.F.entry_bexc_ga (@PySem.W.check_slot (model prog w) _ _ s "BaseException.__getattribute__" "BaseException" "__getattribute__" (.ref x) [.str name tk] [] _ (by decide +kernel) (by decide +kernel) sub (PySem.F.args_bexc_ga _ _) (bga_entry X I hf h))
theorem xget_class {Q : Option Value → Shared → Prop} (c : XCls K C) (X : K.In s.heap) (I : PySem.W.InstAt s.heap x ox C od) (hf : PySem.W.findObj K C od "__class__" = some (.bind (.builtin "getset_descriptor.__get__") (.builtin "object.__class__")))
    (h : Q (some (.ref C)) { s with toks := s.toks + 1 }) : wpAny (model prog w) A (getAttr? (.ref x) "__class__") Q E s := by
  unfold getAttr? getAttrBy?
  refine wpAny_bind (wpAny_mkText (wpAny_bind (wpAny_attempt (xgetBy (s := { s with toks := s.toks + 1 }) c X I hf (bga_call (s := { s with toks := s.toks + 1 }) c X I hf ?_)))))
  show wpAny _ _ (holding [Value.builtin "object.__class__"] (call (.builtin "getset_descriptor.__get__") [.builtin "object.__class__", .ref x, .ref C]) >>= ret) _ _ _
  refine wpAny_bind (wpAny_holding (wpAny_call (PySem.W.class_get (s := { s with toks := s.toks + 1 }) (ox := ox) (od := od) X I c.mo (wpAny_pure ?_))))
  show wpAny _ _ (handedOut (.ref C)) _ _ _
  rw [PySem.W.handedOut_of rfl]
  exact wpAny_pure (wpAny_pure h)
end
end L2

set_option maxHeartbeats 4000000
namespace L2
open PySem PySem.Spec PyProof.Rows
section
variable {X : Cx} {pins : List (Addr × Obj)} {σ : St} {H : Hp} {s : Shared} {a C dx : Addr} {fs : List (Str × V)} {f : Str} {v y : V} {u : Value} {A : Around} {E : Value → Shared → Prop}
end
end L2

set_option maxHeartbeats 4000000
namespace L2
open PySem PySem.Spec PyProof.Rows
section
variable {X : Cx} {CX : CXT} {k : Nat} {f C : Addr} {fd : FuncData} {ps : List Str} {sp : Sp} {E : XK} {x : Str} {p pos : Pos} {e : Expr} {es : List Expr} {t : TA}
end
/-! ### an exception's attributes -/
section
variable {X : Cx} {o value : Expr} {ta tv : TE} {f : Str} {pos pos' : Pos}
end
/-! ### isinstance -/
/-- the exception at a is whole -/
def XAt (K : PySem.W.Frag) (H : Hp) (a C : Addr) : Prop := XCls K C ∧ (H a = some (xO a C none) ∨ ∃ dx fs, H a = some (xO a C (some dx)) ∧ H dx = some (xD dx fs))
theorem kitx_exc {K : PySem.W.Frag} {x D : Addr} (c : XCls K D) : PySem.W.KitX K (.ref x) (.ref D) (fun h => ∃ ox od, PySem.W.InstAt h x ox D od) where
  ty := fun _ _ _ ⟨ox, od, I⟩ => I.type
  it := fun _ _ X _ => by
    obtain ⟨cdD, hcD, _⟩ := PySem.W.any_some c.hd
    unfold PySem.W.clsIn at hcD
    split at hcD
    · rename_i c' d' cd' sl' ho
      intro A' Q' E' s' k q
      unfold isType loadHead
      exact wpAny_bind (wpAny_loadPart (k _ _ (X _ _ ho)) (wpAny_pure q))
    · cases hcD
  ne := fun h tp dd its n sl X htp => by
    obtain ⟨cdD, hcD, _⟩ := PySem.W.any_some c.hd
    refine Bool.eq_false_iff.mpr fun q => ?_
    have e : D = tp := Value.ref.inj (beq_iff_eq.mp q)
    subst e
    unfold PySem.W.clsIn at hcD
    split at hcD
    · rename_i c' d' cd' sl' ho
      have z := (X _ _ ho).symm.trans htp
      cases z
    · cases hcD
  ca := fun {prog w A E Q s} X I h => by
    obtain ⟨ox, od, I⟩ := I
    have hf : PySem.W.findObj K D od "__class__" = some (.bind (.builtin "getset_descriptor.__get__") (.builtin "object.__class__")) := by
      obtain ⟨cd, PE, hc, _⟩ := c.cls
      unfold PySem.W.findObj
      rw [hc, Option.bind_some, c.ca, Option.bind_some]
      simp [c.cg, c.ct]
    exact xget_class c X I hf h
section
variable {X : Cx}
/-- what a class's value is -/
def clV : V → Value → Prop
  | .ref a, u => u = .ref a
  | .ty n, u => u = .type n
  | _, _ => False
theorem call_isinst : CallR X (.builtin "isinstance") (fun xs H Q => ∃ x cv t c b, xs = [x, cv] ∧ clV cv c ∧ (TyOf X.K H x t ∨ ∃ a C, x = .ref a ∧ t = .ref C ∧ XAt X.K H a C) ∧ PySem.W.kitOne X.K t c = some b ∧ Q (.bl b) H) := by
  intro pins s σ H xs us Q I r h
  obtain ⟨x, cv, t, c, b, rfl, hc, ty, e, q⟩ := h
  obtain ⟨u, w', rfl, r1, r2⟩ := vals2 r
  have e2 : w' = c := by
    cases cv with
    | ref a => cases (show c = _ from hc); exact r2
    | ty n => cases (show c = _ from hc); exact r2
    | _ => exact hc.elim
  subst e2
  rcases ty with ty | ⟨a, C, rfl, rfl, cx, hx⟩
  · exact isinst_ok I r1 ty e fun tk => ⟨.bl b, H, I.tok _, rfl, q⟩
  · cases (show u = Value.ref a from r1)
    have J : ∃ ox od, PySem.W.InstAt s.heap a ox C od := by
      rcases hx with ea | ⟨dx, fs, ea, ed⟩
      · obtain ⟨⟨fl, sl, ha⟩, _⟩ := I.hok a _ ea
        exact ⟨_, none, ha, rfl, rfl, True.intro⟩
      · obtain ⟨⟨fl, sl, ha⟩, _⟩ := I.hok a _ ea
        obtain ⟨⟨mA, ⟨od, _, _, ho, _⟩, _⟩, _⟩ := I.hok dx _ ed
        exact ⟨_, some od, ha, rfl, rfl, ho⟩
    exact PySem.W.kia_one (kitx_exc cx) I.kIn J e (fun z => nomatch z) fun tk => ⟨.bl b, H, I.tok _, rfl, q⟩
end
end L2

set_option maxHeartbeats 8000000
namespace L2
open PySem PySem.Spec PyProof.Rows
/-- isinstance of any tuple -/
def rInT (K : PySem.W.Frag) : List V → Hp → VK → Prop := fun xs H Q => ∃ p ys n b, xs = [.ref p, .ty n] ∧ SqT K H p ys ∧ PySem.W.kitOne K (.type "tuple") (.type n) = some b ∧ Q (.bl b) H
theorem call_isTup {X : Cx} : CallR X (.builtin "isinstance") (rInT X.K) := by
  intro pins s σ H xs us Q I r h
  obtain ⟨p, ys, n, b, rfl, hq, e, q⟩ := h
  obtain ⟨u, w', rfl, r1, r2⟩ := vals2 r
  cases (show u = Value.ref p from r1)
  cases (show w' = Value.type n from r2)
  obtain ⟨its, rv, pt, hz⟩ := I.tuple hq
  obtain ⟨o, h1, h2, _⟩ := pt
  exact PySem.W.kia_one PySem.W.kitx_tuple I.kIn ⟨o, h1, h2⟩ e (fun z => nomatch z) fun tk => ⟨.bl b, H, I.tok _, rfl, q⟩
end L2
namespace My
open PySem L2 CT CS
theorem kit_same {K : PySem.W.Frag} {t : Value} (h : (t == t) = true) : PySem.W.kitOne K t t = some true := by
  unfold PySem.W.kitOne
  rw [if_pos h]
def spLaw (K : PySem.W.Frag) : Sp := fun vs H Q _ => ∃ (a : Addr) (ns : List Int), vs = [.ref a] ∧ SqL K H a (ns.map V.int) ∧ ns.length ≤ 63 ∧ ∀ H', Q (.bl true) H'
theorem scLaw : FnScope ["_law_script", "_law_k", "_law_pipe_here", "_law_due", "_law_found"] ["_law_script"] (defScope sLaw) := ⟨rfl, rfl, rfl, by decide +kernel, rfl, by decide +kernel, by decide +kernel⟩
theorem depths_ints (p : List Int) : depths (p.map D.int) = 0 := by
  induction p with
  | nil => rfl
  | cons i p ih => rw [List.map_cons, depths, ih]; rfl
theorem depths_tD (ps : List (List Int)) : depths (ps.map tD) ≤ 1 := by
  induction ps with
  | nil => simp [depths]
  | cons p ps ih =>
    rw [List.map_cons, depths]
    have : (tD p).depth = 1 := by simp [tD, D.depth, depths_ints]
    omega
theorem depth_l (ps : List (List Int)) : (D.lst (ps.map tD)).depth ≤ 2 := by
  have := depths_tD ps
  simp only [D.depth]
  omega
theorem dat_lst {K : PySem.W.Frag} {H : Hp} {l : Addr} {ds : List D} {us : List V} (h : H l = some (.lst us)) (hd : DsAt K H ds us) : DAt K H (.lst ds) (.ref l) := by
  rw [DAt]; exact ⟨l, us, rfl, h, hd⟩
theorem all_tups {K : PySem.W.Frag} {H : Hp} : ∀ {ps : List (List Int)} {us : List V}, DsAt K H (ps.map tD) us → ∀ v ∈ us, ∃ (t : Addr) (p : List Int), v = .ref t ∧ SqT K H t (p.map V.int)
  | [], us, h => by rw [List.map_nil, DsAt] at h; subst h; simp
  | p :: ps, us, h => by
    rw [List.map_cons, DsAt] at h
    obtain ⟨v, r, rfl, h1, h2⟩ := h
    intro x hx
    rcases List.mem_cons.mp hx with rfl | hx
    · unfold tD at h1
      rw [DAt] at h1
      obtain ⟨t, vs, rfl, hT, hv⟩ := h1
      rw [ints_of hv] at hT
      exact ⟨t, p, rfl, hT⟩
    · exact all_tups h2 x hx
section
variable {P : Program} {w : World} {K : PySem.W.Frag} {mg : Str → Option Value} {base : Heap} {f fP fN fL fQ : Addr} {fd dP dN dL dQ : FuncData} {L : Nat}
theorem ok_law (B : Blt mg) (B2 : Blt2 mg) (F : Fun K "law" "law" sLaw f fd)
    (GP : FnOk P w K mg base CX0 L fP dP ["_law_script", "_law_k"] (spPot K)) (bP : Binds K dP ["_law_script", "_law_k"] []) (kP : PySem.W.keepIn K (.ref fP) = true) (mP : mg "_law_pot" = some (.ref fP))
    (GN : FnOk P w K mg base CX0 L fN dN ["_law_pot_here"] (spDrawn K)) (bN : Binds K dN ["_law_pot_here"] []) (kN : PySem.W.keepIn K (.ref fN) = true) (mN : mg "_law_drawn" = some (.ref fN))
    (GL : FnOk P w K mg base CX0 L fL dL ["_law_pipe_here", "_law_ahead"] (spLPS K 4)) (bL : Binds K dL ["_law_pipe_here", "_law_ahead"] []) (kL : PySem.W.keepIn K (.ref fL) = true) (mL : mg "_law_places" = some (.ref fL))
    (GQ : FnOk P w K mg base CX0 L fQ dQ ["pipe"] (spPlS K 4)) (bQ : Binds K dQ ["pipe"] []) (kQ : PySem.W.keepIn K (.ref fQ) = true) (mQ : mg "places" = some (.ref fQ)) :
    FnOk P w K mg base CX0 (L + 1) f fd ["_law_script"] (spLaw K) := by
  refine F.ok scLaw (fun vs H Q E h => ?_) (fun cdv A outer s H vs Q E hr h => ?_)
  · obtain ⟨a, ns, rfl, _⟩ := h
    rfl
  obtain ⟨a, ns, rfl, hS, h63, q⟩ := h
  have hu : (A.deeper (PyProof.Rows.envOfC "law" (defScope sLaw) s.heap.objs.size f cdv)).units + 4 < cLine := by have := hr.units; omega
  refine ⟨_, pss_cons (ps_for PassesOwn.never rfl (pi_range1 rfl B.range (pa_cons (pe_op op_add pe_int (pe_callB (call_min2 rfl) rfl B2.min PyProof.Rows.boot_min (pa_cons pe_int (pa_cons (pe_callB call_len_seq rfl B.len PySem.boot_len (pa_cons (pv 0) pa_nil)) pa_nil)))) pa_nil)) (pg_name (i := 1) scLaw.nd rfl (Or.inl rfl))
      (pss_cons (ps_set (i := 2) scLaw.nd rfl (Or.inl rfl) (pe_call GN hr rfl mN kN bN .nil pass0 (pa_cons (pe_call GP hr rfl mP kP bP .nil pass0 (pa_cons (pv 0) (pa_cons (pv 1) pa_nil))) pa_nil)))
      (pss_cons (ps_set (i := 3) scLaw.nd rfl (Or.inl rfl) (pe_call GL hr rfl mL kL bL .nil pass0 (pa_cons (pv 2) (pa_cons (pe_tup pa_nil) pa_nil))))
      (pss_cons (ps_set (i := 4) scLaw.nd rfl (Or.inl rfl) (pe_call GQ hr rfl mQ kQ bQ .nil pass0 (pa_cons (pv 2) pa_nil)))
      (pss_cons (ps_if (PW.pt (pw_or (pt_cmpR op_neD (pv 4) (pv 3) (nomark _)) (pw_or (pt_not (pt_val (pe_callB call_isinst rfl B.isinstance PyProof.Rows.boot_isinstance (pa_cons (pv 4) (pa_cons (pe_bty (n := "list") rfl B.list PyProof.Rows.boot_list) pa_nil)))))
        (pw_or1 (pt_not (pt_val (pe_callB (call_allL rfl) rfl B2.all PyProof.Rows.boot_all (pa_cons (pe_lcomp (N' := ["_law_place"]) (src := [none]) rfl (CompSc.ofB (by kernel_rfl)) (pi_list (pv 4)) (fun cl C s H fp => pgl (i := 0)) (fun cl C s H fp => pifs_nil)
          (te := tCB (rInT K) (tCons (tVar 0) (tCons (tC (.ty "tuple")) tNil)))
          (fun cl C s H fp => pe_callB call_isTup glc B.isinstance PyProof.Rows.boot_isinstance (pa_cons (pvl 0) (pa_cons (pe_bty (n := "tuple") glc B.tuple PyProof.Rows.boot_tuple) pa_nil)))) pa_nil)))))))) pss_never pss_nil)
      (pss_cons (ps_expr (pe_bm0 PySem.F.plainAttrs_list PySem.F.slot_list_clear PySem.F.type_list_clear mt_clear (pv 4)))
      (pss_one (ps_if (pt_cmpR op_neD (pe_call GQ hr rfl mQ kQ bQ .nil pass0 (pa_cons (pv 2) pa_nil)) (pv 3) (nomark _)) pss_never pss_nil))))))))
    (pss_one (ps_ret pe_bl)), ?_⟩
  have hl : (ns.map V.int).length = ns.length := List.length_map _
  refine ⟨_, rfl, a, _, rfl, .inl hS, _, _, rfl, _, _, rfl, rfl, _, rfl, ?_, ?_, ?_⟩
  · have e : ((2 : Int) ^ 62) = 4611686018427387904 := by decide
    rw [e, hl]
    split <;> omega
  · have e : ((2 : Int) ^ 62) = 4611686018427387904 := by decide
    rw [e, hl]
    split <;> omega
  have hm : (3 + if (((ns.map V.int).length : Nat) : Int) < 14 then (((ns.map V.int).length : Nat) : Int) else 14).toNat ≤ 17 := by
    split <;> omega
  refine for_range (n := (3 + if (((ns.map V.int).length : Nat) : Int) < 14 then (((ns.map V.int).length : Nat) : Int) else 14).toNat) (fun i σ H' => (∃ o1 o2 o3 o4, σ = [some (.ref a), o1, o2, o3, o4]) ∧ Same H H') ⟨⟨none, none, none, none, rfl⟩, Same.refl _⟩ ?_ ?_
  rotate_left
  · rintro σ H' _
    exact q H'
  rintro i σ H0 hi ⟨⟨o1, o2, o3, o4, rfl⟩, s0⟩
  refine ⟨_, rfl, _, rfl, a, ns, _, rfl, s0.seq hS, by omega, by omega, fun p H1 hp s1 hP => ?_⟩
  refine ⟨p, rfl, hP, fun t d H2 g2 hd nd pd => ?_⟩
  have sH2 : Same H H2 := fun b o e => g2.keep b o (ne_of_none (s0 _ _ e) hp) (s1 _ _ (s0 _ _ e))
  refine gName_go ?_
  dsimp only
  -- what is due
  refine ⟨_, rfl, (by show 0 ≤ sizeLine; decide), fun e0 he0 => ?_⟩
  have s3 := same_new he0 (.tup [])
  refine ⟨.ref t, e0, d, [], rfl, hd.same s3, nd, pd, by decide, SqT.of upd_same, by decide, fun l1 us1 H4 s4 hn1 hl1 hus1 => ?_⟩
  have hid : (plD 3 d).map (([] : List Int) ++ ·) = plD 3 d := by simp
  rw [hid] at hus1
  refine gName_go ?_
  dsimp only
  have hd4 := (hd.same s3).same s4
  -- what is found
  refine ⟨_, rfl, .ref t, d, rfl, hd4, nd, pd, by decide, fun l2 us2 H5 s5 hn2 hl2 hus2 => ?_⟩
  refine gName_go ?_
  dsimp only
  have n12 : l1 ≠ l2 := fun z => by rw [← z, hl1] at hn2; cases hn2
  have sH5 := ((sH2.trans s3).trans s4).trans s5
  have hl1' := s5 _ _ hl1
  have hus1' := hus1.same s5
  have hdue : DAt K H5 (.lst ((plD 3 d).map tD)) (.ref l1) := dat_lst hl1' hus1'
  have hfnd : DAt K H5 (.lst ((plD 3 d).map tD)) (.ref l2) := dat_lst hl2 hus2
  have hdep := depth_l (plD 3 d)
  have hdep' : (A.deeper (PyProof.Rows.envOfC "law" (defScope sLaw) s.heap.objs.size f cdv)).units + (D.lst ((plD 3 d).map tD)).depth < cLine := by omega
  refine ⟨_, rfl, _, rfl, _, _, hfnd, hdue, hdep', _, rfl, ?_⟩
  rw [eqD_self]
  refine iteF ?_
  refine ⟨_, rfl, _, _, _, _, _, rfl, rfl, .inl (.lst hl2), kit_same (by decide), true, rfl, ?_⟩
  refine iteF ?_
  refine ⟨_, rfl, l2, rfl, ⟨_, SqL.of hl2⟩, fun Dc hDc => ?_⟩
  refine comp_list (xs := us2) (fun k σ ys H' => (∃ o, σ = [o]) ∧ ys = (List.replicate k true).map V.bl ∧ H' Dc = some (.lst ys) ∧ Same H5 H') ⟨⟨none, rfl⟩, rfl, upd_same, same_new hDc _⟩ ?_ ?_ ?_ ?_ ?_
  · rintro k σ ys H' _ ⟨_, rfl, h, _⟩
    exact ⟨h, by simp⟩
  · rintro k σ ys H' _ ⟨_, _, _, s'⟩
    exact SqL.of (s' _ _ hl2)
  · rw [← hus2.length, List.length_map]
    exact Nat.le_trans (pl_len pd) (Nat.le_trans (bnd_le (by decide)) (by decide))
  · rintro k x σ ys H' hx ⟨⟨o, rfl⟩, rfl, h, s'⟩
    obtain ⟨tx, px, rfl, hTx⟩ := all_tups hus2 x (List.mem_of_getElem? hx)
    refine ⟨_, rfl, tx, _, _, _, rfl, s'.sqT _ _ hTx, kit_same (by decide), h, ⟨_, rfl⟩, ?_, upd_same, s'.put hDc⟩
    rw [List.replicate_succ', List.map_append]; rfl
  rintro σ ys H6 ⟨_, rfl, h6, s6⟩
  refine ⟨Dc, _, rfl, SqL.of h6, _, rfl, ?_⟩
  rw [show (List.replicate us2.length true).all id = true by simp]
  refine iteF ?_
  -- the told list emptied
  have hl2' := s6 _ _ hl2
  refine ⟨_, rfl, .inl ⟨rfl, _, SqL.of hl2'⟩, l2, _, rfl, rfl, hl2', ?_⟩
  have kq := sqT_put (K := K) (o := .lst []) hl2'
  have hl1'' : upd H6 l2 (.lst []) l1 = some (.lst us1) := by rw [upd_ne n12]; exact s6 _ _ hl1'
  have hus1'' := (hus1'.same s6).keepT kq (noL_tD _)
  have hd7 := ((hd4.same s5).same s6).keepT kq nd
  have hHl2 : H l2 = none := by
    cases e : H l2 with
    | none => rfl
    | some o => exact absurd (((sH2.trans s3).trans s4) _ _ e) (by rw [hn2]; simp)
  have sH7 : Same H (upd H6 l2 (.lst [])) := (sH5.trans s6).put hHl2
  refine ⟨_, rfl, .ref t, d, rfl, hd7, nd, pd, by decide, fun l3 us3 H8 s8 hn3 hl3 hus3 => ?_⟩
  refine ⟨_, rfl, _, _, dat_lst hl3 hus3, dat_lst (s8 _ _ hl1'') (hus1''.same s8), hdep', _, rfl, ?_⟩
  rw [eqD_self]
  refine iteF ?_
  exact ⟨⟨_, _, _, _, rfl⟩, sH7.trans s8⟩
end
end My

set_option maxHeartbeats 8000000
namespace My
open PySem L2 CT CS
theorem all_mk {l : PySem.W.OpenLaw} {w : World} {K : PySem.W.Frag} {h : Heap} {mg : Str → Option Value} {fa : Addr} (X : K.In h) (G : h.Ns mainGlobals mg) (hfa : mg "law" = some (.ref fa))
    {aBR : Addr} {odBR : Option Addr} {tb1 tb2 : Tok} {nBR : Nat} {slBR : Array (Option Value)}
    {f__law_cell_at : Addr} {od__law_cell_at an__law_cell_at : Option Addr} {sl__law_cell_at : Array (Option Value)} {oc__law_cell_at kV__law_cell_at dc__law_cell_at pm__law_cell_at cd__law_cell_at ct__law_cell_at : Value}
    {f__law_pot : Addr} {od__law_pot an__law_pot : Option Addr} {sl__law_pot : Array (Option Value)} {oc__law_pot kV__law_pot dc__law_pot pm__law_pot cd__law_pot ct__law_pot : Value}
    {f__law_draw : Addr} {od__law_draw an__law_draw : Option Addr} {sl__law_draw : Array (Option Value)} {oc__law_draw kV__law_draw dc__law_draw pm__law_draw cd__law_draw ct__law_draw : Value}
    {f__law_number : Addr} {od__law_number an__law_number : Option Addr} {sl__law_number : Array (Option Value)} {oc__law_number kV__law_number dc__law_number pm__law_number cd__law_number ct__law_number : Value}
    {f__law_word : Addr} {od__law_word an__law_word : Option Addr} {sl__law_word : Array (Option Value)} {oc__law_word kV__law_word dc__law_word pm__law_word cd__law_word ct__law_word : Value}
    {f__law_a_sort : Addr} {od__law_a_sort an__law_a_sort : Option Addr} {sl__law_a_sort : Array (Option Value)} {oc__law_a_sort kV__law_a_sort dc__law_a_sort pm__law_a_sort cd__law_a_sort ct__law_a_sort : Value}
    {f__law_cell : Addr} {od__law_cell an__law_cell : Option Addr} {sl__law_cell : Array (Option Value)} {oc__law_cell kV__law_cell dc__law_cell pm__law_cell cd__law_cell ct__law_cell : Value}
    {f__law_column : Addr} {od__law_column an__law_column : Option Addr} {sl__law_column : Array (Option Value)} {oc__law_column kV__law_column dc__law_column pm__law_column cd__law_column ct__law_column : Value}
    {f__law_columns : Addr} {od__law_columns an__law_columns : Option Addr} {sl__law_columns : Array (Option Value)} {oc__law_columns kV__law_columns dc__law_columns pm__law_columns cd__law_columns ct__law_columns : Value}
    {f__law_state : Addr} {od__law_state an__law_state : Option Addr} {sl__law_state : Array (Option Value)} {oc__law_state kV__law_state dc__law_state pm__law_state cd__law_state ct__law_state : Value}
    {f__law_set : Addr} {od__law_set an__law_set : Option Addr} {sl__law_set : Array (Option Value)} {oc__law_set kV__law_set dc__law_set pm__law_set cd__law_set ct__law_set : Value}
    {f__law_pairs : Addr} {od__law_pairs an__law_pairs : Option Addr} {sl__law_pairs : Array (Option Value)} {oc__law_pairs kV__law_pairs dc__law_pairs pm__law_pairs cd__law_pairs ct__law_pairs : Value}
    {f__law_order : Addr} {od__law_order an__law_order : Option Addr} {sl__law_order : Array (Option Value)} {oc__law_order kV__law_order dc__law_order pm__law_order cd__law_order ct__law_order : Value}
    {f__law_moves : Addr} {od__law_moves an__law_moves : Option Addr} {sl__law_moves : Array (Option Value)} {oc__law_moves kV__law_moves dc__law_moves pm__law_moves cd__law_moves ct__law_moves : Value}
    {f__law_one_row : Addr} {od__law_one_row an__law_one_row : Option Addr} {sl__law_one_row : Array (Option Value)} {oc__law_one_row kV__law_one_row dc__law_one_row pm__law_one_row cd__law_one_row ct__law_one_row : Value}
    {f__law_other : Addr} {od__law_other an__law_other : Option Addr} {sl__law_other : Array (Option Value)} {oc__law_other kV__law_other dc__law_other pm__law_other cd__law_other ct__law_other : Value}
    {f__law_joining : Addr} {od__law_joining an__law_joining : Option Addr} {sl__law_joining : Array (Option Value)} {oc__law_joining kV__law_joining dc__law_joining pm__law_joining cd__law_joining ct__law_joining : Value}
    {f__law_worker : Addr} {od__law_worker an__law_worker : Option Addr} {sl__law_worker : Array (Option Value)} {oc__law_worker kV__law_worker dc__law_worker pm__law_worker cd__law_worker ct__law_worker : Value}
    {f__law_pipe : Addr} {od__law_pipe an__law_pipe : Option Addr} {sl__law_pipe : Array (Option Value)} {oc__law_pipe kV__law_pipe dc__law_pipe pm__law_pipe cd__law_pipe ct__law_pipe : Value}
    {f__law_many : Addr} {od__law_many an__law_many : Option Addr} {sl__law_many : Array (Option Value)} {oc__law_many kV__law_many dc__law_many pm__law_many cd__law_many ct__law_many : Value}
    {f__law_drawn : Addr} {od__law_drawn an__law_drawn : Option Addr} {sl__law_drawn : Array (Option Value)} {oc__law_drawn kV__law_drawn dc__law_drawn pm__law_drawn cd__law_drawn ct__law_drawn : Value}
    {f__law_places : Addr} {od__law_places an__law_places : Option Addr} {sl__law_places : Array (Option Value)} {oc__law_places kV__law_places dc__law_places pm__law_places cd__law_places ct__law_places : Value}
    {f_branches_of : Addr} {od_branches_of an_branches_of : Option Addr} {sl_branches_of : Array (Option Value)} {oc_branches_of kV_branches_of dc_branches_of pm_branches_of cd_branches_of ct_branches_of : Value}
    {f_places : Addr} {od_places an_places : Option Addr} {sl_places : Array (Option Value)} {oc_places kV_places dc_places pm_places cd_places ct_places : Value}
    {f_law : Addr} {od_law an_law : Option Addr} {sl_law : Array (Option Value)} {oc_law kV_law dc_law pm_law cd_law ct_law : Value}
    (a__law_cell_at : PySem.W.nsIn K mainGlobals "_law_cell_at" = some (some (.ref f__law_cell_at)))
    (a__law_pot : PySem.W.nsIn K mainGlobals "_law_pot" = some (some (.ref f__law_pot)))
    (a__law_draw : PySem.W.nsIn K mainGlobals "_law_draw" = some (some (.ref f__law_draw)))
    (a__law_number : PySem.W.nsIn K mainGlobals "_law_number" = some (some (.ref f__law_number)))
    (a__law_word : PySem.W.nsIn K mainGlobals "_law_word" = some (some (.ref f__law_word)))
    (a__law_a_sort : PySem.W.nsIn K mainGlobals "_law_a_sort" = some (some (.ref f__law_a_sort)))
    (a__law_cell : PySem.W.nsIn K mainGlobals "_law_cell" = some (some (.ref f__law_cell)))
    (a__law_column : PySem.W.nsIn K mainGlobals "_law_column" = some (some (.ref f__law_column)))
    (a__law_columns : PySem.W.nsIn K mainGlobals "_law_columns" = some (some (.ref f__law_columns)))
    (a__law_state : PySem.W.nsIn K mainGlobals "_law_state" = some (some (.ref f__law_state)))
    (a__law_set : PySem.W.nsIn K mainGlobals "_law_set" = some (some (.ref f__law_set)))
    (a__law_pairs : PySem.W.nsIn K mainGlobals "_law_pairs" = some (some (.ref f__law_pairs)))
    (a__law_order : PySem.W.nsIn K mainGlobals "_law_order" = some (some (.ref f__law_order)))
    (a__law_moves : PySem.W.nsIn K mainGlobals "_law_moves" = some (some (.ref f__law_moves)))
    (a__law_one_row : PySem.W.nsIn K mainGlobals "_law_one_row" = some (some (.ref f__law_one_row)))
    (a__law_other : PySem.W.nsIn K mainGlobals "_law_other" = some (some (.ref f__law_other)))
    (a__law_joining : PySem.W.nsIn K mainGlobals "_law_joining" = some (some (.ref f__law_joining)))
    (a__law_worker : PySem.W.nsIn K mainGlobals "_law_worker" = some (some (.ref f__law_worker)))
    (a__law_pipe : PySem.W.nsIn K mainGlobals "_law_pipe" = some (some (.ref f__law_pipe)))
    (a__law_many : PySem.W.nsIn K mainGlobals "_law_many" = some (some (.ref f__law_many)))
    (a__law_drawn : PySem.W.nsIn K mainGlobals "_law_drawn" = some (some (.ref f__law_drawn)))
    (a__law_places : PySem.W.nsIn K mainGlobals "_law_places" = some (some (.ref f__law_places)))
    (a_branches_of : PySem.W.nsIn K mainGlobals "branches_of" = some (some (.ref f_branches_of)))
    (a_places : PySem.W.nsIn K mainGlobals "places" = some (some (.ref f_places)))
    (a_law : PySem.W.nsIn K mainGlobals "law" = some (some (.ref f_law)))
    (l__law_cell_at : K.lookup f__law_cell_at = some ⟨oc__law_cell_at, od__law_cell_at, .func (PySem.W.fnOf "_law_cell_at" "_law_cell_at" (defArgs sCell) (defBody sCell) (defScope sCell) .none kV__law_cell_at dc__law_cell_at pm__law_cell_at an__law_cell_at cd__law_cell_at ct__law_cell_at), sl__law_cell_at⟩) (c__law_cell_at : PySem.W.codeIn K cd__law_cell_at "_law_cell_at" = true) (k__law_cell_at : PySem.W.keepIn K (.ref f__law_cell_at) = true)
    (l__law_pot : K.lookup f__law_pot = some ⟨oc__law_pot, od__law_pot, .func (PySem.W.fnOf "_law_pot" "_law_pot" (defArgs sPot) (defBody sPot) (defScope sPot) .none kV__law_pot dc__law_pot pm__law_pot an__law_pot cd__law_pot ct__law_pot), sl__law_pot⟩) (c__law_pot : PySem.W.codeIn K cd__law_pot "_law_pot" = true) (k__law_pot : PySem.W.keepIn K (.ref f__law_pot) = true)
    (l__law_draw : K.lookup f__law_draw = some ⟨oc__law_draw, od__law_draw, .func (PySem.W.fnOf "_law_draw" "_law_draw" (defArgs sDraw) (defBody sDraw) (defScope sDraw) .none kV__law_draw dc__law_draw pm__law_draw an__law_draw cd__law_draw ct__law_draw), sl__law_draw⟩) (c__law_draw : PySem.W.codeIn K cd__law_draw "_law_draw" = true) (k__law_draw : PySem.W.keepIn K (.ref f__law_draw) = true)
    (l__law_number : K.lookup f__law_number = some ⟨oc__law_number, od__law_number, .func (PySem.W.fnOf "_law_number" "_law_number" (defArgs sNumber) (defBody sNumber) (defScope sNumber) .none kV__law_number dc__law_number pm__law_number an__law_number cd__law_number ct__law_number), sl__law_number⟩) (c__law_number : PySem.W.codeIn K cd__law_number "_law_number" = true) (k__law_number : PySem.W.keepIn K (.ref f__law_number) = true)
    (l__law_word : K.lookup f__law_word = some ⟨oc__law_word, od__law_word, .func (PySem.W.fnOf "_law_word" "_law_word" (defArgs sWord) (defBody sWord) (defScope sWord) .none kV__law_word dc__law_word pm__law_word an__law_word cd__law_word ct__law_word), sl__law_word⟩) (c__law_word : PySem.W.codeIn K cd__law_word "_law_word" = true) (k__law_word : PySem.W.keepIn K (.ref f__law_word) = true)
    (l__law_a_sort : K.lookup f__law_a_sort = some ⟨oc__law_a_sort, od__law_a_sort, .func (PySem.W.fnOf "_law_a_sort" "_law_a_sort" (defArgs sASort) (defBody sASort) (defScope sASort) .none kV__law_a_sort dc__law_a_sort pm__law_a_sort an__law_a_sort cd__law_a_sort ct__law_a_sort), sl__law_a_sort⟩) (c__law_a_sort : PySem.W.codeIn K cd__law_a_sort "_law_a_sort" = true) (k__law_a_sort : PySem.W.keepIn K (.ref f__law_a_sort) = true)
    (l__law_cell : K.lookup f__law_cell = some ⟨oc__law_cell, od__law_cell, .func (PySem.W.fnOf "_law_cell" "_law_cell" (defArgs sCell') (defBody sCell') (defScope sCell') .none kV__law_cell dc__law_cell pm__law_cell an__law_cell cd__law_cell ct__law_cell), sl__law_cell⟩) (c__law_cell : PySem.W.codeIn K cd__law_cell "_law_cell" = true) (k__law_cell : PySem.W.keepIn K (.ref f__law_cell) = true)
    (l__law_column : K.lookup f__law_column = some ⟨oc__law_column, od__law_column, .func (PySem.W.fnOf "_law_column" "_law_column" (defArgs sColumn) (defBody sColumn) (defScope sColumn) .none kV__law_column dc__law_column pm__law_column an__law_column cd__law_column ct__law_column), sl__law_column⟩) (c__law_column : PySem.W.codeIn K cd__law_column "_law_column" = true) (k__law_column : PySem.W.keepIn K (.ref f__law_column) = true)
    (l__law_columns : K.lookup f__law_columns = some ⟨oc__law_columns, od__law_columns, .func (PySem.W.fnOf "_law_columns" "_law_columns" (defArgs sColumns) (defBody sColumns) (defScope sColumns) .none kV__law_columns dc__law_columns pm__law_columns an__law_columns cd__law_columns ct__law_columns), sl__law_columns⟩) (c__law_columns : PySem.W.codeIn K cd__law_columns "_law_columns" = true) (k__law_columns : PySem.W.keepIn K (.ref f__law_columns) = true)
    (l__law_state : K.lookup f__law_state = some ⟨oc__law_state, od__law_state, .func (PySem.W.fnOf "_law_state" "_law_state" (defArgs sState) (defBody sState) (defScope sState) .none kV__law_state dc__law_state pm__law_state an__law_state cd__law_state ct__law_state), sl__law_state⟩) (c__law_state : PySem.W.codeIn K cd__law_state "_law_state" = true) (k__law_state : PySem.W.keepIn K (.ref f__law_state) = true)
    (l__law_set : K.lookup f__law_set = some ⟨oc__law_set, od__law_set, .func (PySem.W.fnOf "_law_set" "_law_set" (defArgs sSet) (defBody sSet) (defScope sSet) .none kV__law_set dc__law_set pm__law_set an__law_set cd__law_set ct__law_set), sl__law_set⟩) (c__law_set : PySem.W.codeIn K cd__law_set "_law_set" = true) (k__law_set : PySem.W.keepIn K (.ref f__law_set) = true)
    (l__law_pairs : K.lookup f__law_pairs = some ⟨oc__law_pairs, od__law_pairs, .func (PySem.W.fnOf "_law_pairs" "_law_pairs" (defArgs sPairs) (defBody sPairs) (defScope sPairs) .none kV__law_pairs dc__law_pairs pm__law_pairs an__law_pairs cd__law_pairs ct__law_pairs), sl__law_pairs⟩) (c__law_pairs : PySem.W.codeIn K cd__law_pairs "_law_pairs" = true) (k__law_pairs : PySem.W.keepIn K (.ref f__law_pairs) = true)
    (l__law_order : K.lookup f__law_order = some ⟨oc__law_order, od__law_order, .func (PySem.W.fnOf "_law_order" "_law_order" (defArgs sOrder) (defBody sOrder) (defScope sOrder) .none kV__law_order dc__law_order pm__law_order an__law_order cd__law_order ct__law_order), sl__law_order⟩) (c__law_order : PySem.W.codeIn K cd__law_order "_law_order" = true) (k__law_order : PySem.W.keepIn K (.ref f__law_order) = true)
    (l__law_moves : K.lookup f__law_moves = some ⟨oc__law_moves, od__law_moves, .func (PySem.W.fnOf "_law_moves" "_law_moves" (defArgs sMoves) (defBody sMoves) (defScope sMoves) .none kV__law_moves dc__law_moves pm__law_moves an__law_moves cd__law_moves ct__law_moves), sl__law_moves⟩) (c__law_moves : PySem.W.codeIn K cd__law_moves "_law_moves" = true) (k__law_moves : PySem.W.keepIn K (.ref f__law_moves) = true)
    (l__law_one_row : K.lookup f__law_one_row = some ⟨oc__law_one_row, od__law_one_row, .func (PySem.W.fnOf "_law_one_row" "_law_one_row" (defArgs sOneRow) (defBody sOneRow) (defScope sOneRow) .none kV__law_one_row dc__law_one_row pm__law_one_row an__law_one_row cd__law_one_row ct__law_one_row), sl__law_one_row⟩) (c__law_one_row : PySem.W.codeIn K cd__law_one_row "_law_one_row" = true) (k__law_one_row : PySem.W.keepIn K (.ref f__law_one_row) = true)
    (l__law_other : K.lookup f__law_other = some ⟨oc__law_other, od__law_other, .func (PySem.W.fnOf "_law_other" "_law_other" (defArgs sOther) (defBody sOther) (defScope sOther) .none kV__law_other dc__law_other pm__law_other an__law_other cd__law_other ct__law_other), sl__law_other⟩) (c__law_other : PySem.W.codeIn K cd__law_other "_law_other" = true) (k__law_other : PySem.W.keepIn K (.ref f__law_other) = true)
    (l__law_joining : K.lookup f__law_joining = some ⟨oc__law_joining, od__law_joining, .func (PySem.W.fnOf "_law_joining" "_law_joining" (defArgs sJoining) (defBody sJoining) (defScope sJoining) .none kV__law_joining dc__law_joining pm__law_joining an__law_joining cd__law_joining ct__law_joining), sl__law_joining⟩) (c__law_joining : PySem.W.codeIn K cd__law_joining "_law_joining" = true) (k__law_joining : PySem.W.keepIn K (.ref f__law_joining) = true)
    (l__law_worker : K.lookup f__law_worker = some ⟨oc__law_worker, od__law_worker, .func (PySem.W.fnOf "_law_worker" "_law_worker" (defArgs sWorker) (defBody sWorker) (defScope sWorker) .none kV__law_worker dc__law_worker pm__law_worker an__law_worker cd__law_worker ct__law_worker), sl__law_worker⟩) (c__law_worker : PySem.W.codeIn K cd__law_worker "_law_worker" = true) (k__law_worker : PySem.W.keepIn K (.ref f__law_worker) = true)
    (l__law_pipe : K.lookup f__law_pipe = some ⟨oc__law_pipe, od__law_pipe, .func (PySem.W.fnOf "_law_pipe" "_law_pipe" (defArgs sPipe) (defBody sPipe) (defScope sPipe) .none kV__law_pipe dc__law_pipe pm__law_pipe an__law_pipe cd__law_pipe ct__law_pipe), sl__law_pipe⟩) (c__law_pipe : PySem.W.codeIn K cd__law_pipe "_law_pipe" = true) (k__law_pipe : PySem.W.keepIn K (.ref f__law_pipe) = true)
    (l__law_many : K.lookup f__law_many = some ⟨oc__law_many, od__law_many, .func (PySem.W.fnOf "_law_many" "_law_many" (defArgs sMany) (defBody sMany) (defScope sMany) .none kV__law_many dc__law_many pm__law_many an__law_many cd__law_many ct__law_many), sl__law_many⟩) (c__law_many : PySem.W.codeIn K cd__law_many "_law_many" = true) (k__law_many : PySem.W.keepIn K (.ref f__law_many) = true)
    (l__law_drawn : K.lookup f__law_drawn = some ⟨oc__law_drawn, od__law_drawn, .func (PySem.W.fnOf "_law_drawn" "_law_drawn" (defArgs sDrawn) (defBody sDrawn) (defScope sDrawn) .none kV__law_drawn dc__law_drawn pm__law_drawn an__law_drawn cd__law_drawn ct__law_drawn), sl__law_drawn⟩) (c__law_drawn : PySem.W.codeIn K cd__law_drawn "_law_drawn" = true) (k__law_drawn : PySem.W.keepIn K (.ref f__law_drawn) = true)
    (l__law_places : K.lookup f__law_places = some ⟨oc__law_places, od__law_places, .func (PySem.W.fnOf "_law_places" "_law_places" (defArgs sLPlaces) (defBody sLPlaces) (defScope sLPlaces) .none kV__law_places dc__law_places pm__law_places an__law_places cd__law_places ct__law_places), sl__law_places⟩) (c__law_places : PySem.W.codeIn K cd__law_places "_law_places" = true) (k__law_places : PySem.W.keepIn K (.ref f__law_places) = true)
    (l_branches_of : K.lookup f_branches_of = some ⟨oc_branches_of, od_branches_of, .func (PySem.W.fnOf "branches_of" "branches_of" (defArgs sBranches) (defBody sBranches) (defScope sBranches) .none kV_branches_of dc_branches_of pm_branches_of an_branches_of cd_branches_of ct_branches_of), sl_branches_of⟩) (c_branches_of : PySem.W.codeIn K cd_branches_of "branches_of" = true) (k_branches_of : PySem.W.keepIn K (.ref f_branches_of) = true)
    (l_places : K.lookup f_places = some ⟨oc_places, od_places, .func (PySem.W.fnOf "places" "places" (defArgs sPlaces) (defBody sPlaces) (defScope sPlaces) .none kV_places dc_places pm_places an_places cd_places ct_places), sl_places⟩) (c_places : PySem.W.codeIn K cd_places "places" = true) (k_places : PySem.W.keepIn K (.ref f_places) = true)
    (l_law : K.lookup f_law = some ⟨oc_law, od_law, .func (PySem.W.fnOf "law" "law" (defArgs sLaw) (defBody sLaw) (defScope sLaw) .none kV_law dc_law pm_law an_law cd_law ct_law), sl_law⟩) (c_law : PySem.W.codeIn K cd_law "law" = true) (k_law : PySem.W.keepIn K (.ref f_law) = true)
    (z_len : PySem.W.nsIn K mainGlobals "len" = some none)
    (z_max : PySem.W.nsIn K mainGlobals "max" = some none)
    (z_abs : PySem.W.nsIn K mainGlobals "abs" = some none)
    (z_divmod : PySem.W.nsIn K mainGlobals "divmod" = some none)
    (z_range : PySem.W.nsIn K mainGlobals "range" = some none)
    (z_tuple : PySem.W.nsIn K mainGlobals "tuple" = some none)
    (z_list : PySem.W.nsIn K mainGlobals "list" = some none)
    (z_isinstance : PySem.W.nsIn K mainGlobals "isinstance" = some none)
    (z_int : PySem.W.nsIn K mainGlobals "int" = some none)
    (z_min : PySem.W.nsIn K mainGlobals "min" = some none)
    (z_all : PySem.W.nsIn K mainGlobals "all" = some none)
    (z_sorted : PySem.W.nsIn K mainGlobals "sorted" = some none)
    (z_set : PySem.W.nsIn K mainGlobals "set" = some none)
    (z_enumerate : PySem.W.nsIn K mainGlobals "enumerate" = some none)
    (vBR : PySem.W.nsIn K mainGlobals "BRANCHED" = some (some (.ref aBR)))
    (lBR : K.lookup aBR = some ⟨.type "tuple", odBR, .seq #[.str "both" tb1, .str "meet" tb2] nBR, slBR⟩) :
    ∃ fd : FuncData, (∀ (s : Shared) (v : Value), BindsTo s fd ⟨[v], []⟩ [("_law_script", v)]) ∧ ∀ base : Heap, K.In base → base.Ns mainGlobals mg → FnOk l.prog w K mg base CX0 20 fa fd ["_law_script"] (spLaw K) := by
  have e := hfa.symm.trans (PySem.W.mg_of X G a_law)
  cases e
  have F__law_cell_at := fun_mk (st := sCell) l__law_cell_at c__law_cell_at k__law_cell_at
  have h__law_cell_at := PySem.W.mg_of X G a__law_cell_at
  have b__law_cell_at := F__law_cell_at.binds (ps := ["_law_script", "_law_k"]) fun _ _ _ _ _ _ us hl => match us, hl with | [_, _], _ => rfl
  have F__law_pot := fun_mk (st := sPot) l__law_pot c__law_pot k__law_pot
  have h__law_pot := PySem.W.mg_of X G a__law_pot
  have b__law_pot := F__law_pot.binds (ps := ["_law_script", "_law_k"]) fun _ _ _ _ _ _ us hl => match us, hl with | [_, _], _ => rfl
  have F__law_draw := fun_mk (st := sDraw) l__law_draw c__law_draw k__law_draw
  have h__law_draw := PySem.W.mg_of X G a__law_draw
  have b__law_draw := F__law_draw.binds (ps := ["_law_pot_here", "_law_many_here"]) fun _ _ _ _ _ _ us hl => match us, hl with | [_, _], _ => rfl
  have F__law_number := fun_mk (st := sNumber) l__law_number c__law_number k__law_number
  have h__law_number := PySem.W.mg_of X G a__law_number
  have b__law_number := F__law_number.binds (ps := ["_law_pot_here"]) fun _ _ _ _ _ _ us hl => match us, hl with | [_], _ => rfl
  have F__law_word := fun_mk (st := sWord) l__law_word c__law_word k__law_word
  have h__law_word := PySem.W.mg_of X G a__law_word
  have b__law_word := F__law_word.binds (ps := ["_law_pot_here"]) fun _ _ _ _ _ _ us hl => match us, hl with | [_], _ => rfl
  have F__law_a_sort := fun_mk (st := sASort) l__law_a_sort c__law_a_sort k__law_a_sort
  have h__law_a_sort := PySem.W.mg_of X G a__law_a_sort
  have b__law_a_sort := F__law_a_sort.binds (ps := ["_law_pot_here", "_law_sort"]) fun _ _ _ _ _ _ us hl => match us, hl with | [_, _], _ => rfl
  have F__law_cell := fun_mk (st := sCell') l__law_cell c__law_cell k__law_cell
  have h__law_cell := PySem.W.mg_of X G a__law_cell
  have b__law_cell := F__law_cell.binds (ps := ["_law_pot_here", "_law_sort"]) fun _ _ _ _ _ _ us hl => match us, hl with | [_, _], _ => rfl
  have F__law_column := fun_mk (st := sColumn) l__law_column c__law_column k__law_column
  have h__law_column := PySem.W.mg_of X G a__law_column
  have b__law_column := F__law_column.binds (ps := ["_law_pot_here", "_law_head"]) fun _ _ _ _ _ _ us hl => match us, hl with | [_, _], _ => rfl
  have F__law_columns := fun_mk (st := sColumns) l__law_columns c__law_columns k__law_columns
  have h__law_columns := PySem.W.mg_of X G a__law_columns
  have b__law_columns := F__law_columns.binds (ps := ["_law_pot_here", "_law_head", "_law_many_here"]) fun _ _ _ _ _ _ us hl => match us, hl with | [_, _, _], _ => rfl
  have F__law_state := fun_mk (st := sState) l__law_state c__law_state k__law_state
  have h__law_state := PySem.W.mg_of X G a__law_state
  have b__law_state := F__law_state.binds (ps := ["_law_pot_here"]) fun _ _ _ _ _ _ us hl => match us, hl with | [_], _ => rfl
  have F__law_set := fun_mk (st := sSet) l__law_set c__law_set k__law_set
  have h__law_set := PySem.W.mg_of X G a__law_set
  have b__law_set := F__law_set.binds (ps := ["_law_pot_here", "_law_sort"]) fun _ _ _ _ _ _ us hl => match us, hl with | [_, _], _ => rfl
  have F__law_pairs := fun_mk (st := sPairs) l__law_pairs c__law_pairs k__law_pairs
  have h__law_pairs := PySem.W.mg_of X G a__law_pairs
  have b__law_pairs := F__law_pairs.binds (ps := ["_law_pot_here", "_law_here", "_law_there"]) fun _ _ _ _ _ _ us hl => match us, hl with | [_, _, _], _ => rfl
  have F__law_order := fun_mk (st := sOrder) l__law_order c__law_order k__law_order
  have h__law_order := PySem.W.mg_of X G a__law_order
  have b__law_order := F__law_order.binds (ps := ["_law_pot_here", "_law_head"]) fun _ _ _ _ _ _ us hl => match us, hl with | [_, _], _ => rfl
  have F__law_moves := fun_mk (st := sMoves) l__law_moves c__law_moves k__law_moves
  have h__law_moves := PySem.W.mg_of X G a__law_moves
  have b__law_moves := F__law_moves.binds (ps := ["_law_pot_here", "_law_sort"]) fun _ _ _ _ _ _ us hl => match us, hl with | [_, _], _ => rfl
  have F__law_one_row := fun_mk (st := sOneRow) l__law_one_row c__law_one_row k__law_one_row
  have h__law_one_row := PySem.W.mg_of X G a__law_one_row
  have b__law_one_row := F__law_one_row.binds (ps := ["_law_pot_here", "_law_head", "_law_word_here"]) fun _ _ _ _ _ _ us hl => match us, hl with | [_, _, _], _ => rfl
  have F__law_other := fun_mk (st := sOther) l__law_other c__law_other k__law_other
  have h__law_other := PySem.W.mg_of X G a__law_other
  have b__law_other := F__law_other.binds (ps := ["_law_pot_here", "_law_head", "_law_word_here"]) fun _ _ _ _ _ _ us hl => match us, hl with | [_, _, _], _ => rfl
  have F__law_joining := fun_mk (st := sJoining) l__law_joining c__law_joining k__law_joining
  have h__law_joining := PySem.W.mg_of X G a__law_joining
  have b__law_joining := F__law_joining.binds (ps := ["_law_pot_here", "_law_head", "_law_deep", "_law_word_here"]) fun _ _ _ _ _ _ us hl => match us, hl with | [_, _, _, _], _ => rfl
  have F__law_worker := fun_mk (st := sWorker) l__law_worker c__law_worker k__law_worker
  have h__law_worker := PySem.W.mg_of X G a__law_worker
  have b__law_worker := F__law_worker.binds (ps := ["_law_pot_here", "_law_head", "_law_deep"]) fun _ _ _ _ _ _ us hl => match us, hl with | [_, _, _], _ => rfl
  have F__law_pipe := fun_mk (st := sPipe) l__law_pipe c__law_pipe k__law_pipe
  have h__law_pipe := PySem.W.mg_of X G a__law_pipe
  have b__law_pipe := F__law_pipe.binds (ps := ["_law_pot_here", "_law_head", "_law_deep", "_law_many_here"]) fun _ _ _ _ _ _ us hl => match us, hl with | [_, _, _, _], _ => rfl
  have F__law_many := fun_mk (st := sMany) l__law_many c__law_many k__law_many
  have h__law_many := PySem.W.mg_of X G a__law_many
  have b__law_many := F__law_many.binds (ps := ["_law_pipe_here"]) fun _ _ _ _ _ _ us hl => match us, hl with | [_], _ => rfl
  have F__law_drawn := fun_mk (st := sDrawn) l__law_drawn c__law_drawn k__law_drawn
  have h__law_drawn := PySem.W.mg_of X G a__law_drawn
  have b__law_drawn := F__law_drawn.binds (ps := ["_law_pot_here"]) fun _ _ _ _ _ _ us hl => match us, hl with | [_], _ => rfl
  have F__law_places := fun_mk (st := sLPlaces) l__law_places c__law_places k__law_places
  have h__law_places := PySem.W.mg_of X G a__law_places
  have b__law_places := F__law_places.binds (ps := ["_law_pipe_here", "_law_ahead"]) fun _ _ _ _ _ _ us hl => match us, hl with | [_, _], _ => rfl
  have F_branches_of := fun_mk (st := sBranches) l_branches_of c_branches_of k_branches_of
  have h_branches_of := PySem.W.mg_of X G a_branches_of
  have b_branches_of := F_branches_of.binds (ps := ["worker"]) fun _ _ _ _ _ _ us hl => match us, hl with | [_], _ => rfl
  have F_places := fun_mk (st := sPlaces) l_places c_places k_places
  have h_places := PySem.W.mg_of X G a_places
  have b_places := F_places.binds (ps := ["pipe"]) fun _ _ _ _ _ _ us hl => match us, hl with | [_], _ => rfl
  have F_law := fun_mk (st := sLaw) l_law c_law k_law
  have h_law := PySem.W.mg_of X G a_law
  have B : Blt mg := ⟨PySem.W.mg_none_of X G z_len, PySem.W.mg_none_of X G z_max, PySem.W.mg_none_of X G z_abs, PySem.W.mg_none_of X G z_divmod, PySem.W.mg_none_of X G z_range, PySem.W.mg_none_of X G z_tuple, PySem.W.mg_none_of X G z_list, PySem.W.mg_none_of X G z_isinstance⟩
  have B2 : Blt2 mg := ⟨PySem.W.mg_none_of X G z_int, PySem.W.mg_none_of X G z_min, PySem.W.mg_none_of X G z_all, PySem.W.mg_none_of X G z_sorted, PySem.W.mg_none_of X G z_set⟩
  have mE := PySem.W.mg_none_of X G z_enumerate
  have Bc : BrC K mg aBR := ⟨PySem.W.mg_of X G vBR, fun H => .inr ⟨_, _, _, lBR, rfl, rfl, (by show 2 ≤ sizeLine; decide), .cons ⟨tb1, rfl⟩ (.cons ⟨tb2, rfl⟩ .nil)⟩⟩
  refine ⟨PySem.W.fnOf "law" "law" (defArgs sLaw) (defBody sLaw) (defScope sLaw) .none kV_law dc_law pm_law an_law cd_law ct_law, fun s v => .of_eq rfl, fun base _ _ => ?_⟩
  have g__law_cell_at := ok_cell (P := l.prog) (w := w) (mg := mg) (base := base) B F__law_cell_at 
  have g__law_pot := ok_pot (P := l.prog) (w := w) (mg := mg) (base := base) B F__law_pot (g__law_cell_at.mono (by decide)) b__law_cell_at k__law_cell_at h__law_cell_at
  have g__law_draw := ok_draw (P := l.prog) (w := w) (mg := mg) (base := base) B F__law_draw 
  have g__law_number := ok_number (P := l.prog) (w := w) (mg := mg) (base := base)  F__law_number (g__law_draw.mono (by decide)) b__law_draw k__law_draw h__law_draw
  have g__law_word := ok_word (P := l.prog) (w := w) (mg := mg) (base := base) B F__law_word (g__law_draw.mono (by decide)) b__law_draw k__law_draw h__law_draw
  have g__law_a_sort := ok_asort (P := l.prog) (w := w) (mg := mg) (base := base) B2 F__law_a_sort (g__law_draw.mono (by decide)) b__law_draw k__law_draw h__law_draw
  have g__law_cell := ok_cell' (P := l.prog) (w := w) (mg := mg) (base := base)  F__law_cell (g__law_a_sort.mono (by decide)) b__law_a_sort k__law_a_sort h__law_a_sort (g__law_word.mono (by decide)) b__law_word k__law_word h__law_word (g__law_number.mono (by decide)) b__law_number k__law_number h__law_number
  have g__law_column := ok_column (P := l.prog) (w := w) (mg := mg) (base := base) B F__law_column (g__law_draw.mono (by decide)) b__law_draw k__law_draw h__law_draw
  have g__law_columns := ok_columns (P := l.prog) (w := w) (mg := mg) (base := base) B F__law_columns (g__law_column.mono (by decide)) b__law_column k__law_column h__law_column
  have g__law_state := ok_state (P := l.prog) (w := w) (mg := mg) (base := base)  F__law_state (g__law_draw.mono (by decide)) b__law_draw k__law_draw h__law_draw (g__law_word.mono (by decide)) b__law_word k__law_word h__law_word
  have g__law_set := ok_set (P := l.prog) (w := w) (mg := mg) (base := base) B B2 F__law_set (g__law_a_sort.mono (by decide)) b__law_a_sort k__law_a_sort h__law_a_sort (g__law_draw.mono (by decide)) b__law_draw k__law_draw h__law_draw (g__law_word.mono (by decide)) b__law_word k__law_word h__law_word (g__law_number.mono (by decide)) b__law_number k__law_number h__law_number
  have g__law_pairs := ok_pairs (P := l.prog) (w := w) (mg := mg) (base := base) B B2 F__law_pairs (g__law_draw.mono (by decide)) b__law_draw k__law_draw h__law_draw (g__law_cell.mono (by decide)) b__law_cell k__law_cell h__law_cell
  have g__law_order := ok_order (P := l.prog) (w := w) (mg := mg) (base := base) B F__law_order (g__law_draw.mono (by decide)) b__law_draw k__law_draw h__law_draw (g__law_column.mono (by decide)) b__law_column k__law_column h__law_column
  have g__law_moves := ok_moves (P := l.prog) (w := w) (mg := mg) (base := base) B B2 F__law_moves (g__law_draw.mono (by decide)) b__law_draw k__law_draw h__law_draw (g__law_state.mono (by decide)) b__law_state k__law_state h__law_state (g__law_cell.mono (by decide)) b__law_cell k__law_cell h__law_cell
  have g__law_one_row := ok_onerow (P := l.prog) (w := w) (mg := mg) (base := base) B2 F__law_one_row (g__law_column.mono (by decide)) b__law_column k__law_column h__law_column (g__law_columns.mono (by decide)) b__law_columns k__law_columns h__law_columns (g__law_draw.mono (by decide)) b__law_draw k__law_draw h__law_draw (g__law_set.mono (by decide)) b__law_set k__law_set h__law_set (g__law_pairs.mono (by decide)) b__law_pairs k__law_pairs h__law_pairs
  have g__law_other := ok_other (P := l.prog) (w := w) (mg := mg) (base := base)  F__law_other (g__law_column.mono (by decide)) b__law_column k__law_column h__law_column (g__law_state.mono (by decide)) b__law_state k__law_state h__law_state (g__law_moves.mono (by decide)) b__law_moves k__law_moves h__law_moves (g__law_order.mono (by decide)) b__law_order k__law_order h__law_order (g__law_columns.mono (by decide)) b__law_columns k__law_columns h__law_columns (g__law_draw.mono (by decide)) b__law_draw k__law_draw h__law_draw
  have j0 := ok_join0 (P := l.prog) (w := w) (mg := mg) (base := base) (L := 6) F__law_joining 
  have w0 := ok_worker (P := l.prog) (w := w) (mg := mg) (base := base) (n := 0) (L := 7) B B2 F__law_worker (g__law_draw.mono (by decide)) b__law_draw k__law_draw h__law_draw (g__law_one_row.mono (by decide)) b__law_one_row k__law_one_row h__law_one_row (j0.mono (by decide)) b__law_joining k__law_joining h__law_joining (g__law_other.mono (by decide)) b__law_other k__law_other h__law_other
  have p0 := ok_pipe (P := l.prog) (w := w) (mg := mg) (base := base) (n := 0) (L := 8) B F__law_pipe (w0.mono (by decide)) b__law_worker k__law_worker h__law_worker
  have j1 := ok_joinS (P := l.prog) (w := w) (mg := mg) (base := base) (n := 0) (L := 9) F__law_joining (p0.mono (by decide)) b__law_pipe k__law_pipe h__law_pipe (g__law_draw.mono (by decide)) b__law_draw k__law_draw h__law_draw (g__law_column.mono (by decide)) b__law_column k__law_column h__law_column
  have w1 := ok_worker (P := l.prog) (w := w) (mg := mg) (base := base) (n := 1) (L := 10) B B2 F__law_worker (g__law_draw.mono (by decide)) b__law_draw k__law_draw h__law_draw (g__law_one_row.mono (by decide)) b__law_one_row k__law_one_row h__law_one_row (j1.mono (by decide)) b__law_joining k__law_joining h__law_joining (g__law_other.mono (by decide)) b__law_other k__law_other h__law_other
  have p1 := ok_pipe (P := l.prog) (w := w) (mg := mg) (base := base) (n := 1) (L := 11) B F__law_pipe (w1.mono (by decide)) b__law_worker k__law_worker h__law_worker
  have j2 := ok_joinS (P := l.prog) (w := w) (mg := mg) (base := base) (n := 1) (L := 12) F__law_joining (p1.mono (by decide)) b__law_pipe k__law_pipe h__law_pipe (g__law_draw.mono (by decide)) b__law_draw k__law_draw h__law_draw (g__law_column.mono (by decide)) b__law_column k__law_column h__law_column
  have w2 := ok_worker (P := l.prog) (w := w) (mg := mg) (base := base) (n := 2) (L := 13) B B2 F__law_worker (g__law_draw.mono (by decide)) b__law_draw k__law_draw h__law_draw (g__law_one_row.mono (by decide)) b__law_one_row k__law_one_row h__law_one_row (j2.mono (by decide)) b__law_joining k__law_joining h__law_joining (g__law_other.mono (by decide)) b__law_other k__law_other h__law_other
  have p2 := ok_pipe (P := l.prog) (w := w) (mg := mg) (base := base) (n := 2) (L := 14) B F__law_pipe (w2.mono (by decide)) b__law_worker k__law_worker h__law_worker
  have j3 := ok_joinS (P := l.prog) (w := w) (mg := mg) (base := base) (n := 2) (L := 15) F__law_joining (p2.mono (by decide)) b__law_pipe k__law_pipe h__law_pipe (g__law_draw.mono (by decide)) b__law_draw k__law_draw h__law_draw (g__law_column.mono (by decide)) b__law_column k__law_column h__law_column
  have w3 := ok_worker (P := l.prog) (w := w) (mg := mg) (base := base) (n := 3) (L := 16) B B2 F__law_worker (g__law_draw.mono (by decide)) b__law_draw k__law_draw h__law_draw (g__law_one_row.mono (by decide)) b__law_one_row k__law_one_row h__law_one_row (j3.mono (by decide)) b__law_joining k__law_joining h__law_joining (g__law_other.mono (by decide)) b__law_other k__law_other h__law_other
  have p3 := ok_pipe (P := l.prog) (w := w) (mg := mg) (base := base) (n := 3) (L := 17) B F__law_pipe (w3.mono (by decide)) b__law_worker k__law_worker h__law_worker
  have m0 := ok_many0 (P := l.prog) (w := w) (mg := mg) (base := base) (L := 0) F__law_many 
  have l0 := ok_lp0 (P := l.prog) (w := w) (mg := mg) (base := base) (L := 0) F__law_places 
  have q0 := ok_pl0 (P := l.prog) (w := w) (mg := mg) (base := base) (L := 0) F_places 
  have br := ok_branches (P := l.prog) (w := w) (mg := mg) (base := base) (L := 0) Bc F_branches_of 
  have m1 := ok_manyS (P := l.prog) (w := w) (mg := mg) (base := base) (n := 0) (L := 1) F__law_many (m0.mono (by decide)) b__law_many k__law_many h__law_many
  have l1 := ok_lpS (P := l.prog) (w := w) (mg := mg) (base := base) (n := 0) (L := 1) B mE F__law_places (l0.mono (by decide)) b__law_places k__law_places h__law_places
  have q1 := ok_plS (P := l.prog) (w := w) (mg := mg) (base := base) (n := 0) (L := 1) B mE F_places (br.mono (by decide)) b_branches_of k_branches_of h_branches_of (q0.mono (by decide)) b_places k_places h_places
  have m2 := ok_manyS (P := l.prog) (w := w) (mg := mg) (base := base) (n := 1) (L := 2) F__law_many (m1.mono (by decide)) b__law_many k__law_many h__law_many
  have l2 := ok_lpS (P := l.prog) (w := w) (mg := mg) (base := base) (n := 1) (L := 2) B mE F__law_places (l1.mono (by decide)) b__law_places k__law_places h__law_places
  have q2 := ok_plS (P := l.prog) (w := w) (mg := mg) (base := base) (n := 1) (L := 2) B mE F_places (br.mono (by decide)) b_branches_of k_branches_of h_branches_of (q1.mono (by decide)) b_places k_places h_places
  have m3 := ok_manyS (P := l.prog) (w := w) (mg := mg) (base := base) (n := 2) (L := 3) F__law_many (m2.mono (by decide)) b__law_many k__law_many h__law_many
  have l3 := ok_lpS (P := l.prog) (w := w) (mg := mg) (base := base) (n := 2) (L := 3) B mE F__law_places (l2.mono (by decide)) b__law_places k__law_places h__law_places
  have q3 := ok_plS (P := l.prog) (w := w) (mg := mg) (base := base) (n := 2) (L := 3) B mE F_places (br.mono (by decide)) b_branches_of k_branches_of h_branches_of (q2.mono (by decide)) b_places k_places h_places
  have m4 := ok_manyS (P := l.prog) (w := w) (mg := mg) (base := base) (n := 3) (L := 4) F__law_many (m3.mono (by decide)) b__law_many k__law_many h__law_many
  have l4 := ok_lpS (P := l.prog) (w := w) (mg := mg) (base := base) (n := 3) (L := 4) B mE F__law_places (l3.mono (by decide)) b__law_places k__law_places h__law_places
  have q4 := ok_plS (P := l.prog) (w := w) (mg := mg) (base := base) (n := 3) (L := 4) B mE F_places (br.mono (by decide)) b_branches_of k_branches_of h_branches_of (q3.mono (by decide)) b_places k_places h_places
  have dr := ok_drawn (P := l.prog) (w := w) (mg := mg) (base := base) (L := 18) B F__law_drawn (g__law_draw.mono (by decide)) b__law_draw k__law_draw h__law_draw (p3.mono (by decide)) b__law_pipe k__law_pipe h__law_pipe (m4.mono (by decide)) b__law_many k__law_many h__law_many
  exact ok_law (L := 19) B B2 F_law (g__law_pot.mono (by decide)) b__law_pot k__law_pot h__law_pot (dr.mono (by decide)) b__law_drawn k__law_drawn h__law_drawn (l4.mono (by decide)) b__law_places k__law_places h__law_places (q4.mono (by decide)) b_places k_places h_places
theorem walk {l : PySem.W.OpenLaw} {q : Program} {loose : List Str} {XP : (Str → Option Value) → Heap → Prop} {YP : World → Heap → Prop} {d : DefRec} {K : Params → PySem.W.Frag} (hn : l.most = some 63) (hdf : d.params.defaults = [])
    (hY : ∀ (w : World) (h : Heap), YP w h → (K w.params).In h)
    (F : ∀ (w : World) (mg : Str → Option Value) (fa : Addr) (h : Heap), (K w.params).In h → h.Ns mainGlobals mg → mg d.name = some (.ref fa) →
      ∃ fd : FuncData, (∀ (s : Shared) (u : Value), BindsTo s fd ⟨[u], []⟩ [("_law_script", u)]) ∧ ∀ base : Heap, (K w.params).In base → base.Ns mainGlobals mg → FnOk l.prog w (K w.params) mg base CX0 20 fa fd ["_law_script"] (spLaw (K w.params))) :
    PySem.W.WalkO q loose XP YP l.row.toRowW d [] (fun f vs => PySem.call f vs) :=
  L2.walk_of (n := 63) (k := 20) (x := "_law_script") (CX := fun _ => CX0) (sp := fun w => spLaw (K w.params)) hn (by decide) hdf ⟨rfl, by decide, by decide⟩ hY F (fun _ _ a ns hl _ hS => ⟨a, ns, rfl, hS, hl, fun _ => rfl⟩) fun _ _ _ _ _ z => z
end My

open PySem PySem.W PyProof.Rows
set_option maxRecDepth 100000 in
set_option maxHeartbeats 0 in
theorem PySem.Challenge.cw_rowpipes_k23_places_holds : PySem.Challenge.rw_rowpipes_k23_places.Holds := by
  w_on; o_law; k_head; (case hw => w_witness2)
  k_fill
  refine My.walk (l := PySem.Challenge.rw_rowpipes_k23_places) rfl rfl (fun w h Y => PySem.W.kIn_of Y) ?F
  case F =>
    intro w mg fa h KX G hmg
    refine' My.all_mk KX G hmg ?a__law_cell_at ?a__law_pot ?a__law_draw ?a__law_number ?a__law_word ?a__law_a_sort ?a__law_cell ?a__law_column ?a__law_columns ?a__law_state ?a__law_set ?a__law_pairs ?a__law_order ?a__law_moves ?a__law_one_row ?a__law_other ?a__law_joining ?a__law_worker ?a__law_pipe ?a__law_many ?a__law_drawn ?a__law_places ?a_branches_of ?a_places ?a_law ?l__law_cell_at ?c__law_cell_at ?k__law_cell_at ?l__law_pot ?c__law_pot ?k__law_pot ?l__law_draw ?c__law_draw ?k__law_draw ?l__law_number ?c__law_number ?k__law_number ?l__law_word ?c__law_word ?k__law_word ?l__law_a_sort ?c__law_a_sort ?k__law_a_sort ?l__law_cell ?c__law_cell ?k__law_cell ?l__law_column ?c__law_column ?k__law_column ?l__law_columns ?c__law_columns ?k__law_columns ?l__law_state ?c__law_state ?k__law_state ?l__law_set ?c__law_set ?k__law_set ?l__law_pairs ?c__law_pairs ?k__law_pairs ?l__law_order ?c__law_order ?k__law_order ?l__law_moves ?c__law_moves ?k__law_moves ?l__law_one_row ?c__law_one_row ?k__law_one_row ?l__law_other ?c__law_other ?k__law_other ?l__law_joining ?c__law_joining ?k__law_joining ?l__law_worker ?c__law_worker ?k__law_worker ?l__law_pipe ?c__law_pipe ?k__law_pipe ?l__law_many ?c__law_many ?k__law_many ?l__law_drawn ?c__law_drawn ?k__law_drawn ?l__law_places ?c__law_places ?k__law_places ?l_branches_of ?c_branches_of ?k_branches_of ?l_places ?c_places ?k_places ?l_law ?c_law ?k_law ?z_len ?z_max ?z_abs ?z_divmod ?z_range ?z_tuple ?z_list ?z_isinstance ?z_int ?z_min ?z_all ?z_sorted ?z_set ?z_enumerate ?vBR ?lBR
    (case a__law_cell_at => k_is)
    (case a__law_pot => k_is)
    (case a__law_draw => k_is)
    (case a__law_number => k_is)
    (case a__law_word => k_is)
    (case a__law_a_sort => k_is)
    (case a__law_cell => k_is)
    (case a__law_column => k_is)
    (case a__law_columns => k_is)
    (case a__law_state => k_is)
    (case a__law_set => k_is)
    (case a__law_pairs => k_is)
    (case a__law_order => k_is)
    (case a__law_moves => k_is)
    (case a__law_one_row => k_is)
    (case a__law_other => k_is)
    (case a__law_joining => k_is)
    (case a__law_worker => k_is)
    (case a__law_pipe => k_is)
    (case a__law_many => k_is)
    (case a__law_drawn => k_is)
    (case a__law_places => k_is)
    (case a_branches_of => k_is)
    (case a_places => k_is)
    (case a_law => k_is)
    (case l__law_cell_at => k_is)
    (case c__law_cell_at => k_is)
    (case k__law_cell_at => k_is)
    (case l__law_pot => k_is)
    (case c__law_pot => k_is)
    (case k__law_pot => k_is)
    (case l__law_draw => k_is)
    (case c__law_draw => k_is)
    (case k__law_draw => k_is)
    (case l__law_number => k_is)
    (case c__law_number => k_is)
    (case k__law_number => k_is)
    (case l__law_word => k_is)
    (case c__law_word => k_is)
    (case k__law_word => k_is)
    (case l__law_a_sort => k_is)
    (case c__law_a_sort => k_is)
    (case k__law_a_sort => k_is)
    (case l__law_cell => k_is)
    (case c__law_cell => k_is)
    (case k__law_cell => k_is)
    (case l__law_column => k_is)
    (case c__law_column => k_is)
    (case k__law_column => k_is)
    (case l__law_columns => k_is)
    (case c__law_columns => k_is)
    (case k__law_columns => k_is)
    (case l__law_state => k_is)
    (case c__law_state => k_is)
    (case k__law_state => k_is)
    (case l__law_set => k_is)
    (case c__law_set => k_is)
    (case k__law_set => k_is)
    (case l__law_pairs => k_is)
    (case c__law_pairs => k_is)
    (case k__law_pairs => k_is)
    (case l__law_order => k_is)
    (case c__law_order => k_is)
    (case k__law_order => k_is)
    (case l__law_moves => k_is)
    (case c__law_moves => k_is)
    (case k__law_moves => k_is)
    (case l__law_one_row => k_is)
    (case c__law_one_row => k_is)
    (case k__law_one_row => k_is)
    (case l__law_other => k_is)
    (case c__law_other => k_is)
    (case k__law_other => k_is)
    (case l__law_joining => k_is)
    (case c__law_joining => k_is)
    (case k__law_joining => k_is)
    (case l__law_worker => k_is)
    (case c__law_worker => k_is)
    (case k__law_worker => k_is)
    (case l__law_pipe => k_is)
    (case c__law_pipe => k_is)
    (case k__law_pipe => k_is)
    (case l__law_many => k_is)
    (case c__law_many => k_is)
    (case k__law_many => k_is)
    (case l__law_drawn => k_is)
    (case c__law_drawn => k_is)
    (case k__law_drawn => k_is)
    (case l__law_places => k_is)
    (case c__law_places => k_is)
    (case k__law_places => k_is)
    (case l_branches_of => k_is)
    (case c_branches_of => k_is)
    (case k_branches_of => k_is)
    (case l_places => k_is)
    (case c_places => k_is)
    (case k_places => k_is)
    (case l_law => k_is)
    (case c_law => k_is)
    (case k_law => k_is)
    (case z_len => k_is)
    (case z_max => k_is)
    (case z_abs => k_is)
    (case z_divmod => k_is)
    (case z_range => k_is)
    (case z_tuple => k_is)
    (case z_list => k_is)
    (case z_isinstance => k_is)
    (case z_int => k_is)
    (case z_min => k_is)
    (case z_all => k_is)
    (case z_sorted => k_is)
    (case z_set => k_is)
    (case z_enumerate => k_is)
    (case vBR => k_is)
    (case lBR => k_is)
