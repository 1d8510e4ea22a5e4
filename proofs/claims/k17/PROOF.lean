import PyProof.Rows.All
import Wide.All
import OpenK.AllK
import Wide.FinOn
import Lean
import PyProof.EqAt
import PyProof.EqKinds
import PyProof.TupleCall
import PyProof.NeKinds
import PySem.Challenge.RW_rowpipes_k17_whole_kinds
set_option Elab.async false
set_option linter.all false
set_option maxRecDepth 100000
namespace L2
open PySem PySem.Spec PyProof.Rows
abbrev Key := Sum Int Str
def keyIs : Key → Value → Bool
  | .inl k, v => Value.isInt k v
  | .inr x, v => Value.isStrOf x v
def keyH (w : World) : Key → Int
  | .inl k => hashInt k
  | .inr x => hashStr w x
theorem keyIs_shape : ∀ {k : Key} {v : Value}, keyIs k v = true → (∃ i t, k = Sum.inl i ∧ v = Value.int i t) ∨ (∃ x t, k = Sum.inr x ∧ v = Value.str x t)
  | .inl i, v, h => by
    obtain ⟨t, e⟩ := Value.isInt_shape (k := i) (v := v) h
    exact .inl ⟨i, t, rfl, e⟩
  | .inr x, v, h => by
    obtain ⟨t, e⟩ := Value.isStrOf_shape (x := x) (v := v) h
    exact .inr ⟨x, t, rfl, e⟩
theorem keyIs_int (i : Int) (t : Tok) : keyIs (.inl i) (.int i t) = true := by simp [keyIs, Value.isInt]
theorem keyIs_str (x : Str) (t : Tok) : keyIs (.inr x) (.str x t) = true := by simp [keyIs, Value.isStrOf]
theorem key_ll (a b : Int) : decide ((Sum.inl a : Key) = Sum.inl b) = (a == b) := by
  by_cases e : a = b
  · subst e; simp
  · have h : ¬ (Sum.inl a : Key) = Sum.inl b := fun q => e (Sum.inl.inj q)
    rw [decide_eq_false h]
    exact (beq_eq_false_iff_ne.mpr e).symm
theorem key_rr (a b : Str) : decide ((Sum.inr a : Key) = Sum.inr b) = decide (a = b) := by
  by_cases e : a = b
  · subst e; simp
  · have h : ¬ (Sum.inr a : Key) = Sum.inr b := fun q => e (Sum.inr.inj q)
    rw [decide_eq_false h, decide_eq_false e]
theorem key_lr (a : Int) (b : Str) : decide ((Sum.inl a : Key) = Sum.inr b) = false := decide_eq_false (fun q => nomatch q)
theorem key_rl (a : Str) (b : Int) : decide ((Sum.inr a : Key) = Sum.inl b) = false := decide_eq_false (fun q => nomatch q)
def mixKind (prog : Program) (w : World) : PySem.KeyKind prog w Key where
  is := keyIs
  hash := keyH w
  inj := fun v a b ha hb => by
    rcases keyIs_shape ha with ⟨i, t, rfl, rfl⟩ | ⟨x, t, rfl, rfl⟩
    · rcases keyIs_shape hb with ⟨j, u, rfl, e⟩ | ⟨y, u, rfl, e⟩
      · injection e with e1 _; rw [e1]
      · exact nomatch e
    · rcases keyIs_shape hb with ⟨j, u, rfl, e⟩ | ⟨y, u, rfl, e⟩
      · exact nomatch e
      · injection e with e1 _; rw [e1]
  byValue := fun k v h => by
    rcases keyIs_shape h with ⟨i, t, rfl, rfl⟩ | ⟨x, t, rfl, rfl⟩ <;> rfl
  pyHash := fun hv h => by
    rcases keyIs_shape hv with ⟨i, t, rfl, rfl⟩ | ⟨x, t, rfl, rfl⟩
    · exact wpAny_pyHash_int h
    · exact wpAny_pyHash_str h
  eqBool := fun hu hv h => by
    rcases keyIs_shape hu with ⟨i, t, rfl, rfl⟩ | ⟨x, t, rfl, rfl⟩
    · rcases keyIs_shape hv with ⟨j, u, rfl, rfl⟩ | ⟨y, u, rfl, rfl⟩
      · rw [key_ll] at h; exact wpAny_eqBool_int h
      · rw [key_lr] at h; exact SeqAt.EqAt.int_str i t y u _ _ _ _ h
    · rcases keyIs_shape hv with ⟨j, u, rfl, rfl⟩ | ⟨y, u, rfl, rfl⟩
      · rw [key_rl] at h; exact SeqAt.EqAt.str_int x t j u _ _ _ _ h
      · rw [key_rr] at h; exact wpAny_eqBool_str h
  «strs» := fun k x t v h => by
    rcases keyIs_shape h with ⟨i, u, rfl, e⟩ | ⟨y, u, rfl, e⟩
    · exact nomatch e
    · injection e with e1 _
      subst e1
      cases v <;> rfl
end L2
namespace L2
open PySem PySem.Spec PyProof.Rows
inductive V where
  | non | bl (b : Bool) | int (i : Int) | str (x : Str) | byt (b : Array UInt8) | flt (b : UInt64) | ref (a : Addr) | ty (n : String)
  deriving DecidableEq
def RelV : V → Value → Prop
  | .non, u => u = Value.none
  | .bl b, u => u = Value.bool b
  | .int i, u => ∃ t, u = Value.int i t
  | .str x, u => ∃ t, u = Value.str x t
  | .byt b, u => ∃ t, u = Value.bytes b t
  | .flt b, u => ∃ t, u = Value.float b t
  | .ref a, u => u = Value.ref a
  | .ty n, u => u = Value.type n
abbrev Vals : List V → List Value → Prop := Paired RelV
theorem Vals.length {xs : List V} {us : List Value} (r : Vals xs us) : xs.length = us.length := Paired.length r
theorem Vals.get : ∀ {xs : List V} {us : List Value} {i : Nat} {x : V}, Vals xs us → xs[i]? = some x → ∃ u, us[i]? = some u ∧ RelV x u
  | _, _, _, _, .nil, e => by simp at e
  | _, _, 0, _, .cons r _, e => by simp at e; subst e; exact ⟨_, rfl, r⟩
  | _, _, i + 1, x, .cons _ t, e => by
    obtain ⟨u, h1, h2⟩ := Vals.get (i := i) (x := x) t (by simpa using e)
    exact ⟨u, by simpa using h1, h2⟩
theorem Vals.set {x : V} {u : Value} (r : RelV x u) : ∀ {xs : List V} {us : List Value} (i : Nat), Vals xs us → Vals (xs.set i x) (us.set i u)
  | _, _, _, .nil => .nil
  | _, _, 0, .cons _ t => .cons r t
  | _, _, i + 1, .cons q t => .cons q (Vals.set r i t)
theorem Vals.append : ∀ {xs ys : List V} {us ws : List Value}, Vals xs us → Vals ys ws → Vals (xs ++ ys) (us ++ ws)
  | _, _, _, _, .nil, s => s
  | _, _, _, _, .cons r t, s => .cons r (Vals.append t s)
theorem Vals.take : ∀ {xs : List V} {us : List Value} (n : Nat), Vals xs us → Vals (xs.take n) (us.take n)
  | _, _, 0, _ => .nil
  | _, _, _ + 1, .nil => .nil
  | _, _, n + 1, .cons r t => .cons r (Vals.take n t)
theorem Vals.drop : ∀ {xs : List V} {us : List Value} (n : Nat), Vals xs us → Vals (xs.drop n) (us.drop n)
  | _, _, 0, r => r
  | _, _, _ + 1, .nil => .nil
  | _, _, n + 1, .cons _ t => Vals.drop n t
def RelO : Option V → Option Value → Prop
  | some v, some u => RelV v u
  | none, none => True
  | _, _ => False
def KV {κ : Type} : List (κ × V) → List (κ × Value) → Prop := Paired fun (p : κ × V) (q : κ × Value) => p.1 = q.1 ∧ RelV p.2 q.2
def kV : Key → V
  | .inl i => .int i
  | .inr x => .str x
inductive HO where
  | lst (xs : List V)
  | tup (xs : List V)
  | dK (kvs : List (Key × V)) | dT (kvs : List (List Key × V))
  | set (S : Int → Bool) (n : Nat)
  | ins (C dx : Addr) (fs : List (Str × V))
  | own (x : Addr)
  | xd (fs : List (Str × V))
  | met (f x : Addr)
  | rng (lo hi : Int)
  | frz (o : Obj) (u : HO)
  | tbl (ps : Array Value)
  | ext (φ : Heap → Prop)
abbrev Hp := Addr → Option HO
def upd (H : Hp) (a : Addr) (o : HO) : Hp := fun b => if b = a then some o else H b
theorem upd_same {H : Hp} {a : Addr} {o : HO} : upd H a o a = some o := by unfold upd; rw [if_pos rfl]
theorem upd_ne {H : Hp} {a b : Addr} {o : HO} (h : b ≠ a) : upd H a o b = H b := by unfold upd; rw [if_neg h]
theorem ne_of {H : Hp} {a b : Addr} {o u : HO} (h : H a = some o) (h' : H b = some u) (d : o ≠ u) : a ≠ b := by
  intro e; subst e; rw [h] at h'; exact d (Option.some.inj h')
theorem ne_of_none {H : Hp} {a b : Addr} {o : HO} (h : H a = some o) (h' : H b = none) : a ≠ b := by
  intro e; subst e; rw [h] at h'; cases h'
section
variable (P : Program) (w : World)
def ObjOk (H : Hp) (h : Heap) (a : Addr) : HO → Prop
  | .lst xs => xs.length ≤ sizeLine ∧ ∃ (its : List Value) (n : Nat), Vals xs its ∧ h.get? a = some { cls := .type "list", data := .seq its.toArray n }
  | .tup xs => xs.length ≤ sizeLine ∧ ∃ its : List Value, Vals xs its ∧ IsTup h a its.toArray
  | .dK kvs => kvs.length ≤ sizeLine ∧ (a == sysModules) = false ∧ ∃ vs, KV kvs vs ∧ h.DictOf (mixKind P w) a vs
  | .dT kvs => kvs.length ≤ sizeLine ∧ (a == sysModules) = false ∧ ∃ xs : List (List Key × Addr × Value),
      Paired (fun (p : List Key × V) (q : List Key × Addr × Value) => p.1 = q.1 ∧ H q.2.1 = some (.tup (p.1.map kV)) ∧ RelV p.2 q.2.2) kvs xs ∧
      ∃ o es ep, h.get? a = some o ∧ o.ExactDict ∧ o.data = .dict es ep ∧ es.toList = xs.map (entryOfKey (tupleKind (mixKind P w))) ∧ (xs.map (·.1)).Nodup
  | .set S n => h.SetOf (intKind P w) a S n
  | .ins C dx fs => H dx = some (.own a) ∧ fs.length ≤ 1000 ∧ dx ≠ a ∧ h.get? a = some (PySem.W.instObj C dx) ∧
      ∃ mA, h.Ns1 dx mA ∧ (∀ f, RelO (fs.lookup f) (mA f)) ∧ PySem.Within mA (fs.map (·.1))
  | .own _ => ∃ o, h.get? a = some o
  | .xd fs => ∃ mA, h.Ns1 a mA ∧ ∀ f, RelO (fs.lookup f) (mA f)
  | .rng lo hi => ∃ t u v, h.get? a = some { cls := .type "range", data := .fields #[.int lo t, .int hi u, .int 1 v] }
  | .frz o u => h.get? a = some o ∧ ObjOk H h a u
  | .tbl ps => h.get? a = some { cls := .none, data := .fields ps }
  | .met f x => h.get? a = some (PySem.W.methodObj (.ref f) (.ref x))
  | .ext φ => φ h ∧ (∃ o, h.get? a = some o) ∧ ∀ h1 h2 : Heap, φ h1 → (∀ o, h1.get? a = some o → h2.get? a = some o) → φ h2
def HOk (H : Hp) (h : Heap) : Prop := ∀ a o, H a = some o → ObjOk P w H h a o
end
section
variable {P : Program} {w : World} {H H' : Hp} {h h' : Heap} {a : Addr} {o : HO}
theorem ObjOk.lt (x : ObjOk P w H h a o) : a < h.objs.size := by
  cases o with
  | lst xs => obtain ⟨_, _, _, _, e⟩ := x; exact Heap.lt_size e
  | tup xs => obtain ⟨_, _, _, p⟩ := x; exact p.lt
  | dK kvs => obtain ⟨_, _, _, _, o, _, _, e, _⟩ := x; exact Heap.lt_size e
  | dT kvs => obtain ⟨_, _, _, _, o, _, _, e, _⟩ := x; exact Heap.lt_size e
  | set S n => obtain ⟨o, _, _, _, e, _⟩ := x; exact Heap.lt_size e
  | ins C dx fs => obtain ⟨_, _, _, e, _⟩ := x; exact Heap.lt_size e
  | own y => obtain ⟨_, e⟩ := x; exact Heap.lt_size e
  | xd fs => obtain ⟨_, ⟨_, _, _, e, _⟩, _⟩ := x; exact Heap.lt_size e
  | rng lo hi => obtain ⟨_, _, _, e⟩ := x; exact Heap.lt_size e
  | frz ob u => obtain ⟨e, _⟩ := x; exact Heap.lt_size e
  | tbl ps => exact Heap.lt_size (show h.get? a = some _ from x)
  | met f y => exact Heap.lt_size (show h.get? a = some _ from x)
  | ext φ => obtain ⟨_, ⟨_, e⟩, _⟩ := x; exact Heap.lt_size e
theorem Paired.mapP {α β : Type} {F G : α → β → Prop} : ∀ {l₁ : List α} {l₂ : List β}, Paired F l₁ l₂ → (∀ a b, F a b → G a b) → Paired G l₁ l₂
  | _, _, .nil, _ => .nil
  | _, _, .cons r t, f => .cons (f _ _ r) (Paired.mapP t f)
theorem ObjOk.stay (x : ObjOk P w H h a o) (k : ∀ b u, (b = a ∨ H b = some (.own a)) → h.get? b = some u → h'.get? b = some u)
    (ho : ∀ b, H b = some (.own a) → H' b = some (.own a)) (ht : ∀ b xs, H b = some (.tup xs) → H' b = some (.tup xs)) : ObjOk P w H' h' a o := by
  induction o with
  | lst xs => obtain ⟨z, its, n, r, e⟩ := x; exact ⟨z, its, n, r, k _ _ (.inl rfl) e⟩
  | tup xs => obtain ⟨z, its, r, ob, e, c⟩ := x; exact ⟨z, its, r, ob, k _ _ (.inl rfl) e, c⟩
  | dK kvs => obtain ⟨z, y, vs, r, ob, es, ep, e, c⟩ := x; exact ⟨z, y, vs, r, ob, es, ep, k _ _ (.inl rfl) e, c⟩
  | dT kvs =>
    obtain ⟨z, y, xs, r, ob, es, ep, e, c⟩ := x
    exact ⟨z, y, xs, Paired.mapP r fun p q z => ⟨z.1, ht _ _ z.2.1, z.2.2⟩, ob, es, ep, k _ _ (.inl rfl) e, c⟩
  | set S n => obtain ⟨ob, es, ep, t, e, c⟩ := x; exact ⟨ob, es, ep, t, k _ _ (.inl rfl) e, c⟩
  | ins C dx fs =>
    obtain ⟨d, z, ne, e, mA, ⟨od, es, ep, e2, c⟩, r⟩ := x
    exact ⟨ho _ d, z, ne, k _ _ (.inl rfl) e, mA, ⟨od, es, ep, k _ _ (.inr d) e2, c⟩, r⟩
  | own y => obtain ⟨ob, e⟩ := x; exact ⟨ob, k _ _ (.inl rfl) e⟩
  | xd fs => obtain ⟨mA, ⟨od, es, ep, e, c⟩, r⟩ := x; exact ⟨mA, ⟨od, es, ep, k _ _ (.inl rfl) e, c⟩, r⟩
  | rng lo hi => obtain ⟨t, u, v, e⟩ := x; exact ⟨t, u, v, k _ _ (.inl rfl) e⟩
  | frz ob u ih => obtain ⟨e, q⟩ := x; exact ⟨k _ _ (.inl rfl) e, ih q⟩
  | tbl ps =>
    have e : h.get? a = some { cls := .none, data := .fields ps } := x
    show h'.get? a = some { cls := .none, data := .fields ps }
    exact k a _ (.inl rfl) e
  | met f y =>
    have e : h.get? a = some (PySem.W.methodObj (.ref f) (.ref y)) := x
    show h'.get? a = some (PySem.W.methodObj (.ref f) (.ref y))
    exact k a _ (.inl rfl) e
  | ext φ => obtain ⟨p, ⟨o, e⟩, st⟩ := x; exact ⟨st _ _ p fun o q => k _ _ (.inl rfl) q, ⟨o, k _ _ (.inl rfl) e⟩, st⟩
theorem HOk.lt (x : HOk P w H h) (e : H a = some o) : a < h.objs.size := (x a o e).lt
theorem HOk.fresh (x : HOk P w H h) (e : h.objs.size ≤ a) : H a = none := by
  cases q : H a with
  | none => rfl
  | some u => exact absurd (Nat.lt_of_lt_of_le (x.lt q) e) (Nat.lt_irrefl _)
theorem HOk.kept (x : HOk P w H h) (k : ∀ b u, h.get? b = some u → h'.get? b = some u) : HOk P w H h' := fun a o e =>
  (x a o e).stay (fun b u _ q => k b u q) (fun _ q => q) fun _ _ q => q
theorem HOk.laid (x : HOk P w H h) (k : ∀ b u, h.get? b = some u → h'.get? b = some u) (hp : h.objs.size ≤ a) (new : ObjOk P w (upd H a o) h' a o) : HOk P w (upd H a o) h' := fun b u e => by
  have hn := x.fresh hp
  by_cases hb : b = a
  · subst hb; rw [upd_same] at e; cases e; exact new
  · rw [upd_ne hb] at e
    exact (x b u e).stay (fun c v _ q => k c v q) (fun c q => by rw [upd_ne (ne_of_none q hn)]; exact q) fun c xs q => by rw [upd_ne (ne_of_none q hn)]; exact q
end
def Rd (H : Hp) (a : Addr) (u : HO) : Prop := H a = some u ∨ ∃ o, H a = some (.frz o u)
theorem Rd.ok {P : Program} {w : World} {H : Hp} {h : Heap} {a : Addr} {u : HO} (r : Rd H a u) (x : HOk P w H h) : ObjOk P w H h a u := by
  rcases r with r | ⟨o, r⟩
  · exact x a u r
  · obtain ⟨_, q⟩ := x a _ r
    exact q
def Mut : Option HO → Prop
  | some (.lst _) => True
  | some (.dK _) => True
  | some (.dT _) => True
  | some (.set _ _) => True
  | some (.ins _ _ _) => True
  | some (.ext _) => True
  | _ => False
section
variable {P : Program} {w : World} {H : Hp} {h h' : Heap} {x e : Addr} {o' : HO}
theorem HOk.write (ok : HOk P w H h) (mu : Mut (H x)) (he : e = x ∨ H e = some (.own x)) (k : ∀ b u, b ≠ e → h.get? b = some u → h'.get? b = some u) (heo : ∃ u, h'.get? e = some u)
    (new : ObjOk P w (upd H x o') h' x o') : HOk P w (upd H x o') h' := fun b u q => by
  have nown : ∀ c y, H c = some (.own y) → c ≠ x := fun c y r z => by subst z; rw [r] at mu; exact mu
  have ntup : ∀ c xs, H c = some (.tup xs) → c ≠ x := fun c xs r z => by subst z; rw [r] at mu; exact mu
  by_cases hb : b = x
  · subst hb; rw [upd_same] at q; cases q; exact new
  · rw [upd_ne hb] at q
    by_cases hbe : b = e
    · have q' : H b = some (.own x) := by
        rcases he with z | z
        · exact absurd (hbe.trans z) hb
        · rw [hbe]; exact z
      rw [q] at q'; cases q'
      obtain ⟨v, hv⟩ := heo
      exact ⟨v, by rw [hbe]; exact hv⟩
    · refine (ok b u q).stay (fun c v hc r => k c v ?_ r) (fun c r => by rw [upd_ne (nown c b r)]; exact r) fun c xs r => by rw [upd_ne (ntup c xs r)]; exact r
      rcases hc with rfl | hc
      · exact hbe
      · rintro rfl
        rcases he with z | z
        · exact nown c b hc z
        · rw [hc] at z; cases z; exact hb rfl
end
structure Un (fs ex : List Addr) (H H' : Hp) (h h' : Heap) : Prop where
  keep : ∀ b o, h.get? b = some o → H b = none → b ∉ fs → b ∉ ex → h'.get? b = some o
  slot : ∀ b o, h.get? b = some o → H b = none → b ∈ fs → b ∉ ex → ∃ sl, h'.get? b = some { o with slots := sl }
  free : ∀ b o, h.get? b = some o → H b = none → b ∉ ex → H' b = none
  there : ∀ b o, h.get? b = some o → b ∉ ex → ∃ o', h'.get? b = some o'
  tups : ∀ b xs, H b = some (.tup xs) → H' b = some (.tup xs)
  frzs : ∀ b o u, H b = some (.frz o u) → H' b = some (.frz o u)
  tbls : ∀ b ps, H b = some (.tbl ps) → ∃ more, H' b = some (.tbl (ps ++ more))
section
variable {fs fs' ex ex' : List Addr} {H H1 H2 : Hp} {h h1 h2 h' : Heap} {a x e : Addr} {o : HO}
theorem Un.any (u : Un fs ex H H1 h h1) {b : Addr} {ob : Obj} (q : h.get? b = some ob) (n : H b = none) (hx : b ∉ ex) : ∃ sl, h1.get? b = some { ob with slots := sl } := by
  by_cases hb : b ∈ fs
  · exact u.slot b ob q n hb hx
  · exact ⟨ob.slots, u.keep b ob q n hb hx⟩
theorem Un.kept (k : ∀ b u, h.get? b = some u → h'.get? b = some u) : Un fs ex H H h h' :=
  ⟨fun b ob q _ _ _ => k b ob q, fun b ob q _ _ _ => ⟨ob.slots, k b ob q⟩, fun _ _ _ n _ => n, fun b ob q _ => ⟨ob, k b ob q⟩, fun _ _ q => q, fun _ _ _ q => q, fun _ ps q => ⟨#[], by rw [q]; simp⟩⟩
theorem Un.refl : Un fs ex H H h h := Un.kept fun _ _ q => q
theorem Un.laid (k : ∀ b u, h.get? b = some u → h'.get? b = some u) (hp : h.objs.size ≤ a) (hn : H a = none) : Un fs ex H (upd H a o) h h' where
  keep := fun b u q _ _ _ => k b u q
  slot := fun b u q _ _ _ => ⟨u.slots, k b u q⟩
  free := fun b u q n _ => by rw [upd_ne (Nat.ne_of_lt (Nat.lt_of_lt_of_le (Heap.lt_size q) hp))]; exact n
  there := fun b u q _ => ⟨u, k b u q⟩
  tups := fun b xs q => by rw [upd_ne (ne_of_none q hn)]; exact q
  frzs := fun b u xs q => by rw [upd_ne (ne_of_none q hn)]; exact q
  tbls := fun b ps q => ⟨#[], by rw [upd_ne (ne_of_none q hn), q]; simp⟩
theorem Un.write (mu : Mut (H x)) (he : e = x ∨ H e = some (.own x)) (k : ∀ b u, b ≠ e → h.get? b = some u → h'.get? b = some u) (heo : ∃ u, h'.get? e = some u) : Un fs ex H (upd H x o) h h' := by
  have hx : ∀ b, H b = none → b ≠ x := fun b n z => by subst z; rw [n] at mu; exact mu
  have hb : ∀ b, H b = none → b ≠ e := fun b n z => by
    subst z
    rcases he with r | r
    · exact hx b n r
    · rw [n] at r; cases r
  have hm : ∀ b u, H b = some u → ¬ Mut (some u) → b ≠ x := fun b u q nm z => by subst z; rw [q] at mu; exact nm mu
  refine ⟨fun b u q n _ _ => k b u (hb b n) q, fun b u q n _ _ => ⟨u.slots, k b u (hb b n) q⟩, fun b u q n _ => by rw [upd_ne (hx b n)]; exact n, fun b u q _ => ?_,
    fun b xs q => by rw [upd_ne (hm b _ q fun z => z)]; exact q, fun b u xs q => by rw [upd_ne (hm b _ q fun z => z)]; exact q, fun b ps q => ⟨#[], by rw [upd_ne (hm b _ q fun z => z), q]; simp⟩⟩
  by_cases hbe : b = e
  · subst hbe; exact heo
  · exact ⟨u, k b u hbe q⟩
end
def trk (h : Heap) (H : Hp) : List Addr := (List.range h.objs.size).filter fun a => (H a).isSome
def hidT (h : Heap) (H : Hp) : Heap := PySem.W.hideAll h (trk h H)
theorem hidT_size (h : Heap) (H : Hp) : (hidT h H).objs.size = h.objs.size := PySem.W.hideAll_size _ _
theorem hidT_get {h : Heap} {H : Hp} {b : Addr} {o : Obj} (e : h.get? b = some o) (n : H b = none) : (hidT h H).get? b = some o :=
  PySem.W.hideAll_get _ e fun hm => by
    have q : (H b).isSome = true := (List.mem_filter.mp hm).2
    rw [n] at q; simp at q
theorem of_hidT {h : Heap} {H : Hp} {b : Addr} {o : Obj} (e : (hidT h H).get? b = some o) : h.get? b = some o ∧ H b = none := by
  have e' : h.get? b = some o := PySem.W.of_hideAll (trk h H) e
  refine ⟨e', ?_⟩
  cases q : H b with
  | none => rfl
  | some x =>
    have hm : b ∈ trk h H := List.mem_filter.mpr ⟨List.mem_range.mpr (Heap.lt_size e'), by simp [q]⟩
    have z : (hidT h H).get? b = none := PySem.W.hideAll_none (trk h H) hm
    rw [z] at e; cases e
def allNews (g h : Heap) (L : Addr) : List (Addr × Obj) := (List.range h.objs.size).filterMap fun a => if a = L ∨ (g.get? a).isSome = true then none else (h.get? a).map fun o => (a, o)
def rest (g h : Heap) (L d : Addr) : List (Addr × Obj) := (allNews g h L).filter fun p => decide (p.1 ≠ d)
end L2
namespace L2
open PySem PySem.Spec PyProof.Rows
structure Mod (K : PySem.W.Frag) (mg : Str → Option Value) (base : Heap) : Prop where
  kin : K.In base
  glob : base.Ns mainGlobals mg
  blt : ∃ mb, base.Ns builtinsNs mb ∧ ∀ x : Str, x ≠ "__name__" → mb x = bootBuiltins x
  nolimit : base.NoLimit
structure Cx where
  prog : Program
  w : World
  K : PySem.W.Frag
  mg : Str → Option Value
  base : Heap
  A : Around
  N : List Str
  s₀ : Shared
  H₀ : Hp
  env : Env
  outer : List Env
  stack : List Env
  ex : List Addr
  fn : Str → Bool
  calm : Bool
  pn : List (Addr × Obj)
  xe : Value → Shared → Prop
def frs (l : List Env) : List Addr := l.filterMap (·.frame)
abbrev Cx.fs (X : Cx) : List Addr := frs X.outer
def Vis (sc : Scope) (x : Str) : Prop := sc.names.lookup x = some .local ∨ sc.names.lookup x = some .cell ∨ sc.names.lookup x = some .free
def Loc (sc : Scope) (x : Str) : Prop := sc.names.lookup x = some .local ∨ sc.names.lookup x = some .cell
def Look (env : Env) (h : Heap) (m : Str → Option Value) (x : Str) (u : Value) : Prop :=
  (env.kindOf x = some .local ∧ m x = some u) ∨ ((env.kindOf x = some .cell ∨ env.kindOf x = some .free) ∧ ∃ c, env.cells.lookup x = some c ∧ h.IsCell c (some u))
structure Cx.Ok (X : Cx) : Prop where
  mod : Mod X.K X.mg X.base
  kind : X.env.scope.kind = .function
  glob : X.env.globals = mainGlobals
  blt : X.env.builtins = builtinsNs
  above : X.s₀.heap.objs.size ≤ X.env.locals
  inj : ∀ x y c, X.env.cells.lookup x = some c → X.env.cells.lookup y = some c → x = y
  has : ∀ x, (X.env.kindOf x = some .cell ∨ X.env.kindOf x = some .free) → ∃ c, X.env.cells.lookup x = some c
  cab : ∀ x c, X.fn x = true → X.env.cells.lookup x = some c → X.s₀.heap.objs.size ≤ c
  hd : X.calm = true → X.A.handled = none
  frames : X.A.frames = some X.stack
  stk : X.stack = X.outer ∨ (X.stack = X.env :: X.outer ∧ X.env.frame = some X.env.locals)
  exf : ∀ b ∈ X.ex, b ≠ X.env.locals ∧ ∀ x c, X.env.cells.lookup x = some c → c ≠ b
  bs : ∀ b o, X.base.get? b = some o → X.s₀.heap.get? b = some o ∧ X.H₀ b = none
  bsz : X.base.objs.size ≤ X.s₀.heap.objs.size
  noex : ∀ b o, X.base.get? b = some o → b ∉ X.ex
  exfs : ∀ b ∈ X.ex, b ∉ X.fs
  funs : X.s₀.heap.FunFrames X.base X.outer
  frf : ∀ b ∈ X.fs, X.H₀ b = none
structure Inv (X : Cx) (pins : List (Addr × Obj)) (σ : List (Option V)) (H : Hp) (s : Shared) : Prop where
  ok : X.Ok
  os : s.os = X.s₀.os
  bare : AllBare s.gens
  base : Un X.fs X.ex X.H₀ H X.s₀.heap s.heap
  loc : ∃ m, s.heap.Ns X.env.locals m ∧ ∀ (i : Nat) (x : Str) (v : V), X.N[i]? = some x → σ[i]? = some (some v) → Vis X.env.scope x → ∃ u, RelV v u ∧ Look X.env s.heap m x u
  cell : ∀ x c, X.env.cells.lookup x = some c → ∃ v, s.heap.IsCell c v
  free : H X.env.locals = none
  freeC : ∀ x c, X.env.cells.lookup x = some c → H c = none
  pin : ∀ p ∈ X.pn ++ pins, s.heap.get? p.1 = some p.2 ∧ H p.1 = none ∧ p.1 ≠ X.env.locals ∧ p.1 ∉ X.fs ∧ ∀ v, p.2.data ≠ .cell v
  hok : HOk X.prog X.w H s.heap
  len : σ.length = X.N.length
section
variable {X : Cx} {pins : List (Addr × Obj)} {σ : List (Option V)} {H H' : Hp} {s : Shared} {h' : Heap}
theorem Cx.Ok.nofr (ok : X.Ok) {b : Addr} {o : Obj} (e : X.base.get? b = some o) : b ∉ X.fs := fun hb => by
  have := (ok.funs.mem hb).1
  rw [e] at this; cases this
theorem Inv.bs (I : Inv X pins σ H s) : ∀ b o, X.base.get? b = some o → s.heap.get? b = some o ∧ H b = none := fun b o e =>
  ⟨I.base.keep b o (I.ok.bs b o e).1 (I.ok.bs b o e).2 (I.ok.nofr e) (I.ok.noex b o e), I.base.free b o (I.ok.bs b o e).1 (I.ok.bs b o e).2 (I.ok.noex b o e)⟩
theorem Inv.bk (I : Inv X pins σ H s) : ∀ b o, X.base.get? b = some o → s.heap.get? b = some o := fun b o e => (I.bs b o e).1
theorem Inv.mod (I : Inv X pins σ H s) : Mod X.K X.mg X.base := I.ok.mod
theorem Inv.kIn (I : Inv X pins σ H s) : X.K.In s.heap := I.ok.mod.kin.keeps I.bk
theorem Inv.lt (I : Inv X pins σ H s) : X.env.locals < s.heap.objs.size := let ⟨_, hn, _⟩ := I.loc; hn.lt
theorem Inv.sz (I : Inv X pins σ H s) : X.s₀.heap.objs.size ≤ s.heap.objs.size := Nat.le_trans I.ok.above (Nat.le_of_lt I.lt)
theorem Inv.nofs (I : Inv X pins σ H s) {a : Addr} (h : s.heap.objs.size ≤ a) : a ∉ X.fs := fun hb => by
  obtain ⟨_, o, ho, _⟩ := I.ok.funs.mem hb
  exact absurd (Nat.lt_of_lt_of_le (Heap.lt_size ho) (Nat.le_trans I.sz h)) (Nat.lt_irrefl _)
theorem Inv.cne (I : Inv X pins σ H s) : ∀ x c, X.env.cells.lookup x = some c → c ≠ X.env.locals := fun x c e z => by
  obtain ⟨v, o, ho, hd⟩ := I.cell x c e
  obtain ⟨m, ⟨o', es, ep, ho', hd', _⟩, _⟩ := I.loc
  rw [z, ho'] at ho; cases ho; rw [hd'] at hd; cases hd
theorem Inv.funs (I : Inv X pins σ H s) : s.heap.FunFrames X.base X.outer := by
  have all : ∀ (l : List Env), (∀ b ∈ frs l, b ∈ X.fs) → X.s₀.heap.FunFrames X.base l → s.heap.FunFrames X.base l := by
    intro l
    induction l with
    | nil => intro _ _; trivial
    | cons env r ih =>
      intro hs hl
      obtain ⟨hk, ⟨L, o, hf, hn, ho, hd⟩, hr⟩ := hl
      have hL : L ∈ X.fs := hs L (by unfold frs; rw [List.filterMap_cons, hf]; exact List.mem_cons_self)
      obtain ⟨sl, e⟩ := I.base.slot L o ho (I.ok.frf L hL) hL fun z => I.ok.exfs L z hL
      exact ⟨hk, ⟨L, _, hf, hn, e, hd⟩, ih (fun b hb => hs b (by unfold frs; rw [List.filterMap_cons, hf]; exact List.mem_cons_of_mem _ hb)) hr⟩
  exact all X.outer (fun _ hb => hb) I.ok.funs
theorem Inv.stack (I : Inv X pins σ H s) : s.heap.FunFrames X.base X.stack := by
  rcases I.ok.stk with e | ⟨e, hf⟩
  · rw [e]; exact I.funs
  · rw [e]
    obtain ⟨m, hn, _⟩ := I.loc
    refine .cons (by rw [I.ok.kind]; decide) hf hn ?_ I.funs
    exact Heap.get?_none_of_le (Nat.le_trans I.ok.bsz I.ok.above)
theorem Inv.stkSub (I : Inv X pins σ H s) : ∀ b ∈ frs X.stack, b ∈ X.env.locals :: X.fs := fun b hb => by
  rcases I.ok.stk with e | ⟨e, hf⟩
  · rw [e] at hb; exact List.mem_cons_of_mem _ hb
  · rw [e] at hb
    unfold frs at hb
    rw [List.filterMap_cons, hf] at hb
    exact hb
theorem Inv.stkFree (I : Inv X pins σ H s) : ∀ b ∈ frs X.stack, H b = none := fun b hb => by
  rcases List.mem_cons.mp (I.stkSub b hb) with e | hb
  · rw [e]; exact I.free
  · obtain ⟨_, o, ho, _⟩ := I.ok.funs.mem hb
    exact I.base.free b o ho (I.ok.frf b hb) fun z => I.ok.exfs b z hb
theorem Inv.step {g' : Array GenState} {t' : Nat} {d' : Drawn} {ch : List Addr} (I : Inv X pins σ H s)
    (hch : ∀ b ∈ ch, (b ∈ X.ex ∨ X.s₀.heap.objs.size ≤ b) ∧ b ≠ X.env.locals ∧ (∀ x c, X.env.cells.lookup x = some c → c ≠ b) ∧ ∀ p ∈ X.pn ++ pins, p.1 ≠ b)
    (keep : ∀ b o, b ≠ X.env.locals → b ∉ X.fs → b ∉ ch → s.heap.get? b = some o → H b = none → h'.get? b = some o)
    (slot : ∀ b o, b ≠ X.env.locals → b ∈ X.fs → b ∉ ch → s.heap.get? b = some o → H b = none → ∃ sl, h'.get? b = some { o with slots := sl }) (free : ∀ b o, b ∉ ch → s.heap.get? b = some o → H b = none → H' b = none)
    (there : ∀ b o, b ∉ ch → s.heap.get? b = some o → ∃ o', h'.get? b = some o')
    (tups : ∀ b xs, H b = some (.tup xs) → H' b = some (.tup xs)) (frzs : ∀ b o u, H b = some (.frz o u) → H' b = some (.frz o u)) (tbls : ∀ b ps, H b = some (.tbl ps) → ∃ more, H' b = some (.tbl (ps ++ more)))
    (ns : ∀ m, s.heap.Ns X.env.locals m → h'.Ns X.env.locals m) (hok : HOk X.prog X.w H' h') (hg : AllBare g') :
    Inv X pins σ H' { s with heap := h', gens := g', drawn := d', toks := t' } := by
  have neL : ∀ b o, X.s₀.heap.get? b = some o → b ≠ X.env.locals := fun b o e => Nat.ne_of_lt (Nat.lt_of_lt_of_le (Heap.lt_size e) I.ok.above)
  have neC : ∀ b o, X.s₀.heap.get? b = some o → b ∉ X.ex → b ∉ ch := fun b o e hx hb => by
    rcases (hch b hb).1 with z | z
    · exact hx z
    · exact absurd (Nat.lt_of_lt_of_le (Heap.lt_size e) z) (Nat.lt_irrefl _)
  have cellK : ∀ x c, X.env.cells.lookup x = some c → ∀ v, s.heap.IsCell c v → h'.IsCell c v := fun x c e v ⟨o, ho, hd⟩ => by
    have nch : c ∉ ch := fun z => (hch c z).2.2.1 x c e rfl
    by_cases hc : c ∈ X.fs
    · obtain ⟨sl, q⟩ := slot c o (I.cne x c e) hc nch ho (I.freeC x c e)
      exact ⟨_, q, hd⟩
    · exact ⟨o, keep c o (I.cne x c e) hc nch ho (I.freeC x c e), hd⟩
  refine ⟨I.ok, I.os, hg, ⟨fun b o e n hb hx => ?_, fun b o e n hb hx => ?_, fun b o e n hx => ?_, fun b o e hx => ?_, fun b xs e => tups b xs (I.base.tups b xs e), fun b o xs e => frzs b o xs (I.base.frzs b o xs e), fun b ps e => ?_⟩, ?_, fun x c e => ?_, ?_, fun x c e => ?_, fun p hp => ?_, hok, I.len⟩
  · exact keep b o (neL b o e) hb (neC b o e hx) (I.base.keep b o e n hb hx) (I.base.free b o e n hx)
  · obtain ⟨sl, e1⟩ := I.base.slot b o e n hb hx
    obtain ⟨sl', e2⟩ := slot b _ (neL b o e) hb (neC b o e hx) e1 (I.base.free b o e n hx)
    exact ⟨sl', e2⟩
  · obtain ⟨o', e1⟩ := I.base.there b o e hx
    exact free b o' (neC b o e hx) e1 (I.base.free b o e n hx)
  · obtain ⟨o', e1⟩ := I.base.there b o e hx
    exact there b o' (neC b o e hx) e1
  · obtain ⟨m1, e1⟩ := I.base.tbls b ps e
    obtain ⟨m2, e2⟩ := tbls b _ e1
    exact ⟨m1 ++ m2, by rw [e2, Array.append_assoc]⟩
  · obtain ⟨m, hn, hl⟩ := I.loc
    refine ⟨m, ns m hn, fun i x v e1 e2 e3 => ?_⟩
    obtain ⟨u, r, l⟩ := hl i x v e1 e2 e3
    refine ⟨u, r, ?_⟩
    rcases l with l | ⟨k, c, e, z⟩
    · exact .inl l
    · exact .inr ⟨k, c, e, cellK x c e _ z⟩
  · obtain ⟨v, z⟩ := I.cell x c e
    exact ⟨v, cellK x c e v z⟩
  · obtain ⟨m, ⟨o, _, _, ho, _⟩, _⟩ := I.loc
    exact free _ o (fun z => (hch _ z).2.1 rfl) ho I.free
  · obtain ⟨v, o, ho, hd⟩ := I.cell x c e
    exact free c o (fun z => (hch c z).2.2.1 x c e rfl) ho (I.freeC x c e)
  · obtain ⟨e, n, ne, nf, d⟩ := I.pin p hp
    have nch : p.1 ∉ ch := fun z => (hch p.1 z).2.2.2 p hp rfl
    exact ⟨keep p.1 p.2 ne nf nch e n, free p.1 p.2 nch e n, ne, nf, d⟩
theorem Inv.un {t' : Nat} (I : Inv X pins σ H s) (u : Un X.fs [] H H' s.heap h') (hok : HOk X.prog X.w H' h') : Inv X pins σ H' { s with heap := h', toks := t' } := by
  obtain ⟨m, ⟨o, es, ep, ho, r⟩, _⟩ := id I.loc
  obtain ⟨sl, hL⟩ := u.any ho I.free (by simp)
  exact I.step (g' := s.gens) (d' := s.drawn) (ch := []) (fun _ z => nomatch z) (fun b o _ hb _ e n => u.keep b o e n hb (by simp)) (fun b o _ hb _ e n => u.slot b o e n hb (by simp)) (fun b o _ e n => u.free b o e n (by simp)) (fun b o _ e => u.there b o e (by simp)) u.tups u.frzs u.tbls (fun m' hm => by
    obtain ⟨o', es', ep', ho', r'⟩ := hm
    rw [ho] at ho'; cases ho'
    exact ⟨_, es', ep', hL, r'⟩) hok I.bare
theorem Inv.call {g' : Array GenState} {t' : Nat} {d' : Drawn} {ch : List Addr} (I : Inv X pins σ H s) (u : Un (frs X.stack) ch H H' s.heap h') (hok : HOk X.prog X.w H' h') (hg : AllBare g')
    (hch : ∀ b ∈ ch, (b ∈ X.ex ∨ X.s₀.heap.objs.size ≤ b) ∧ b ≠ X.env.locals ∧ (∀ x c, X.env.cells.lookup x = some c → c ≠ b) ∧ ∀ p ∈ X.pn ++ pins, p.1 ≠ b) :
    Inv X pins σ H' { s with heap := h', gens := g', drawn := d', toks := t' } := by
  obtain ⟨m, ⟨o, es, ep, ho, r⟩, _⟩ := id I.loc
  obtain ⟨sl, hL⟩ := u.any ho I.free fun z => (hch _ z).2.1 rfl
  exact I.step (ch := ch) hch (fun b o hL hb hc e n => u.keep b o e n (fun z => (List.mem_cons.mp (I.stkSub b z)).elim hL hb) hc) (fun b o _ _ hc e n => u.any e n hc) (fun b o hc e n => u.free b o e n hc) (fun b o hc e => u.there b o e hc) u.tups u.frzs u.tbls (fun m' hm => by
    obtain ⟨o', es', ep', ho', r'⟩ := hm
    rw [ho] at ho'; cases ho'
    exact ⟨_, es', ep', hL, r'⟩) hok hg
theorem Inv.turned {t' : Nat} {it : Addr} (I : Inv X pins σ H s) (k : ∀ b o, b ≠ it → s.heap.get? b = some o → h'.get? b = some o) (hn : H it = none) (hL : it ≠ X.env.locals)
    (h1 : it ∈ X.ex ∨ X.s₀.heap.objs.size ≤ it) (h2 : ∀ x c, X.env.cells.lookup x = some c → c ≠ it) (h3 : ∀ p ∈ X.pn ++ pins, p.1 ≠ it) : Inv X pins σ H { s with heap := h', toks := t' } := by
  have nit : ∀ b u, H b = some u → b ≠ it := fun b u e z => by rw [z, hn] at e; cases e
  refine I.step (g' := s.gens) (d' := s.drawn) (ch := [it]) (fun b hb => ?_) (fun b o _ _ hc e _ => k b o (fun z => hc (by simp [z])) e) (fun b o _ _ hc e _ => ⟨o.slots, k b o (fun z => hc (by simp [z])) e⟩) (fun _ _ _ _ n => n)
    (fun b o hc e => ⟨o, k b o (fun z => hc (by simp [z])) e⟩) (fun _ _ e => e) (fun _ _ _ e => e) (fun b ps e => ⟨#[], by rw [e]; simp⟩) (fun m hm => ?_) (fun b u e => ?_) I.bare
  · have e : b = it := by simpa using hb
    subst e
    exact ⟨h1, hL, h2, h3⟩
  · obtain ⟨o, es, ep, ho, r⟩ := hm
    exact ⟨o, es, ep, k _ o (Ne.symm hL) ho, r⟩
  · refine (I.hok b u e).stay (fun c v hc q => k c v ?_ q) (fun _ q => q) fun _ _ q => q
    rcases hc with z | z
    · rw [z]; exact nit b u e
    · exact nit c _ z
theorem Inv.tok (I : Inv X pins σ H s) (t : Nat) : Inv X pins σ H { s with toks := t } := I.un (h' := s.heap) (t' := t) Un.refl I.hok
theorem Inv.kept {t' : Nat} (I : Inv X pins σ H s) (k : ∀ b u, s.heap.get? b = some u → h'.get? b = some u) : Inv X pins σ H { s with heap := h', toks := t' } := I.un (Un.kept k) (I.hok.kept k)
theorem Inv.laid {a : Addr} {o : HO} {t' : Nat} (I : Inv X pins σ H s) (k : ∀ b u, s.heap.get? b = some u → h'.get? b = some u) (hp : s.heap.objs.size ≤ a) (new : ObjOk X.prog X.w (upd H a o) h' a o) :
    Inv X pins σ (upd H a o) { s with heap := h', toks := t' } := I.un (Un.laid k hp (I.hok.fresh hp)) (I.hok.laid k hp new)
theorem Inv.write {x e : Addr} {o : HO} {t' : Nat} (I : Inv X pins σ H s) (mu : Mut (H x)) (he : e = x ∨ H e = some (.own x)) (k : ∀ b u, b ≠ e → s.heap.get? b = some u → h'.get? b = some u) (heo : ∃ u, h'.get? e = some u)
    (new : ObjOk X.prog X.w (upd H x o) h' x o) : Inv X pins σ (upd H x o) { s with heap := h', toks := t' } := I.un (Un.write mu he k heo) (I.hok.write mu he k heo new)
theorem Inv.pins_of {pins' : List (Addr × Obj)} (I : Inv X pins σ H s) (h : ∀ p ∈ pins', s.heap.get? p.1 = some p.2 ∧ H p.1 = none ∧ p.1 ≠ X.env.locals ∧ p.1 ∉ X.fs ∧ ∀ v, p.2.data ≠ .cell v) : Inv X pins' σ H s :=
  ⟨I.ok, I.os, I.bare, I.base, I.loc, I.cell, I.free, I.freeC, fun p hp => (List.mem_append.mp hp).elim (fun z => I.pin p (List.mem_append_left _ z)) (h p), I.hok, I.len⟩
theorem nodup_ix {N : List Str} (hN : N.Nodup) {i j : Nat} {x : Str} (a : N[i]? = some x) (b : N[j]? = some x) : i = j := by
  obtain ⟨h1, e1⟩ := List.getElem?_eq_some_iff.mp a
  obtain ⟨h2, e2⟩ := List.getElem?_eq_some_iff.mp b
  exact (List.getElem_inj hN).mp (e1.trans e2.symm)
theorem store_ok2 {M : Model} {A : Around} {E : Value → Shared → Prop} {i : Nat} {x : Str} {v : V} {u : Value} {Q : Unit → Shared → Prop} (I : Inv X pins σ H s) (hN : X.N.Nodup) (hi : X.N[i]? = some x) (hx : Loc X.env.scope x) (r : RelV v u)
    (h : ∀ s', Inv X pins (σ.set i (some v)) H s' → (∃ a, Heap.SameBut a s.heap s'.heap ∧ (a = X.env.locals ∨ X.env.cells.lookup x = some a)) → Q () s') (hf : X.fn x = true ∨ X.env.scope.names.lookup x = some .local := by first | exact .inl rfl | exact .inr rfl | assumption) : wpAny M A (storeName X.env x u) Q E s := by
  obtain ⟨m, hn, hl⟩ := id I.loc
  have hcls : (X.env.scope.kind == .class || (X.env.scope.kind == .module && X.env.locals != X.env.globals)) = false := by rw [I.ok.kind]; rfl
  have hiσ : i < σ.length := by rw [I.len]; exact (List.getElem?_eq_some_iff.mp hi).1
  have cne := I.cne
  have tracked : ∀ {a : Addr} {h' : Heap}, (∃ o, s.heap.get? a = some o ∧ H a = none) → Heap.SameBut a s.heap h' → HOk X.prog X.w H h' := fun {a h'} ha hs b ob e => by
    obtain ⟨_, _, hfree⟩ := ha
    refine (I.hok b ob e).stay (fun c w' hc q => (hs.2 c ?_).trans q) (fun _ q => q) fun _ _ q => q
    rintro rfl
    rcases hc with rfl | hc
    · rw [hfree] at e; cases e
    · rw [hfree] at hc; cases hc
  rcases hx with hk | hk
  · refine wpAny_storeName_local hk hn (fun h' hn' hs => ?_) hcls
    obtain ⟨oL, _, _, hoL, _⟩ := id hn
    refine h _ ⟨I.ok, I.os, I.bare, ⟨fun b o e n hb hx => ?_, fun b o e n hb hx => ?_, I.base.free, fun b o e hx => ?_, I.base.tups, I.base.frzs, I.base.tbls⟩, ⟨_, hn', fun j y v' e1 e2 e3 => ?_⟩, fun y c e => ?_, I.free, I.freeC, fun p hp => ?_, tracked ⟨oL, hoL, I.free⟩ hs, by simpa using I.len⟩ ⟨_, hs, .inl rfl⟩
    · exact (hs.2 b (Nat.ne_of_lt (Nat.lt_of_lt_of_le (Heap.lt_size e) I.ok.above))).trans (I.base.keep b o e n hb hx)
    · obtain ⟨sl, e1⟩ := I.base.slot b o e n hb hx
      exact ⟨sl, (hs.2 b (Nat.ne_of_lt (Nat.lt_of_lt_of_le (Heap.lt_size e) I.ok.above))).trans e1⟩
    · obtain ⟨o', e1⟩ := I.base.there b o e hx
      exact ⟨o', (hs.2 b (Nat.ne_of_lt (Nat.lt_of_lt_of_le (Heap.lt_size e) I.ok.above))).trans e1⟩
    · by_cases hj : j = i
      · subst hj
        rw [hi] at e1; cases e1
        rw [List.getElem?_set_self hiσ] at e2
        cases e2
        exact ⟨u, r, .inl ⟨hk, by simp⟩⟩
      · rw [List.getElem?_set_ne (Ne.symm hj)] at e2
        obtain ⟨u', r', q⟩ := hl j y v' e1 e2 e3
        refine ⟨u', r', ?_⟩
        rcases q with ⟨k, e⟩ | ⟨k, c, e, z⟩
        · refine .inl ⟨k, ?_⟩
          have : y ≠ x := fun e => hj (nodup_ix hN e1 (e ▸ hi))
          simp [this, e]
        · exact .inr ⟨k, c, e, z.sameBut hs (cne y c e)⟩
    · obtain ⟨w', z⟩ := I.cell y c e
      exact ⟨w', z.sameBut hs (cne y c e)⟩
    · obtain ⟨e, n, ne, nf, d⟩ := I.pin p hp
      exact ⟨(hs.2 p.1 ne).trans e, n, ne, nf, d⟩
  · have hfn : X.fn x = true := by
      rcases hf with z | z
      · exact z
      · rw [z] at hk; cases hk
    obtain ⟨c, hc⟩ := I.ok.has x (.inl hk)
    obtain ⟨w', z⟩ := I.cell x c hc
    refine wpAny_storeName_cell I.ok.kind hk hc z (fun h' hc' hs => ?_)
    obtain ⟨oc, hoc, hocd⟩ := id z
    refine h { s with heap := h' } ⟨I.ok, I.os, I.bare, ⟨fun b o e n hb hx => ?_, fun b o e n hb hx => ?_, I.base.free, fun b o e hx => ?_, I.base.tups, I.base.frzs, I.base.tbls⟩, ⟨m, hn.sameBut hs (Ne.symm (cne x c hc)), fun j y v' e1 e2 e3 => ?_⟩, fun y c' e => ?_, I.free, I.freeC, fun p hp => ?_, tracked ⟨oc, hoc, I.freeC x c hc⟩ hs, by simpa using I.len⟩ ⟨c, hs, .inr hc⟩
    · exact (hs.2 b (Nat.ne_of_lt (Nat.lt_of_lt_of_le (Heap.lt_size e) (I.ok.cab x c hfn hc)))).trans (I.base.keep b o e n hb hx)
    · obtain ⟨sl, e1⟩ := I.base.slot b o e n hb hx
      exact ⟨sl, (hs.2 b (Nat.ne_of_lt (Nat.lt_of_lt_of_le (Heap.lt_size e) (I.ok.cab x c hfn hc)))).trans e1⟩
    · obtain ⟨o', e1⟩ := I.base.there b o e hx
      exact ⟨o', (hs.2 b (Nat.ne_of_lt (Nat.lt_of_lt_of_le (Heap.lt_size e) (I.ok.cab x c hfn hc)))).trans e1⟩
    · by_cases hj : j = i
      · subst hj
        rw [hi] at e1; cases e1
        rw [List.getElem?_set_self hiσ] at e2
        cases e2
        exact ⟨u, r, .inr ⟨.inl hk, c, hc, hc'⟩⟩
      · rw [List.getElem?_set_ne (Ne.symm hj)] at e2
        obtain ⟨u', r', q⟩ := hl j y v' e1 e2 e3
        refine ⟨u', r', ?_⟩
        rcases q with q | ⟨k, c', e, z'⟩
        · exact .inl q
        · refine .inr ⟨k, c', e, z'.sameBut hs ?_⟩
          rintro rfl
          exact hj (nodup_ix hN e1 (I.ok.inj _ _ _ e hc ▸ hi))
    · by_cases hcc : c' = c
      · subst hcc; exact ⟨_, hc'⟩
      · obtain ⟨w2, z2⟩ := I.cell y c' e
        exact ⟨w2, z2.sameBut hs hcc⟩
    · obtain ⟨e, n, ne, nf, d⟩ := I.pin p hp
      refine ⟨(hs.2 p.1 ?_).trans e, n, ne, nf, d⟩
      intro q
      rw [q, hoc] at e
      have q' : oc = p.2 := Option.some.inj e
      exact d w' (by rw [← q']; exact hocd)
theorem store_ok {M : Model} {A : Around} {E : Value → Shared → Prop} {i : Nat} {x : Str} {v : V} {u : Value} {Q : Unit → Shared → Prop} (I : Inv X pins σ H s) (hN : X.N.Nodup) (hi : X.N[i]? = some x) (hx : Loc X.env.scope x) (r : RelV v u)
    (h : ∀ s', Inv X pins (σ.set i (some v)) H s' → Q () s') (hf : X.fn x = true ∨ X.env.scope.names.lookup x = some .local := by first | exact .inl rfl | exact .inr rfl | assumption) : wpAny M A (storeName X.env x u) Q E s :=
  store_ok2 I hN hi hx r (fun s' I' _ => h s' I') hf
theorem Inv.call' {s' : Shared} {ch : List Addr} (I : Inv X pins σ H s) (ho : s'.os = s.os) (u : Un (frs X.stack) ch H H' s.heap s'.heap) (hok : HOk X.prog X.w H' s'.heap) (hg : AllBare s'.gens)
    (hch : ∀ b ∈ ch, (b ∈ X.ex ∨ X.s₀.heap.objs.size ≤ b) ∧ b ≠ X.env.locals ∧ (∀ x c, X.env.cells.lookup x = some c → c ≠ b) ∧ ∀ p ∈ X.pn ++ pins, p.1 ≠ b) : Inv X pins σ H' s' := by
  obtain ⟨h', g', d', t', o'⟩ := s'
  have e : o' = s.os := ho
  subst e
  exact I.call (g' := g') (t' := t') (d' := d') u hok hg hch
end
abbrev XK := Value → Option Addr → Hp → Prop
abbrev St := List (Option V)
abbrev VK := V → Hp → Prop
abbrev TE := St → Hp → VK → Prop
abbrev TT := St → Hp → (Bool → Hp → Prop) → Prop
abbrev TA := St → Hp → (List V → Hp → Prop) → Prop
structure Ends where
  nx : St → Hp → Prop
  rt : VK
  bk : St → Hp → Prop := fun _ _ => False
  ct : St → Hp → Prop := fun _ _ => False
abbrev TS := Ends → St → Hp → Prop
def EP (X : Cx) (pins : List (Addr × Obj)) (σ : St) (Q : VK) (u : Value) (s' : Shared) : Prop := ∃ v H', Inv X pins σ H' s' ∧ RelV v u ∧ Q v H'
def TP (X : Cx) (pins : List (Addr × Obj)) (σ : St) (Q : Bool → Hp → Prop) (b : Bool) (s' : Shared) : Prop := ∃ H', Inv X pins σ H' s' ∧ Q b H'
def AP (X : Cx) (pins : List (Addr × Obj)) (σ : St) (Q : List V → Hp → Prop) (us : List Value) (s' : Shared) : Prop := ∃ vs H', Inv X pins σ H' s' ∧ Vals vs us ∧ Q vs H'
def SP (X : Cx) (pins : List (Addr × Obj)) (D : Ends) (f : Flow) (s' : Shared) : Prop :=
  match f with
  | .next => ∃ σ' H', Inv X pins σ' H' s' ∧ D.nx σ' H'
  | .brk => ∃ σ' H', Inv X pins σ' H' s' ∧ D.bk σ' H'
  | .cont => ∃ σ' H', Inv X pins σ' H' s' ∧ D.ct σ' H'
  | .ret u => ∃ v σ' H', Inv X pins σ' H' s' ∧ RelV v u ∧ D.rt v H'
def PE (X : Cx) (e : Expr) (t : TE) : Prop :=
  ∀ (pins : List (Addr × Obj)) (s : Shared) (σ : St) (H : Hp) (Q : VK), Inv X pins σ H s → t σ H Q → wpAny (model X.prog X.w) X.A (eval e X.env) (EP X pins σ Q) X.xe s
def PT (X : Cx) (e : Expr) (t : TT) : Prop :=
  ∀ (pins : List (Addr × Obj)) (s : Shared) (σ : St) (H : Hp) (Q : Bool → Hp → Prop), Inv X pins σ H s → t σ H Q → wpAny (model X.prog X.w) X.A (isTrue e X.env (eval e X.env)) (TP X pins σ Q) X.xe s
def PW (X : Cx) (e : Expr) (t : TT) : Prop :=
  ∀ (whole : Sem Value) (pins : List (Addr × Obj)) (s : Shared) (σ : St) (H : Hp) (Q : Bool → Hp → Prop), Inv X pins σ H s → t σ H Q → wpAny (model X.prog X.w) X.A (isTrue e X.env whole) (TP X pins σ Q) X.xe s
theorem PW.pt {X : Cx} {e : Expr} {t : TT} (h : PW X e t) : PT X e t := h _
def PA (X : Cx) (es : List Expr) (t : TA) : Prop :=
  ∀ (pos : Pos) (pins : List (Addr × Obj)) (s : Shared) (σ : St) (H : Hp) (Q : List V → Hp → Prop), Inv X pins σ H s → t σ H Q → wpAny (model X.prog X.w) X.A (spliced (backTo pos (starEach es X.env))) (AP X pins σ Q) X.xe s
def PS (X : Cx) (st : Stmt) (t : TS) : Prop :=
  ∀ (pins : List (Addr × Obj)) (s : Shared) (σ : St) (H : Hp) (D : Ends), Inv X pins σ H s → t D σ H → wpAny (model X.prog X.w) X.A (exec st X.env) (SP X pins D) X.xe s
def PSs (X : Cx) (st : List Stmt) (t : TS) : Prop :=
  ∀ (pins : List (Addr × Obj)) (s : Shared) (σ : St) (H : Hp) (D : Ends), Inv X pins σ H s → t D σ H → wpAny (model X.prog X.w) X.A (execs st X.env) (SP X pins D) X.xe s
theorem thn {α : Type} {t : Sem α} {Q Q' : α → Shared → Prop} {M : Model} {A : Around} {E : Value → Shared → Prop} {s : Shared} (h : wpAny M A t Q E s) (hQ : ∀ a s, Q a s → Q' a s) : wpAny M A t Q' E s := wpAny_mono h hQ fun _ _ x => x
end L2
namespace L2
open PySem PySem.Spec PyProof.Rows
section
variable {X : Cx}
def tVar (i : Nat) : TE := fun σ H Q => ∃ v, σ[i]? = some (some v) ∧ Q v H
def tC (v : V) : TE := fun _ H Q => Q v H
theorem pe_var {i : Nat} {x : Str} {pos : Pos} (hN : X.N[i]? = some x) (hv : Vis X.env.scope x) (hd : (x == ("__debug__" : Str)) = false := by decide) (hcd : (x == ("__classdict__" : Str)) = false := by decide) : PE X (.Name x pos) (tVar i) := by
  intro pins s σ H Q I h
  obtain ⟨v, e, h⟩ := h
  obtain ⟨m, hn, hl⟩ := I.loc
  obtain ⟨u, r, l⟩ := hl i x v hN e hv
  have fin : EP X pins σ Q u s := ⟨v, H, I, r, h⟩
  rcases l with ⟨hk, hm⟩ | ⟨hk, c, hc, hcell⟩
  · exact wpAny_Name (wpAny_loadName_local I.ok.kind hk hn hm fin) hd
  · rcases hk with hk | hk
    · exact wpAny_Name (wpAny_loadName_cell I.ok.kind hk hc hcell fin) hd
    · exact wpAny_Name (wpAny_loadName_free I.ok.kind hk hc hcell fin hcd) hd
theorem pe_int {i j pos} : PE X (.Constant (.int i) j pos) (tC (.int i)) := fun _ _ _ H _ I h => wpAny_Constant_int ⟨.int i, H, I.tok _, ⟨_, rfl⟩, h⟩
theorem pe_bl {b j pos} : PE X (.Constant (.bool b) j pos) (tC (.bl b)) := fun _ _ _ H _ I h => Constant_bool ⟨.bl b, H, I, rfl, h⟩
theorem pe_non {j pos} : PE X (.Constant .none j pos) (tC .non) := fun _ _ _ H _ I h => Constant_none ⟨.non, H, I, rfl, h⟩
theorem pe_str {x j pos} : PE X (.Constant (.str x) j pos) (tC (.str x)) := fun _ _ _ H _ I h => Calls.Constant_str ⟨.str x, H, I.tok _, ⟨_, rfl⟩, h⟩
def Gl (X : Cx) (x : Str) : Prop := X.env.kindOf x = some .globalImplicit
theorem ld_glob {E : Value → Shared → Prop} {pins : List (Addr × Obj)} {s : Shared} {σ : St} {H : Hp} {x : Str} {u : Value} {pos : Pos} {Q : Value → Shared → Prop} (I : Inv X pins σ H s) (hg : Gl X x) (hm : X.mg x = some u) (h : Q u s)
    (hd : (x == ("__debug__" : Str)) = false := by decide) : wpAny (model X.prog X.w) X.A (eval (.Name x pos) X.env) Q E s :=
  Calls.Name_function_global I.ok.kind hg (Calls.loadGlobal_global (by rw [I.ok.glob]; exact I.mod.glob.keeps I.bk) hm h) hd
theorem ld_blt {E : Value → Shared → Prop} {pins : List (Addr × Obj)} {s : Shared} {σ : St} {H : Hp} {x : Str} {u : Value} {pos : Pos} {Q : Value → Shared → Prop} (I : Inv X pins σ H s) (hg : Gl X x) (hm : X.mg x = none) (hv : bootBuiltins x = some u) (h : Q u s)
    (hn : x ≠ "__name__" := by decide) (hd : (x == ("__debug__" : Str)) = false := by decide) : wpAny (model X.prog X.w) X.A (eval (.Name x pos) X.env) Q E s := by
  obtain ⟨mb, h1, h2⟩ := I.mod.blt
  exact Calls.Name_function_global I.ok.kind hg (Calls.loadGlobal_builtin (by rw [I.ok.glob]; exact I.mod.glob.keeps I.bk) hm (by rw [I.ok.blt]; exact h1.keeps I.bk) ((h2 x hn).trans hv) h) hd
theorem pe_glob {x : Str} {v : V} {u : Value} {pos : Pos} (hg : Gl X x) (hm : X.mg x = some u) (r : RelV v u) (hd : (x == ("__debug__" : Str)) = false := by decide) : PE X (.Name x pos) (tC v) :=
  fun _ _ _ H _ I h => ld_glob I hg hm ⟨v, H, I, r, h⟩ hd
theorem pe_bltn {x : Str} {v : V} {u : Value} {pos : Pos} (hg : Gl X x) (hm : X.mg x = none) (hv : bootBuiltins x = some u) (r : RelV v u) (hn : x ≠ "__name__" := by decide) (hd : (x == ("__debug__" : Str)) = false := by decide) : PE X (.Name x pos) (tC v) :=
  fun _ _ _ H _ I h => ld_blt I hg hm hv ⟨v, H, I, r, h⟩ hn hd
variable {a b : Expr} {ta tb : TE} {pos : Pos}
def tB (t : TE) : TT := fun σ H Q => t σ H fun x H1 => ∃ c, x = .bl c ∧ Q c H1
theorem pt_val {e : Expr} {t : TE} (h : PE X e t) (he : ∀ whole, isTrue e X.env whole = (do let v ← whole; standAt e.pos; holding [v] (truthy v)) := by intro _; rfl) : PT X e (tB t) := by
  intro pins s σ H Q I hw
  refine isTrue_plain (thn (h pins s σ H _ I hw) fun v s1 ⟨x, H1, I1, r1, q1⟩ => ?_) (he _)
  obtain ⟨d, rfl, q⟩ := q1
  cases r1
  exact wpAny_truthy_bool ⟨H1, I1, q⟩
variable {tA tB' : TT} {rest : List Expr}
def tAnd (t u : TT) : TT := fun σ H Q => t σ H fun c H1 => if c = true then u σ H1 Q else Q false H1
def tOr (t u : TT) : TT := fun σ H Q => t σ H fun c H1 => if c = true then Q true H1 else u σ H1 Q
def tNot (t : TT) : TT := fun σ H Q => t σ H fun c H1 => Q (!c) H1
theorem pw_and1 (ha : PT X a tA) : PW X (.BoolOp .And [a] pos) tA := by
  intro wh pins s σ H Q I h
  refine isTrue_and (thn (ha pins s σ H Q I h) fun c s1 e => ?_)
  cases c with
  | true => exact isTrue_and_nil e
  | false => exact e
theorem pw_or1 (ha : PT X a tA) : PW X (.BoolOp .Or [a] pos) tA := by
  intro wh pins s σ H Q I h
  refine isTrue_or (thn (ha pins s σ H Q I h) fun c s1 e => ?_)
  cases c with
  | false => exact isTrue_or_nil e
  | true => exact e
theorem pw_and (ha : PT X a tA) (hb : PW X (.BoolOp .And (b :: rest) pos) tB') : PW X (.BoolOp .And (a :: b :: rest) pos) (tAnd tA tB') := by
  intro wh pins s σ H Q I h
  refine isTrue_and (thn (ha pins s σ H _ I h) fun c s1 ⟨H1, I1, q1⟩ => ?_)
  cases c with
  | true => exact hb wh pins s1 σ H1 Q I1 q1
  | false => exact ⟨H1, I1, q1⟩
theorem pw_or (ha : PT X a tA) (hb : PW X (.BoolOp .Or (b :: rest) pos) tB') : PW X (.BoolOp .Or (a :: b :: rest) pos) (tOr tA tB') := by
  intro wh pins s σ H Q I h
  refine isTrue_or (thn (ha pins s σ H _ I h) fun c s1 ⟨H1, I1, q1⟩ => ?_)
  cases c with
  | true => exact ⟨H1, I1, q1⟩
  | false => exact hb wh pins s1 σ H1 Q I1 q1
theorem pt_not (ha : PT X a tA) : PT X (.UnaryOp .Not a pos) (tNot tA) := by
  intro pins s σ H Q I h
  exact isTrue_not (ha pins s σ H (fun c H1 => Q (!c) H1) I h)
def tAndV (ta tb : TE) : TE := fun σ H Q => ta σ H fun x H1 => ∃ c, x = .bl c ∧ if c = true then tb σ H1 Q else Q (.bl false) H1
def tOrV (ta tb : TE) : TE := fun σ H Q => ta σ H fun x H1 => ∃ c, x = .bl c ∧ if c = true then Q (.bl true) H1 else tb σ H1 Q
def tNotV (ta : TE) : TE := fun σ H Q => ta σ H fun x H1 => ∃ c, x = .bl c ∧ Q (.bl (!c)) H1
theorem pe_one {op} {t : TE} (h : PE X a t) : PE X (.BoolOp op [a] pos) t := fun pins s σ H Q I hw => BoolOp_one (h pins s σ H Q I hw)
theorem pe_and (ha : PE X a ta) (hb : PE X (.BoolOp .And (b :: rest) pos) tb) : PE X (.BoolOp .And (a :: b :: rest) pos) (tAndV ta tb) := by
  intro pins s σ H Q I h
  refine BoolOp_and (thn (ha pins s σ H _ I h) fun v s1 ⟨x, H1, I1, r1, q1⟩ => ?_)
  obtain ⟨c, rfl, q1⟩ := q1
  cases r1
  refine wpAny_truthy_bool ?_
  cases c with
  | true => exact hb pins s1 σ H1 Q I1 q1
  | false => exact ⟨.bl false, H1, I1, rfl, q1⟩
theorem pe_or (ha : PE X a ta) (hb : PE X (.BoolOp .Or (b :: rest) pos) tb) : PE X (.BoolOp .Or (a :: b :: rest) pos) (tOrV ta tb) := by
  intro pins s σ H Q I h
  refine BoolOp_or (thn (ha pins s σ H _ I h) fun v s1 ⟨x, H1, I1, r1, q1⟩ => ?_)
  obtain ⟨c, rfl, q1⟩ := q1
  cases r1
  refine wpAny_truthy_bool ?_
  cases c with
  | false => exact hb pins s1 σ H1 Q I1 q1
  | true => exact ⟨.bl true, H1, I1, rfl, q1⟩
theorem pe_not (ha : PE X a ta) : PE X (.UnaryOp .Not a pos) (tNotV ta) := by
  intro pins s σ H Q I h
  refine UnaryOp_ (thn (ha pins s σ H _ I h) fun v s1 ⟨x, H1, I1, r1, q1⟩ => ?_)
  obtain ⟨c, rfl, q1⟩ := q1
  cases r1
  exact not_of (wpAny_truthy_bool ⟨.bl (!c), H1, I1, rfl, q1⟩)
def tIf (t : TT) (ta tb : TE) : TE := fun σ H Q => t σ H fun c H1 => if c = true then ta σ H1 Q else tb σ H1 Q
theorem pe_ifExp {c : Expr} (hc : PT X c tA) (ha : PE X a ta) (hb : PE X b tb) : PE X (.IfExp c a b pos) (tIf tA ta tb) := by
  intro pins s σ H Q I h
  refine wpAny_IfExp (thn (hc pins s σ H _ I h) fun d s1 ⟨H1, I1, q1⟩ => ?_)
  cases d with
  | true => exact ha pins s1 σ H1 Q I1 q1
  | false => exact hb pins s1 σ H1 Q I1 q1
end
end L2
namespace L2
open PySem PySem.Spec PyProof.Rows
def SqL (K : PySem.W.Frag) (H : Hp) (a : Addr) (xs : List V) : Prop :=
  Rd H a (.lst xs) ∨
    ∃ (o : Obj) (its : Array Value) (n : Nat), K.lookup a = some o ∧ o.cls = .type "list" ∧ o.dict = none ∧ o.data = .seq its n ∧ its.size ≤ sizeLine ∧ Vals xs its.toList
def SqT (K : PySem.W.Frag) (H : Hp) (a : Addr) (xs : List V) : Prop :=
  Rd H a (.tup xs) ∨
    ∃ (o : Obj) (its : Array Value) (n : Nat), K.lookup a = some o ∧ o.cls = .type "tuple" ∧ o.data = .seq its n ∧ its.size ≤ sizeLine ∧ Vals xs its.toList
def absV : Value → Option V
  | .none => some .non
  | .bool b => some (.bl b)
  | .int i _ => some (.int i)
  | .str x _ => some (.str x)
  | .bytes b _ => some (.byt b)
  | .float b _ => some (.flt b)
  | .ref a => some (.ref a)
  | .type n => some (.ty n)
  | _ => none
theorem RelV.abs {x : V} {u : Value} (r : RelV x u) : absV u = some x := by
  cases x with
  | non => cases r; rfl
  | bl _ => cases r; rfl
  | int _ => obtain ⟨t, rfl⟩ := r; rfl
  | str _ => obtain ⟨t, rfl⟩ := r; rfl
  | byt _ => obtain ⟨t, rfl⟩ := r; rfl
  | flt _ => obtain ⟨t, rfl⟩ := r; rfl
  | ref _ => cases r; rfl
  | ty _ => cases r; rfl
theorem RelV.inj {x y : V} {u : Value} (r : RelV x u) (q : RelV y u) : x = y := Option.some.inj (r.abs.symm.trans q.abs)
theorem Vals.inj : ∀ {xs ys : List V} {us : List Value}, Vals xs us → Vals ys us → xs = ys
  | _, _, _, .nil, .nil => rfl
  | _, _, _, .cons r t, .cons r' t' => by rw [r.inj r', Vals.inj t t']
section
variable {X : Cx} {pins : List (Addr × Obj)} {σ : St} {H : Hp} {s : Shared} {a : Addr} {xs ys : List V}
theorem SqL.of {K : PySem.W.Frag} (h : H a = some (.lst xs)) : SqL K H a xs := .inl (.inl h)
theorem SqT.of {K : PySem.W.Frag} (h : H a = some (.tup xs)) : SqT K H a xs := .inl (.inl h)
theorem Inv.list (I : Inv X pins σ H s) (h : SqL X.K H a xs) : ∃ its : List Value, Vals xs its ∧ PlainL s.heap a its.toArray ∧ xs.length ≤ sizeLine := by
  rcases h with h | ⟨o, its, n, hk, hc, hd, hs, hz, r⟩
  · obtain ⟨z, its, n, r, e⟩ := h.ok I.hok
    exact ⟨its, r, ⟨_, n, e, rfl, rfl, rfl⟩, z⟩
  · refine ⟨its.toList, r, ⟨o, n, I.kIn a o hk, hc, hd, by simpa using hs⟩, ?_⟩
    have e := r.length
    simp only [Array.length_toList] at e
    omega
theorem Inv.tuple (I : Inv X pins σ H s) (h : SqT X.K H a xs) : ∃ its : List Value, Vals xs its ∧ IsTup s.heap a its.toArray ∧ xs.length ≤ sizeLine := by
  rcases h with h | ⟨o, its, n, hk, hc, hs, hz, r⟩
  · obtain ⟨z, its, r, p⟩ := h.ok I.hok
    exact ⟨its, r, p, z⟩
  · refine ⟨its.toList, r, ⟨o, I.kIn a o hk, hc, n, by simpa using hs⟩, ?_⟩
    have e := r.length
    simp only [Array.length_toList] at e
    omega
theorem Inv.list_inj (I : Inv X pins σ H s) (h : SqL X.K H a xs) (h' : SqL X.K H a ys) : xs = ys := by
  obtain ⟨its, r, ⟨o, n, e, _, _, d⟩, _⟩ := I.list h
  obtain ⟨its', r', ⟨o', n', e', _, _, d'⟩, _⟩ := I.list h'
  rw [e] at e'; cases e'
  rw [d] at d'
  injection d' with d1 _
  have : its = its' := by simpa using congrArg Array.toList d1
  subst this
  exact r.inj r'
theorem Inv.tuple_inj (I : Inv X pins σ H s) (h : SqT X.K H a xs) (h' : SqT X.K H a ys) : xs = ys := by
  obtain ⟨its, r, ⟨o, e, _, n, d⟩, _⟩ := I.tuple h
  obtain ⟨its', r', ⟨o', e', _, n', d'⟩, _⟩ := I.tuple h'
  rw [e] at e'; cases e'
  rw [d] at d'
  injection d' with d1 _
  have : its = its' := by simpa using congrArg Array.toList d1
  subst this
  exact r.inj r'
end
abbrev Cx.wish (X : Cx) (E : Value → Shared → Prop) : Cx := { X with xe := E }
abbrev Cx.nox (X : Cx) : Cx := X.wish fun _ _ => False
theorem Cx.Ok.wish {X : Cx} (ok : X.Ok) (E : Value → Shared → Prop) : (X.wish E).Ok :=
  ⟨ok.mod, ok.kind, ok.glob, ok.blt, ok.above, ok.inj, ok.has, ok.cab, ok.hd, ok.frames, ok.stk, ok.exf, ok.bs, ok.bsz, ok.noex, ok.exfs, ok.funs, ok.frf⟩
theorem Cx.Ok.unwish {X : Cx} {E : Value → Shared → Prop} (ok : (X.wish E).Ok) : X.Ok :=
  ⟨ok.mod, ok.kind, ok.glob, ok.blt, ok.above, ok.inj, ok.has, ok.cab, ok.hd, ok.frames, ok.stk, ok.exf, ok.bs, ok.bsz, ok.noex, ok.exfs, ok.funs, ok.frf⟩
section
variable {X : Cx} {pins : List (Addr × Obj)} {σ : St} {H : Hp} {s : Shared} {E : Value → Shared → Prop}
theorem Inv.wish (I : Inv X pins σ H s) (E : Value → Shared → Prop) : Inv (X.wish E) pins σ H s := ⟨I.ok.wish E, I.os, I.bare, I.base, I.loc, I.cell, I.free, I.freeC, I.pin, I.hok, I.len⟩
theorem Inv.unwish (I : Inv (X.wish E) pins σ H s) : Inv X pins σ H s := ⟨I.ok.unwish, I.os, I.bare, I.base, I.loc, I.cell, I.free, I.freeC, I.pin, I.hok, I.len⟩
theorem SP.unwish {D : Ends} {f : Flow} {s' : Shared} (h : SP (X.wish E) pins D f s') : SP X pins D f s' := by
  cases f with
  | next => obtain ⟨σ', H', I, q⟩ := h; exact ⟨σ', H', I.unwish, q⟩
  | brk => obtain ⟨σ', H', I, q⟩ := h; exact ⟨σ', H', I.unwish, q⟩
  | cont => obtain ⟨σ', H', I, q⟩ := h; exact ⟨σ', H', I.unwish, q⟩
  | ret u => obtain ⟨v, σ', H', I, r, q⟩ := h; exact ⟨v, σ', H', I.unwish, r, q⟩
theorem PE.nox {e : Expr} {t : TE} (h : PE X.nox e t) : PE X e t := fun pins s σ H Q I hw =>
  wpAny_mono (h pins s σ H Q (I.wish _) hw) (fun _ _ ⟨v, H', I', r, q⟩ => ⟨v, H', I'.unwish, r, q⟩) fun _ _ z => False.elim z
theorem PSs.nox {st : List Stmt} {t : TS} (h : PSs X.nox st t) : PSs X st t := fun pins s σ H D I hw =>
  wpAny_mono (h pins s σ H D (I.wish _) hw) (fun _ _ q => q.unwish) fun _ _ z => False.elim z
end
section
variable {X : Cx} {st : Stmt} {rest : List Stmt} {t u : TS} {e : Expr} {te : TE} {pos : Pos}
def tNext : TS := fun D σ H => D.nx σ H
def tSeq (t u : TS) : TS := fun D σ H => t { D with nx := u D } σ H
theorem pss_nil : PSs X [] tNext := fun _ _ σ H _ I h => wpAny_execs_nil ⟨σ, H, I, h⟩
theorem pss_cons (h1 : PS X st t) (h2 : PSs X rest u) : PSs X (st :: rest) (tSeq t u) := by
  intro pins s σ H D I h
  refine wpAny_execs_cons (thn (h1 pins s σ H { D with nx := u D } I h) fun f s1 q => ?_)
  cases f with
  | next =>
    obtain ⟨σ', H', I', q⟩ := q
    exact h2 pins s1 σ' H' D I' q
  | ret v => exact q
  | brk => exact q
  | cont => exact q
theorem pss_one (h1 : PS X st t) : PSs X [st] t := by
  intro pins s σ H D I h
  refine wpAny_execs_cons (thn (h1 pins s σ H D I h) fun f s1 q => ?_)
  cases f with
  | next => exact wpAny_execs_nil q
  | ret v => exact q
  | brk => exact q
  | cont => exact q
theorem Inv.quiet {pins : List (Addr × Obj)} {σ : St} {H : Hp} {s : Shared} (I : Inv X pins σ H s) : interactive X.env = false := by simp [interactive, I.ok.kind]
def tDrop (te : TE) : TS := fun D σ H => te σ H fun _ H1 => D.nx σ H1
theorem ps_expr (he : PE X e te) (hs : swapsWith e none pos.line X.env = pure false := by rfl) : PS X (.Expr e pos) (tDrop te) := by
  intro pins s σ H D I h
  exact wpAny_Expr_any (thn (he pins s σ H _ I h) fun v s1 ⟨x, H1, I1, r1, q1⟩ => ⟨σ, H1, I1, q1⟩) I.quiet hs
def tRet (te : TE) : TS := fun D σ H => te σ H D.rt
theorem ps_ret (he : PE X e te) : PS X (.Return (some e) pos) (tRet te) := by
  intro pins s σ H D I h
  exact wpAny_Return_some (thn (he pins s σ H _ I h) fun v s1 ⟨x, H1, I1, r1, q1⟩ => ⟨x, σ, H1, I1, r1, q1⟩)
def tIfS (c : TT) (t u : TS) : TS := fun D σ H => c σ H fun b H1 => if b = true then t D σ H1 else u D σ H1
theorem ps_if {c : Expr} {a b : List Stmt} {tc : TT} (hc : PT X c tc) (ha : PSs X a t) (hb : PSs X b u) : PS X (.If c a b pos) (tIfS tc t u) := by
  intro pins s σ H D I h
  refine wpAny_If (thn (hc pins s σ H _ I h) fun d s1 ⟨H1, I1, q1⟩ => ?_)
  cases d with
  | true => exact ha pins s1 σ H1 D I1 q1
  | false => exact hb pins s1 σ H1 D I1 q1
def tNever : TS := fun _ _ _ => False
theorem pss_never {sts : List Stmt} : PSs X sts tNever := fun _ _ _ _ _ _ h => h.elim
end
abbrev TG := V → St → Hp → (St → Hp → Prop) → Prop
abbrev TGs := List V → St → Hp → (St → Hp → Prop) → Prop
def PG (X : Cx) (target : Expr) (t : TG) : Prop :=
  ∀ (pins : List (Addr × Obj)) (s : Shared) (σ : St) (H : Hp) (v : V) (u : Value) (Q : St → Hp → Prop), Inv X pins σ H s → RelV v u → t v σ H Q →
    wpAny (model X.prog X.w) X.A (assign target X.env u) (fun _ s' => ∃ σ' H', Inv X pins σ' H' s' ∧ Q σ' H') X.xe s
def PGs (X : Cx) (ts : List Expr) (t : TGs) : Prop :=
  ∀ (pins : List (Addr × Obj)) (s : Shared) (σ : St) (H : Hp) (vs : List V) (us : List Value) (Q : St → Hp → Prop), Inv X pins σ H s → Vals vs us → t vs σ H Q →
    wpAny (model X.prog X.w) X.A (assignInOrder ((assignEach ts X.env).map (·.2)) us) (fun _ s' => ∃ σ' H', Inv X pins σ' H' s' ∧ Q σ' H') X.xe s
abbrev TSet := V → V → V → Hp → (Hp → Prop) → Prop
def PSet (X : Cx) (t : TSet) : Prop :=
  ∀ (pins : List (Addr × Obj)) (s : Shared) (σ : St) (H : Hp) (o i v : V) (ov iv u : Value) (Q : Hp → Prop), Inv X pins σ H s → RelV o ov → RelV i iv → RelV v u → t o i v H Q →
    wpAny (model X.prog X.w) X.A (setItem ov iv u) (fun _ s' => ∃ H', Inv X pins σ H' s' ∧ Q H') X.xe s
section
variable {X : Cx} {pos : Pos}
def gName (i : Nat) : TG := fun v σ H Q => Q (σ.set i (some v)) H
theorem pg_name {i : Nat} {x : Str} (hN : X.N.Nodup) (hi : X.N[i]? = some x) (hx : Loc X.env.scope x) (hf : X.fn x = true ∨ X.env.scope.names.lookup x = some .local := by first | exact .inl rfl | exact .inr rfl | assumption) : PG X (.Name x pos) (gName i) := by
  intro pins s σ H v u Q I r h
  exact wpAny_assign_Name (store_ok I hN hi hx r (fun s' I' => ⟨_, H, I', h⟩) hf)
def gNil : TGs := fun vs σ H Q => vs = [] ∧ Q σ H
def gCons (t : TG) (u : TGs) : TGs := fun vs σ H Q => ∃ v r, vs = v :: r ∧ t v σ H fun σ' H' => u r σ' H' Q
theorem pgs_nil : PGs X [] gNil := by
  intro pins s σ H vs us Q I r h
  obtain ⟨e, h⟩ := h
  subst e
  cases r
  exact assignInOrder_nil ⟨σ, H, I, h⟩
theorem pgs_cons {e : Expr} {es : List Expr} {t : TG} {u : TGs} (h1 : PG X e t) (h2 : PGs X es u)
    (hs : (assignEach (e :: es) X.env).map (·.2) = assign e X.env :: (assignEach es X.env).map (·.2) := by rfl) : PGs X (e :: es) (gCons t u) := by
  intro pins s σ H vs us Q I r h
  obtain ⟨v, vr, e1, h⟩ := h
  subst e1
  cases r with
  | cons r rr =>
    rw [hs]
    refine assignInOrder_cons (thn (h1 pins s σ H _ _ _ I r h) fun _ s1 ⟨σ1, H1, I1, q1⟩ => ?_)
    exact h2 pins s1 σ1 H1 _ _ Q I1 rr q1
def gTup (K : PySem.W.Frag) (n : Nat) (t : TGs) : TG := fun v σ H Q => ∃ a xs, v = .ref a ∧ SqT K H a xs ∧ xs.length = n ∧ t xs σ H Q
theorem pg_tup {es : List Expr} {k : Nat} {t : TGs} {n : Nat} (hc : X.calm = true) (h : PGs X es t)
    (hn : (assignEach es X.env).length = n := by rfl) (hst : (assignEach es X.env).findIdx? (·.1) = none := by rfl) : PG X (.Tuple es k pos) (gTup X.K n t) := by
  intro pins s σ H v u Q I r hw
  obtain ⟨a, xs, e1, hq, hl, hw⟩ := hw
  subst e1
  cases r
  obtain ⟨its, rv, ht, hz⟩ := I.tuple hq
  refine assign_Tuple_tuple (I.ok.hd hc) ht (by simp [hn, ← hl, rv.length]) hst fun h' hx => ?_
  have I1 : Inv X pins σ H { s with heap := h' } := I.kept (t' := s.toks) fun b o e => hx b o (Nat.ne_of_lt (Heap.lt_size e)) e
  exact h pins _ σ H xs _ Q I1 (by simpa using rv) hw
def gSub (to ti : TE) (t : TSet) : TG := fun v σ H Q => to σ H fun o H1 => ti σ H1 fun i H2 => t o i v H2 fun H3 => Q σ H3
theorem pg_sub {o i : Expr} {to ti : TE} {t : TSet} (ho : PE X o to) (hi : PE X i ti) (hs : PSet X t)
    (ha : ∀ v, assign (.Subscript o i pos) X.env v = (do
      let ov ← holding [v] (eval o X.env)
      let iv ← holding [v, ov] (eval i X.env)
      standAt pos
      holding [v, ov, iv] (setItem ov iv v)
      release [v, ov, iv] []) := by intro _; rfl) : PG X (.Subscript o i pos) (gSub to ti t) := by
  intro pins s σ H v u Q I r h
  rw [ha]
  refine wpAny_bind (wpAny_holding (thn (ho pins s σ H _ I h) fun ov s1 ⟨x, H1, I1, r1, q1⟩ => ?_))
  refine wpAny_bind (wpAny_holding (thn (hi pins s1 σ H1 _ I1 q1) fun iv s2 ⟨y, H2, I2, r2, q2⟩ => ?_))
  refine wpAny_bind (wpAny_standAt (wpAny_bind (wpAny_holding (thn (hs pins s2 σ H2 x y v ov iv u _ I2 r1 r2 r q2) fun _ s3 ⟨H3, I3, q3⟩ => ?_))))
  exact wpAny_release ⟨σ, H3, I3, q3⟩
def tAsg (te : TE) (g : TG) : TS := fun D σ H => te σ H fun x H1 => g x σ H1 D.nx
theorem ps_asg {tg e : Expr} {te : TE} {g : TG} (he : PE X e te) (hg : PG X tg g) (hs : swapsWithSole [tg] e pos.line X.env = pure false := by rfl) (hw : swappedStores [tg] e X.env = pure none := by rfl)
    (h1 : (assignEach [tg] X.env).map (·.2) = [assign tg X.env] := by rfl) : PS X (.Assign [tg] e pos) (tAsg te g) := by
  intro pins s σ H D I h
  refine wpAny_Assign_stores (thn (he pins s σ H _ I h) fun v s1 ⟨x, H1, I1, r1, q1⟩ => ?_) hs hw
  rw [h1]
  exact thn (hg pins s1 σ H1 x v _ I1 r1 q1) fun _ s2 q => q
theorem ps_set {i : Nat} {x : Str} {e : Expr} {te : TE} {pos' : Pos} (hN : X.N.Nodup) (hi : X.N[i]? = some x) (hx : Loc X.env.scope x) (he : PE X e te) (hs : swapsWith e (some (.Name x pos')) pos.line X.env = pure false := by rfl) (hf : X.fn x = true ∨ X.env.scope.names.lookup x = some .local := by first | exact .inl rfl | exact .inr rfl | assumption) :
    PS X (.Assign [.Name x pos'] e pos) (tAsg te (gName i)) := by
  intro pins s σ H D I h
  refine wpAny_Assign_Name (thn (he pins s σ H _ I h) fun v s1 ⟨y, H1, I1, r1, q1⟩ => ?_) hs
  exact store_ok I1 hN hi hx r1 (fun s2 I2 => ⟨_, H1, I2, q1⟩) hf
def tPar (i j : Nat) (ta : TA) : TS := fun D σ H => ta σ H fun vs H1 => ∃ v w, vs = [v, w] ∧ D.nx ((σ.set i (some v)).set j (some w)) H1
theorem ps_par {i j : Nat} {x y : Str} {a b : Expr} {ta : TA} {px py pt : Pos} {kt k2 pt2} (hc : X.calm = true) (hN : X.N.Nodup) (hi : X.N[i]? = some x) (hj : X.N[j]? = some y) (hij : i ≠ j)
    (hx : X.env.scope.names.lookup x = some .local) (hy : X.env.scope.names.lookup y = some .local) (ha : PA X [a, b] ta)
    (hw : swappedStores [.Tuple [.Name x px, .Name y py] kt pt] (.Tuple [a, b] k2 pt2) X.env = pure (some [x, y]))
    (hs : swapsWithSole [.Tuple [.Name x px, .Name y py] kt pt] (.Tuple [a, b] k2 pt2) pos.line X.env = pure false := by rfl) :
    PS X (.Assign [.Tuple [.Name x px, .Name y py] kt pt] (.Tuple [a, b] k2 pt2) pos) (tPar i j ta) := by
  intro pins s σ H D I h
  rw [exec_Assign_arm]
  refine wpAny_bind (wpAny_standAt ?_)
  rw [hs]
  refine wpAny_bind (wpAny_pure ?_)
  rw [if_neg (by decide)]
  refine wpAny_bind (Tuple_ (thn (ha _ pins s σ H _ I h) fun us s1 ⟨vs, H1, I1, r1, q1⟩ => ?_))
  obtain ⟨v, w, e1, q1⟩ := q1
  subst e1
  obtain ⟨u1, u2, rfl, rv, rw'⟩ : ∃ u1 u2, us = [u1, u2] ∧ RelV v u1 ∧ RelV w u2 := by
    cases r1 with
    | cons p q =>
      cases q with
      | cons p' q' =>
        cases q'
        exact ⟨_, _, rfl, p, p'⟩
  refine wpAny_newObj_type ?_ (by show 2 ≤ sizeLine; decide)
  have I2 : Inv X pins σ H1 { s1 with heap := s1.heap.push { cls := .type "tuple", data := .seq [u1, u2].toArray } } := I1.kept (t' := s1.toks) fun b o e => Heap.get?_push_of_some _ e
  rw [hw]
  refine wpAny_bind (wpAny_pure ?_)
  show wpAny (model X.prog X.w) X.A (do rule "assign.swapped-stores"; let items ← unpackItems (.ref s1.heap.objs.size) 2 none; assignInOrder [fun v => bindName X.env y v, fun v => bindName X.env x v] items.reverse; pure Flow.next) _ _ _
  refine wpAny_bind (wpAny_rule (wpAny_bind (unpackItems_tuple (items := #[u1, u2]) (I.ok.hd hc) (IsTup.new s1.heap _) fun h' hx' => ?_)))
  have I3 := I2.kept (h' := h') (t' := s1.toks) fun b o e => hx' b o (Nat.ne_of_lt (Heap.lt_size e)) e
  show wpAny _ _ (assignInOrder [fun v => bindName X.env y v, fun v => bindName X.env x v] [u2, u1] >>= fun _ => pure Flow.next) _ _ _
  refine wpAny_bind (assignInOrder_cons (wpAny_bindName (store_ok I3 hN hj (.inl hy) rw' (fun s2 I4 => ?_) (.inr hy))))
  refine assignInOrder_cons (wpAny_bindName (store_ok I4 hN hi (.inl hx) rv (fun s3 I5 => assignInOrder_nil (wpAny_pure ?_)) (.inr hx)))
  rw [List.set_comm _ _ (Ne.symm hij)] at I5
  exact ⟨_, H1, I5, q1⟩
end
section
variable {X : Cx} {pos : Pos}
end
structure It where
  go : Nat → Hp → Prop
  yld : Nat → Hp → V → Hp → Prop
  stop : Nat → Hp → Prop
def FpOk (X : Cx) (pins : List (Addr × Obj)) (H : Hp) (b : Addr) : Prop :=
  H b = none ∧ b ≠ X.env.locals ∧ b ∉ X.fs ∧ (b ∈ X.ex ∨ X.s₀.heap.objs.size ≤ b) ∧ (∀ x c, X.env.cells.lookup x = some c → c ≠ b) ∧ ∀ p ∈ X.pn ++ pins, p.1 ≠ b
theorem Inv.fpOk {X : Cx} {pins : List (Addr × Obj)} {σ : St} {H H' : Hp} {s : Shared} {b : Addr} (I : Inv X pins σ H s) (hb : s.heap.objs.size ≤ b) (hn : H' b = none) : FpOk X pins H' b := by
  refine ⟨hn, Nat.ne_of_gt (Nat.lt_of_lt_of_le I.lt hb), I.nofs hb, .inr (Nat.le_trans I.sz hb), fun x c e z => ?_, fun p hp z => ?_⟩
  · obtain ⟨v, q⟩ := I.cell x c e
    exact absurd (Nat.lt_of_lt_of_le q.lt (by rw [z]; exact hb)) (Nat.lt_irrefl _)
  · exact absurd (Nat.lt_of_lt_of_le (Heap.lt_size (I.pin p hp).1) (by rw [z]; exact hb)) (Nat.lt_irrefl _)
structure Turn (P : Program) (w : World) (K : PySem.W.Frag) (tg : Expr) (J : It) (fp : List Addr) (it : Addr) (tn : Nat → Heap → Prop) : Prop where
  mem : it ∈ fp
  obj : ∀ i h, tn i h → ∀ b ∈ fp, ∃ o, h.get? b = some o ∧ ∀ v, o.data ≠ .cell v
  keep : ∀ i h h', tn i h → (∀ b ∈ fp, ∀ o, h.get? b = some o → h'.get? b = some o) → tn i h'
  item : ∀ (X : Cx), X.prog = P → X.w = w → X.K = K → X.calm = true → ∀ (i : Nat) (pins : List (Addr × Obj)) (s : Shared) (σ : St) (H : Hp) (E : Value → Shared → Prop), Inv X pins σ H s → (∀ b ∈ fp, FpOk X pins H b) → tn i s.heap → J.go i H →
    wpAny (model P w) X.A (pyNext (.ref it)) (fun r s1 => ∃ u, r = some u ∧
      wpAny (model P w) X.A (letOwnedTupleGo tg (.ref it) u) (fun _ s2 => ∃ x H', Inv X pins σ H' s2 ∧ RelV x u ∧ J.yld i H x H' ∧ tn (i + 1) s2.heap ∧ ∀ b ∈ fp, H' b = none) E s1) E s
  done : ∀ (X : Cx), X.prog = P → X.w = w → X.K = K → X.calm = true → ∀ (i : Nat) (pins : List (Addr × Obj)) (s : Shared) (σ : St) (H : Hp) (E : Value → Shared → Prop), Inv X pins σ H s → (∀ b ∈ fp, FpOk X pins H b) → tn i s.heap → J.stop i H →
    wpAny (model P w) X.A (pyNext (.ref it)) (fun r s1 => r = none ∧ Inv X pins σ H s1) E s
  self : ∀ (A : Around) (i : Nat) (s : Shared) (Q : Value → Shared → Prop) (E : Value → Shared → Prop), tn i s.heap → Q (.ref it) s → wpAny (model P w) A (pyIter (.ref it)) Q E s
abbrev TI := St → Hp → (It → Hp → Prop) → Prop
def PIE (X : Cx) (pins : List (Addr × Obj)) (σ : St) (tg : Expr) (R : It → Hp → Prop) (itv : Value) (s2 : Shared) : Prop :=
  ∃ (it : Addr) (fp : List Addr) (tn : Nat → Heap → Prop) (J : It) (H' : Hp), itv = .ref it ∧ Inv X pins σ H' s2 ∧ Turn X.prog X.w X.K tg J fp it tn ∧ tn 0 s2.heap ∧ (∀ b ∈ fp, FpOk X pins H' b) ∧ R J H'
def PI (X : Cx) (tg iter : Expr) (wi : TI) : Prop :=
  ∀ (pins : List (Addr × Obj)) (s : Shared) (σ : St) (H : Hp) (R : It → Hp → Prop), Inv X pins σ H s → wi σ H R →
    wpAny (model X.prog X.w) X.A (eval iter X.env) (fun v s1 => wpAny (model X.prog X.w) X.A (pyIter v) (PIE X pins σ tg R) X.xe s1) X.xe s
theorem go_of {M : Model} {A : Around} {E : Value → Shared → Prop} {s : Shared} {tg : Expr} {it : Addr} {u : Value} {o : Obj} {n : String} {vs : Array Value} {Q : Unit → Shared → Prop} (ho : s.heap.get? it = some o) (hc : o.cls = .type n) (hd : o.data = .fields vs)
    (hn : ["enumerate", "zip", "dict_itemiterator", "dict_reverseitemiterator", "odict_iterator", "itertools.zip_longest", "itertools.pairwise"].contains n = false) (hQ : Q () s) : wpAny M A (letOwnedTupleGo tg (.ref it) u) Q E s := by
  unfold letOwnedTupleGo
  cases tg <;> first
    | exact wpAny_pure hQ
    | (cases u <;> first
        | exact wpAny_pure hQ
        | (refine wpAny_bind (wpAny_load ho ?_)
           rw [hc, hd]
           show wpAny M A (if (["enumerate", "zip", "dict_itemiterator", "dict_reverseitemiterator", "odict_iterator", "itertools.zip_longest", "itertools.pairwise"].contains n && vs[0]? == some (rawInt _)) = true then _ else _) Q E s
           rw [if_neg (by intro h; rw [hn, Bool.false_and] at h; cases h)]
           exact wpAny_pure hQ))
def Itl (K : PySem.W.Frag) (a : Addr) : It :=
  ⟨fun i H => ∃ xs x, SqL K H a xs ∧ xs[i]? = some x, fun i H x H' => H' = H ∧ ∀ xs, SqL K H a xs → xs[i]? = some x, fun i H => ∃ xs, SqL K H a xs ∧ xs.length ≤ i⟩
def Itt (K : PySem.W.Frag) (a : Addr) : It :=
  ⟨fun i H => ∃ xs x, SqT K H a xs ∧ xs[i]? = some x, fun i H x H' => H' = H ∧ ∀ xs, SqT K H a xs → xs[i]? = some x, fun i H => ∃ xs, SqT K H a xs ∧ xs.length ≤ i⟩
def Itr (lo : Int) (n : Nat) : It := ⟨fun i _ => i < n, fun i H x H' => H' = H ∧ x = .int (lo + i), fun i _ => n ≤ i⟩
theorem turn_list {P : Program} {w : World} {K : PySem.W.Frag} {tg : Expr} (a it : Addr) : Turn P w K tg (Itl K a) [it] it (fun i h => h.IsListIter it a i) where
  mem := by simp
  obj := fun i h st b hb => by
    have e : b = it := by simpa using hb
    subst e
    obtain ⟨o, e, c, d⟩ := st
    exact ⟨o, e, fun v z => by rw [d] at z; cases z⟩
  keep := fun i h h' st k => st.at fun o e => k it (by simp) o e
  item := by
    intro X hP hw hK hc i pins s σ H E I hf st hg
    subst hP hw hK
    obtain ⟨xs, x, hq, hx⟩ := hg
    obtain ⟨its, rv, p, hz⟩ := I.list hq
    obtain ⟨u, hu, ru⟩ := rv.get hx
    obtain ⟨f0, f1, f2, f3, f4, f5⟩ := hf it (by simp)
    refine wpAny_pyNext_list_item st p.isList (x := u) (by simpa using hu) fun h' st' sb => ?_
    have I1 : Inv X pins σ H { s with heap := h' } := I.turned (t' := s.toks) (fun b o hb e => (sb.2 b hb).trans e) f0 f1 f3 f4 f5
    obtain ⟨o, e, c, d⟩ := id st'
    exact ⟨u, rfl, go_of (s := { s with heap := h' }) e c d (by decide) ⟨x, H, I1, ru, ⟨rfl, fun ys hy => by rw [I.list_inj hy hq]; exact hx⟩, st', fun b hb => (hf b hb).1⟩⟩
  done := by
    intro X hP hw hK hc i pins s σ H E I hf st hg
    subst hP hw hK
    obtain ⟨xs, hq, hx⟩ := hg
    obtain ⟨its, rv, p, hz⟩ := I.list hq
    obtain ⟨f0, f1, f2, f3, f4, f5⟩ := hf it (by simp)
    have hl := rv.length
    exact wpAny_pyNext_list_end (I.ok.hd hc) st p.isList (by simp; omega) fun h' eb => ⟨rfl, I.turned (t' := s.toks) (fun b o hb e => eb b o hb e) f0 f1 f3 f4 f5⟩
  self := fun _ _ _ _ _ st h => wpAny_pyIter_listiter st h
theorem turn_tuple {P : Program} {w : World} {K : PySem.W.Frag} {tg : Expr} (a it : Addr) : Turn P w K tg (Itt K a) [it] it (fun i h => h.IsTupleIter it a i) where
  mem := by simp
  obj := fun i h st b hb => by
    have e : b = it := by simpa using hb
    subst e
    obtain ⟨o, e, c, d⟩ := st
    exact ⟨o, e, fun v z => by rw [d] at z; cases z⟩
  keep := fun i h h' st k => st.at fun o e => k it (by simp) o e
  item := by
    intro X hP hw hK hc i pins s σ H E I hf st hg
    subst hP hw hK
    obtain ⟨xs, x, hq, hx⟩ := hg
    obtain ⟨its, rv, p, hz⟩ := I.tuple hq
    obtain ⟨u, hu, ru⟩ := rv.get hx
    obtain ⟨f0, f1, f2, f3, f4, f5⟩ := hf it (by simp)
    refine wpAny_pyNext_tuple_item st (show s.heap.IsTuple a its.toArray from p) (x := u) (by simpa using hu) fun h' st' sb => ?_
    have I1 : Inv X pins σ H { s with heap := h' } := I.turned (t' := s.toks) (fun b o hb e => (sb.2 b hb).trans e) f0 f1 f3 f4 f5
    obtain ⟨o, e, c, d⟩ := id st'
    exact ⟨u, rfl, go_of (s := { s with heap := h' }) e c d (by decide) ⟨x, H, I1, ru, ⟨rfl, fun ys hy => by rw [I.tuple_inj hy hq]; exact hx⟩, st', fun b hb => (hf b hb).1⟩⟩
  done := by
    intro X hP hw hK hc i pins s σ H E I hf st hg
    subst hP hw hK
    obtain ⟨xs, hq, hx⟩ := hg
    obtain ⟨its, rv, p, hz⟩ := I.tuple hq
    obtain ⟨f0, f1, f2, f3, f4, f5⟩ := hf it (by simp)
    have hl := rv.length
    exact wpAny_pyNext_tuple_end (I.ok.hd hc) st (show s.heap.IsTuple a its.toArray from p) (by simp; omega) fun h' eb => ⟨rfl, I.turned (t' := s.toks) (fun b o hb e => eb b o hb e) f0 f1 f3 f4 f5⟩
  self := fun _ _ _ _ _ st h => wpAny_pyIter_tupleiter st h
theorem turn_range {P : Program} {w : World} {K : PySem.W.Frag} {tg : Expr} (it : Addr) (lo : Int) (n : Nat) : Turn P w K tg (Itr lo n) [it] it (fun i h => IsRangeIter h it (lo + (i : Nat) * 1) ((n : Int) - (i : Nat)) 1) where
  mem := by simp
  obj := fun i h st b hb => by
    have e : b = it := by simpa using hb
    subst e
    exact ⟨_, st, fun v z => by
      have z' : Data.fields _ = Data.cell v := z
      cases z'⟩
  keep := fun i h h' st k => k it (by simp) _ st
  item := by
    intro X hP hw hK hc i pins s σ H E I hf st hg
    subst hP hw hK
    obtain ⟨f0, f1, f2, f3, f4, f5⟩ := hf it (by simp)
    have W := Walks.range (prog := X.prog) (w := X.w) (I.ok.hd hc) it lo 1 n
    refine W.item i s _ _ hg st fun v h' tk hv st' kk => ?_
    obtain ⟨t, rfl⟩ := hv
    have I1 : Inv X pins σ H { s with heap := h', toks := tk } := I.turned (fun b o hb e => kk b o (by simpa using hb) e) f0 f1 f3 f4 f5
    refine ⟨_, rfl, go_of (s := { s with heap := h', toks := tk }) (n := "range_iterator") st' rfl rfl (by decide) ⟨.int (lo + i), H, I1, ⟨t, ?_⟩, ⟨rfl, rfl⟩, st', fun b hb => (hf b hb).1⟩⟩
    rw [Int.mul_one]
  done := by
    intro X hP hw hK hc i pins s σ H E I hf st hg
    subst hP hw hK
    obtain ⟨f0, f1, f2, f3, f4, f5⟩ := hf it (by simp)
    exact wpAny_pyNext_range_end (I.ok.hd hc) st (by have : n ≤ i := hg; omega) fun h' eb => ⟨rfl, I.turned (t' := s.toks) (fun b o hb e => eb b o hb e) f0 f1 f3 f4 f5⟩
  self := fun _ _ _ _ _ st h => wpAny_pyIter_rangeiter st h
end L2
namespace L2
open PySem PySem.Spec PyProof.Rows
section
variable {X : Cx} {tg : Expr}
def iList (K : PySem.W.Frag) (tl : TE) : TI := fun σ H R => tl σ H fun x H1 => ∃ a, x = .ref a ∧ (∃ xs, SqL K H1 a xs) ∧ R (Itl K a) H1
def iTup (K : PySem.W.Frag) (tl : TE) : TI := fun σ H R => tl σ H fun x H1 => ∃ a, x = .ref a ∧ (∃ xs, SqT K H1 a xs) ∧ R (Itt K a) H1
theorem pi_list {l : Expr} {tl : TE} (hl : PE X l tl) : PI X tg l (iList X.K tl) := by
  intro pins s σ H R I h
  refine thn (hl pins s σ H _ I h) fun v s1 ⟨x, H1, I1, r1, q1⟩ => ?_
  obtain ⟨a, e, ⟨xs, hq⟩, q⟩ := q1
  subst e
  cases r1
  obtain ⟨its, rv, p, hz⟩ := I1.list hq
  refine wpAny_pyIter_list p.isList ?_
  refine ⟨s1.heap.objs.size, [s1.heap.objs.size], _, _, H1, rfl, I1.kept (t' := s1.toks) fun b o e => Heap.get?_push_of_some _ e, turn_list a _, ⟨_, Heap.get?_push_size _ rfl, rfl, rfl⟩, fun b hb => ?_, q⟩
  have e : b = s1.heap.objs.size := by simpa using hb
  subst e
  exact I1.fpOk (Nat.le_refl _) (I1.hok.fresh (Nat.le_refl _))
theorem pi_tup {l : Expr} {tl : TE} (hl : PE X l tl) : PI X tg l (iTup X.K tl) := by
  intro pins s σ H R I h
  refine thn (hl pins s σ H _ I h) fun v s1 ⟨x, H1, I1, r1, q1⟩ => ?_
  obtain ⟨a, e, ⟨xs, hq⟩, q⟩ := q1
  subst e
  cases r1
  obtain ⟨its, rv, p, hz⟩ := I1.tuple hq
  refine wpAny_pyIter_tuple (show s1.heap.IsTuple a its.toArray from p) ?_
  refine ⟨s1.heap.objs.size, [s1.heap.objs.size], _, _, H1, rfl, I1.kept (t' := s1.toks) fun b o e => Heap.get?_push_of_some _ e, turn_tuple a _, ⟨_, Heap.get?_push_size _ rfl, rfl, rfl⟩, fun b hb => ?_, q⟩
  have e : b = s1.heap.objs.size := by simpa using hb
  subst e
  exact I1.fpOk (Nat.le_refl _) (I1.hok.fresh (Nat.le_refl _))
theorem range_it {pins : List (Addr × Obj)} {σ : St} {H : Hp} {s : Shared} {R : It → Hp → Prop} {E : Value → Shared → Prop} {lo hi : Int} {t u v : Tok} {tk : Nat} (I : Inv X pins σ H s) (h1 : -(2 ^ 62) ≤ lo) (h2 : lo < 2 ^ 62) (h3 : -(2 ^ 62) ≤ hi) (h4 : hi < 2 ^ 62)
    (q : R (Itr lo (hi - lo).toNat) H) : wpAny (model X.prog X.w) X.A (pyIter (.ref s.heap.objs.size)) (PIE X pins σ tg R) E { s with heap := s.heap.push { cls := .type "range", data := .fields #[.int lo t, .int hi u, .int 1 v] }, toks := tk } := by
  refine wpAny_pyIter_range (IsRange.new ..) (small_one h1 h2 h3 h4) ?_
  have I1 : Inv X pins σ H { s with heap := s.heap.push { cls := .type "range", data := .fields #[.int lo t, .int hi u, .int 1 v] }, toks := tk } := I.kept fun b o e => Heap.get?_push_of_some _ e
  refine ⟨(s.heap.push { cls := .type "range", data := .fields #[.int lo t, .int hi u, .int 1 v] }).objs.size, [(s.heap.push { cls := .type "range", data := .fields #[.int lo t, .int hi u, .int 1 v] }).objs.size], _, _, H, rfl,
    I1.kept (t' := tk) fun b o e => Heap.get?_push_of_some _ e, turn_range _ lo (hi - lo).toNat, ?_, fun b hb => ?_, q⟩
  · have e1 : lo + ((0 : Nat) : Int) * 1 = lo := by simp
    have e2 : (((hi - lo).toNat : Nat) : Int) - ((0 : Nat) : Int) = Builtin.Range.rangeSize lo hi 1 := by rw [rangeSize_one]; split <;> omega
    show IsRangeIter _ _ (lo + ((0 : Nat) : Int) * 1) ((((hi - lo).toNat : Nat) : Int) - ((0 : Nat) : Int)) 1
    rw [e1, e2]
    exact Heap.get?_push_size _ rfl
  · have e : b = (s.heap.push { cls := .type "range", data := .fields #[.int lo t, .int hi u, .int 1 v] }).objs.size := by simpa using hb
    subst e
    exact I1.fpOk (Nat.le_refl _) (I1.hok.fresh (Nat.le_refl _))
def iRng1 (ta : TA) : TI := fun σ H R => ta σ H fun vs H1 => ∃ j : Int, vs = [.int j] ∧ -(2 ^ 62) ≤ j ∧ j < 2 ^ 62 ∧ R (Itr 0 j.toNat) H1
def iRng2 (ta : TA) : TI := fun σ H R => ta σ H fun vs H1 => ∃ i j : Int, vs = [.int i, .int j] ∧ (-(2 ^ 62) ≤ i ∧ i < 2 ^ 62 ∧ -(2 ^ 62) ≤ j ∧ j < 2 ^ 62) ∧ R (Itr i (j - i).toNat) H1
theorem pi_range1 {a : Expr} {ta : TA} {p pos : Pos} (hg : Gl X "range") (hm : X.mg "range" = none) (ha : PA X [a] ta) (hs : starEach [a] X.env = [(false, eval a X.env)] := by rfl) : PI X tg (.Call (.Name "range" p) [a] [] pos) (iRng1 ta) := by
  intro pins s σ H R I h
  refine Call_ (ld_blt I hg hm boot_range (PyProof.Rows.callWith_type1 (thn (ha pos pins s σ H _ I h) fun us s1 ⟨vs, H1, I1, r1, q1⟩ => ?_) hs rfl))
  obtain ⟨j, e, q1, q2, q⟩ := q1
  subst e
  cases r1 with
  | cons r rr =>
    cases rr
    obtain ⟨t, rfl⟩ := r
    exact call_range_1 (range_it I1 (by omega) (by omega) q1 q2 (by simpa using q))
theorem pi_range2 {a b : Expr} {ta : TA} {p pos : Pos} (hg : Gl X "range") (hm : X.mg "range" = none) (ha : PA X [a, b] ta) (hs : starEach [a, b] X.env = [(false, eval a X.env), (false, eval b X.env)] := by rfl) (hs2 : starEach [b] X.env = [(false, eval b X.env)] := by rfl) :
    PI X tg (.Call (.Name "range" p) [a, b] [] pos) (iRng2 ta) := by
  intro pins s σ H R I h
  refine Call_ (ld_blt I hg hm boot_range (PyProof.Rows.callWith_type1 (thn (ha pos pins s σ H _ I h) fun us s1 ⟨vs, H1, I1, r1, q1⟩ => ?_) (by rw [hs, hs2]) (by rw [hs2]; rfl)))
  obtain ⟨i, j, e, ⟨q1, q2, q3, q4⟩, q⟩ := q1
  subst e
  cases r1 with
  | cons r rr =>
    cases rr with
    | cons r' rr =>
      cases rr
      obtain ⟨t, rfl⟩ := r
      obtain ⟨t', rfl⟩ := r'
      exact call_range_2 (range_it I1 q1 q2 q3 q4 q)
def tFor (wi : TI) (g : TG) (tb : TS) : TS := fun D σ H => wi σ H fun J H1 => ∃ W : Nat → Nat → St → Hp → Prop, (∃ m, W 0 m σ H1) ∧ ∀ i m σ H, W i m σ H →
  (J.stop i H ∧ D.nx σ H) ∨ (J.go i H ∧ ∃ N : St → Hp → Prop, (∀ σ' H', N σ' H' → ∃ m', m' < m ∧ W (i + 1) m' σ' H') ∧ ∀ x H', J.yld i H x H' → g x σ H' fun σ2 H2 => tb { D with nx := N, ct := N, bk := D.nx } σ2 H2)
def pinsAt (fp : List Addr) (h : Heap) : List (Addr × Obj) := fp.filterMap fun b => (h.get? b).map fun o => (b, o)
theorem mem_pinsAt {fp : List Addr} {h : Heap} {b : Addr} {o : Obj} (hb : b ∈ fp) (e : h.get? b = some o) : (b, o) ∈ pinsAt fp h := List.mem_filterMap.mpr ⟨b, hb, by rw [e]; rfl⟩
theorem of_pinsAt {fp : List Addr} {h : Heap} {p : Addr × Obj} (hp : p ∈ pinsAt fp h) : p.1 ∈ fp ∧ h.get? p.1 = some p.2 := by
  obtain ⟨b, hb, e⟩ := List.mem_filterMap.mp hp
  cases q : h.get? b with
  | none => rw [q] at e; cases e
  | some o =>
    rw [q] at e
    have e' : (b, o) = p := Option.some.inj e
    subst e'
    exact ⟨hb, q⟩
theorem Inv.pinned {pins : List (Addr × Obj)} {σ : St} {H : Hp} {s : Shared} {fp : List Addr} (I : Inv X pins σ H s) (hf : ∀ b ∈ fp, FpOk X pins H b) (ho : ∀ b ∈ fp, ∃ o, s.heap.get? b = some o ∧ ∀ v, o.data ≠ .cell v) : Inv X (pins ++ pinsAt fp s.heap) σ H s :=
  I.pins_of fun p hp => (List.mem_append.mp hp).elim (fun z => I.pin p (List.mem_append_right _ z)) fun z => by
    obtain ⟨hb, e⟩ := of_pinsAt z
    obtain ⟨f0, f1, f2, _⟩ := hf p.1 hb
    obtain ⟨o, e', d⟩ := ho p.1 hb
    rw [e] at e'; cases e'
    exact ⟨e, f0, f1, f2, d⟩
theorem Inv.unpinned {pins pl : List (Addr × Obj)} {σ : St} {H : Hp} {s : Shared} (I : Inv X (pins ++ pl) σ H s) : Inv X pins σ H s := I.pins_of fun p hp => I.pin p (List.mem_append_right _ (List.mem_append_left _ hp))
theorem ps_for {iter : Expr} {body : List Stmt} {wi : TI} {g : TG} {tb : TS} {pos : Pos} (hp : PassesOwn (model X.prog X.w) X.A X.env X.xe) (hc : X.calm = true) (hi : PI X tg iter wi) (hg : PG X tg g) (hb : PSs X body tb)
    (hs : ∀ x, foldedSetIterable iter X.env x = pure x := by intro _; rfl) : PS X (.For tg iter body [] pos) (tFor wi g tb) := by
  intro pins s σ H D I h
  refine wpAny_For (thn (hi pins s σ H _ I h) fun v s1 h1 => thn h1 fun itv s2 h2 => ?_) hs
  obtain ⟨it, fp, tn, J, H2, e, I2, T, st2, f2, W, ⟨m0, w0⟩, turn⟩ := h2
  subst e
  have stat : ∀ {H' : Hp}, (∀ b ∈ fp, H' b = none) → ∀ b ∈ fp, FpOk X pins H' b := fun hn b hb => ⟨hn b hb, (f2 b hb).2⟩
  refine codeAny_forLoop_any (fun n s' => ∃ i σ' H', Inv X pins σ' H' s' ∧ tn i s'.heap ∧ (∀ b ∈ fp, H' b = none) ∧ W i n σ' H') ?_ m0 ⟨0, σ, H2, I2, st2, fun b hb => (f2 b hb).1, w0⟩
  rintro n s3 ⟨i, σ3, H3, I3, st3, fr3, w3⟩
  rcases turn i n σ3 H3 w3 with ⟨stop, qn⟩ | ⟨go, N, hN, step⟩
  · refine wpAny_passesOwn hp (thn (T.done X rfl rfl rfl hc i pins s3 σ3 H3 X.xe I3 (stat fr3) st3 stop) fun r s4 ⟨hr, I4⟩ => ?_)
    subst hr
    exact wpAny_execs_nil ⟨σ3, H3, I4, qn⟩
  · refine wpAny_passesOwn hp (thn (T.item X rfl rfl rfl hc i pins s3 σ3 H3 X.xe I3 (stat fr3) st3 go) fun r s4 ⟨u, hr, h4⟩ => ?_)
    subst hr
    refine wpAny_passesOwn hp (thn h4 fun _ s5 ⟨x, H5, I5, r5, y5, st5, fr5⟩ => ?_)
    have I5' := I5.pinned (stat fr5) (T.obj _ _ st5)
    refine wpAny_passesOwn hp (thn (hg _ s5 σ3 H5 x u _ I5' r5 (step x H5 y5)) fun _ s6 ⟨σ6, H6, I6, q6⟩ => ?_)
    refine wpAny_passesOwn hp (thn (hb _ s6 σ6 H6 _ I6 q6) fun f s7 q7 => ?_)
    have again : ∀ {σ7 : St} {H7 : Hp}, Inv X (pins ++ pinsAt fp s5.heap) σ7 H7 s7 → N σ7 H7 → ∃ m, m < n ∧ ∃ i σ' H', Inv X pins σ' H' s7 ∧ tn i s7.heap ∧ (∀ b ∈ fp, H' b = none) ∧ W i m σ' H' := fun {σ7 H7} I7 n7 => by
      obtain ⟨m', hm, w7⟩ := hN σ7 H7 n7
      refine ⟨m', hm, i + 1, σ7, H7, I7.unpinned, T.keep _ _ _ st5 fun b hb o e => (I7.pin (b, o) (List.mem_append_right _ (List.mem_append_right _ (mem_pinsAt hb e)))).1, fun b hb => ?_, w7⟩
      obtain ⟨o, e, d⟩ := T.obj _ _ st5 b hb
      exact (I7.pin (b, o) (List.mem_append_right _ (List.mem_append_right _ (mem_pinsAt hb e)))).2.1
    cases f with
    | next => obtain ⟨σ7, H7, I7, n7⟩ := q7; exact again I7 n7
    | cont => obtain ⟨σ7, H7, I7, n7⟩ := q7; exact again I7 n7
    | brk => obtain ⟨σ7, H7, I7, q7⟩ := q7; exact ⟨σ7, H7, I7.unpinned, q7⟩
    | ret v => obtain ⟨x7, σ7, H7, I7, r7, q7⟩ := q7; exact ⟨x7, σ7, H7, I7.unpinned, r7, q7⟩
end
theorem for_list {K : PySem.W.Frag} {a : Addr} {xs : List V} {g : TG} {tb : TS} {D : Ends} {σ : St} {H : Hp} (Pv : Nat → St → Hp → Prop) (h0 : Pv 0 σ H) (hl : ∀ i σ H, i ≤ xs.length → Pv i σ H → SqL K H a xs)
    (hs : ∀ i x σ H, xs[i]? = some x → Pv i σ H → g x σ H fun σ2 H2 => tb { D with nx := Pv (i + 1), ct := Pv (i + 1), bk := D.nx } σ2 H2) (hd : ∀ σ H, Pv xs.length σ H → D.nx σ H) :
    ∃ W : Nat → Nat → St → Hp → Prop, (∃ m, W 0 m σ H) ∧ ∀ i m σ H, W i m σ H →
      ((Itl K a).stop i H ∧ D.nx σ H) ∨ ((Itl K a).go i H ∧ ∃ N : St → Hp → Prop, (∀ σ' H', N σ' H' → ∃ m', m' < m ∧ W (i + 1) m' σ' H') ∧ ∀ x H', (Itl K a).yld i H x H' → g x σ H' fun σ2 H2 => tb { D with nx := N, ct := N, bk := D.nx } σ2 H2) := by
  refine ⟨fun i m σ H => m = xs.length - i ∧ i ≤ xs.length ∧ Pv i σ H, ⟨xs.length, by simp, Nat.zero_le _, h0⟩, ?_⟩
  rintro i m σ H ⟨rfl, hi, p⟩
  have q := hl i σ H hi p
  by_cases hlt : i < xs.length
  · refine .inr ⟨⟨xs, xs[i], q, by simp [hlt]⟩, Pv (i + 1), fun σ' H' p' => ⟨xs.length - (i + 1), by omega, rfl, hlt, p'⟩, fun x H' y => ?_⟩
    obtain ⟨e, y⟩ := y
    subst e
    exact hs i x σ _ (y xs q) p
  · have e : i = xs.length := by omega
    subst e
    exact .inl ⟨⟨xs, q, Nat.le_refl _⟩, hd σ H p⟩
theorem for_tup {K : PySem.W.Frag} {a : Addr} {xs : List V} {g : TG} {tb : TS} {D : Ends} {σ : St} {H : Hp} (Pv : Nat → St → Hp → Prop) (h0 : Pv 0 σ H) (hl : ∀ i σ H, i ≤ xs.length → Pv i σ H → SqT K H a xs)
    (hs : ∀ i x σ H, xs[i]? = some x → Pv i σ H → g x σ H fun σ2 H2 => tb { D with nx := Pv (i + 1), ct := Pv (i + 1), bk := D.nx } σ2 H2) (hd : ∀ σ H, Pv xs.length σ H → D.nx σ H) :
    ∃ W : Nat → Nat → St → Hp → Prop, (∃ m, W 0 m σ H) ∧ ∀ i m σ H, W i m σ H →
      ((Itt K a).stop i H ∧ D.nx σ H) ∨ ((Itt K a).go i H ∧ ∃ N : St → Hp → Prop, (∀ σ' H', N σ' H' → ∃ m', m' < m ∧ W (i + 1) m' σ' H') ∧ ∀ x H', (Itt K a).yld i H x H' → g x σ H' fun σ2 H2 => tb { D with nx := N, ct := N, bk := D.nx } σ2 H2) := by
  refine ⟨fun i m σ H => m = xs.length - i ∧ i ≤ xs.length ∧ Pv i σ H, ⟨xs.length, by simp, Nat.zero_le _, h0⟩, ?_⟩
  rintro i m σ H ⟨rfl, hi, p⟩
  have q := hl i σ H hi p
  by_cases hlt : i < xs.length
  · refine .inr ⟨⟨xs, xs[i], q, by simp [hlt]⟩, Pv (i + 1), fun σ' H' p' => ⟨xs.length - (i + 1), by omega, rfl, hlt, p'⟩, fun x H' y => ?_⟩
    obtain ⟨e, y⟩ := y
    subst e
    exact hs i x σ _ (y xs q) p
  · have e : i = xs.length := by omega
    subst e
    exact .inl ⟨⟨xs, q, Nat.le_refl _⟩, hd σ H p⟩
theorem for_range {lo : Int} {n : Nat} {g : TG} {tb : TS} {D : Ends} {σ : St} {H : Hp} (Pv : Nat → St → Hp → Prop) (h0 : Pv 0 σ H)
    (hs : ∀ i σ H, i < n → Pv i σ H → g (.int (lo + i)) σ H fun σ2 H2 => tb { D with nx := Pv (i + 1), ct := Pv (i + 1), bk := D.nx } σ2 H2) (hd : ∀ σ H, Pv n σ H → D.nx σ H) :
    ∃ W : Nat → Nat → St → Hp → Prop, (∃ m, W 0 m σ H) ∧ ∀ i m σ H, W i m σ H →
      ((Itr lo n).stop i H ∧ D.nx σ H) ∨ ((Itr lo n).go i H ∧ ∃ N : St → Hp → Prop, (∀ σ' H', N σ' H' → ∃ m', m' < m ∧ W (i + 1) m' σ' H') ∧ ∀ x H', (Itr lo n).yld i H x H' → g x σ H' fun σ2 H2 => tb { D with nx := N, ct := N, bk := D.nx } σ2 H2) := by
  refine ⟨fun i m σ H => m = n - i ∧ i ≤ n ∧ Pv i σ H, ⟨n, by simp, Nat.zero_le _, h0⟩, ?_⟩
  rintro i m σ H ⟨rfl, hi, p⟩
  by_cases hlt : i < n
  · refine .inr ⟨hlt, Pv (i + 1), fun σ' H' p' => ⟨n - (i + 1), by omega, rfl, hlt, p'⟩, fun x H' y => ?_⟩
    obtain ⟨e, y⟩ := y
    subst e y
    exact hs i σ _ hlt p
  · have e : i = n := by omega
    subst e
    exact .inl ⟨Nat.le_refl _, hd σ H p⟩
end L2
namespace L2
open PySem PySem.Spec PyProof.Rows
abbrev R2 := V → V → Hp → VK → Prop
def OpR (X : Cx) (f : Value → Value → Sem Value) (r : R2) : Prop :=
  ∀ (pins : List (Addr × Obj)) (s : Shared) (σ : St) (H : Hp) (x y : V) (v u : Value) (Q : VK), Inv X pins σ H s → RelV x v → RelV y u → r x y H Q →
    wpAny (model X.prog X.w) X.A (f v u) (EP X pins σ Q) X.xe s
def UnR (X : Cx) (f : Value → Sem Value) (r : V → Hp → VK → Prop) : Prop :=
  ∀ (pins : List (Addr × Obj)) (s : Shared) (σ : St) (H : Hp) (x : V) (v : Value) (Q : VK), Inv X pins σ H s → RelV x v → r x H Q →
    wpAny (model X.prog X.w) X.A (f v) (EP X pins σ Q) X.xe s
def CallR (X : Cx) (f : Value) (r : List V → Hp → VK → Prop) : Prop :=
  ∀ (pins : List (Addr × Obj)) (s : Shared) (σ : St) (H : Hp) (xs : List V) (us : List Value) (Q : VK), Inv X pins σ H s → Vals xs us → r xs H Q →
    wpAny (model X.prog X.w) X.A (call f us) (EP X pins σ Q) X.xe s
def TruR (X : Cx) (r : V → Hp → (Bool → Hp → Prop) → Prop) : Prop :=
  ∀ (pins : List (Addr × Obj)) (s : Shared) (σ : St) (H : Hp) (x : V) (v : Value) (Q : Bool → Hp → Prop), Inv X pins σ H s → RelV x v → r x H Q →
    wpAny (model X.prog X.w) X.A (truthy v) (TP X pins σ Q) X.xe s
def tOp (r : R2) (ta tb : TE) : TE := fun σ H Q => ta σ H fun x H1 => tb σ H1 fun y H2 => r x y H2 Q
def tUn (r : V → Hp → VK → Prop) (ta : TE) : TE := fun σ H Q => ta σ H fun x H1 => r x H1 Q
def rI (C : Int → Int → Prop) (g : Int → Int → V) : R2 := fun x y H Q => ∃ i j, x = .int i ∧ y = .int j ∧ C i j ∧ Q (g i j) H
def rI0 (g : Int → Int → V) : R2 := fun x y H Q => ∃ i j, x = .int i ∧ y = .int j ∧ Q (g i j) H
def rU (g : Int → V) : V → Hp → VK → Prop := fun x H Q => ∃ i, x = .int i ∧ Q (g i) H
section
variable {X : Cx} {a b c : Expr} {ta tb tc : TE} {pos : Pos}
theorem binT (ha : PE X a ta) (hb : PE X b tb) {pins : List (Addr × Obj)} {s : Shared} {σ : St} {H : Hp} {R : V → V → Hp → Prop} (I : Inv X pins σ H s)
    (h : ta σ H fun x H1 => tb σ H1 fun y H2 => R x y H2) {Q : Value → Shared → Prop} {f : Value → Value → Sem Value}
    (hf : ∀ v u s2 x y H2, Inv X pins σ H2 s2 → RelV x v → RelV y u → R x y H2 → wpAny (model X.prog X.w) X.A (f v u) Q X.xe s2) :
    wpAny (model X.prog X.w) X.A (eval a X.env) (fun v s₁ => wpAny (model X.prog X.w) X.A (eval b X.env) (fun u s₂ => wpAny (model X.prog X.w) X.A (f v u) Q X.xe s₂) X.xe s₁) X.xe s := by
  refine thn (ha pins s σ H _ I h) fun v s1 ⟨x, H1, I1, r1, q1⟩ => ?_
  refine thn (hb pins s1 σ H1 _ I1 q1) fun u s2 ⟨y, H2, I2, r2, q2⟩ => ?_
  exact hf v u s2 x y H2 I2 r1 r2 q2
theorem pe_op {op : Operator} {r : R2} (ho : OpR X (binaryOp op) r) (ha : PE X a ta) (hb : PE X b tb) : PE X (.BinOp a op b pos) (tOp r ta tb) := by
  intro pins s σ H Q I h
  exact wpAny_BinOp (binT ha hb I h fun v u s2 x y H2 I2 rx ry q => ho pins s2 σ H2 x y v u Q I2 rx ry q)
theorem pe_un {op : UnaryOp} {r : V → Hp → VK → Prop} (ho : UnR X (unaryOp op) r) (ha : PE X a ta) : PE X (.UnaryOp op a pos) (tUn r ta) := by
  intro pins s σ H Q I h
  exact UnaryOp_ (thn (ha pins s σ H _ I h) fun v s1 ⟨x, H1, I1, r1, q1⟩ => ho pins s1 σ H1 x v Q I1 r1 q1)
theorem opI {f : Value → Value → Sem Value} {C : Int → Int → Prop} {g : Int → Int → Int}
    (rule : ∀ (i j : Int) (t u : Tok) (s : Shared) (Q : Value → Shared → Prop) (E : Value → Shared → Prop), C i j → Q (.int (g i j) s.toks) { s with toks := s.toks + 1 } → wpAny (model X.prog X.w) X.A (f (.int i t) (.int j u)) Q E s) :
    OpR X f (rI C fun i j => .int (g i j)) := by
  intro pins s σ H x y v u Q I rx ry h
  obtain ⟨i, j, rfl, rfl, hc, q⟩ := h
  obtain ⟨t, rfl⟩ := rx
  obtain ⟨t', rfl⟩ := ry
  exact rule i j t t' s _ _ hc ⟨.int (g i j), H, I.tok _, ⟨_, rfl⟩, q⟩
theorem opI0 {f : Value → Value → Sem Value} {g : Int → Int → Int}
    (rule : ∀ (i j : Int) (t u : Tok) (s : Shared) (Q : Value → Shared → Prop) (E : Value → Shared → Prop), Q (.int (g i j) s.toks) { s with toks := s.toks + 1 } → wpAny (model X.prog X.w) X.A (f (.int i t) (.int j u)) Q E s) :
    OpR X f (rI0 fun i j => .int (g i j)) := by
  intro pins s σ H x y v u Q I rx ry h
  obtain ⟨i, j, rfl, rfl, q⟩ := h
  obtain ⟨t, rfl⟩ := rx
  obtain ⟨t', rfl⟩ := ry
  exact rule i j t t' s _ _ ⟨.int (g i j), H, I.tok _, ⟨_, rfl⟩, q⟩
theorem opB0 {f : Value → Value → Sem Value} {g : Int → Int → Bool}
    (rule : ∀ (i j : Int) (t u : Tok) (s : Shared) (Q : Value → Shared → Prop) (E : Value → Shared → Prop), Q (.bool (g i j)) s → wpAny (model X.prog X.w) X.A (f (.int i t) (.int j u)) Q E s) :
    OpR X f (rI0 fun i j => .bl (g i j)) := by
  intro pins s σ H x y v u Q I rx ry h
  obtain ⟨i, j, rfl, rfl, q⟩ := h
  obtain ⟨t, rfl⟩ := rx
  obtain ⟨t', rfl⟩ := ry
  exact rule i j t t' s _ _ ⟨.bl (g i j), H, I, rfl, q⟩
def CDiv (i j : Int) : Prop := 0 < j ∧ j < 1073741824
def CPow (i j : Int) : Prop := 0 ≤ j ∧ j ≤ 1000000 ∧ i.natAbs < 2 ^ 64
def CMul (i j : Int) : Prop := (-(2 ^ 64) < i ∧ i < 2 ^ 64) ∨ (-(2 ^ 64) < j ∧ j < 2 ^ 64)
theorem CMul.ok {i j : Int} (h : CMul i j) : IntMulOk i j := by
  rcases h with ⟨h1, h2⟩ | ⟨h1, h2⟩
  · exact .of_left (intBits_le_64 h1 h2)
  · exact .of_right (intBits_le_64 h1 h2)
theorem op_add : OpR X (binaryOp .Add) (rI0 fun i j => .int (i + j)) := opI0 fun _ _ _ _ _ _ _ q => add_int q
theorem op_sub : OpR X (binaryOp .Sub) (rI0 fun i j => .int (i - j)) := opI0 fun _ _ _ _ _ _ _ q => sub_int q
theorem op_mul : OpR X (binaryOp .Mult) (rI CMul fun i j => .int (i * j)) := opI fun _ _ _ _ _ _ _ hc q => mul_int q hc.ok
theorem op_fdiv : OpR X (binaryOp .FloorDiv) (rI CDiv fun i j => .int (i / j)) := opI fun i j _ _ _ _ _ hc q => by
  have h1 : (0 : Int) < j := hc.1
  have h2 : j < 1073741824 := hc.2
  exact floordiv_int (by omega) (by rw [Int.fdiv_eq_ediv_of_nonneg i (by omega)]; exact q) (.inl (PyProof.noPylong_small (by omega)))
theorem op_mod : OpR X (binaryOp .Mod) (rI (fun _ j => 0 < j) fun i j => .int (i % j)) := opI fun i j _ _ _ _ _ hc q => by
  have h1 : (0 : Int) < j := hc
  exact mod_int' (by omega) (by rw [Int.fmod_eq_emod_of_nonneg i (by omega)]; exact q)
theorem op_pow : OpR X (binaryOp .Pow) (rI CPow fun i j => .int (i ^ j.toNat)) := opI fun _ _ _ _ _ _ _ hc q => pow_int_small hc.1 hc.2.1 hc.2.2 q
theorem unI {f : Value → Sem Value} {g : Int → Int}
    (rule : ∀ (i : Int) (t : Tok) (s : Shared) (Q : Value → Shared → Prop) (E : Value → Shared → Prop), Q (.int (g i) s.toks) { s with toks := s.toks + 1 } → wpAny (model X.prog X.w) X.A (f (.int i t)) Q E s) :
    UnR X f (rU fun i => .int (g i)) := by
  intro pins s σ H x v Q I rx h
  obtain ⟨i, rfl, q⟩ := h
  obtain ⟨t, rfl⟩ := rx
  exact rule i t s _ _ ⟨.int (g i), H, I.tok _, ⟨_, rfl⟩, q⟩
theorem un_neg : UnR X (unaryOp .USub) (rU fun i => .int (-i)) := unI fun _ _ _ _ _ q => neg_int q
end
def scal : V → V → Bool
  | .non, .non => true | .non, .int _ => true | .int _, .non => true | .non, .bl _ => true | .bl _, .non => true | .non, .str _ => true | .str _, .non => true
  | .int _, .int _ => true | .bl _, .bl _ => true | .str _, .str _ => true | .byt _, .byt _ => true
  | .int _, .str _ => true | .str _, .int _ => true | .bl _, .str _ => true | .str _, .bl _ => true
  | _, _ => false
def rEq : R2 := fun x y H Q => scal x y = true ∧ Q (.bl (decide (x = y))) H
def rNe : R2 := fun x y H Q => scal x y = true ∧ Q (.bl (!decide (x = y))) H
theorem dec_int {i j : Int} : decide (V.int i = V.int j) = (i == j) := by
  rw [Bool.eq_iff_iff]
  simp
theorem dec_bl {i j : Bool} : decide (V.bl i = V.bl j) = (i == j) := by
  rw [Bool.eq_iff_iff]
  simp
theorem dec_str {i j : Str} : decide (V.str i = V.str j) = (i == j) := by
  rw [Bool.eq_iff_iff]
  simp
theorem dec_byt {i j : Array UInt8} : decide (V.byt i = V.byt j) = (i.toList == j.toList) := by
  rw [Bool.eq_iff_iff]
  cases i
  cases j
  simp
section
variable {X : Cx} {a b c : Expr} {ta tb tc : TE} {pos : Pos}
theorem fin_bl {pins : List (Addr × Obj)} {σ : St} {H : Hp} {s : Shared} {Q : VK} {k k' : Bool} (I : Inv X pins σ H s) (q : Q (.bl k) H) (e : k = k') : EP X pins σ Q (.bool k') s := by
  subst e
  exact ⟨.bl k, H, I, rfl, q⟩
theorem op_eq : OpR X (compareOp .Eq) rEq := by
  intro pins s σ H x y v u Q I rx ry h
  obtain ⟨hs, q⟩ := h
  cases x with
  | non =>
    cases rx
    cases y with
    | non => cases ry; exact PySem.EqNone.eq_none_none (fin_bl I q (by simp))
    | bl j => cases ry; exact PySem.EqNone.eq_none_bool (fin_bl I q (by simp))
    | int j => obtain ⟨t', rfl⟩ := ry; exact PySem.EqNone.eq_none_int (fin_bl I q (by simp))
    | str j => obtain ⟨t', rfl⟩ := ry; exact PySem.EqNone.eq_none_str (fin_bl I q (by simp))
    | _ => exact absurd (show false = true from hs) Bool.false_ne_true
  | bl i =>
    cases rx
    cases y with
    | non => cases ry; exact PySem.EqNone.eq_bool_none (fin_bl I q (by simp))
    | bl j => cases ry; exact eq_bool (fin_bl I q dec_bl)
    | str j => obtain ⟨t', rfl⟩ := ry; exact PySem.EqMixed.eq_bool_str (fin_bl I q (by simp))
    | _ => exact absurd (show false = true from hs) Bool.false_ne_true
  | int i =>
    obtain ⟨t, rfl⟩ := rx
    cases y with
    | non => cases ry; exact PySem.EqNone.eq_int_none (fin_bl I q (by simp))
    | int j => obtain ⟨t', rfl⟩ := ry; exact eq_int (fin_bl I q dec_int)
    | str j => obtain ⟨t', rfl⟩ := ry; exact PySem.EqMixed.eq_int_str (fin_bl I q (by simp))
    | _ => exact absurd (show false = true from hs) Bool.false_ne_true
  | str i =>
    obtain ⟨t, rfl⟩ := rx
    cases y with
    | non => cases ry; exact PySem.EqNone.eq_str_none (fin_bl I q (by simp))
    | bl j => cases ry; exact PySem.EqMixed.eq_str_bool (fin_bl I q (by simp))
    | int j => obtain ⟨t', rfl⟩ := ry; exact PySem.EqMixed.eq_str_int (fin_bl I q (by simp))
    | str j => obtain ⟨t', rfl⟩ := ry; exact eq_str (fin_bl I q dec_str)
    | _ => exact absurd (show false = true from hs) Bool.false_ne_true
  | byt i =>
    obtain ⟨t, rfl⟩ := rx
    cases y with
    | byt j => obtain ⟨t', rfl⟩ := ry; exact PySem.W.eq_bytes (fin_bl I q dec_byt)
    | _ => exact absurd (show false = true from hs) Bool.false_ne_true
  | _ => cases y <;> exact absurd (show false = true from hs) Bool.false_ne_true
theorem op_ne : OpR X (compareOp .NotEq) rNe := by
  intro pins s σ H x y v u Q I rx ry h
  obtain ⟨hs, q⟩ := h
  cases x with
  | non =>
    cases rx
    cases y with
    | non => cases ry; exact PySem.EqNone.ne_none_none (fin_bl I q (by simp))
    | bl j => cases ry; exact PySem.EqNone.ne_none_bool (fin_bl I q (by simp))
    | int j => obtain ⟨t', rfl⟩ := ry; exact PySem.EqNone.ne_none_int (fin_bl I q (by simp))
    | str j => obtain ⟨t', rfl⟩ := ry; exact PySem.EqNone.ne_none_str (fin_bl I q (by simp))
    | _ => exact absurd (show false = true from hs) Bool.false_ne_true
  | bl i =>
    cases rx
    cases y with
    | non => cases ry; exact PySem.EqNone.ne_bool_none (fin_bl I q (by simp))
    | bl j => cases ry; exact ne_bool (fin_bl I q (congrArg not dec_bl))
    | str j => obtain ⟨t', rfl⟩ := ry; exact PySem.EqMixed.ne_bool_str (fin_bl I q (by simp))
    | _ => exact absurd (show false = true from hs) Bool.false_ne_true
  | int i =>
    obtain ⟨t, rfl⟩ := rx
    cases y with
    | non => cases ry; exact PySem.EqNone.ne_int_none (fin_bl I q (by simp))
    | int j => obtain ⟨t', rfl⟩ := ry; exact ne_int (fin_bl I q (congrArg not dec_int))
    | str j => obtain ⟨t', rfl⟩ := ry; exact PySem.EqMixed.ne_int_str (fin_bl I q (by simp))
    | _ => exact absurd (show false = true from hs) Bool.false_ne_true
  | str i =>
    obtain ⟨t, rfl⟩ := rx
    cases y with
    | non => cases ry; exact PySem.EqNone.ne_str_none (fin_bl I q (by simp))
    | bl j => cases ry; exact PySem.EqMixed.ne_str_bool (fin_bl I q (by simp))
    | int j => obtain ⟨t', rfl⟩ := ry; exact PySem.EqMixed.ne_str_int (fin_bl I q (by simp))
    | str j => obtain ⟨t', rfl⟩ := ry; exact ne_str (fin_bl I q (congrArg not dec_str))
    | _ => exact absurd (show false = true from hs) Bool.false_ne_true
  | byt i =>
    obtain ⟨t, rfl⟩ := rx
    cases y with
    | byt j => obtain ⟨t', rfl⟩ := ry; exact PySem.W.ne_bytes (fin_bl I q (congrArg not dec_byt))
    | _ => exact absurd (show false = true from hs) Bool.false_ne_true
  | _ => cases y <;> exact absurd (show false = true from hs) Bool.false_ne_true
theorem op_lt : OpR X (compareOp .Lt) (rI0 fun i j => .bl (decide (i < j))) := opB0 fun _ _ _ _ _ _ _ q => lt_int q
theorem op_le : OpR X (compareOp .LtE) (rI0 fun i j => .bl (decide (i ≤ j))) := opB0 fun _ _ _ _ _ _ _ q => le_int q
theorem op_gt : OpR X (compareOp .Gt) (rI0 fun i j => .bl (decide (j < i))) := opB0 fun _ _ _ _ _ _ _ q => gt_int q
theorem op_ge : OpR X (compareOp .GtE) (rI0 fun i j => .bl (decide (j ≤ i))) := opB0 fun _ _ _ _ _ _ _ q => ge_int q
theorem op_in_str : OpR X (compareOp .In) (fun x y H Q => ∃ i j, x = .str i ∧ y = .str j ∧ Q (.bl (!(Builtin.Str.occurrences j i 0 j.length 1).isEmpty)) H) := by
  intro pins s σ H x y v u Q I rx ry h
  obtain ⟨i, j, rfl, rfl, q⟩ := h
  obtain ⟨t, rfl⟩ := rx
  obtain ⟨t', rfl⟩ := ry
  exact in_str (fin_bl I q rfl)
theorem op_isN : OpR X (compareOp .Is) (fun x y H Q => y = .non ∧ Q (.bl (decide (x = .non))) H) := by
  intro pins s σ H x y v u Q I rx ry h
  obtain ⟨rfl, q⟩ := h
  cases ry
  refine is_none_gen (fin_bl I q ?_)
  cases x <;> first
    | (cases rx; rfl)
    | (obtain ⟨t, rfl⟩ := rx; rfl)
theorem op_notN : OpR X (compareOp .IsNot) (fun x y H Q => y = .non ∧ Q (.bl (!decide (x = .non))) H) := by
  intro pins s σ H x y v u Q I rx ry h
  obtain ⟨rfl, q⟩ := h
  cases ry
  refine isnot_none_gen (fin_bl I q ?_)
  cases x <;> first
    | (cases rx; rfl)
    | (obtain ⟨t, rfl⟩ := rx; rfl)
theorem OpR.or {f : Value → Value → Sem Value} {r r' : R2} (h : OpR X f r) (h' : OpR X f r') : OpR X f (fun x y H Q => r x y H Q ∨ r' x y H Q) := by
  intro pins s σ H x y v u Q I rx ry q
  rcases q with q | q
  · exact h pins s σ H x y v u Q I rx ry q
  · exact h' pins s σ H x y v u Q I rx ry q
theorem nomark (b : Expr) {op : CmpOp} (h : op ≠ .In := by decide) (h2 : op ≠ .NotIn := by decide) : behindInMarks op b = false := by
  have e1 : (op == CmpOp.In) = false := by cases op <;> first | rfl | exact absurd rfl h
  have e2 : (op == CmpOp.NotIn) = false := by cases op <;> first | rfl | exact absurd rfl h2
  cases b <;> simp [behindInMarks, e1, e2]
theorem pe_cmpR {op : CmpOp} {r : R2} (ho : OpR X (compareOp op) r) (ha : PE X a ta) (hb : PE X b tb) (hm : behindInMarks op b = false) : PE X (.Compare a [op] [b] pos) (tOp r ta tb) := by
  intro pins s σ H Q I h
  exact wpAny_Compare1 (binT ha hb I h fun v u s2 x y H2 I2 rx ry q => ho pins s2 σ H2 x y v u Q I2 rx ry q) hm
def tTest (t : TE) : TT := fun σ H Q => t σ H fun x H' => ∃ k, x = .bl k ∧ Q k H'
theorem pt_cmpR {op : CmpOp} {r : R2} (ho : OpR X (compareOp op) r) (ha : PE X a ta) (hb : PE X b tb) (hm : behindInMarks op b = false) : PT X (.Compare a [op] [b] pos) (tTest (tOp r ta tb)) := by
  intro pins s σ H Q I h
  refine wpAny_isTrue_Compare1 (thn (ha pins s σ H _ I h) fun v s1 ⟨x, H1, I1, r1, q1⟩ => thn (hb pins s1 σ H1 _ I1 q1) fun u s2 ⟨y, H2, I2, r2, q2⟩ =>
    thn (ho pins s2 σ H2 x y v u _ I2 r1 r2 q2) fun c s3 ⟨z, H3, I3, r3, k, e, q3⟩ => ?_) hm
  subst e
  cases r3
  exact wpAny_truthy_bool ⟨H3, I3, q3⟩
def tChain (r r' : R2) (ta tb tc : TE) : TE := fun σ H Q => ta σ H fun x H1 => tb σ H1 fun y H2 => r x y H2 fun z H3 => ∃ k, z = .bl k ∧
  (if k = true then tc σ H3 fun w' H4 => r' y w' H4 Q else Q (.bl false) H3)
theorem pe_chain {op op' : CmpOp} {r r' : R2} (ho : OpR X (compareOp op) r) (ho' : OpR X (compareOp op') r') (ha : PE X a ta) (hb : PE X b tb) (hc : PE X c tc)
    (hm : lastMarks [op, op'] [b, c] = false := by with_unfolding_all rfl) : PE X (.Compare a [op, op'] [b, c] pos) (tChain r r' ta tb tc) := by
  intro pins s σ H Q I h
  refine Compare_chain (thn (ha pins s σ H _ I h) fun v s1 ⟨x, H1, I1, r1, q1⟩ => chain_link (thn (hb pins s1 σ H1 _ I1 q1) fun u s2 ⟨y, H2, I2, r2, q2⟩ =>
    thn (ho pins s2 σ H2 x y v u _ I2 r1 r2 q2) fun d s3 ⟨z, H3, I3, r3, k, e, q3⟩ => ?_)) hm
  subst e
  cases r3
  refine wpAny_truthy_bool ?_
  cases k with
  | false => exact ite_ff ⟨.bl false, H3, I3, rfl, q3⟩
  | true => exact ite_tt (chain_last (thn (hc pins s3 σ H3 _ I3 q3) fun w' s4 ⟨z', H4, I4, r4, q4⟩ => ho' pins s4 σ H4 y z' u w' Q I4 r2 r4 q4))
def TruV (K : PySem.W.Frag) (x : V) (H : Hp) (k : Bool) : Prop :=
  match x with
  | .non => k = false
  | .bl b => k = b
  | .int i => k = (i != 0)
  | .str y => y.length ≤ sizeLine ∧ k = ((y.length : Int) != 0)
  | .byt y => y.size ≤ sizeLine ∧ k = ((y.size : Int) != 0)
  | .ref p => (∃ xs, SqL K H p xs ∧ k = !xs.isEmpty) ∨ (∃ xs, SqT K H p xs ∧ k = !xs.isEmpty) ∨ ∃ kvs, H p = some (.dK kvs) ∧ k = !kvs.isEmpty
  | _ => False
theorem isEmpty_kv {κ : Type} {kvs : List (κ × V)} {vs : List (κ × Value)} (r : KV kvs vs) : (!vs.isEmpty) = !kvs.isEmpty := by
  cases r <;> rfl
theorem isEmpty_of {xs : List V} {its : List Value} (r : Vals xs its) : (!its.toArray.isEmpty) = !xs.isEmpty := by
  cases r <;> simp
theorem line63 : (sizeLine : Nat) < 2 ^ 63 := by rw [sizeLine_eq]; decide
theorem tru_ok : TruR X (fun x H Q => ∃ k, TruV X.K x H k ∧ Q k H) := by
  intro pins s σ H x v Q I rx h
  obtain ⟨k, e, q⟩ := h
  have hl := line63
  have hs : sizeLine = 16777216 := sizeLine_eq
  cases x with
  | non =>
    cases rx
    have e' : k = false := e
    subst e'
    exact truthy_none ⟨H, I, q⟩
  | bl b =>
    cases rx
    have e' : k = b := e
    subst e'
    exact wpAny_truthy_bool ⟨H, I, q⟩
  | int i =>
    obtain ⟨t, rfl⟩ := rx
    have e' : k = (i != 0) := e
    subst e'
    exact PySem.P.truthy_int ⟨H, I, q⟩
  | str y =>
    obtain ⟨t, rfl⟩ := rx
    obtain ⟨hy, e'⟩ : y.length ≤ sizeLine ∧ k = ((y.length : Int) != 0) := e
    subst e'
    exact PySem.P.truthy_str (by omega) ⟨H, I.tok _, q⟩
  | byt y =>
    obtain ⟨t, rfl⟩ := rx
    obtain ⟨hy, e'⟩ : y.size ≤ sizeLine ∧ k = ((y.size : Int) != 0) := e
    subst e'
    exact PySem.W.truthy_bytes (by omega) ⟨H, I.tok _, q⟩
  | ref p =>
    cases rx
    have e' : (∃ xs, SqL X.K H p xs ∧ k = !xs.isEmpty) ∨ (∃ xs, SqT X.K H p xs ∧ k = !xs.isEmpty) ∨ ∃ kvs, H p = some (.dK kvs) ∧ k = !kvs.isEmpty := e
    rcases e' with ⟨xs, hx, e'⟩ | ⟨xs, hx, e'⟩ | ⟨kvs, hx, e'⟩
    · subst e'
      obtain ⟨its, r, pl, hz⟩ := I.list hx
      have hlen := r.length
      exact wpAny_truthy_list pl.isList (by simp only [List.size_toArray]; omega) ⟨H, I.tok _, by rw [isEmpty_of r]; exact q⟩
    · subst e'
      obtain ⟨its, r, pl, hz⟩ := I.tuple hx
      have hlen := r.length
      exact truthy_tuple pl (by simp only [List.size_toArray]; omega) ⟨H, I.tok _, by rw [isEmpty_of r]; exact q⟩
    · subst e'
      obtain ⟨hz, hS, vs, r, m⟩ : kvs.length ≤ sizeLine ∧ (p == sysModules) = false ∧ ∃ vs, KV kvs vs ∧ s.heap.DictOf (mixKind X.prog X.w) p vs := I.hok p _ hx
      have hlen : kvs.length = vs.length := Paired.length r
      exact wpAny_truthy_dict hS m (by omega) ⟨H, I.tok _, by rw [isEmpty_kv r]; exact q⟩
  | _ => exact (show False from e).elim
theorem pt_truth (ha : PE X a ta) (he : ∀ whole, isTrue a X.env whole = (do let v ← whole; standAt a.pos; holding [v] (truthy v))) :
    PT X a (fun σ H Q => ta σ H fun x H' => ∃ k, TruV X.K x H' k ∧ Q k H') := by
  intro pins s σ H Q I h
  exact isTrue_plain (thn (ha pins s σ H _ I h) fun v s1 ⟨x, H1, I1, r1, q1⟩ => tru_ok pins s1 σ H1 x v Q I1 r1 q1) (he _)
theorem op_add_str : OpR X (binaryOp .Add) (fun x y H Q => ∃ i j, x = .str i ∧ y = .str j ∧ i.length + j.length ≤ sizeLine ∧ Q (.str (i ++ j)) H) := by
  intro pins s σ H x y v u Q I rx ry h
  obtain ⟨i, j, rfl, rfl, hz, q⟩ := h
  obtain ⟨t, rfl⟩ := rx
  obtain ⟨t', rfl⟩ := ry
  exact add_str (fun t' tk => ⟨.str (i ++ j), H, I.tok _, ⟨_, rfl⟩, q⟩) hz
theorem vals1 {x : V} {us : List Value} (r : Vals [x] us) : ∃ u, us = [u] ∧ RelV x u := by
  cases r with
  | cons r1 r2 => cases r2; exact ⟨_, rfl, r1⟩
theorem vals2 {x y : V} {us : List Value} (r : Vals [x, y] us) : ∃ u w', us = [u, w'] ∧ RelV x u ∧ RelV y w' := by
  cases r with
  | cons r1 r2 =>
    cases r2 with
    | cons r3 r4 => cases r4; exact ⟨_, _, rfl, r1, r3⟩
theorem call_abs : CallR X (.builtin "abs") (fun xs H Q => ∃ i, xs = [.int i] ∧ Q (.int (if i < 0 then -i else i)) H) := by
  intro pins s σ H xs us Q I r h
  obtain ⟨i, rfl, q⟩ := h
  obtain ⟨u, rfl, t, rfl⟩ := vals1 r
  exact call_abs_int fun u tk => ⟨.int (if i < 0 then -i else i), H, I.tok _, ⟨_, rfl⟩, q⟩
theorem call_max2 (hc : X.calm = true) : CallR X (.builtin "max") (fun xs H Q => ∃ i j, xs = [.int i, .int j] ∧ Q (.int (if j > i then j else i)) H) := by
  intro pins s σ H xs us Q I r h
  obtain ⟨i, j, rfl, q⟩ := h
  obtain ⟨u, w', rfl, ⟨t, rfl⟩, ⟨t', rfl⟩⟩ := vals2 r
  refine max_two_ints (I.ok.hd hc) fun h' tk k => ⟨_, H, I.kept k, ?_, q⟩
  by_cases hj : j > i
  · rw [if_pos hj, if_pos hj]; exact ⟨_, rfl⟩
  · rw [if_neg hj, if_neg hj]; exact ⟨_, rfl⟩
theorem call_min2 (hc : X.calm = true) : CallR X (.builtin "min") (fun xs H Q => ∃ i j, xs = [.int i, .int j] ∧ Q (.int (if j < i then j else i)) H) := by
  intro pins s σ H xs us Q I r h
  obtain ⟨i, j, rfl, q⟩ := h
  obtain ⟨u, w', rfl, ⟨t, rfl⟩, ⟨t', rfl⟩⟩ := vals2 r
  refine min_two_ints (I.ok.hd hc) fun h' tk k => ⟨_, H, I.kept k, ?_, q⟩
  by_cases hj : j < i
  · rw [if_pos hj, if_pos hj]; exact ⟨_, rfl⟩
  · rw [if_neg hj, if_neg hj]; exact ⟨_, rfl⟩
theorem call_int1 : CallR X (.type "int") (fun xs H Q => (∃ i, xs = [.int i] ∧ Q (.int i) H) ∨ ∃ k, xs = [.bl k] ∧ Q (.int (if k then 1 else 0)) H) := by
  intro pins s σ H xs us Q I r h
  rcases h with ⟨i, rfl, q⟩ | ⟨k, rfl, q⟩
  · obtain ⟨u, rfl, t, rfl⟩ := vals1 r
    exact call_int_int ⟨.int i, H, I, ⟨_, rfl⟩, q⟩
  · obtain ⟨u, rfl, r1⟩ := vals1 r
    cases r1
    exact call_int_bool ⟨.int (if k then 1 else 0), H, I.tok _, ⟨_, rfl⟩, q⟩
theorem call_str_int : CallR X (.type "str") (fun xs H Q => ∃ i, xs = [.int i] ∧ i.natAbs.log2 < 1920 ∧ Q (.str (toString i)) H) := by
  intro pins s σ H xs us Q I r h
  obtain ⟨i, rfl, hz, q⟩ := h
  obtain ⟨u, rfl, t, rfl⟩ := vals1 r
  exact PySem.P.str_of_int hz ⟨.str _, H, I.tok _, ⟨_, rfl⟩, q⟩
end
end L2
namespace L2
open PySem PySem.Spec PyProof.Rows
structure ObjM (h : Heap) (x dx C : Addr) (mA : Str → Option Value) : Prop where
  obj : h.get? x = some (PySem.W.instObj C dx)
  ns : h.Ns1 dx mA
  ne : dx ≠ x
theorem lookIn_ns {h : Heap} {dx : Addr} {mA : Str → Option Value} (n : h.Ns1 dx mA) : ∃ od, h.get? dx = some od ∧ ∀ name, PySem.W.lookIn name od = some (mA name) := by
  obtain ⟨o, es, ep, ho, hd, hk, _, hm⟩ := n
  refine ⟨o, ho, fun name => ?_⟩
  have e := hm name
  unfold nsFind findBy at e
  rw [← Array.find?_toList] at e
  unfold PySem.W.lookIn
  rw [hd]
  dsimp only
  split
  · rename_i y q
    rw [q] at e
    exact congrArg some e
  · rename_i q
    rw [q] at e
    have a : es.toList.any (·.refKey) = false := by
      rw [List.any_eq_false]
      intro y hy
      obtain ⟨z, t, hkey⟩ := hk y (Array.mem_toList_iff.mp hy)
      simp [DictEntry.refKey, hkey]
    have a' : ¬ es.toList.any (·.refKey) = true := by rw [a]; exact Bool.false_ne_true
    rw [if_neg a']
    exact congrArg some e
theorem ObjM.look {h : Heap} {x dx C : Addr} {mA : Str → Option Value} (I : ObjM h x dx C mA) : ∃ od, PySem.W.InstAt h x (PySem.W.instObj C dx) C (some od) ∧ ∀ name, PySem.W.lookIn name od = some (mA name) :=
  let ⟨od, ho, hl⟩ := lookIn_ns I.ns
  ⟨od, ⟨I.obj, rfl, rfl, ho⟩, hl⟩
section
variable {prog : Program} {w : World} {A : Around} {E : Value → Shared → Prop} {s : Shared} {K : PySem.W.Frag} {x dx C f : Addr} {mA : Str → Option Value} {name : Str} {v : Value}
end
section
variable {P : Program} {w : World} {H H' : Hp} {h h' : Heap} {a C dx : Addr} {fs fs' : List (Str × V)}
theorem ins_get (hok : HOk P w H h) (e : H a = some (.ins C dx fs)) : ∃ mA, ObjM h a dx C mA ∧ (∀ f, RelO (fs.lookup f) (mA f)) ∧ PySem.Within mA (fs.map (·.1)) ∧ fs.length ≤ 1000 ∧ H dx = some (.own a) := by
  obtain ⟨d, z, ne, ob, mA, n, r, q⟩ := (show ObjOk P w H h a (.ins C dx fs) from hok a _ e)
  exact ⟨mA, ⟨ob, n, ne⟩, r, q, z, d⟩
end
structure Cls (K : PySem.W.Frag) (C : Addr) : Prop where
  pg : PySem.W.plainGet K C Str.empty = true
  hd : PySem.W.hasDictIn K C = true
  po : PySem.W.plainOver K C = true
  sa : PySem.W.findIn K (.ref C) "__setattr__" = some (some (.builtin "object.__setattr__"))
theorem Cls.get {K : PySem.W.Frag} {C : Addr} (c : Cls K C) (f : Str) : PySem.W.plainGet K C f = true := c.pg
structure Con (K : PySem.W.Frag) (C : Addr) (f : Str) (v : V) (u : Value) : Prop where
  at_ : PySem.W.findIn K (.ref C) f = some (some u)
  rel : RelV v u
  get : PySem.W.specialIn K u "__get__" = some none
  cp : PySem.W.copiedNames.contains f = false
structure Meth (K : PySem.W.Frag) (C : Addr) (m : Str) (f : Addr) : Prop where
  at_ : PySem.W.findIn K (.ref C) m = some (some (.ref f))
  fn : PySem.W.isFn K (.ref f) = true
  kp : PySem.W.keepIn K (.ref f) = true
section
variable {X : Cx} {pins : List (Addr × Obj)} {σ : St} {H : Hp} {s : Shared} {a C dx : Addr} {fs : List (Str × V)} {f : Str} {v : V} {A : Around} {E : Value → Shared → Prop}
end
section
variable {X : Cx} {o e value : Expr} {f : Str} {pos pos' tpos : Pos} {ta tv : TE}
end
section
variable {X : Cx} {pins : List (Addr × Obj)} {σ : St} {H : Hp} {s : Shared} {A : Around} {E : Value → Shared → Prop} {Q : Value → Shared → Prop} {c : Value} {b : Bool}
inductive TyOf (K : PySem.W.Frag) (H : Hp) : V → Value → Prop where
  | non : TyOf K H .non (.type "NoneType")
  | bl (x : Bool) : TyOf K H (.bl x) (.type "bool")
  | int (i : Int) : TyOf K H (.int i) (.type "int")
  | str (x : Str) : TyOf K H (.str x) (.type "str")
  | flt (x : UInt64) : TyOf K H (.flt x) (.type "float")
  | lst {a : Addr} {xs : List V} (e : H a = some (.lst xs)) : TyOf K H (.ref a) (.type "list")
  | frz {a : Addr} {o : Obj} {xs : List V} (e : H a = some (.frz o (.lst xs))) : TyOf K H (.ref a) (.type "list")
  | tup {a : Addr} {xs : List V} (e : H a = some (.tup xs)) : TyOf K H (.ref a) (.type "tuple")
  | dK {a : Addr} {kvs : List (Key × V)} (e : H a = some (.dK kvs)) : TyOf K H (.ref a) (.type "dict")
  | dT {a : Addr} {kvs : List (List Key × V)} (e : H a = some (.dT kvs)) : TyOf K H (.ref a) (.type "dict")
  | ins {a C dx : Addr} {fs : List (Str × V)} (e : H a = some (.ins C dx fs)) (cl : Cls K C) (ha : PySem.W.findIn K (.ref C) "__class__" = some (some (.builtin "object.__class__")))
      (hn : PySem.W.specialIn K (.builtin "object.__class__") "__get__" = some (some (.builtin "getset_descriptor.__get__"))) (htk : PySem.W.takesIn K (.builtin "object.__class__") = some true)
      (hm : PySem.W.mroIn K C (.type "object") = some true) : TyOf K H (.ref a) (.ref C)
theorem isinst_ok {x : V} {u t : Value} (I : Inv X pins σ H s) (rx : RelV x u) (ty : TyOf X.K H x t) (e : PySem.W.kitOne X.K t c = some b) (h : ∀ tk, Q (.bool b) { s with toks := tk }) :
    wpAny (model X.prog X.w) A (call (.builtin "isinstance") [u, c]) Q E s := by
  cases ty with
  | non => cases (show u = Value.none from rx); exact PySem.W.kia_one PySem.W.kitx_none I.kIn True.intro e (fun z => nomatch z) h
  | bl y => cases (show u = Value.bool y from rx); exact PySem.W.kia_one PySem.W.kitx_bool I.kIn True.intro e (fun z => nomatch z) h
  | int i => obtain ⟨t, q⟩ := (show ∃ t, u = Value.int i t from rx); cases q; exact PySem.W.kia_one PySem.W.kitx_int I.kIn True.intro e (fun z => nomatch z) h
  | str y => obtain ⟨t, q⟩ := (show ∃ t, u = Value.str y t from rx); cases q; exact PySem.W.kia_one PySem.W.kitx_str I.kIn True.intro e (fun z => nomatch z) h
  | flt y => obtain ⟨t, q⟩ := (show ∃ t, u = Value.float y t from rx); cases q; exact PySem.W.kia_one PySem.W.kitx_float I.kIn True.intro e (fun z => nomatch z) h
  | @lst a xs ea =>
    cases (show u = Value.ref a from rx)
    obtain ⟨_, _, n, _, h1⟩ := (show ObjOk X.prog X.w H s.heap a (.lst xs) from I.hok a _ ea)
    exact PySem.W.kia_one PySem.W.kitx_list I.kIn ⟨_, h1, rfl⟩ e (fun z => nomatch z) h
  | @frz a ob xs ea =>
    cases (show u = Value.ref a from rx)
    obtain ⟨_, _, _, n, _, h1⟩ := (show ObjOk X.prog X.w H s.heap a (.frz ob (.lst xs)) from I.hok a _ ea)
    exact PySem.W.kia_one PySem.W.kitx_list I.kIn ⟨_, h1, rfl⟩ e (fun z => nomatch z) h
  | @tup a xs ea =>
    cases (show u = Value.ref a from rx)
    obtain ⟨_, _, _, p⟩ := (show ObjOk X.prog X.w H s.heap a (.tup xs) from I.hok a _ ea)
    obtain ⟨o, h1, h2, _⟩ := p
    exact PySem.W.kia_one PySem.W.kitx_tuple I.kIn ⟨o, h1, h2⟩ e (fun z => nomatch z) h
  | @dK a kvs ea =>
    cases (show u = Value.ref a from rx)
    obtain ⟨_, _, vs, _, p⟩ := (show ObjOk X.prog X.w H s.heap a (.dK kvs) from I.hok a _ ea)
    obtain ⟨o, es, ep, h1, h2, _⟩ := p
    exact PySem.W.kia_one PySem.W.kitx_dict I.kIn ⟨o, h1, h2.1⟩ e (fun z => nomatch z) h
  | @dT a kvs ea =>
    cases (show u = Value.ref a from rx)
    obtain ⟨_, _, xs, _, o, es, ep, h1, h2, _⟩ := (show ObjOk X.prog X.w H s.heap a (.dT kvs) from I.hok a _ ea)
    exact PySem.W.kia_one PySem.W.kitx_dict I.kIn ⟨o, h1, h2.1⟩ e (fun z => nomatch z) h
  | @ins a C dx fs ea cl ha hn htk hm =>
    cases (show u = Value.ref a from rx)
    obtain ⟨mA, O, _⟩ := ins_get I.hok ea
    obtain ⟨od, J, _⟩ := O.look
    exact PySem.W.kia_one (PySem.W.kitx_own (cl.get _) cl.hd ha hn htk hm) I.kIn J e (fun z => nomatch z) h
end
end L2
namespace L2
open PySem PySem.Spec PyProof.Rows
structure Room (k : Nat) (A : Around) : Prop where
  hd : A.handled = none
  dp : A.depth + 3 * k + 5 < recursionLimit
  un : A.units + 16 * k + 200 < cLine
theorem Room.mono {j k : Nat} {A : Around} (r : Room k A) (h : j ≤ k) : Room j A := ⟨r.hd, by have := r.dp; omega, by have := r.un; omega⟩
theorem Room.deeper {k : Nat} {A : Around} (r : Room (k + 1) A) (env : Env) : Room k (A.deeper env) :=
  ⟨r.hd, by have := r.dp; show A.depth + 1 + 3 * k + 5 < _; omega, by have := r.un; show A.units + 3 + 16 * k + 200 < _; omega⟩
theorem Room.depth {k : Nat} {A : Around} (r : Room k A) : A.depth < recursionLimit := by have := r.dp; omega
theorem Room.units {k : Nat} {A : Around} (r : Room k A) : A.units + 64 < cLine := by have := r.un; omega
def tNil : TA := fun _ H Q => Q [] H
def tCons (ta : TE) (tr : TA) : TA := fun σ H Q => ta σ H fun x H1 => tr σ H1 fun xs H2 => Q (x :: xs) H2
section
variable {X : Cx} {e : Expr} {es : List Expr} {te : TE} {t : TA} {pos : Pos}
theorem pa_nil : PA X [] tNil := fun _ _ _ _ H Q I h => Calls.spliced_nil ⟨[], H, I, .nil, h⟩
theorem pa_cons (ha : PE X e te) (hr : PA X es t) (hs : starEach (e :: es) X.env = (false, eval e X.env) :: starEach es X.env := by rfl) : PA X (e :: es) (tCons te t) := by
  intro pos pins s σ H Q I h
  rw [hs]
  show wpAny _ _ (spliced ((false, eval e X.env) :: backTo pos (starEach es X.env))) _ _ s
  refine Calls.spliced_cons (thn (ha pins s σ H _ I h) fun u s1 ⟨x, H1, I1, r1, q1⟩ => ?_)
  exact thn (hr pos pins s1 σ H1 _ I1 q1) fun us s2 ⟨xs, H2, I2, r2, q2⟩ => ⟨x :: xs, H2, I2, .cons r1 r2, q2⟩
def tTup (t : TA) : TE := fun σ H Q => t σ H fun xs H1 => xs.length ≤ sizeLine ∧ ∀ p, H1 p = none → Q (.ref p) (upd H1 p (.tup xs))
def tLst (t : TA) : TE := fun σ H Q => t σ H fun xs H1 => xs.length ≤ sizeLine ∧ ∀ p, H1 p = none → Q (.ref p) (upd H1 p (.lst xs))
theorem pe_tup {x1} (h : PA X es t) : PE X (.Tuple es x1 pos) (tTup t) := by
  intro pins s σ H Q I hq
  refine wpAny_Tuple_spliced (thn (h pos pins s σ H _ I hq) fun us s1 ⟨xs, H1, I1, r, z, q⟩ => ⟨by rw [← r.length]; exact z, ?_⟩)
  have hf : H1 s1.heap.objs.size = none := I1.hok.fresh (Nat.le_refl _)
  refine ⟨.ref s1.heap.objs.size, upd H1 s1.heap.objs.size (.tup xs), I1.laid (t' := s1.toks) (fun b u e => Heap.get?_push_of_some _ e) (Nat.le_refl _) ?_, rfl, q _ hf⟩
  exact ⟨z, us, r, ⟨_, Heap.get?_push_size _ rfl, rfl, _, rfl⟩⟩
theorem pe_lst (h : PA X es t) : PE X (.List es pos) (tLst t) := by
  intro pins s σ H Q I hq
  refine wpAny_List_spliced (thn (h pos pins s σ H _ I hq) fun us s1 ⟨xs, H1, I1, r, z, q⟩ => ⟨by rw [← r.length]; exact z, ?_⟩)
  have hf : H1 s1.heap.objs.size = none := I1.hok.fresh (Nat.le_refl _)
  refine ⟨.ref s1.heap.objs.size, upd H1 s1.heap.objs.size (.lst xs), I1.laid (t' := s1.toks) (fun b u e => Heap.get?_push_of_some _ e) (Nat.le_refl _) ?_, rfl, q _ hf⟩
  exact ⟨z, us, 0, r, Heap.get?_push_size _ rfl⟩
end
abbrev Sp := List V → Hp → VK → XK → Prop
abbrev CXT := List Env → Hp → Shared → XK → Value → Shared → Prop
structure Env0 (P : Program) (w : World) (K : PySem.W.Frag) (mg : Str → Option Value) (base : Heap) (A : Around) (outer : List Env) (s : Shared) (H : Hp) : Prop where
  frames : A.frames = some outer
  mod : Mod K mg base
  bs : ∀ b o, base.get? b = some o → s.heap.get? b = some o ∧ H b = none
  bsz : base.objs.size ≤ s.heap.objs.size
  funs : s.heap.FunFrames base outer
  frf : ∀ b ∈ frs outer, H b = none
  hok : HOk P w H s.heap
  bare : AllBare s.gens
def CE (outer : List Env) (P : Program) (w : World) (H : Hp) (s : Shared) (Q : VK) (u : Value) (s' : Shared) : Prop :=
  ∃ v H', s'.os = s.os ∧ AllBare s'.gens ∧ Un (frs outer) [] H H' s.heap s'.heap ∧ HOk P w H' s'.heap ∧ RelV v u ∧ Q v H'
def CR (CX : CXT) (outer : List Env) (P : Program) (w : World) (H : Hp) (s : Shared) (Q : VK) (E : XK) (r : Result) (s' : Shared) : Prop :=
  match r with
  | .ok (.ret u) => CE outer P w H s Q u s'
  | .ok _ => False
  | .error e => CX outer H s E e s'
structure FnOk (P : Program) (w : World) (K : PySem.W.Frag) (mg : Str → Option Value) (base : Heap) (CX : CXT) (k : Nat) (f : Addr) (fd : FuncData) (ps : List Str) (sp : Sp) : Prop where
  len : ∀ vs H Q E, sp vs H Q E → vs.length = ps.length
  run : ∀ (A : Around) (outer : List Env) (s : Shared) (H : Hp) (args : Args) (us : List Value) (vs : List V) (Q : VK) (E : XK), Room k A → Env0 P w K mg base A outer s H → BindsTo s fd args (ps.zip us) → Vals vs us → sp vs H Q E →
    codeAny (model P w) A (.call (.ref f) args) (CR CX outer P w H s Q E) s
theorem FnOk.mono {P : Program} {w : World} {K : PySem.W.Frag} {mg : Str → Option Value} {base : Heap} {CX : CXT} {j k : Nat} {f : Addr} {fd : FuncData} {ps : List Str} {sp : Sp} (F : FnOk P w K mg base CX j f fd ps sp) (h : j ≤ k) :
    FnOk P w K mg base CX k f fd ps sp := ⟨F.len, fun A outer s H args us vs Q E hr => F.run A outer s H args us vs Q E (hr.mono h)⟩
section
variable {X : Cx} {pins : List (Addr × Obj)} {σ : St} {H : Hp} {s s' : Shared}
theorem Inv.env0 (I : Inv X pins σ H s) : Env0 X.prog X.w X.K X.mg X.base X.A X.stack s H :=
  ⟨I.ok.frames, I.ok.mod, I.bs, Nat.le_trans I.ok.bsz I.sz, I.stack, I.stkFree, I.hok, I.bare⟩
theorem Inv.after {Q : VK} {u : Value} (I : Inv X pins σ H s) (h : CE X.stack X.prog X.w H s Q u s') : EP X pins σ Q u s' := by
  obtain ⟨v, H', os, bare, un, hok, r, q⟩ := h
  obtain ⟨hh, g, d, t, os'⟩ := s'
  obtain rfl : os' = s.os := os
  exact ⟨v, H', I.call (h' := hh) (g' := g) (d' := d) (t' := t) (ch := []) un hok bare (fun b z => absurd z (by simp)), r, q⟩
end
def tCall (sp : Sp) (dvs : List V) (E : XK) (t : TA) : TE := fun σ H Q => t σ H fun vs H1 => sp (vs ++ dvs) H1 Q E
def Binds (K : PySem.W.Frag) (fd : FuncData) (ps : List Str) (ds : List Value) : Prop :=
  ∀ (s : Shared) (us : List Value), K.In s.heap → (us ++ ds).length = ps.length → BindsTo s fd ⟨us, []⟩ (ps.zip (us ++ ds))
theorem Binds.all {K : PySem.W.Frag} {fd : FuncData} {ps : List Str} (h : ∀ us : List Value, us.length = ps.length → bindArgs fd ⟨us, []⟩ = pure (ps.zip us)) : Binds K fd ps [] := fun s us _ hl => by
  rw [List.append_nil] at hl ⊢
  exact .of_eq (h us hl)
def Passes (CX : CXT) (X : Cx) (E : XK) : Prop := ∀ (pins : List (Addr × Obj)) (σ : St) (H : Hp) (s : Shared) (e : Value) (s' : Shared), Inv X pins σ H s → CX X.stack H s E e s' → X.xe e s'
section
variable {X : Cx} {CX : CXT} {k : Nat} {f C : Addr} {fd : FuncData} {ps : List Str} {sp : Sp} {dvs : List V} {ds : List Value} {E : XK} {x m : Str} {p pos apos : Pos} {e o : Expr} {es : List Expr} {ta : TE} {t : TA}
theorem run_fn {pins : List (Addr × Obj)} {σ : St} {H : Hp} {s : Shared} {Q : VK} {us : List Value} {vs : List V} (F : FnOk X.prog X.w X.K X.mg X.base CX k f fd ps sp) (hr : Room k X.A) (hb : Binds X.K fd ps ds) (hd : Vals dvs ds) (hx : Passes CX X E)
    (I : Inv X pins σ H s) (r : Vals vs us) (h : sp (vs ++ dvs) H Q E) : wpAny (model X.prog X.w) X.A (call (.ref f) us) (EP X pins σ Q) X.xe s := by
  have r2 : Vals (vs ++ dvs) (us ++ ds) := r.append hd
  have hl : (us ++ ds).length = ps.length := by rw [← r2.length]; exact F.len _ _ _ _ h
  refine wpAny_call (codeAny_mono (F.run X.A X.stack s H ⟨us, []⟩ (us ++ ds) (vs ++ dvs) Q E hr I.env0 (hb s us I.kIn hl) r2 h) fun r s' hq => ?_)
  cases r with
  | error e => exact hx pins σ H s e s' I hq
  | ok fl =>
    cases fl with
    | ret u => exact I.after hq
    | next => exact False.elim hq
    | brk => exact False.elim hq
    | cont => exact False.elim hq
theorem pe_call (F : FnOk X.prog X.w X.K X.mg X.base CX k f fd ps sp) (hr : Room k X.A) (hg : Gl X x) (hm : X.mg x = some (.ref f)) (hk : PySem.W.keepIn X.K (.ref f) = true) (hb : Binds X.K fd ps ds) (hd : Vals dvs ds) (hx : Passes CX X E)
    (ha : PA X (e :: es) t) (hdb : (x == ("__debug__" : Str)) = false := by decide) (he : starEach (e :: es) X.env = (false, eval e X.env) :: starEach es X.env := by rfl) (hpl : (backTo pos (starEach es X.env)).any (·.1) = false := by rfl) :
    PE X (.Call (.Name x p) (e :: es) [] pos) (tCall sp dvs E t) := by
  intro pins s σ H Q I h
  refine wpAny_Call_Name_kw (ld_glob I hg hm ?_ hdb)
  refine PySem.W.callWith_K (h₀ := X.base) I.ok.mod.kin hk (thn (ha pos pins s σ H _ I h) fun us s1 ⟨vs, H1, I1, r, q⟩ => ⟨I1.kIn, ?_⟩) he hpl
  exact run_fn F hr hb hd hx I1 r q
structure Mk (K : PySem.W.Frag) (C f : Addr) : Prop where
  makes : PySem.W.makesIn K C = true
  init : PySem.W.findIn K (.ref C) "__init__" = some (some (.ref f))
  fn : PySem.W.isFn K (.ref f) = true
  kp : PySem.W.keepIn K (.ref C) = true
end
section
variable {X : Cx} {CX : CXT} {k : Nat} {f C : Addr} {fd : FuncData} {ps ks : List Str} {sp : Sp} {E : XK} {x m : Str} {p pos apos kpos : Pos} {e o : Expr} {es : List Expr} {kws : List Keyword} {te ta : TE} {t tk : TA} {nm : Option Str}
structure KBinds (K : PySem.W.Frag) (fd : FuncData) (ps ks : List Str) (g : List Value → List Value → List Value) (gV : List V → List V → List V) : Prop where
  to : ∀ (s : Shared) (us ws : List Value), K.In s.heap → (g us ws).length = ps.length → BindsTo s fd ⟨us, ks.zip ws⟩ (ps.zip (g us ws))
  rel : ∀ {vs : List V} {us : List Value} {zs : List V} {ws : List Value}, Vals vs us → Vals zs ws → Vals (gV vs zs) (g us ws)
variable {g : List Value → List Value → List Value} {gV : List V → List V → List V}
end
structure FnScope (N P : List Str) (sc : Scope) : Prop where
  kind : sc.kind = .function
  co : sc.isCoroutine = false
  gen : sc.isGenerator = false
  nd : N.Nodup
  pre : N.take P.length = P
  par : ∀ x ∈ P, sc.names.lookup x = some .local ∨ sc.names.lookup x = some .cell
  nofree : ∀ y ∈ sc.names, y.2 ≠ .free
theorem bindL_out {kindOf : Str → Option NameKind} {x : Str} : ∀ {binds : List (Str × Value)} {m : Str → Option Value}, (∀ v, (x, v) ∉ binds) → bindL kindOf binds m x = m x
  | [], _, _ => rfl
  | (n, v) :: r, m, h => by
    unfold bindL
    rw [bindL_out fun w hw => h w (List.mem_cons_of_mem _ hw)]
    split
    · have : x ≠ n := by rintro rfl; exact h v List.mem_cons_self
      simp [this]
    · rfl
theorem bindC_out {kindOf : Str → Option NameKind} {x : Str} : ∀ {binds : List (Str × Value)} {m : Str → Option Value}, (∀ v, (x, v) ∉ binds) → bindC kindOf binds m x = m x
  | [], _, _ => rfl
  | (n, v) :: r, m, h => by
    unfold bindC
    rw [bindC_out fun w hw => h w (List.mem_cons_of_mem _ hw)]
    split
    · rfl
    · have : x ≠ n := by rintro rfl; exact h v List.mem_cons_self
      simp [this]
theorem bindL_get {kindOf : Str → Option NameKind} {x : Str} {v : Value} : ∀ {P : List Str} {vs : List Value} {i : Nat} {m : Str → Option Value}, P.Nodup → P[i]? = some x → vs[i]? = some v → kindOf x = some .local →
    bindL kindOf (P.zip vs) m x = some v
  | [], _, _, _, _, h, _, _ => by simp at h
  | _ :: _, [], _, _, _, _, h, _ => by simp at h
  | p :: P, w :: vs, 0, m, nd, h1, h2, hk => by
    simp at h1 h2; subst h1; subst h2
    show bindL kindOf ((p, w) :: P.zip vs) m p = _
    unfold bindL
    rw [bindL_out fun v hv => (List.nodup_cons.mp nd).1 (List.of_mem_zip hv).1, if_pos hk]
    simp
  | p :: P, w :: vs, i + 1, m, nd, h1, h2, hk => by
    show bindL kindOf ((p, w) :: P.zip vs) m x = _
    unfold bindL
    exact bindL_get (i := i) (List.nodup_cons.mp nd).2 (by simpa using h1) (by simpa using h2) hk
theorem bindC_get {kindOf : Str → Option NameKind} {x : Str} {v : Value} : ∀ {P : List Str} {vs : List Value} {i : Nat} {m : Str → Option Value}, P.Nodup → P[i]? = some x → vs[i]? = some v → kindOf x ≠ some .local →
    bindC kindOf (P.zip vs) m x = some v
  | [], _, _, _, _, h, _, _ => by simp at h
  | _ :: _, [], _, _, _, _, h, _ => by simp at h
  | p :: P, w :: vs, 0, m, nd, h1, h2, hk => by
    simp at h1 h2; subst h1; subst h2
    show bindC kindOf ((p, w) :: P.zip vs) m p = _
    unfold bindC
    rw [bindC_out fun v hv => (List.nodup_cons.mp nd).1 (List.of_mem_zip hv).1, if_neg hk]
    simp
  | p :: P, w :: vs, i + 1, m, nd, h1, h2, hk => by
    show bindC kindOf ((p, w) :: P.zip vs) m x = _
    unfold bindC
    exact bindC_get (i := i) (List.nodup_cons.mp nd).2 (by simpa using h1) (by simpa using h2) hk
def start (N : List Str) (vs : List V) : St := vs.map some ++ List.replicate (N.length - vs.length) none
def cxOf (CX : CXT) (P : Program) (w : World) (K : PySem.W.Frag) (mg : Str → Option Value) (base : Heap) (N : List Str) (qual : Str) (scope : Scope) (f : Addr) (cd : Value) (A : Around) (outer : List Env) (s : Shared) (H : Hp) (E : XK) : Cx where
  prog := P
  w := w
  K := K
  mg := mg
  base := base
  A := A.deeper (envOfC qual scope s.heap.objs.size f cd)
  N := N
  s₀ := s
  H₀ := H
  env := envOfC qual scope s.heap.objs.size f cd
  outer := outer
  stack := envOfC qual scope s.heap.objs.size f cd :: outer
  ex := []
  calm := true
  fn := fun _ => true
  pn := []
  xe := fun e s' => wpAny (model P w) (A.deeper (envOfC qual scope s.heap.objs.size f cd)) (leaving (envOfC qual scope s.heap.objs.size f cd) e) (fun _ s'' => CX outer H s E e s'') (fun e' s'' => CX outer H s E e' s'') s'
theorem cell_has {sc : Scope} {n : Nat} {x : Str} (h : sc.names.lookup x = some .cell) : ∃ c, (cellsFrom n sc.names []).lookup x = some c := by
  have q := PySem.W.cellsFrom_some sc.names n [] (.inl h)
  exact Option.isSome_iff_exists.mp q
theorem inv_start {CX : CXT} {P : Program} {w : World} {K : PySem.W.Frag} {mg : Str → Option Value} {base : Heap} {N ps : List Str} {qual : Str} {scope : Scope} {f : Addr} {cd : Value} {A : Around} {outer : List Env} {s s1 : Shared} {H : Hp} {E : XK} {us : List Value} {vs : List V}
    (S : FnScope N ps scope) (hd : A.handled = none) (e0 : Env0 P w K mg base A outer s H) (hl : vs.length = ps.length) (r : Vals vs us)
    (x : InCallC s s.heap.objs.size (bindL (envOfC qual scope s.heap.objs.size f cd).kindOf (ps.zip us) fun _ => none) (cellsFrom (s.heap.objs.size + 1) scope.names []) (bindC (envOfC qual scope s.heap.objs.size f cd).kindOf (ps.zip us) fun _ => none) s1) :
    Inv (cxOf CX P w K mg base N qual scope f cd A outer s H E) [] (start N vs) H s1 := by
  have hpl : ps.length ≤ N.length := by have := congrArg List.length S.pre; rw [List.length_take] at this; omega
  obtain ⟨h1, tk, rfl, hk⟩ := x.done
  have noA : ∀ b : Addr, b ∉ (cxOf CX P w K mg base N qual scope f cd A outer s H E).ex := fun b z => absurd (show b ∈ ([] : List Addr) from z) (by simp)
  refine ⟨⟨e0.mod, S.kind, rfl, rfl, Nat.le_refl _, fun y z c h1 h2 => ?_, fun y hy => ?_, fun y c _ h => ?_, fun _ => hd, Around.frames_deeper e0.frames, .inr ⟨rfl, rfl⟩, fun b z => absurd z (noA b), e0.bs, e0.bsz, fun b _ _ => noA b, fun b z => absurd z (noA b), e0.funs, e0.frf⟩,
    rfl, e0.bare, Un.kept hk, ⟨_, x.toInCall.ns, fun i y v h1 h2 h3 => ?_⟩, fun y c h => ⟨_, x.cell y c h⟩, e0.hok.fresh (Nat.le_refl _), fun y c h => ?_, fun p hp => absurd (show p ∈ ([] : List (Addr × Obj)) from hp) (by simp), e0.hok.kept hk, ?_⟩
  · exact name_of_addr x.apart (PySem.mem_of_lookup h1) (PySem.mem_of_lookup h2)
  · have hy : scope.names.lookup y = some .cell ∨ scope.names.lookup y = some .free := hy
    rcases hy with hy | hy
    · exact cell_has hy
    · exact absurd rfl (S.nofree _ (PySem.mem_of_lookup hy))
  · exact Nat.le_of_lt (x.above y c (PySem.mem_of_lookup h))
  · have hi : i < vs.length := by
      unfold start at h2
      by_cases hi : i < vs.length
      · exact hi
      · rw [List.getElem?_append_right (by simpa using hi)] at h2
        rw [List.getElem?_replicate] at h2
        split at h2 <;> cases h2
    have ha : vs[i]? = some v := by
      unfold start at h2
      rw [List.getElem?_append_left (by simpa using hi), List.getElem?_map] at h2
      cases e : vs[i]? with
      | none => rw [e] at h2; cases h2
      | some a => rw [e] at h2; cases h2; rfl
    obtain ⟨u, hu, rv⟩ := r.get ha
    have hp : ps[i]? = some y := by
      rw [← S.pre, List.getElem?_take_of_lt (by omega)]; exact h1
    have ndP : ps.Nodup := by rw [← S.pre]; exact S.nd.sublist (List.take_sublist _ _)
    refine ⟨u, rv, ?_⟩
    rcases S.par y (List.mem_of_getElem? hp) with k | k
    · exact .inl ⟨k, bindL_get ndP hp hu k⟩
    · obtain ⟨c, e⟩ := cell_has (n := s.heap.objs.size + 1) k
      refine .inr ⟨.inl k, c, e, ?_⟩
      have q := x.cell y c e
      rw [bindC_get ndP hp hu (by show scope.names.lookup y ≠ _; rw [k]; decide)] at q
      exact q
  · exact e0.hok.fresh (Nat.le_of_lt (x.above y c (PySem.mem_of_lookup h)))
  · unfold start
    show _ = N.length
    rw [List.length_append, List.length_map, List.length_replicate]
    omega
theorem fn_of {CX : CXT} {P : Program} {w : World} {K : PySem.W.Frag} {mg : Str → Option Value} {base : Heap} {k : Nat} {f : Addr} {name qual : Str} {params : Arguments} {body : List Stmt} {scope : Scope} {dV kV doc pm cdv ct oc : Value} {an od : Option Addr}
    {osl : Array (Option Value)} {N ps : List Str} {sp : Sp} (lk : K.lookup f = some ⟨oc, od, .func (PySem.W.fnOf name qual params body scope dV kV doc pm an cdv ct), osl⟩) (hcd : PySem.W.codeIn K cdv qual = true) (S : FnScope N ps scope)
    (len : ∀ vs H Q E, sp vs H Q E → vs.length = ps.length)
    (hbody : ∀ (A : Around) (outer : List Env) (s : Shared) (H : Hp) (vs : List V) (Q : VK) (E : XK), Room k (A.deeper (envOfC qual scope s.heap.objs.size f cdv)) → sp vs H Q E →
      ∃ t, PSs (cxOf CX P w K mg base N qual scope f cdv A outer s H E) body t ∧ t { nx := fun _ H' => Q .non H', rt := Q } (start N vs) H) :
    FnOk P w K mg base CX (k + 1) f (PySem.W.fnOf name qual params body scope dV kV doc pm an cdv ct) ps sp := by
  refine ⟨len, fun A outer s H args us vs Q E hr e0 hb r hsp => ?_⟩
  have hl := len _ _ _ _ hsp
  have KX : K.In s.heap := e0.mod.kin.keeps fun b o e => (e0.bs b o e).1
  have lim : s.heap.NoLimit := e0.mod.nolimit.keeps fun b o e => (e0.bs b o e).1
  have hkind : ∀ y ∈ ps.zip us, scope.names.lookup y.1 = some .local ∨ (scope.names.lookup y.1 = some .cell ∧ ((cellsFrom (s.heap.objs.size + 1) scope.names []).lookup y.1).isSome = true) := fun ⟨n, v⟩ hy => by
    rcases S.par n (List.of_mem_zip hy).1 with q | q
    · exact .inl q
    · exact .inr ⟨q, PySem.W.cellsFrom_some _ _ _ (.inl q)⟩
  refine codeAny_call_function hr.depth (KX _ _ lk) rfl S.co S.gen rfl (PySem.W.codeRec_of KX hcd) (hb _ _ _ _ ?_)
  refine wpAny_newFunctionEnv_cells S.kind hkind fun env he s1 x => ?_
  subst he
  refine ⟨lim.keeps x.toInCall.keep, codeAny_func ?_⟩
  obtain ⟨t, ht, hq⟩ := hbody A outer s H vs Q E (hr.deeper _) hsp
  have I : Inv (cxOf CX P w K mg base N qual scope f cdv A outer s H E) [] (start N vs) H s1 := inv_start S hr.hd e0 hl r x
  refine wpAny_mono (ht [] s1 (start N vs) H _ I hq) (fun fl s' hs => ?_) fun e s' hs => hs
  have fin : ∀ {σ' : St} {H' : Hp} {v : V} {u : Value}, Inv (cxOf CX P w K mg base N qual scope f cdv A outer s H E) [] σ' H' s' → RelV v u → Q v H' → CE outer P w H s Q u s' :=
    fun {σ' H' v u} J rv q => ⟨v, H', J.os, J.bare, J.base, J.hok, rv, q⟩
  cases fl with
  | ret u =>
    obtain ⟨v, σ', H', J, rv, q⟩ := hs
    exact fin J rv q
  | next =>
    obtain ⟨σ', H', J, q⟩ := hs
    exact fin (v := V.non) (u := Value.none) J rfl q
  | brk =>
    obtain ⟨_, _, _, q⟩ := hs
    exact False.elim q
  | cont =>
    obtain ⟨_, _, _, q⟩ := hs
    exact False.elim q
end L2
namespace L2
open PySem PySem.Spec PyProof.Rows
section
variable {X : Cx} {x : Str} {p pos : Pos} {e : Expr} {es : List Expr} {t : TA} {id T : String} {r : List V → Hp → VK → Prop}
def tCB (r : List V → Hp → VK → Prop) (t : TA) : TE := fun σ H Q => t σ H fun vs H1 => r vs H1 Q
theorem pe_callB (hc : CallR X (.builtin id) r) (hg : Gl X x) (hm : X.mg x = none) (hv : bootBuiltins x = some (.builtin id)) (ha : PA X (e :: es) t) (hn : x ≠ "__name__" := by decide) (hdb : (x == ("__debug__" : Str)) = false := by decide)
    (he : starEach (e :: es) X.env = (false, eval e X.env) :: starEach es X.env := by rfl) (hpl : (backTo pos (starEach es X.env)).any (·.1) = false := by rfl) : PE X (.Call (.Name x p) (e :: es) [] pos) (tCB r t) := by
  intro pins s σ H Q I h
  refine wpAny_Call_Name_kw (ld_blt I hg hm hv ?_ hn hdb)
  exact PyProof.Rows.callWith_builtin1 (thn (ha pos pins s σ H _ I h) fun us s1 ⟨vs, H1, I1, r1, q1⟩ => hc pins s1 σ H1 vs us Q I1 r1 q1) he hpl
theorem pe_callTy (hc : CallR X (.type T) r) (hg : Gl X x) (hm : X.mg x = none) (hv : bootBuiltins x = some (.type T)) (ha : PA X (e :: es) t) (hn : x ≠ "__name__" := by decide) (hdb : (x == ("__debug__" : Str)) = false := by decide)
    (he : starEach (e :: es) X.env = (false, eval e X.env) :: starEach es X.env := by rfl) (hpl : (backTo pos (starEach es X.env)).any (·.1) = false := by rfl) : PE X (.Call (.Name x p) (e :: es) [] pos) (tCB r t) := by
  intro pins s σ H Q I h
  refine wpAny_Call_Name_kw (ld_blt I hg hm hv ?_ hn hdb)
  exact PyProof.Rows.callWith_type1 (thn (ha pos pins s σ H _ I h) fun us s1 ⟨vs, H1, I1, r1, q1⟩ => hc pins s1 σ H1 vs us Q I1 r1 q1) he hpl
end
end L2
namespace HT
open PySem PyProof.Rows
section
open PySem.SeqAt
open PySem.AutoSeq1 (wpAny_loadPart')
open PySem.MeetsSeq PySem.MeetsSeq2 PySem.MeetsSeq3
end
section
variable {prog : Program} {w : World} {A : Around} {E : Value → Shared → Prop} {s : Shared}
end
end HT
namespace L2
open PySem PySem.Spec PyProof.Rows
abbrev TO := St → Hp → (Option Int → Hp → Prop) → Prop
def PO (X : Cx) (e : Option Expr) (t : TO) : Prop :=
  ∀ (pins : List (Addr × Obj)) (s : Shared) (σ : St) (H : Hp) (Q : Option Int → Hp → Prop), Inv X pins σ H s → t σ H Q →
    wpAny (model X.prog X.w) X.A (evalPart e X.env) (fun u s' => ∃ o H', Inv X pins σ H' s' ∧ IsPart u o ∧ Q o H') X.xe s
def tNoPart : TO := fun _ H Q => Q none H
def tPart (t : TE) : TO := fun σ H Q => t σ H fun x H1 => ∃ i, x = .int i ∧ Q (some i) H1
section
variable {X : Cx} {e : Expr} {te : TE} {lo hi : Option Expr} {tl th : TO} {pos p2 : Pos}
theorem po_none : PO X none tNoPart := by
  intro pins s σ H Q I h
  rw [evalPart_none]
  exact wpAny_pure ⟨none, H, I, .none, h⟩
theorem po_some (h : PE X e te) : PO X (some e) (tPart te) := by
  intro pins s σ H Q I hw
  rw [evalPart_some]
  refine thn (h pins s σ H _ I hw) fun u s1 ⟨x, H1, I1, r1, q1⟩ => ?_
  obtain ⟨i, rfl, q⟩ := q1
  obtain ⟨t, rfl⟩ := r1
  exact ⟨some i, H1, I1, .int i t, q⟩
def SlR (X : Cx) (r : V → Option Int → Option Int → Hp → VK → Prop) : Prop :=
  ∀ (pins : List (Addr × Obj)) (s : Shared) (σ : St) (H : Hp) (x : V) (v vl vu : Value) (lo hi : Option Int) (sl : Addr) (Q : VK), Inv X pins σ H s → RelV x v → s.heap.IsSliceOf sl vl vu .none → IsPart vl lo → IsPart vu hi → r x lo hi H Q →
    ∃ T id, typeLookup (.type T) "__getitem__" = pure (some (.builtin id)) ∧ s.TypeIs v T ∧ wpAny (model X.prog X.w) X.A (getItem v (.ref sl)) (EP X pins σ Q) X.xe s
def tSl (r : V → Option Int → Option Int → Hp → VK → Prop) (te : TE) (tl th : TO) : TE := fun σ H Q => te σ H fun x H1 => tl σ H1 fun l H2 => th σ H2 fun u H3 => r x l u H3 Q
theorem pe_slice {r : V → Option Int → Option Int → Hp → VK → Prop} (hr : SlR X r) (he : PE X e te) (hl : PO X lo tl) (hu : PO X hi th) : PE X (.Subscript e (.Slice lo hi none p2) pos) (tSl r te tl th) := by
  intro pins s σ H Q I h
  refine Subscript_ (thn (he pins s σ H _ I h) fun v s1 ⟨x, H1, I1, r1, q1⟩ => ?_)
  refine wpAny_Slice (thn (hl pins s1 σ H1 _ I1 q1) fun vl s2 ⟨l, H2, I2, pl, q2⟩ => thn (hu pins s2 σ H2 _ I2 q2) fun vu s3 ⟨u, H3, I3, pu, q3⟩ => ?_)
  rw [evalPart_none]
  refine wpAny_pure ?_
  have I4 : Inv X pins σ H3 { s3 with heap := s3.heap.push { cls := .type "slice", data := .fields #[vl, vu, .none] } } := I3.kept (t' := s3.toks) fun b ob q => Heap.get?_push_of_some _ q
  obtain ⟨T, id, hT, ht, hg⟩ := hr pins { s3 with heap := s3.heap.push { cls := .type "slice", data := .fields #[vl, vu, .none] } } σ H3 x v vl vu l u s3.heap.objs.size Q I4 r1 (Heap.IsSliceOf.new ..) pl pu q3
  show wpAny (model X.prog X.w) X.A (subscriptTail e (.Slice lo hi none p2) v (.ref s3.heap.objs.size)) (EP X pins σ Q) X.xe { s3 with heap := s3.heap.push { cls := .type "slice", data := .fields #[vl, vu, .none] } }
  exact tail_any (ops := [.ref s3.heap.objs.size, v]) ht hT hg (by with_unfolding_all rfl)
end
end L2
namespace L2
open PySem PySem.Spec PyProof.Rows
def ixN (n : Nat) (i : Int) : Option Nat := if 0 ≤ i then (if i < n then some i.toNat else none) else if -(n : Int) ≤ i then some (i + n).toNat else none
def atI {α : Type} (xs : List α) (i : Int) : Option α := (ixN xs.length i).bind fun j => xs[j]?
theorem ixN_seq {n : Nat} {i : Int} {j : Nat} (h : ixN n i = some j) : seqIndex? i n = some j ∧ j < n ∧ -(n : Int) ≤ i ∧ i < n := by
  unfold ixN at h
  by_cases h0 : 0 ≤ i
  · rw [if_pos h0] at h
    by_cases h1 : i < n
    · rw [if_pos h1] at h
      have e : i.toNat = j := Option.some.inj h
      exact ⟨by rw [seqIndex_of h0 h1, e], by omega, by omega, h1⟩
    · rw [if_neg h1] at h; cases h
  · rw [if_neg h0] at h
    by_cases h1 : -(n : Int) ≤ i
    · rw [if_pos h1] at h
      have e : (i + n).toNat = j := Option.some.inj h
      exact ⟨by rw [seqIndex_neg (by omega) h1, e], by omega, h1, by omega⟩
    · rw [if_neg h1] at h; cases h
theorem atI_get {α : Type} {xs : List α} {i : Int} {v : α} (h : atI xs i = some v) : ∃ j, seqIndex? i xs.length = some j ∧ xs[j]? = some v ∧ j < xs.length ∧ -(xs.length : Int) ≤ i ∧ i < xs.length := by
  unfold atI at h
  cases e : ixN xs.length i with
  | none => rw [e] at h; cases h
  | some j =>
    rw [e] at h
    obtain ⟨h1, h2, h3, h4⟩ := ixN_seq e
    exact ⟨j, h1, h, h2, h3, h4⟩
theorem atI_nat {α : Type} {xs : List α} {j : Nat} {v : α} (h : xs[j]? = some v) : atI xs (j : Int) = some v := by
  have hj : j < xs.length := (List.getElem?_eq_some_iff.mp h).1
  have e : ixN xs.length (j : Int) = some j := by
    unfold ixN
    rw [if_pos (by omega), if_pos (by omega)]; simp
  unfold atI; rw [e]; exact h
theorem atI_last {α : Type} (xs : List α) (v : α) : atI (xs ++ [v]) (-1) = some v := by
  have hl : (xs ++ [v]).length = xs.length + 1 := by simp
  have e : ixN (xs ++ [v]).length (-1) = some xs.length := by
    unfold ixN
    rw [hl, if_neg (by decide), if_pos (by omega)]
    congr 1
    omega
  unfold atI
  rw [e]
  show (xs ++ [v])[xs.length]? = some v
  simp
def PlainIx (b : Expr) : Prop := ∀ o i, subscripted b false o i = operate [o, i] (getItem o i)
def IxR (X : Cx) (r : R2) : Prop :=
  ∀ (value slice : Expr) (pins : List (Addr × Obj)) (s : Shared) (σ : St) (H : Hp) (x y : V) (v u : Value) (Q : VK), Inv X pins σ H s → RelV x v → RelV y u → r x y H Q →
    subscripted slice false v u = operate [v, u] (getItem v u) → wpAny (model X.prog X.w) X.A (subscriptTail value slice v u) (EP X pins σ Q) X.xe s
def MtR (X : Cx) (id : String) (r : V → List V → Hp → VK → Prop) : Prop :=
  ∀ (pins : List (Addr × Obj)) (s : Shared) (σ : St) (H : Hp) (x : V) (xs : List V) (v : Value) (us : List Value) (Q : VK), Inv X pins σ H s → RelV x v → Vals xs us → r x xs H Q →
    wpAny (model X.prog X.w) X.A (call (.builtin id) (v :: us)) (EP X pins σ Q) X.xe s
section
variable {X : Cx} {a b : Expr} {ta tb : TE} {pos : Pos}
theorem pe_ix {r : R2} (hr : IxR X r) (ha : PE X a ta) (hb : PE X b tb) (hs : PlainIx b) : PE X (.Subscript a b pos) (tOp r ta tb) := by
  intro pins s σ H Q I h
  exact Subscript_ (binT ha hb I h fun v u s2 x y H2 I2 rx ry q => hr a b pins s2 σ H2 x y v u Q I2 rx ry q (hs _ _))
def rIxL (K : PySem.W.Frag) : R2 := fun x y H Q => ∃ p xs i v, x = .ref p ∧ y = .int i ∧ SqL K H p xs ∧ atI xs i = some v ∧ Q v H
def rIxT (K : PySem.W.Frag) : R2 := fun x y H Q => ∃ p xs i v, x = .ref p ∧ y = .int i ∧ SqT K H p xs ∧ atI xs i = some v ∧ Q v H
def rIxS : R2 := fun x y H Q => ∃ z i c, x = .str z ∧ y = .int i ∧ z.length ≤ sizeLine ∧ atI z.cps.toList i = some c ∧ Q (.str ⟨#[c]⟩) H
theorem ix_list : IxR X (rIxL X.K) := by
  intro value slice pins s σ H x y v u Q I rx ry h hs
  obtain ⟨p, xs, i, z, rfl, rfl, hq, he, q⟩ := h
  cases rx
  obtain ⟨t, rfl⟩ := ry
  obtain ⟨its, r, pl, hz⟩ := I.list hq
  obtain ⟨j, h1, h2, h3, h4, h5⟩ := atI_get he
  obtain ⟨w, ew, rw'⟩ := r.get h2
  have hl := r.length
  have hn := line63
  have fin : EP X pins σ Q w s := ⟨z, H, I, rw', q⟩
  by_cases h0 : 0 ≤ i
  · have hj : i.toNat = j := by
      rw [seqIndex_of h0 h5] at h1
      exact Option.some.inj h1
    exact item_listR pl.isList h0 (by omega) (by rw [hj]; simpa using ew) fin hs
  · have hj : (i + (its.toArray.size : Int)).toNat = j := by
      rw [seqIndex_neg (by omega) h4] at h1
      rw [List.size_toArray, ← hl]
      exact Option.some.inj h1
    exact subscriptTail_builtinR (x := w) pl.isList.typeIs slot_list_getitem.lookup
      (wpAny_getItem_list_neg (Q := fun r s' => r = w ∧ EP X pins σ Q r s') pl.isList (by omega) (by rw [List.size_toArray] <;> omega) (by omega) (by rw [hj]; simpa using ew) ⟨rfl, fin⟩) hs
theorem ix_tup : IxR X (rIxT X.K) := by
  intro value slice pins s σ H x y v u Q I rx ry h hs
  obtain ⟨p, xs, i, z, rfl, rfl, hq, he, q⟩ := h
  cases rx
  obtain ⟨t, rfl⟩ := ry
  obtain ⟨its, r, pl, hz⟩ := I.tuple hq
  obtain ⟨j, h1, h2, h3, h4, h5⟩ := atI_get he
  obtain ⟨w, ew, rw'⟩ := r.get h2
  have hl := r.length
  have hn := line63
  have fin : EP X pins σ Q w s := ⟨z, H, I, rw', q⟩
  exact subscriptTail_builtinR (x := w) pl.typeIs slot_tuple_getitem.lookup
    (getItem_tuple (j := j) (Q := fun r s' => r = w ∧ EP X pins σ Q r s') pl (by omega) (by omega) (by rw [List.size_toArray, ← hl]; exact h1) (by simpa using ew) ⟨rfl, fin⟩) hs
theorem ix_str : IxR X rIxS := by
  intro value slice pins s σ H x y v u Q I rx ry h hs
  obtain ⟨z, i, c, rfl, rfl, hz, he, q⟩ := h
  obtain ⟨t, rfl⟩ := rx
  obtain ⟨t', rfl⟩ := ry
  obtain ⟨j, h1, h2, h3, h4, h5⟩ := atI_get he
  have hl : z.cps.toList.length = z.length := by simp [Str.length]
  rw [hl] at h1 h4 h5
  have hn := line63
  exact tail_any (typeIs_str s z t) slot_str_getitem.lookup (getItem_str (c := c) (by
    have e1 : decide (i < -(2 ^ 63 : Int)) = false := decide_eq_false (by omega)
    have e2 : decide (i ≥ 2 ^ 63) = false := decide_eq_false (by omega)
    rw [e1, e2, Bool.or_false]) (by rw [h1]; simpa using h2) ⟨.str ⟨#[c]⟩, H, I.tok _, ⟨_, rfl⟩, q⟩) hs
theorem mapSeq_set (its : List Value) (n j : Nat) (u : Value) : Obj.mapSeq (·.setIfInBounds j u) { cls := .type "list", data := .seq its.toArray n } = { cls := .type "list", data := .seq (its.set j u).toArray n } := by
  simp [Obj.mapSeq]
theorem Inv.lst {pins : List (Addr × Obj)} {σ : St} {H : Hp} {s : Shared} {p : Addr} {xs : List V} (I : Inv X pins σ H s) (h : H p = some (.lst xs)) :
    ∃ (its : List Value) (n : Nat), Vals xs its ∧ s.heap.get? p = some { cls := .type "list", data := .seq its.toArray n } ∧ xs.length ≤ sizeLine := by
  obtain ⟨z, its, n, r, e⟩ := I.hok p _ h
  exact ⟨its, n, r, e, z⟩
theorem Inv.lstUpd {pins : List (Addr × Obj)} {σ : St} {H : Hp} {s : Shared} {p : Addr} {xs ys : List V} {its its' : List Value} {n n' : Nat} {f : Obj → Obj} (I : Inv X pins σ H s) (h : H p = some (.lst xs))
    (ho : s.heap.get? p = some { cls := .type "list", data := .seq its.toArray n }) (hf : f { cls := .type "list", data := .seq its.toArray n } = { cls := .type "list", data := .seq its'.toArray n' }) (r : Vals ys its') (hz : ys.length ≤ sizeLine) (t : Nat) :
    Inv X pins σ (upd H p (.lst ys)) { s with heap := s.heap.update p f, toks := t } := by
  have e : (s.heap.update p f).get? p = some { cls := .type "list", data := .seq its'.toArray n' } := by
    rw [Heap.get?_update_self f ho (by rw [hf] <;> rfl), hf]
  refine I.write (x := p) (e := p) (by rw [h]; trivial) (.inl rfl) (fun b u hb q => (Heap.get?_update_other _ _ (Ne.symm hb)).trans q) ⟨_, e⟩ ?_
  exact ⟨hz, its', n', r, e⟩
def rSetL : V → V → V → Hp → (Hp → Prop) → Prop := fun o i v H Q => ∃ p xs k j, o = .ref p ∧ i = .int k ∧ H p = some (.lst xs) ∧ ixN xs.length k = some j ∧ Q (upd H p (.lst (xs.set j v)))
theorem set_list : PSet X rSetL := by
  intro pins s σ H o i v ov iv u Q I ro ri rv h
  obtain ⟨p, xs, k, j, rfl, rfl, hp, hj, q⟩ := h
  cases ro
  obtain ⟨t, rfl⟩ := ri
  obtain ⟨its, n, r, ho, hz⟩ := I.lst hp
  obtain ⟨h1, h2, h3, h4⟩ := ixN_seq hj
  have hl := r.length
  have hn := line63
  have I' : Inv X pins σ (upd H p (.lst (xs.set j v))) { s with heap := s.heap.update p (Obj.mapSeq (·.setIfInBounds j u)) } :=
    I.lstUpd hp ho (mapSeq_set its n j u) (r.set rv j) (by rw [List.length_set]; exact hz) s.toks
  by_cases h0 : 0 ≤ k
  · have hk : k.toNat = j := by
      rw [seqIndex_of h0 h4] at h1
      exact Option.some.inj h1
    exact PySem.W.ki_setAt ho h0 (by omega) (by rw [List.size_toArray, ← hl]; exact h4) (by rw [hk]; exact ⟨_, I', q⟩)
  · have hk : (k + (its.toArray.size : Int)).toNat = j := by
      rw [seqIndex_neg (by omega) h3] at h1
      rw [List.size_toArray, ← hl]
      exact Option.some.inj h1
    exact PySem.W.ki_setBack ho (by omega) (by rw [List.size_toArray, ← hl]; exact h3) (by omega) (by rw [hk]; exact ⟨_, I', q⟩)
def flatV : V → Bool
  | .non => true
  | .bl _ => true
  | .int _ => true
  | .str _ => true
  | _ => false
def eqV : V → V → Bool
  | .non, .non => true
  | .bl a, .bl b => a == b
  | .bl a, .int b => (if a then 1 else 0) == b
  | .int a, .bl b => a == (if b then 1 else 0)
  | .int a, .int b => a == b
  | .str a, .str b => a == b
  | _, _ => false
theorem eqAt_V {A : Around} {s : Shared} {y x : V} {u v : Value} (ry : RelV y u) (rx : RelV x v) (fy : flatV y = true) (fx : flatV x = true) : SeqAt.EqAt A s u v (eqV y x) := by
  cases y with
  | non =>
    cases ry
    cases x with
    | non => cases rx; exact SeqAt.EqAt.same _
    | bl b => cases rx; exact SeqAt.EqAt.none_bool b
    | int b => obtain ⟨t, rfl⟩ := rx; exact SeqAt.EqAt.none_int b t
    | str b => obtain ⟨t, rfl⟩ := rx; exact SeqAt.EqAt.none_str b t
    | _ => exact absurd (show false = true from fx) Bool.false_ne_true
  | bl a =>
    cases ry
    cases x with
    | non => cases rx; exact SeqAt.EqAt.bool_none a
    | bl b => cases rx; exact SeqAt.EqAt.bool_bool a b
    | int b => obtain ⟨t, rfl⟩ := rx; exact SeqAt.EqAt.bool_int a b t
    | str b => obtain ⟨t, rfl⟩ := rx; exact SeqAt.EqAt.bool_str a b t
    | _ => exact absurd (show false = true from fx) Bool.false_ne_true
  | int a =>
    obtain ⟨t', rfl⟩ := ry
    cases x with
    | non => cases rx; exact SeqAt.EqAt.int_none a t'
    | bl b => cases rx; exact SeqAt.EqAt.int_bool a t' b
    | int b => obtain ⟨t, rfl⟩ := rx; exact SeqAt.EqAt.int_int a t' b t
    | str b => obtain ⟨t, rfl⟩ := rx; exact SeqAt.EqAt.int_str a t' b t
    | _ => exact absurd (show false = true from fx) Bool.false_ne_true
  | str a =>
    obtain ⟨t', rfl⟩ := ry
    cases x with
    | non => cases rx; exact SeqAt.EqAt.str_none a t'
    | bl b => cases rx; exact SeqAt.EqAt.str_bool a t' b
    | int b => obtain ⟨t, rfl⟩ := rx; exact SeqAt.EqAt.str_int a t' b t
    | str b => obtain ⟨t, rfl⟩ := rx; exact SeqAt.EqAt.str_str a t' b t
    | _ => exact absurd (show false = true from fx) Bool.false_ne_true
  | _ => exact absurd (show false = true from fy) Bool.false_ne_true
def eqU (x : V) (u : Value) : Bool := match u with
  | .none => eqV .non x
  | .bool b => eqV (.bl b) x
  | .int i _ => eqV (.int i) x
  | .str z _ => eqV (.str z) x
  | _ => false
theorem eqU_of {x y : V} {u : Value} (r : RelV y u) (f : flatV y = true) : eqU x u = eqV y x := by
  cases y with
  | non => cases r; rfl
  | bl b => cases r; rfl
  | int i => obtain ⟨t, rfl⟩ := r; rfl
  | str z => obtain ⟨t, rfl⟩ := r; rfl
  | _ => exact absurd (show false = true from f) Bool.false_ne_true
theorem any_eqU {x : V} : ∀ {xs : List V} {us : List Value}, Vals xs us → xs.all flatV = true → us.any (eqU x) = xs.any fun y => eqV y x
  | _, _, .nil, _ => rfl
  | y :: xs, u :: us, .cons r t, f => by
    rw [List.all_cons, Bool.and_eq_true] at f
    rw [List.any_cons, List.any_cons, eqU_of r f.1, any_eqU t f.2]
theorem mem_eqAt {A : Around} {s : Shared} {x : V} {v : Value} (rx : RelV x v) (fx : flatV x = true) : ∀ {xs : List V} {us : List Value}, Vals xs us → xs.all flatV = true → ∀ u ∈ us, SeqAt.EqAt A s u v (eqU x u)
  | _, _, .nil, _ => fun u hu => by cases hu
  | y :: xs, u :: us, .cons r t, f => fun u' hu => by
    rw [List.all_cons, Bool.and_eq_true] at f
    rcases List.mem_cons.mp hu with rfl | hu
    · rw [eqU_of r f.1]; exact eqAt_V r rx f.1 fx
    · exact mem_eqAt rx fx t f.2 u' hu
def inV (x : V) (xs : List V) : Bool := xs.any fun y => eqV y x
def rIn (K : PySem.W.Frag) (neg : Bool) : R2 := fun x y H Q => ∃ p xs, y = .ref p ∧ (SqL K H p xs ∨ SqT K H p xs) ∧ flatV x = true ∧ xs.all flatV = true ∧ Q (.bl (if neg then !inV x xs else inV x xs)) H
theorem op_in_seq : OpR X (compareOp .In) (rIn X.K false) := by
  intro pins s σ H x y v u Q I rx ry h
  obtain ⟨p, xs, rfl, hq, fx, fs, q⟩ := h
  cases ry
  rcases hq with hq | hq
  · obtain ⟨its, r, pl, hz⟩ := I.list hq
    refine SeqAt.in_listAt (eqU x) pl.isList (fun w hw => mem_eqAt rx fx r fs w (by simpa using hw)) ⟨.bl _, H, I, rfl, ?_⟩
    rw [show its.toArray.any (eqU x) = its.any (eqU x) by simp, any_eqU r fs]
    exact q
  · obtain ⟨its, r, pl, hz⟩ := I.tuple hq
    refine SeqAt.in_tupleAt (eqU x) pl (fun w hw => mem_eqAt rx fx r fs w (by simpa using hw)) ⟨.bl _, H, I, rfl, ?_⟩
    rw [show its.toArray.any (eqU x) = its.any (eqU x) by simp, any_eqU r fs]
    exact q
theorem op_notIn_str : OpR X (compareOp .NotIn) (fun x y H Q => ∃ i j, x = .str i ∧ y = .str j ∧ Q (.bl (!(!(Builtin.Str.occurrences j i 0 j.length 1).isEmpty))) H) := by
  intro pins s σ H x y v u Q I rx ry h
  obtain ⟨i, j, rfl, rfl, q⟩ := h
  obtain ⟨t, rfl⟩ := rx
  obtain ⟨t', rfl⟩ := ry
  exact notIn_str ⟨.bl _, H, I, rfl, q⟩
theorem call_len_seq : CallR X (.builtin "len") (fun xs H Q => ∃ p ys, xs = [.ref p] ∧ (SqL X.K H p ys ∨ SqT X.K H p ys) ∧ Q (.int ys.length) H) := by
  intro pins s σ H xs us Q I r h
  obtain ⟨p, ys, rfl, hq, q⟩ := h
  obtain ⟨u, rfl, rx⟩ := vals1 r
  cases rx
  have hn := line63
  rcases hq with hq | hq
  · obtain ⟨its, r', pl, hz⟩ := I.list hq
    have hlen := r'.length
    exact Calls.call_len_list pl.isList (by simp only [List.size_toArray] <;> omega) ⟨.int ys.length, H, I.tok _, ⟨s.toks + 1, by rw [List.size_toArray, hlen]⟩, q⟩
  · obtain ⟨its, r', pl, hz⟩ := I.tuple hq
    have hlen := r'.length
    exact len_tuple pl (by simp only [List.size_toArray] <;> omega) ⟨.int ys.length, H, I.tok _, ⟨s.toks + 1, by rw [List.size_toArray, hlen]⟩, q⟩
theorem call_len_str : CallR X (.builtin "len") (fun xs H Q => ∃ z, xs = [.str z] ∧ z.length ≤ sizeLine ∧ Q (.int z.length) H) := by
  intro pins s σ H xs us Q I r h
  obtain ⟨z, rfl, hz, q⟩ := h
  obtain ⟨u, rfl, t, rfl⟩ := vals1 r
  have hn := line63
  exact len_str (by omega) ⟨.int z.length, H, I.tok _, ⟨_, rfl⟩, q⟩
theorem CallR.or {f : Value} {r r' : List V → Hp → VK → Prop} (h : CallR X f r) (h' : CallR X f r') : CallR X f (fun xs H Q => r xs H Q ∨ r' xs H Q) := by
  intro pins s σ H xs us Q I rs q
  rcases q with q | q
  · exact h pins s σ H xs us Q I rs q
  · exact h' pins s σ H xs us Q I rs q
theorem call_list_of : CallR X (.type "list") (fun xs H Q => ∃ p ys, xs = [.ref p] ∧ (SqL X.K H p ys ∨ SqT X.K H p ys) ∧ ∀ l, H l = none → Q (.ref l) (upd H l (.lst ys))) := by
  intro pins s σ H xs us Q I r h
  obtain ⟨p, ys, rfl, hq, q⟩ := h
  obtain ⟨u, rfl, rx⟩ := vals1 r
  cases rx
  have fin : ∀ (its : List Value), Vals ys its → ys.length ≤ sizeLine → ∀ (h' : Heap) (c' : Nat), (∀ b o', s.heap.get? b = some o' → h'.get? b = some o') →
      h'.get? s.heap.objs.size = some { cls := .type "list", dict := none, data := .seq its.toArray c', slots := #[] } → EP X pins σ Q (.ref s.heap.objs.size) { s with heap := h' } := fun its r' hz h' c' kp e =>
    ⟨.ref s.heap.objs.size, _, I.laid (t' := s.toks) kp (Nat.le_refl _) (show ObjOk X.prog X.w _ h' _ (.lst ys) from ⟨hz, its, c', r', e⟩), rfl, q _ (I.hok.fresh (Nat.le_refl _))⟩
  rcases hq with hq | hq
  · obtain ⟨its, r', pl, hz⟩ := I.list hq
    have hlen := r'.length
    obtain ⟨o, ho, hc, n, hd⟩ := pl.isList
    exact call_list_seq p (.inl rfl) ho hc hd (fun h' c' kp e => fin its r' hz h' c' kp e) (by simp only [List.size_toArray] <;> omega)
  · obtain ⟨its, r', pl, hz⟩ := I.tuple hq
    have hlen := r'.length
    obtain ⟨o, ho, hc, n, hd⟩ := pl
    exact call_list_seq p (.inr rfl) ho hc hd (fun h' c' kp e => fin its r' hz h' c' kp e) (by simp only [List.size_toArray] <;> omega)
theorem call_tuple_of : CallR X (.type "tuple") (fun xs H Q => ∃ p ys, xs = [.ref p] ∧ ((SqL X.K H p ys ∧ ∀ l, H l = none → Q (.ref l) (upd H l (.tup ys))) ∨ (SqT X.K H p ys ∧ Q (.ref p) H))) := by
  intro pins s σ H xs us Q I r h
  obtain ⟨p, ys, rfl, h⟩ := h
  obtain ⟨u, rfl, rx⟩ := vals1 r
  cases rx
  rcases h with ⟨hq, q⟩ | ⟨hq, q⟩
  · obtain ⟨its, r', pl, hz⟩ := I.list hq
    have hlen := r'.length
    refine call_tuple_list pl.isList (fun h' kp => ?_) (by simp only [List.size_toArray] <;> omega)
    have I1 : Inv X pins σ H { s with heap := h' } := I.kept (t' := s.toks) kp
    have I2 : Inv X pins σ (upd H h'.objs.size (.tup ys)) { s with heap := h'.push { cls := .type "tuple", data := .seq its.toArray } } :=
      I1.laid (t' := s.toks) (fun b o e => Heap.get?_push_of_some _ e) (Nat.le_refl _) (show ObjOk X.prog X.w _ _ _ (.tup ys) from ⟨hz, its, r', IsTup.new _ _⟩)
    exact ⟨.ref h'.objs.size, _, I2, rfl, q _ (I1.hok.fresh (Nat.le_refl _))⟩
  · obtain ⟨its, r', pl, hz⟩ := I.tuple hq
    exact call_tuple_same pl ⟨.ref p, H, I, rfl, q⟩
def tyV (K : PySem.W.Frag) (T : String) (x : V) (H : Hp) : Prop := match x with
  | .str _ => T = "str"
  | .int _ => T = "int"
  | .ref p => (T = "list" ∧ ∃ xs, SqL K H p xs) ∨ (T = "tuple" ∧ ∃ o, K.lookup p = some o ∧ o.cls = .type "tuple" ∧ o.dict = none) ∨
      (T = "dict" ∧ ((∃ kvs, H p = some (.dK kvs)) ∨ ∃ kvs, H p = some (.dT kvs))) ∨ (T = "set" ∧ ∃ S n, H p = some (.set S n))
  | _ => False
theorem tyV_is {pins : List (Addr × Obj)} {σ : St} {H : Hp} {s : Shared} {T : String} {x : V} {v : Value} (I : Inv X pins σ H s) (r : RelV x v) (ty : tyV X.K T x H) :
    s.TypeIs v T ∧ ∀ a, v = .ref a → ∃ ob, s.heap.get? a = some ob ∧ ob.dict = none := by
  cases x with
  | str z =>
    obtain ⟨t, rfl⟩ := r
    cases (show T = "str" from ty)
    exact ⟨typeIs_str s z t, fun _ e => nomatch e⟩
  | int i =>
    obtain ⟨t, rfl⟩ := r
    cases (show T = "int" from ty)
    exact ⟨typeIs_int s i t, fun _ e => nomatch e⟩
  | ref p =>
    cases r
    rcases ty with ⟨rfl, xs, hq⟩ | ⟨rfl, o, hk, hc, hd⟩ | ⟨rfl, hk⟩ | ⟨rfl, S, n, hk⟩
    · obtain ⟨its, _, pl, _⟩ := I.list hq
      refine ⟨pl.isList.typeIs, fun a e => ?_⟩
      cases e
      obtain ⟨o, n, e, c, hd, _⟩ := pl
      exact ⟨o, e, hd⟩
    · refine ⟨⟨o, I.kIn p o hk, hc⟩, fun a e => ?_⟩
      cases e
      exact ⟨o, I.kIn _ o hk, hd⟩
    · have z : ∃ o, s.heap.get? p = some o ∧ o.ExactDict := by
        rcases hk with ⟨kvs, hk⟩ | ⟨kvs, hk⟩
        · obtain ⟨_, _, _, _, o, _, _, e, ex, _⟩ := I.hok p _ hk
          exact ⟨o, e, ex⟩
        · obtain ⟨_, _, _, _, o, _, _, e, ex, _⟩ := I.hok p _ hk
          exact ⟨o, e, ex⟩
      obtain ⟨o, e, ex⟩ := z
      refine ⟨⟨o, e, ex.1⟩, fun a e2 => ?_⟩
      cases e2
      exact ⟨o, e, ex.2.1⟩
    · obtain ⟨o, _, _, _, e, ex, _⟩ := I.hok p _ hk
      refine ⟨⟨o, e, ex.1⟩, fun a e2 => ?_⟩
      cases e2
      exact ⟨o, e, ex.2.1⟩
  | _ => exact False.elim ty
def tBM0 (K : PySem.W.Frag) (T : String) (r : V → List V → Hp → VK → Prop) (to : TE) : TE := fun σ H Q => to σ H fun x H1 => tyV K T x H1 ∧ r x [] H1 Q
def tBM (K : PySem.W.Frag) (T : String) (r : V → List V → Hp → VK → Prop) (to : TE) (t : TA) : TE := fun σ H Q => to σ H fun x H1 => tyV K T x H1 ∧ t σ H1 fun xs H2 => r x xs H2 Q
variable {o e : Expr} {es : List Expr} {to : TE} {t : TA} {name : Str} {apos cpos : Pos} {T id : String} {r : V → List V → Hp → VK → Prop}
theorem pe_bm0 (pa : PlainAttrs T) (slot : Slot T name id) (hty : typeOf (.builtin id) = pure (.type "method_descriptor")) (hm : MtR X id r) (ho : PE X o to)
    (hbase : attributeBase o name X.env (eval o X.env) = eval o X.env := by rfl) (hline : (apos.endLine == cpos.line) = true := by rfl) : PE X (.Call (.Attribute o name apos) [] [] cpos) (tBM0 X.K T r to) := by
  intro pins s σ H Q I h
  refine wpAny_Call_method0_late hbase hline (thn (ho pins s σ H _ I h) fun v s1 ⟨x, H1, I1, r1, ty, q1⟩ => ?_)
  obtain ⟨h1, h2⟩ := tyV_is I1 r1 ty
  exact ⟨T, id, pa, slot, hty, h1, h2, Calls.callWith_builtin rfl (PySem.evalArgs_none (hm pins s1 σ H1 x [] v [] Q I1 r1 .nil q1))⟩
theorem pe_bm (pa : PlainAttrs T) (slot : Slot T name id) (hty : typeOf (.builtin id) = pure (.type "method_descriptor")) (hm : MtR X id r) (ho : PE X o to) (ha : PA X (e :: es) t)
    (hbase : attributeBase o name X.env (eval o X.env) = eval o X.env := by rfl)
    (hfew : ((backTo cpos (starEach (e :: es) X.env)).all (fun x => !x.1) && (backToKw cpos (keywordEach [] X.env)).all (fun x => x.1.isSome)
      && decide ((e :: es).length + ([] : List Keyword).length + (if ([] : List Keyword).isEmpty then 0 else 1) < 30)) = true := by rfl)
    (hline : (apos.endLine == cpos.line) = true := by rfl) (hs : starEach (e :: es) X.env = (false, eval e X.env) :: starEach es X.env := by rfl) (hplain : (backTo cpos (starEach es X.env)).any (·.1) = false := by rfl) :
    PE X (.Call (.Attribute o name apos) (e :: es) [] cpos) (tBM X.K T r to t) := by
  intro pins s σ H Q I h
  refine wpAny_Call_method_late hbase hfew hline rfl (thn (ho pins s σ H _ I h) fun v s1 ⟨x, H1, I1, r1, ty, q1⟩ => ?_)
  obtain ⟨h1, h2⟩ := tyV_is I1 r1 ty
  refine ⟨T, id, pa, slot, hty, h1, h2, ?_⟩
  have hA := ha cpos pins s1 σ H1 _ I1 q1
  rw [hs] at hA ⊢
  refine Calls.callWith_builtin (by show (false || (backTo cpos (starEach es X.env)).any (·.1)) = false; rw [hplain] <;> rfl) (Calls.evalArgs_plain ?_)
  exact thn hA fun us s2 ⟨vs, H2, I2, r2, q2⟩ => hm pins s2 σ H2 x vs v us Q I2 r1 r2 q2
end
end L2
namespace L2
open PySem PySem.Spec PyProof.Rows
def MtM (X : Cx) (id : String) (r : V → List V → Hp → VK → Prop) : Prop :=
  ∀ (pins : List (Addr × Obj)) (s : Shared) (σ : St) (H : Hp) (x : V) (xs : List V) (v : Value) (us : List Value) (Q : VK), Inv X pins σ H s → RelV x v → Vals xs us → r x xs H Q →
    wpAny (model X.prog X.w) X.A (call (.builtin id) (v :: us)) (EP X pins σ Q) X.xe s
theorem Vals.one : ∀ {x : V} {us : List Value}, Vals [x] us → ∃ u, us = [u] ∧ RelV x u
  | _, _, .cons r .nil => ⟨_, rfl, r⟩
theorem Vals.zero : ∀ {us : List Value}, Vals [] us → us = []
  | _, .nil => rfl
theorem Vals.dropLast {xs : List V} {us : List Value} (h : Vals xs us) : Vals xs.dropLast us.dropLast := by
  induction h with
  | nil => exact .nil
  | cons r t ih =>
    cases t with
    | nil => exact .nil
    | cons q t' => exact .cons r ih
theorem Vals.rep {xs : List V} {us : List Value} (h : Vals xs us) : ∀ k : Nat, Vals (List.replicate k xs).flatten (List.replicate k us).flatten
  | 0 => .nil
  | k + 1 => by
    rw [List.replicate_succ, List.replicate_succ, List.flatten_cons, List.flatten_cons]
    exact Vals.append h (Vals.rep h k)
theorem erase_last {α : Type} (l : List α) : l.eraseIdx (l.length - 1) = l.dropLast := by
  induction l with
  | nil => rfl
  | cons a r ih =>
    cases r with
    | nil => rfl
    | cons b r =>
      have e : (a :: b :: r).length - 1 = ((b :: r).length - 1) + 1 := by
        have h1 : (a :: b :: r).length = r.length + 2 := rfl
        have h2 : (b :: r).length = r.length + 1 := rfl
        omega
      rw [e, List.eraseIdx_cons_succ, ih]
      all_goals rfl
theorem foldl_rep (its : List Value) : ∀ (k : Nat) (acc : List Value),
    List.foldl (fun x1 x2 => x1 ++ x2) acc.toArray (List.replicate k its.toArray) = (acc ++ (List.replicate k its).flatten).toArray
  | 0, acc => by simp
  | k + 1, acc => by
    have e : acc.toArray ++ its.toArray = (acc ++ its).toArray := by simp
    have e2 : (acc ++ its) ++ (List.replicate k its).flatten = acc ++ (List.replicate (k + 1) its).flatten := by
      rw [List.replicate_succ, List.flatten_cons, List.append_assoc]
    rw [← e2, ← foldl_rep its k (acc ++ its), ← e, List.replicate_succ, List.foldl_cons]
section
variable {X : Cx} {pins : List (Addr × Obj)} {σ : St} {H : Hp} {s : Shared} {l b : Addr} {xs ys zs : List V}
theorem Inv.lset {its its' : List Value} {n : Nat} {f : Array Value → Array Value} {t' : Nat} (I : Inv X pins σ H s) (hH : H l = some (.lst xs))
    (e : s.heap.get? l = some { cls := .type "list", data := .seq its.toArray n }) (hf : f its.toArray = its'.toArray) (hv : Vals ys its') (hz : ys.length ≤ sizeLine) :
    Inv X pins σ (upd H l (.lst ys)) { s with heap := s.heap.update l (Obj.mapSeq f), toks := t' } := by
  have q := PySem.IsL.update e f
  rw [hf] at q
  refine I.write (x := l) (e := l) (by rw [hH]; exact trivial) (.inl rfl) (fun b' u hb hu => (Heap.get?_update_other s.heap (Obj.mapSeq f) (Ne.symm hb)).trans hu) ⟨_, q⟩ ?_
  exact ⟨hz, its', _, hv, q⟩
theorem Inv.lnew {its : List Value} {t' : Nat} (I : Inv X pins σ H s) (hv : Vals ys its) (hz : ys.length ≤ sizeLine) :
    Inv X pins σ (upd H s.heap.objs.size (.lst ys)) { s with heap := s.heap.push { cls := .type "list", data := .seq its.toArray }, toks := t' } :=
  I.laid (fun _ _ q => Heap.get?_push_of_some _ q) (Nat.le_refl _) ⟨hz, its, 0, hv, Heap.get?_push_size _ rfl⟩
theorem Inv.fresh (I : Inv X pins σ H s) : H s.heap.objs.size = none := I.hok.fresh (Nat.le_refl _)
theorem Inv.lstM (I : Inv X pins σ H s) (hH : H l = some (.lst xs)) : xs.length ≤ sizeLine ∧ ∃ (its : List Value) (n : Nat), Vals xs its ∧ xs.length = its.length ∧ s.heap.get? l = some { cls := .type "list", data := .seq its.toArray n } := by
  obtain ⟨z, its, n, r, e⟩ := I.hok l _ hH
  exact ⟨z, its, n, r, r.length, e⟩
theorem notLongL {n : Nat} (h : n ≤ sizeLine) : Builtin.List.listTooLong n = false := by
  unfold Builtin.List.listTooLong
  exact decide_eq_false (by omega)
end
section
variable {X : Cx}
def rAppend : V → List V → Hp → VK → Prop := fun x vs H Q => ∃ l xs y, x = .ref l ∧ vs = [y] ∧ H l = some (.lst xs) ∧ xs.length < sizeLine ∧ Q .non (upd H l (.lst (xs ++ [y])))
theorem mt_append : MtM X "list.append" rAppend := by
  intro pins s σ H x vs v us Q I rx rv h
  obtain ⟨l, xs, y, rfl, rfl, hH, hz, q⟩ := h
  cases rx
  obtain ⟨u, rfl, ru⟩ := rv.one
  obtain ⟨z, its, n, r, hl, e⟩ := I.lstM hH
  refine call_meets F.slot_list_append ⟨_, e, rfl⟩ F.entry_list_append (F.args_list_append_2 _ _) (PySem.list_append l its.toArray n u (by rw [List.size_toArray]; omega)) ⟨e, ?_⟩
  refine ⟨.non, _, I.lset (its' := its ++ [u]) hH e (by simp) (r.append (.cons ru .nil)) ?_, rfl, q⟩
  rw [List.length_append, List.length_singleton]
  omega
def rPop : V → List V → Hp → VK → Prop := fun x vs H Q => ∃ l xs y, x = .ref l ∧ vs = [] ∧ H l = some (.lst xs) ∧ xs[xs.length - 1]? = some y ∧ Q y (upd H l (.lst xs.dropLast))
theorem mt_pop : MtM X "list.pop" rPop := by
  intro pins s σ H x vs v us Q I rx rv h
  obtain ⟨l, xs, y, rfl, rfl, hH, hy, q⟩ := h
  cases rx
  have hus := rv.zero
  subst hus
  obtain ⟨z, its, n, r, hl, e⟩ := I.lstM hH
  obtain ⟨u, hu, ru⟩ := r.get hy
  have hy' : its.toArray[its.toArray.size - 1]? = some u := by
    show its.toArray[its.length - 1]? = some u
    rw [← Array.getElem?_toList, ← hl]
    exact hu
  refine call_meets F.slot_list_pop ⟨_, e, rfl⟩ F.entry_list_pop (F.args_list_pop_1 _) (MeetsSeq.list_pop_last l its.toArray n u hy' (by rw [List.size_toArray]; omega)) ⟨e, ?_⟩
  refine ⟨y, _, I.lset (its' := its.dropLast) hH e ?_ r.dropLast ?_, ru, q⟩
  · show its.toArray.eraseIdxIfInBounds (its.toArray.size - 1) = its.dropLast.toArray
    rw [List.size_toArray, List.eraseIdxIfInBounds_toArray, erase_last]
  · rw [List.length_dropLast]
    omega
def rCat : R2 := fun x y H Q => ∃ l b xs zs, x = .ref l ∧ y = .ref b ∧ H l = some (.lst xs) ∧ H b = some (.lst zs) ∧ xs.length + zs.length ≤ sizeLine ∧ ∀ p, H p = none → Q (.ref p) (upd H p (.lst (xs ++ zs)))
theorem op_cat : OpR X (binaryOp .Add) rCat := by
  intro pins s σ H x y v u Q I rx ry h
  obtain ⟨l, b, xs, zs, rfl, rfl, hH, hB, hz, q⟩ := h
  cases rx
  cases ry
  obtain ⟨z, its, n, r, hl, e⟩ := I.lstM hH
  obtain ⟨z2, its2, n2, r2, hl2, e2⟩ := I.lstM hB
  refine PySem.P.add_list e e2 ?_ (by rw [List.size_toArray, List.size_toArray]; omega)
  have ea : its.toArray ++ its2.toArray = (its ++ its2).toArray := by simp
  rw [ea]
  exact ⟨.ref _, _, I.lnew (t' := s.toks) (r.append r2) (by rw [List.length_append]; omega), rfl, q _ I.fresh⟩
def rRep : R2 := fun x y H Q => ∃ l k xs, x = .ref l ∧ y = .int k ∧ H l = some (.lst xs) ∧ -(2 ^ 63) ≤ k ∧ k < 2 ^ 63 ∧ xs.length * k.toNat ≤ sizeLine ∧
  ∀ p, H p = none → Q (.ref p) (upd H p (.lst (List.replicate k.toNat xs).flatten))
theorem len_rep {α : Type} (xs : List α) (k : Nat) : (List.replicate k xs).flatten.length = k * xs.length := by
  induction k with
  | zero => simp
  | succ k ih => rw [List.replicate_succ, List.flatten_cons, List.length_append, ih, Nat.succ_mul, Nat.add_comm]
theorem op_rep : OpR X (binaryOp .Mult) rRep := by
  intro pins s σ H x y v u Q I rx ry h
  obtain ⟨l, k, xs, rfl, rfl, hH, h1, h2, hz, q⟩ := h
  cases rx
  obtain ⟨t, rfl⟩ := ry
  obtain ⟨z, its, n, r, hl, e⟩ := I.lstM hH
  have hlen : its.toArray.size * k.toNat ≤ sizeLine := by rw [List.size_toArray, ← hl]; exact hz
  have hcap : ¬ its.toArray.size * k.toNat > (2 ^ 63 - 1) / 8 := by
    have : (sizeLine : Nat) ≤ (2 ^ 63 - 1) / 8 := by decide
    omega
  have hfit : ¬ (!Builtin.List.listFitsIndex k) = true := by
    rw [fitsIndex_both h1 h2]
    exact Bool.false_ne_true
  have hlong : ¬ Builtin.List.listTooLong (its.toArray.size * k.toNat) = true := by
    rw [notLongL hlen]
    exact Bool.false_ne_true
  have hnew : List.foldl (fun x1 x2 => x1 ++ x2) #[] (List.replicate (if its.toArray.isEmpty = true then 0 else k.toNat) its.toArray) = (List.replicate k.toNat its).flatten.toArray := by
    have f0 : ∀ m : Nat, List.foldl (fun x1 x2 => x1 ++ x2) #[] (List.replicate m its.toArray) = (List.replicate m its).flatten.toArray := fun m => by
      have := foldl_rep its m []
      rw [List.nil_append] at this
      exact this
    rw [f0]
    cases its with
    | nil => simp
    | cons a r' => rw [if_neg (by simp)]
  refine wpAny_binaryOp_repeat_ref (T := "list") (U := "int") (by decide) ⟨_, e, rfl⟩ (fun s' => typeIs_int s' k t) noFill_list_mul F.fills_int_mul F.slot_int_rmul repeat_list F.slot_int_index.lookup
    (call_meets F.slot_int_rmul (typeIs_int s k t) F.entry_int_rmul (F.args_int_rmul_2 _ _) (int___rmul___int_list k t l its.toArray n)
      ⟨e, rfl, ⟨_, e, rfl⟩, call_meets F.slot_list_mul ⟨_, e, rfl⟩ F.entry_list_mul (F.args_list_mul_2 _ _) (AutoListH.list___mul___list_int_3 l its.toArray n k t hfit hcap hlong) ⟨e, ?_⟩⟩)
  rw [hnew]
  exact ⟨.ref _, _, I.lnew (t' := s.toks) (r.rep k.toNat) (by rw [len_rep, Nat.mul_comm]; exact hz), rfl, q _ I.fresh⟩
end
section
variable {prog : Program} {w : World} {A : Around} {E : Value → Shared → Prop} {s : Shared}
end
section
variable {X : Cx}
end
end L2
namespace Att
open PySem PySem.W PySem.Calls PyProof.Rows
theorem ints_of_wellAll {P : Params} {h : Heap} : ∀ (ns : List Int) (vs : List Value), WellAll P h vs (ns.map WData.int) → IntsAre vs ns := by
  intro ns
  induction ns with
  | nil =>
    intro vs w
    rw [List.map_nil] at w
    cases w
    exact .nil
  | cons n ns ih =>
    intro vs w
    rw [List.map_cons] at w
    cases w with
    | cons a b =>
      cases a
      exact .cons _ _ (ih _ b)
theorem script_of {l : OpenLaw} {n : Nat} (hn : l.most = some n) {P : Params} {h : Heap} {args : List WData} {vals : List Value}
    (hpre : l.row.toRowW.claim.pre args = true) (hwl : WellAll P h vals args) :
    ∃ a vs ns, vals = [Value.ref a] ∧ args = [WData.list (ns.map WData.int)] ∧ h.get? a = some { cls := .type "list", data := .seq vs.toArray } ∧ IntsAre vs ns ∧ ns.length ≤ n := by
  have hsh : WShape.hasAll [] args [.list .int] = true := (pre_splitW hpre).1
  have hc : l.pre.holds [] { args := args } = true := (pre_splitW hpre).2
  obtain ⟨d, r, rfl, h1, h2⟩ := hasAllW_cons hsh
  obtain rfl := hasAllW_nil h2
  obtain ⟨xs, rfl, h3⟩ := hasW_list h1
  obtain ⟨ns, rfl⟩ := items_int h3
  have hlen : ns.length ≤ n := by
    unfold OpenLaw.pre at hc
    have h4 : (WTm.not (.lt (.lit (.int (n : Int))) (.len (.arg 0)))).holds [] { args := [.list (ns.map .int)] } = true := by
      have h4 := (holds_andW hc).1
      rw [hn] at h4
      exact h4
    have h5 := condW_of h4 (w_not (w_lt w_lit (w_len_list (w_arg rfl))))
    rw [List.length_map] at h5
    refine Nat.le_of_not_lt fun q => ?_
    have q' : (n : Int) < ((ns.length : Nat) : Int) := by omega
    first
      | (rw [decide_eq_true q'] at h5; exact absurd h5 (by decide))
      | (simp at h5; omega)
  cases hwl with
  | cons w1 w2 =>
    cases w2
    cases w1 with
    | list ho hall => exact ⟨_, _, ns, rfl, rfl, ho, ints_of_wellAll ns _ hall, hlen⟩
theorem post_true (l : OpenLaw) (args : List WData) : l.row.toRowW.claim.post args (.bool true) args = true :=
  postW_of (r := l.row.toRowW) (X := (true == true))
    (show WShape.has [] (.bool true) .bool = true by first | rfl | decide | simp [WShape.has, WShape.arms, WShape.armsAll])
    (show (WTm.eq .res (.lit (.bool true))).value [] { args := args, res := some (.bool true), after := args } = some (.bool (true == true)) from w_eq_bool (w_res rfl) w_lit) rfl
theorem attach_call {l : OpenLaw} {n : Nat} {q : Program} {loose : List Str} {XP : (Str → Option Value) → Heap → Prop} {YP : World → Heap → Prop} {d : DefRec}
    (hn : l.most = some n) (hdf : d.params.defaults = [])
    (call : ∀ (w : World) (s₀ s₁ : Shared) (mg mb : Str → Option Value) (fa : Addr) (o : Obj) (pm cd doc : Value) (a : Addr) (vs : List Value) (ns : List Int),
      Ground q loose [] XP w s₀ mg mb s₁.heap → YP w s₁.heap →
      s₁.heap.get? fa = some o → o.data = .func (docDef d.name d.params d.body d.scope pm cd doc) → s₁.heap.CodeRec cd d.name → mg d.name = some (.ref fa) →
      s₁.heap.get? a = some { cls := .type "list", data := .seq vs.toArray } → IntsAre vs ns → ns.length ≤ n → s₁.gens = #[] →
      codeAny (model l.prog w) callerA (.call (.ref fa) ⟨[.ref a], []⟩) (fun r s' => r = .ok (.ret (.bool true)) ∧ OldK s₁.heap s'.heap ∧ s'.os = s₁.os ∧ AllBare s'.gens) s₁) :
    WalkO q loose XP YP l.row.toRowW d [] (fun f vs => PySem.call f vs) := by
  intro w s₀ s₁ mg mb G Y fa o pm cd doc dV kV ho hd hcd hD hmg hg args vals as hpre hlay hrd hwl hlo
  obtain rfl : dV = .none := Dflts.none hD hdf
  obtain rfl : kV = .none := Dflts.noKw hD
  obtain ⟨a, vs, ns, rfl, rfl, hobj, hints, hlen⟩ := script_of hn hpre hwl
  refine enter_call (codeAny_mono (call w s₀ s₁ mg mb fa o pm cd doc a vs ns G Y ho (fd_plain hd) hcd hmg hobj hints hlen hg) fun r s' hq => ?_)
  obtain ⟨rfl, h2, h3, h4⟩ := hq
  exact ⟨.inl ⟨.bool true, .bool true, [], rfl, fun _ => rfl, .bool true, post_true l _, fun _ => ⟨List.Pairwise.nil, fun _ hm => (nomatch hm)⟩⟩, h2, h3, h4⟩
section
variable {prog : Program} {w : World} {A : Around} {E : Value → Shared → Prop} {s : Shared} {K : Frag}
end
end Att
namespace L2
open PySem PySem.Spec PyProof.Rows
theorem vals_ints : ∀ {vs : List Value} {ns : List Int}, IntsAre vs ns → Vals (ns.map V.int) vs
  | _, _, .nil => .nil
  | _, _, .cons n t h => .cons ⟨t, rfl⟩ (vals_ints h)
def Only (H : Hp) : Prop := ∀ b, H b = none ∨ ∃ o xs, H b = some (.frz o (.lst xs))
theorem law_call {P : Program} {w : World} {K : PySem.W.Frag} {mg mb : Str → Option Value} {CX : CXT} {k : Nat} {fa a : Addr} {fd : FuncData} {x : Str} {sp : Sp} {s₁ : Shared} {vs : List Value} {ns : List Int}
    (KX : K.In s₁.heap) (hns : s₁.heap.Ns mainGlobals mg) (hb : s₁.heap.Ns builtinsNs mb) (hbb : ∀ x : Str, x ≠ "__name__" → mb x = bootBuiltins x) (hlim : s₁.heap.NoLimit) (hg : s₁.gens = #[])
    (ha : s₁.heap.get? a = some { cls := .type "list", data := .seq vs.toArray }) (hi : IntsAre vs ns) (hl : ns.length ≤ sizeLine) (hr : Room k callerA)
    (F : ∀ base : Heap, K.In base → base.Ns mainGlobals mg → FnOk P w K mg base CX k fa fd [x] sp) (hbind : ∀ (s : Shared) (u : Value), BindsTo s fd ⟨[u], []⟩ [(x, u)])
    (hsp : ∀ H : Hp, Only H → SqL K H a (ns.map V.int) → sp [.ref a] H (fun v _ => v = .bl true) fun _ _ _ => False)
    (hCX : ∀ H e s', CX [] H s₁ (fun _ _ _ => False) e s' → False) :
    codeAny (model P w) callerA (.call (.ref fa) ⟨[.ref a], []⟩) (fun r s' => r = .ok (.ret (.bool true)) ∧ OldK s₁.heap s'.heap ∧ s'.os = s₁.os ∧ AllBare s'.gens) s₁ := by
  have rv := vals_ints hi
  have lenV := hi.length
  have core : ∀ H : Hp, Only H → SqL K H a (ns.map V.int) → HOk P w H s₁.heap → (∀ b, H b ≠ none → b = a) → (H a ≠ none → K.lookup a = none) →
      codeAny (model P w) callerA (.call (.ref fa) ⟨[.ref a], []⟩) (fun r s' => r = .ok (.ret (.bool true)) ∧ OldK s₁.heap s'.heap ∧ s'.os = s₁.os ∧ AllBare s'.gens) s₁ := by
    intro H hO hS hok hA hK
    have base_of : ∀ {b : Addr} {o : Obj}, s₁.heap.get? b = some o → H b = none → (hidT s₁.heap H).get? b = some o := fun e n => hidT_get e n
    have noA : ∀ {b : Addr} {o : Obj} {es : Array DictEntry} {ep : Nat}, s₁.heap.get? b = some o → o.data = .dict es ep → H b = none := fun {b o es ep} e d => by
      cases q : H b with
      | none => rfl
      | some u =>
        have e' : b = a := hA b (by rw [q]; simp)
        subst e'
        rw [ha] at e; cases e
        have d' : Data.seq vs.toArray _ = Data.dict es ep := d
        cases d'
    have nsK : ∀ {b : Addr} {m : Str → Option Value}, s₁.heap.Ns b m → (hidT s₁.heap H).Ns b m := fun {b m} ⟨o, es, ep, e, d, r⟩ => ⟨o, es, ep, base_of e (noA e d), d, r⟩
    have hKb : K.In (hidT s₁.heap H) := fun b o e => base_of (KX b o e) (by
      cases q : H b with
      | none => rfl
      | some u =>
        have e' : b = a := hA b (by rw [q]; simp)
        subst e'
        rw [hK (by rw [q]; simp)] at e; cases e)
    have hM : Mod K mg (hidT s₁.heap H) := ⟨hKb, nsK hns, ⟨mb, nsK hb, hbb⟩, let ⟨mc, h1, h2⟩ := hlim; ⟨mc, nsK h1, h2⟩⟩
    have e0 : Env0 P w K mg (hidT s₁.heap H) callerA [] s₁ H := ⟨rfl, hM, fun b o e => of_hidT e, Nat.le_of_eq (hidT_size _ _), trivial, fun b hb => absurd (show b ∈ ([] : List Addr) from hb) (by simp), hok, .of_eq hg⟩
    refine codeAny_mono ((F _ hKb (nsK hns)).run callerA [] s₁ H ⟨[.ref a], []⟩ [.ref a] [.ref a] _ _ hr e0 (hbind s₁ (.ref a)) (.cons rfl .nil) (hsp H hO hS)) fun r s' h => ?_
    cases r with
    | error e => exact (hCX H e s' h).elim
    | ok fl =>
      cases fl with
      | next => exact False.elim h
      | brk => exact False.elim h
      | cont => exact False.elim h
      | ret u =>
        obtain ⟨v, H', os, bare, un, hok', r', q⟩ := h
        have q' : v = .bl true := q
        subst q'
        obtain rfl : u = Value.bool true := r'
        refine ⟨rfl, OldK.of_keep fun b o e => ?_, os, bare⟩
        cases q : H b with
        | none => exact un.keep b o e q (by intro z; exact absurd (show b ∈ ([] : List Addr) from z) (by simp)) (by simp)
        | some u =>
          rcases hO b with z | ⟨ob, xs, z⟩
          · rw [q] at z; cases z
          · have z2 := un.frzs b ob _ z
            obtain ⟨e1, _⟩ := hok b _ z
            obtain ⟨e2, _⟩ := hok' b _ z2
            rw [e] at e1; cases e1
            exact e2
  cases hk : K.lookup a with
  | some o =>
    have e := KX a o hk
    rw [ha] at e
    cases e
    refine core (fun _ => none) (fun _ => .inl rfl) (.inr ⟨_, vs.toArray, _, hk, rfl, rfl, rfl, by rw [List.size_toArray, lenV]; exact hl, by simpa using rv⟩) (fun b u z => by have z' : (none : Option HO) = some u := z; cases z') (fun b z => absurd rfl z) fun z => absurd rfl z
  | none =>
    refine core (fun b => if b = a then some (.frz { cls := .type "list", data := .seq vs.toArray } (.lst (ns.map V.int))) else none) (fun b => ?_) (.inl (.inr ⟨{ cls := .type "list", data := .seq vs.toArray }, if_pos rfl⟩)) (fun b u z => ?_) (fun b z => ?_) fun _ => hk
    · by_cases hb : b = a
      · exact .inr ⟨_, _, if_pos hb⟩
      · exact .inl (if_neg hb)
    · by_cases hb : b = a
      · have z' := (if_pos hb).symm.trans z
        cases z'
        subst hb
        exact ⟨ha, by rw [List.length_map]; exact hl, vs, _, rv, ha⟩
      · have z' := (if_neg hb).symm.trans z
        cases z'
    · by_cases hb : b = a
      · exact hb
      · exact absurd (if_neg hb) z
end L2
namespace L2
open PySem PySem.Spec PyProof.Rows
theorem walk_of {l : PySem.W.OpenLaw} {n k : Nat} {q : Program} {loose : List Str} {XP : (Str → Option Value) → Heap → Prop} {YP : World → Heap → Prop} {d : DefRec} {K : Params → PySem.W.Frag} {CX : World → CXT} {sp : World → Sp} {x : Str}
    (hn : l.most = some n) (hn2 : n ≤ sizeLine) (hdf : d.params.defaults = []) (hr : Room k callerA)
    (hY : ∀ (w : World) (h : Heap), YP w h → (K w.params).In h)
    (F : ∀ (w : World) (mg : Str → Option Value) (fa : Addr) (h : Heap), (K w.params).In h → h.Ns mainGlobals mg → mg d.name = some (.ref fa) →
      ∃ fd : FuncData, (∀ (s : Shared) (u : Value), BindsTo s fd ⟨[u], []⟩ [(x, u)]) ∧
        ∀ base : Heap, (K w.params).In base → base.Ns mainGlobals mg → FnOk l.prog w (K w.params) mg base (CX w) k fa fd [x] (sp w))
    (hsp : ∀ (w : World) (H : Hp) (a : Addr) (ns : List Int), ns.length ≤ n → Only H → SqL (K w.params) H a (ns.map V.int) → sp w [.ref a] H (fun v _ => v = .bl true) fun _ _ _ => False)
    (hCX : ∀ (w : World) (H : Hp) (s : Shared) (e : Value) (s' : Shared), CX w [] H s (fun _ _ _ => False) e s' → False) :
    PySem.W.WalkO q loose XP YP l.row.toRowW d [] (fun f vs => PySem.call f vs) := by
  refine Att.attach_call hn hdf fun w s₀ s₁ mg mb fa o pm cd doc a vs ns G Y ho hd hcd hmg hobj hints hlen hg => ?_
  have KX := hY w _ Y
  obtain ⟨fd, hb, hF⟩ := F w mg fa _ KX G.T.g hmg
  exact law_call KX G.T.g G.T.b G.T.builtins G.T.nolimit hg hobj hints (Nat.le_trans hlen hn2) hr hF hb (fun H hO hS => hsp w H a ns hlen hO hS) fun H e s' => hCX w H s₁ e s'
end L2
namespace L2
open PySem PySem.Spec PyProof.Rows
def defArgs (s : Stmt) : Arguments := match s with
  | .FunctionDef _ a _ _ _ _ _ _ _ _ => a
  | _ => { posonlyargs := [], args := [], vararg := none, kwonlyargs := [], kw_defaults := [], kwarg := none, defaults := [] }
def defBody (s : Stmt) : List Stmt := match s with
  | .FunctionDef _ _ b _ _ _ _ _ _ _ => b
  | _ => []
def defScope (s : Stmt) : Scope := match s with
  | .FunctionDef _ _ _ _ _ _ sc _ _ _ => sc
  | _ => { kind := .function, names := [], isGenerator := false, isCoroutine := false }
abbrev CX0 : CXT := fun _ _ _ _ _ _ => False
abbrev E0 : XK := fun _ _ _ => False
theorem pass0 {X : Cx} : Passes CX0 X E0 := fun _ _ _ _ _ _ _ h => h.elim
structure Fun (K : PySem.W.Frag) (x qual : Str) (st : Stmt) (f : Addr) (fd : FuncData) : Prop where
  ex : ∃ (oc : Value) (od : Option Addr) (kV doc pm : Value) (an : Option Addr) (cdv ct : Value) (osl : Array (Option Value)),
    fd = PySem.W.fnOf x qual (defArgs st) (defBody st) (defScope st) .none kV doc pm an cdv ct ∧ K.lookup f = some ⟨oc, od, .func fd, osl⟩ ∧ PySem.W.codeIn K cdv qual = true
  kp : PySem.W.keepIn K (.ref f) = true
section
variable {P : Program} {w : World} {K : PySem.W.Frag} {mg : Str → Option Value} {base : Heap}
theorem Fun.ok {x qual : Str} {st : Stmt} {f : Addr} {fd : FuncData} {N ps : List Str} {k : Nat} {sp : Sp} (F : Fun K x qual st f fd) (S : FnScope N ps (defScope st)) (len : ∀ vs H Q E, sp vs H Q E → vs.length = ps.length)
    (hbody : ∀ (cdv : Value) (A : Around) (outer : List Env) (s : Shared) (H : Hp) (vs : List V) (Q : VK) (E : XK), Room k (A.deeper (envOfC qual (defScope st) s.heap.objs.size f cdv)) → sp vs H Q E →
      ∃ t, PSs (cxOf CX0 P w K mg base N qual (defScope st) f cdv A outer s H E).nox (defBody st) t ∧ t { nx := fun _ H' => Q .non H', rt := Q } (start N vs) H) : FnOk P w K mg base CX0 (k + 1) f fd ps sp := by
  obtain ⟨oc, od, kV, doc, pm, an, cdv, ct, osl, rfl, lk, hcd⟩ := F.ex
  refine fn_of lk hcd S len fun A outer s H vs Q E hr hsp => ?_
  obtain ⟨t, h, q⟩ := hbody cdv A outer s H vs Q E hr hsp
  exact ⟨t, h.nox, q⟩
theorem Fun.binds {x qual : Str} {st : Stmt} {f : Addr} {fd : FuncData} {ps : List Str} (F : Fun K x qual st f fd)
    (h : ∀ (kV doc pm : Value) (an : Option Addr) (cdv ct : Value) (us : List Value), us.length = ps.length → bindArgs (PySem.W.fnOf x qual (defArgs st) (defBody st) (defScope st) .none kV doc pm an cdv ct) ⟨us, []⟩ = pure (ps.zip us)) : Binds K fd ps [] := by
  obtain ⟨oc, od, kV, doc, pm, an, cdv, ct, osl, rfl, lk, hcd⟩ := F.ex
  exact .all (h kV doc pm an cdv ct)
theorem fun_mk {x qual : Str} {st : Stmt} {f : Addr} {oc : Value} {od an : Option Addr} {osl : Array (Option Value)} {kV doc pm cdv ct : Value} (l : K.lookup f = some ⟨oc, od, .func (PySem.W.fnOf x qual (defArgs st) (defBody st) (defScope st) .none kV doc pm an cdv ct), osl⟩)
    (c : PySem.W.codeIn K cdv qual = true) (k : PySem.W.keepIn K (.ref f) = true) : Fun K x qual st f (PySem.W.fnOf x qual (defArgs st) (defBody st) (defScope st) .none kV doc pm an cdv ct) := ⟨⟨oc, od, kV, doc, pm, an, cdv, ct, osl, rfl, l, c⟩, k⟩
end
section
variable {X : Cx}
theorem pv (i : Nat) {x : Str} {pos : Pos} (hN : X.N[i]? = some x := by rfl) (hv : Vis X.env.scope x := by first | exact Or.inl rfl | exact Or.inr (Or.inl rfl) | exact Or.inr (Or.inr rfl)) (hd : (x == ("__debug__" : Str)) = false := by decide)
    (hcd : (x == ("__classdict__" : Str)) = false := by decide) : PE X (.Name x pos) (tVar i) := pe_var hN hv hd hcd
end
theorem iteF {A B : Prop} (h : B) : if false = true then A else B := by
  rw [if_neg Bool.false_ne_true]
  exact h
theorem iteT {A B : Prop} (h : A) : if true = true then A else B := by
  rw [if_pos rfl]
  exact h
theorem ite2 {c A B : Prop} [Decidable c] (h1 : c → A) (h2 : ¬ c → B) : if c then A else B := by
  by_cases h : c
  · rw [if_pos h]
    exact h1 h
  · rw [if_neg h]
    exact h2 h
def Same (H H' : Hp) : Prop := ∀ b o, H b = some o → H' b = some o
theorem Same.refl (H : Hp) : Same H H := fun _ _ h => h
theorem Same.trans {H H1 H2 : Hp} (a : Same H H1) (b : Same H1 H2) : Same H H2 := fun c o h => b c o (a c o h)
theorem Same.free {H H' : Hp} (e : Same H H') {l : Addr} (h : H' l = Option.none) : H l = Option.none := by
  cases q : H l with
  | none => rfl
  | some o =>
    rw [e l o q] at h
    cases h
theorem Same.seq {K : PySem.W.Frag} {H H' : Hp} {a : Addr} {xs : List V} (e : Same H H') (h : SqL K H a xs) : SqL K H' a xs := by
  rcases h with (h | ⟨o, h⟩) | h
  · exact .inl (.inl (e _ _ h))
  · exact .inl (.inr ⟨o, e _ _ h⟩)
  · exact .inr h
end L2
namespace L2
open PySem PySem.Spec PyProof.Rows
def cloOf (cells : List (Str × Addr)) : List (Str × NameKind) → List (Str × Addr) → List (Str × Addr)
  | [], acc => acc
  | (n, k) :: r, acc => cloOf cells r (if (k == NameKind.free) = true then (n, (cells.lookup n).getD 0) :: acc else acc)
theorem cloOf_mem {cells : List (Str × Addr)} {x : Str} {c : Addr} : ∀ {ns : List (Str × NameKind)} {acc : List (Str × Addr)}, (x, c) ∈ cloOf cells ns acc → ((x, NameKind.free) ∈ ns ∧ c = (cells.lookup x).getD 0) ∨ (x, c) ∈ acc
  | [], _, h => .inr h
  | (n, k) :: r, acc, h => by
    have q := cloOf_mem (ns := r) h
    rcases q with ⟨q1, q2⟩ | q
    · exact .inl ⟨List.mem_cons_of_mem _ q1, q2⟩
    · by_cases hk : (k == NameKind.free) = true
      · rw [if_pos hk] at q
        have ek : k = NameKind.free := by simpa using hk
        rcases List.mem_cons.mp q with e | q
        · cases e
          subst ek
          exact .inl ⟨List.mem_cons_self, rfl⟩
        · exact .inr q
      · rw [if_neg hk] at q
        exact .inr q
theorem cloOf_sub {cells : List (Str × Addr)} {p : Str × Addr} : ∀ {ns : List (Str × NameKind)} {acc : List (Str × Addr)}, p ∈ acc → p ∈ cloOf cells ns acc
  | [], _, h => h
  | (n, k) :: r, acc, h => by
    refine cloOf_sub (ns := r) ?_
    split
    · exact List.mem_cons_of_mem _ h
    · exact h
theorem cloOf_has {cells : List (Str × Addr)} {x : Str} : ∀ {ns : List (Str × NameKind)} {acc : List (Str × Addr)}, (x, NameKind.free) ∈ ns → (x, (cells.lookup x).getD 0) ∈ cloOf cells ns acc
  | (n, k) :: r, acc, h => by
    rcases List.mem_cons.mp h with e | h
    · cases e
      refine cloOf_sub (ns := r) ?_
      rw [if_pos (by rfl)]
      exact List.mem_cons_self
    · exact cloOf_has (ns := r) h
theorem lookup_of_mem {x : Str} {c : Addr} : ∀ {l : List (Str × Addr)}, (x, c) ∈ l → ∃ c', l.lookup x = some c'
  | (n, d) :: r, h => by
    rw [List.lookup_cons]
    cases e : x == n with
    | true => exact ⟨d, rfl⟩
    | false =>
      rcases List.mem_cons.mp h with q | q
      · cases q
        simp at e
      · exact lookup_of_mem q
theorem forIn_clo {env : Env} (f : (Str × NameKind) → List (Str × Addr) → Sem (ForInStep (List (Str × Addr)))) (hf1 : ∀ n acc c, env.cells.lookup n = some c → f (n, .free) acc = pure (.yield ((n, c) :: acc)))
    (hf2 : ∀ n k acc, (k == NameKind.free) = false → f (n, k) acc = pure (.yield acc)) : ∀ (ns : List (Str × NameKind)) (acc : List (Str × Addr)), (∀ y ∈ ns, y.2 = .free → ∃ c, env.cells.lookup y.1 = some c) → forIn ns acc f = pure (cloOf env.cells ns acc)
  | [], _, _ => rfl
  | (n, k) :: r, acc, h => by
    have ih := fun acc' => forIn_clo f hf1 hf2 r acc' fun y hy => h y (List.mem_cons_of_mem _ hy)
    rw [List.forIn_cons]
    cases hk : k == NameKind.free with
    | true =>
      have ek : k = NameKind.free := by simpa using hk
      subst ek
      obtain ⟨c, e⟩ := h (n, .free) List.mem_cons_self rfl
      have e' : env.cells.lookup n = some c := e
      rw [hf1 n acc c e]
      show forIn r ((n, c) :: acc) f = _
      rw [ih]
      show _ = pure (cloOf env.cells r (if (NameKind.free == NameKind.free) = true then (n, (env.cells.lookup n).getD 0) :: acc else acc))
      rw [if_pos (by rfl), e']
      rfl
    | false =>
      rw [hf2 n k acc hk]
      show forIn r acc f = _
      rw [ih]
      show _ = pure (cloOf env.cells r (if (k == NameKind.free) = true then (n, (env.cells.lookup n).getD 0) :: acc else acc))
      rw [if_neg (by rw [hk]; decide)]
theorem closureFor_clo {scope : Scope} {env : Env} (h : ∀ y ∈ scope.names, y.2 = .free → ∃ c, env.cells.lookup y.1 = some c) : closureFor scope env = pure (cloOf env.cells scope.names []) := by
  unfold closureFor
  show (forIn scope.names [] _ >>= _) = _
  rw [forIn_clo (env := env) _ ?_ ?_ scope.names [] h]
  · rfl
  · intro n acc c e
    show (if (NameKind.free == NameKind.free) = true then _ else _) = _
    rw [if_pos (by rfl)]
    unfold cellOf
    rw [e]
    first | rfl | skip
  · intro n k acc hk
    show (if (k == NameKind.free) = true then _ else _) = _
    rw [if_neg (by rw [hk]; decide)]
abbrev compCx (X : Cx) (N' : List Str) (sc : Scope) (cl : List (Str × Addr)) (C : Addr) (s : Shared) (H : Hp) (fp : List Addr) : Cx :=
  { X with N := N', s₀ := s, H₀ := H, env := compEnvC sc cl C X.env, outer := X.stack, stack := X.stack, ex := fp, fn := fun x => sc.names.lookup x == some NameKind.local, pn := [], xe := fun _ _ => False }
structure CompSc (osc : Scope) (ON N' : List Str) (src : List (Option Nat)) (sc : Scope) : Prop where
  kind : sc.kind = .function
  okind : osc.kind = .function
  uniq : ∀ y ∈ sc.names, sc.names.lookup y.1 = some y.2
  nocell : ∀ y ∈ sc.names, y.2 ≠ .cell
  free : ∀ y ∈ sc.names, y.2 = .free → osc.names.lookup y.1 = some .cell ∨ osc.names.lookup y.1 = some .free
  len : src.length = N'.length
  src : ∀ (i : Nat) (x : Str) (j : Nat), N'[i]? = some x → src[i]? = some (some j) → ON[j]? = some x ∧ sc.names.lookup x = some .free
def inSt (src : List (Option Nat)) (σ : St) : St := src.map fun o => o.bind fun j => (σ[j]?).bind id
theorem inSt_get {src : List (Option Nat)} {σ : St} {i : Nat} {v : V} (h : (inSt src σ)[i]? = some (some v)) : ∃ j, src[i]? = some (some j) ∧ σ[j]? = some (some v) := by
  unfold inSt at h
  rw [List.getElem?_map] at h
  cases e : src[i]? with
  | none => rw [e] at h; cases h
  | some o =>
    rw [e] at h
    cases o with
    | none => cases h
    | some j =>
      have h' : (σ[j]?).bind id = some v := Option.some.inj h
      cases e2 : σ[j]? with
      | none => rw [e2] at h'; cases h'
      | some w =>
        rw [e2] at h'
        have h'' : w = some v := h'
        exact ⟨j, rfl, by rw [e2, h'']⟩
def PIfs (X : Cx) (ifs : List Expr) (t : TT) : Prop :=
  ∀ (pins : List (Addr × Obj)) (s : Shared) (σ : St) (H : Hp) (Q : Bool → Hp → Prop), Inv X pins σ H s → t σ H Q →
    wpAny (model X.prog X.w) X.A (forIn ifs true fun c r => if r = true then do let ok ← isTrue c X.env (eval c X.env); pure (ForInStep.yield ok) else pure (ForInStep.yield r)) (TP X pins σ Q) X.xe s
def tNoIf : TT := fun _ H Q => Q true H
theorem pifs_nil {X : Cx} : PIfs X [] tNoIf := fun _ _ _ H _ I h => wpAny_tests_nil ⟨H, I, h⟩
theorem pifs_one {X : Cx} {c : Expr} {t : TT} (h : PT X c t) : PIfs X [c] t := fun pins s σ H Q I q => wpAny_tests_one (h pins s σ H Q I q)
def compW (J : It) (g : TG) (tc : TT) (te : TE) (D : Addr) (Q : VK) (W : Nat → Nat → St → List V → Hp → Prop) : Prop :=
  ∀ i m σ ys H, W i m σ ys H → H D = some (.lst ys) ∧ ((J.stop i H ∧ Q (.ref D) H) ∨ (J.go i H ∧ ys.length < sizeLine ∧ ∃ N : St → List V → Hp → Prop, (∀ σ' ys' H', N σ' ys' H' → ∃ m', m' < m ∧ W (i + 1) m' σ' ys' H') ∧
    ∀ x H', J.yld i H x H' → g x σ H' fun σ2 H2 => tc σ2 H2 fun b H3 =>
      if b = true then te σ2 H3 fun v H4 => H4 D = some (.lst ys) ∧ N σ2 (ys ++ [v]) (upd H4 D (.lst (ys ++ [v]))) else N σ2 ys H3))
def tComp (src : List (Option Nat)) (wi : TI) (g : TG) (tc : TT) (te : TE) : TE := fun σ H Q => wi σ H fun J H1 => ∀ D, H1 D = none →
  ∃ W : Nat → Nat → St → List V → Hp → Prop, (∃ m, W 0 m (inSt src σ) [] (upd H1 D (.lst []))) ∧ compW J g tc te D Q W
section
variable {X : Cx} {elt target iter : Expr} {ifs : List Expr} {sc : Scope} {pos : Pos} {wi : TI} {g : TG} {tc : TT} {te : TE} {N' : List Str} {src : List (Option Nat)}
theorem comp_loop {it acc : Value} {env : Env} {prog : Program} {w : World} {A : Around} {s : Shared} {R : Result → Shared → Prop} (Iv : Nat → Shared → Prop)
    (turn : ∀ n s, Iv n s → wpAny (model prog w) A (pyNext it) (fun r s₁ => match r with
      | none => R (.ok .next) s₁
      | some v => wpAny (model prog w) A (letOwnedTupleGo target it v) (fun _ s₁' => wpAny (model prog w) A (assign target env v) (fun _ s₂ =>
          wpAny (model prog w) A (forIn ifs true fun c r => if r = true then do let ok ← isTrue c env (eval c env); pure (ForInStep.yield ok) else pure (ForInStep.yield r)) (fun ok s₃ =>
            if ok = true then wpAny (model prog w) A (eval elt env) (fun x s₄ =>
              wpAny (model prog w) A (call (.builtin "list.append") [acc, x]) (fun _ s₅ => ∃ m, m < n ∧ Iv m s₅) (fun _ _ => False) s₄) (fun _ _ => False) s₃
            else ∃ m, m < n ∧ Iv m s₃) (fun _ _ => False) s₂) (fun _ _ => False) s₁') (fun _ _ => False) s₁) (fun _ _ => False) s)
    (n : Nat) (h : Iv n s) :
    codeAny (model prog w) A (.compLoop (.ListComp elt [⟨target, iter, ifs, 0⟩] sc pos) 0 it acc env) R s := by
  refine codeAny_loop rfl Iv (fun n s hI => ?_) n h
  show wpAny _ A ((compTurn (.ListComp elt [⟨target, iter, ifs, 0⟩] sc pos) 0 it acc env).onRaise (fun x => do noteFrame x env; theTreesLotGoes x)) _ _ s
  refine wpAny_noted ?_
  rw [compTurn_list]
  refine wpAny_bind (wpAny_standAt (wpAny_bind (wpAny_mono (turn n s hI) (fun r s₁ h₁ => ?_) fun _ _ h' => h'.elim)))
  cases r with
  | none => exact wpAny_pure h₁
  | some v =>
    refine wpAny_bind (wpAny_mono h₁ (fun _ s₁' h₁' => wpAny_bind (wpAny_mono h₁' (fun _ s₂ h₂ => wpAny_bind (wpAny_mono h₂ (fun ok s₃ h₃ => ?_) fun _ _ h' => h'.elim)) fun _ _ h' => h'.elim)) fun _ _ h' => h'.elim)
    cases ok with
    | false => exact wpAny_pure ⟨rfl, h₃⟩
    | true =>
      exact wpAny_bind (wpAny_bind (wpAny_mono h₃ (fun x s₄ h₄ => wpAny_bind (wpAny_mono h₄ (fun _ s₅ h₅ => wpAny_pure (wpAny_pure ⟨rfl, h₅⟩)) fun _ _ h' => h'.elim)) fun _ _ h' => h'.elim))
theorem comp_start {pins : List (Addr × Obj)} {σ : St} {H : Hp} {s : Shared} {h1 : Heap} {fp : List Addr} (S : CompSc X.env.scope X.N N' src sc) (I : Inv X pins σ H s) (f2 : ∀ b ∈ fp, FpOk X pins H b) (o2 : ∀ b ∈ fp, b < s.heap.objs.size)
    (ns : h1.Ns s.heap.objs.size fun x => (([] : List (Str × Value)).reverse.lookup x)) (sb : Heap.SameBut s.heap.objs.size (s.heap.push { cls := .type "dict", data := .dict #[] }) h1) {tk : Nat} :
    Inv (compCx X N' sc (cloOf X.env.cells sc.names []) s.heap.objs.size s H fp) [] (inSt src σ) H { s with heap := h1, toks := tk } := by
  have old : ∀ b o, s.heap.get? b = some o → h1.get? b = some o := fun b o e => (sb.2 b (Nat.ne_of_lt (Heap.lt_size e))).trans (Heap.get?_push_of_some _ e)
  have clo : ∀ x c, (cloOf X.env.cells sc.names []).lookup x = some c → X.env.cells.lookup x = some c ∧ sc.names.lookup x = some .free := fun x c e => by
    rcases cloOf_mem (mem_of_lookup e) with ⟨m, q⟩ | z
    · obtain ⟨c', e'⟩ := I.ok.has x (S.free _ m rfl)
      rw [e'] at q
      exact ⟨by rw [e', q]; rfl, S.uniq _ m⟩
    · cases z
  have hasC : ∀ x, sc.names.lookup x = some .free → ∃ c, (cloOf X.env.cells sc.names []).lookup x = some c := fun x e => lookup_of_mem (cloOf_has (mem_of_lookup e))
  have kinds : ∀ (x : Str) (k : NameKind), (relabel sc X.env).names.lookup x = some k → (k = .cell ∨ k = .free) → sc.names.lookup x = some .free := fun x k e hk => by
    have gen : ∀ ns : List (Str × NameKind), (∀ y ∈ ns, y.2 ≠ .cell) → (ns.map fun (n, k) => if (k == NameKind.free && X.env.scope.kind == .function && X.env.kindOf n == some .cell) then (n, NameKind.cell) else (n, k)).lookup x = some k → ns.lookup x = some .free := by
      intro ns
      induction ns with
      | nil => intro _ h; cases h
      | cons y r ih =>
        obtain ⟨n, k1⟩ := y
        intro hn h
        rw [List.map_cons] at h
        dsimp only at h
        by_cases hc : (k1 == NameKind.free && X.env.scope.kind == .function && X.env.kindOf n == some .cell) = true
        · rw [if_pos hc, List.lookup_cons] at h
          rw [List.lookup_cons]
          cases hx : x == n with
          | true =>
            have : k1 = NameKind.free := by
              cases hk1 : k1 == NameKind.free with
              | true => simpa using hk1
              | false => rw [hk1] at hc; simp at hc
            rw [this]
          | false => rw [hx] at h; exact ih (fun y hy => hn y (List.mem_cons_of_mem _ hy)) h
        · rw [if_neg hc, List.lookup_cons] at h
          rw [List.lookup_cons]
          cases hx : x == n with
          | true =>
            rw [hx] at h
            have h' : k1 = k := Option.some.inj h
            rcases hk with hk | hk
            · exact absurd (h'.trans hk) (hn (n, k1) List.mem_cons_self)
            · show some k1 = _
              rw [h', hk]
          | false => rw [hx] at h; exact ih (fun y hy => hn y (List.mem_cons_of_mem _ hy)) h
    exact gen sc.names S.nocell e
  have relab : ∀ x, sc.names.lookup x = some .free → (relabel sc X.env).names.lookup x = some .cell ∨ (relabel sc X.env).names.lookup x = some .free := fun x e => by
    have gen : ∀ ns : List (Str × NameKind), ns.lookup x = some .free → (ns.map fun (n, k) => if (k == NameKind.free && X.env.scope.kind == .function && X.env.kindOf n == some .cell) then (n, NameKind.cell) else (n, k)).lookup x = some .cell ∨
        (ns.map fun (n, k) => if (k == NameKind.free && X.env.scope.kind == .function && X.env.kindOf n == some .cell) then (n, NameKind.cell) else (n, k)).lookup x = some .free := by
      intro ns
      induction ns with
      | nil => intro h; cases h
      | cons y r ih =>
        obtain ⟨n, k1⟩ := y
        intro h
        rw [List.map_cons]
        dsimp only
        rw [List.lookup_cons] at h
        by_cases hc : (k1 == NameKind.free && X.env.scope.kind == .function && X.env.kindOf n == some .cell) = true
        · rw [if_pos hc, List.lookup_cons]
          cases hx : x == n with
          | true => exact .inl rfl
          | false => rw [hx] at h; exact ih h
        · rw [if_neg hc, List.lookup_cons]
          cases hx : x == n with
          | true =>
            rw [hx] at h
            exact .inr h
          | false => rw [hx] at h; exact ih h
    exact gen sc.names e
  refine ⟨⟨I.mod, ?_, I.ok.glob, I.ok.blt, Nat.le_refl _, fun x y c h1 h2 => I.ok.inj x y c (clo x c h1).1 (clo y c h2).1, fun x hx => ?_, fun x c hf h => ?_, I.ok.hd, I.ok.frames, .inl rfl, fun b hb => ⟨?_, fun x c h => ?_⟩, I.bs, ?_, fun b o e hb => ?_, fun b hb hs => ?_, I.stack, I.stkFree⟩,
    rfl, I.bare, Un.kept old, ⟨_, ns, fun i x v h1 h2 h3 => ?_⟩, fun x c h => ?_, I.hok.fresh (Nat.le_refl _), fun x c h => I.freeC x c (clo x c h).1, fun p hp => absurd (show p ∈ ([] : List (Addr × Obj)) from hp) (by simp), I.hok.kept old, ?_⟩
  · show (relabel sc X.env).kind = .function
    exact S.kind
  · obtain hx | hx := hx
    · exact hasC x (kinds x _ hx (.inl rfl))
    · exact hasC x (kinds x _ hx (.inr rfl))
  · have e2 := (clo x c h).2
    have hf' : (sc.names.lookup x == some NameKind.local) = true := hf
    rw [e2] at hf'
    cases hf'
  · exact Nat.ne_of_lt (o2 b hb)
  · exact (f2 b hb).2.2.2.2.1 x c (clo x c h).1
  · exact Nat.le_trans I.ok.bsz I.sz
  · rcases (f2 b hb).2.2.2.1 with z | z
    · exact I.ok.noex b o e z
    · exact absurd (Nat.lt_of_lt_of_le (Heap.lt_size e) (Nat.le_trans I.ok.bsz z)) (Nat.lt_irrefl _)
  · rcases List.mem_cons.mp (I.stkSub b hs) with z | z
    · exact (f2 b hb).2.1 z
    · exact (f2 b hb).2.2.1 z
  · obtain ⟨j, e1, e2⟩ := inSt_get h2
    obtain ⟨e3, e4⟩ := S.src i x j h1 e1
    obtain ⟨m, hn, hl⟩ := I.loc
    have kx := S.free _ (mem_of_lookup e4) rfl
    obtain ⟨u, ru, l⟩ := hl j x v e3 e2 (.inr kx)
    refine ⟨u, ru, .inr ⟨relab x e4, ?_⟩⟩
    obtain ⟨c, hc⟩ := hasC x e4
    refine ⟨c, hc, ?_⟩
    have hc' := (clo x c hc).1
    rcases l with ⟨lk, _⟩ | ⟨_, c', lc, z⟩
    · have lk' : X.env.scope.names.lookup x = some .local := lk
      rcases kx with q | q
      · have q' : X.env.scope.names.lookup x = some .cell := q
        rw [lk'] at q'; cases q'
      · have q' : X.env.scope.names.lookup x = some .free := q
        rw [lk'] at q'; cases q'
    · rw [hc'] at lc
      cases lc
      obtain ⟨o, ho, hd⟩ := z
      exact ⟨o, old _ _ ho, hd⟩
  · obtain ⟨v, o, ho, hd⟩ := I.cell x c (clo x c h).1
    exact ⟨v, o, old _ _ ho, hd⟩
  · show (inSt src σ).length = N'.length
    unfold inSt
    rw [List.length_map]
    exact S.len
theorem comp_block {pins : List (Addr × Obj)} {σ : St} {H2 : Hp} {s2 : Shared} {it : Addr} {fp : List Addr} {tn : Nat → Heap → Prop} {J : It} {Q : VK} {E : Value → Shared → Prop} {RR : Value → Addr → Result → Shared → Prop}
    (hc : X.calm = true) (S : CompSc X.env.scope X.N N' src sc)
    (hg : ∀ cl C s H fp, PG (compCx X N' sc cl C s H fp) target g) (ht : ∀ cl C s H fp, PIfs (compCx X N' sc cl C s H fp) ifs tc) (he : ∀ cl C s H fp, PE (compCx X N' sc cl C s H fp) elt te)
    (I2 : Inv X pins σ H2 s2) (T : Turn X.prog X.w X.K target J fp it tn) (st2 : tn 0 s2.heap) (f2 : ∀ b ∈ fp, FpOk X pins H2 b)
    (hW : ∀ D, H2 D = none → ∃ W : Nat → Nat → St → List V → Hp → Prop, (∃ m, W 0 m (inSt src σ) [] (upd H2 D (.lst []))) ∧ compW J g tc te D Q W)
    (hRR : ∀ D C s5 H' m, Inv X pins σ H' s5 → s5.heap.Ns C m → FpOk X pins H' C → Q (.ref D) H' → RR (.ref D) C (.ok .next) s5) :
    wpAny (model X.prog X.w) X.A (newList []) (fun acc s₃ => wpAny (model X.prog X.w) X.A (newFunctionEnv sc X.env.globals (cloOf X.env.cells sc.names []) [] X.env.qual none .none (some X.env)) (fun cenv s₄ =>
      codeAny (model X.prog X.w) X.A (.compStart (.ListComp elt [⟨target, iter, ifs, 0⟩] sc pos) 0 (.ref it) acc { cenv with scope := relabel sc X.env }) (RR acc cenv.locals) s₄) E s₃) E s2 := by
  have o2 : ∀ b ∈ fp, b < s2.heap.objs.size := fun b hb => by
    obtain ⟨o, e, _⟩ := T.obj 0 _ st2 b hb
    exact Heap.lt_size e
  refine wpAny_newObj_type ?_
  have fr2 : H2 s2.heap.objs.size = none := I2.hok.fresh (Nat.le_refl _)
  obtain ⟨W, ⟨m0, w0⟩, turn⟩ := hW s2.heap.objs.size fr2
  have I3 : Inv X pins σ (upd H2 s2.heap.objs.size (.lst [])) { s2 with heap := s2.heap.push { cls := .type "list", dict := none, data := .seq ([] : List Value).toArray } } :=
    I2.laid (t' := s2.toks) (fun b u e => Heap.get?_push_of_some _ e) (Nat.le_refl _) ⟨Nat.zero_le _, [], 0, .nil, Heap.get?_push_size _ rfl⟩
  have st3 : tn 0 (s2.heap.push { cls := .type "list", dict := none, data := .seq ([] : List Value).toArray }) := T.keep 0 _ _ st2 fun b hb o e => Heap.get?_push_of_some _ e
  generalize hs3 : ({ s2 with heap := s2.heap.push { cls := .type "list", dict := none, data := .seq ([] : List Value).toArray } } : Shared) = s3 at I3
  have hh3 : s3.heap = s2.heap.push { cls := .type "list", dict := none, data := .seq ([] : List Value).toArray } := by rw [← hs3]
  have sz3 : s2.heap.objs.size < s3.heap.objs.size := by rw [hh3, Heap.size_push]; exact Nat.lt_succ_self _
  have o3 : ∀ b ∈ fp, b < s3.heap.objs.size := fun b hb => Nat.lt_trans (o2 b hb) sz3
  have f3 : ∀ b ∈ fp, FpOk X pins (upd H2 s2.heap.objs.size (.lst [])) b := fun b hb => ⟨by rw [upd_ne (Nat.ne_of_lt (o2 b hb))]; exact (f2 b hb).1, (f2 b hb).2⟩
  rw [← hh3] at st3
  refine wpAny_newFunctionEnv S.nocell (by intro y hy; simp at hy) (fun h1 hns hsb => ?_) S.kind
  have hsb' : Heap.SameBut s3.heap.objs.size (s3.heap.push { cls := .type "dict", data := .dict #[] }) h1 := hsb
  have I4 : Inv (compCx X N' sc (cloOf X.env.cells sc.names []) s3.heap.objs.size s3 (upd H2 s2.heap.objs.size (.lst [])) fp) [] (inSt src σ) (upd H2 s2.heap.objs.size (.lst [])) { s3 with heap := h1, toks := s3.toks + ([] : List (Str × Value)).length } :=
    comp_start S I3 f3 o3 hns hsb'
  have st4 : tn 0 h1 := T.keep 0 _ _ st3 fun b hb o e => (hsb'.2 b (Nat.ne_of_lt (o3 b hb))).trans (Heap.get?_push_of_some _ e)
  have fC : ∀ (H' : Hp) , H' s3.heap.objs.size = none → FpOk X pins H' s3.heap.objs.size := fun H' hn => I3.fpOk (Nat.le_refl _) hn
  have loop : codeAny (model X.prog X.w) X.A (.compLoop (.ListComp elt [⟨target, iter, ifs, 0⟩] sc pos) 0 (.ref it) (.ref s2.heap.objs.size) (compEnvC sc (cloOf X.env.cells sc.names []) s3.heap.objs.size X.env))
      (RR (.ref s2.heap.objs.size) s3.heap.objs.size) { s3 with heap := h1, toks := s3.toks + ([] : List (Str × Value)).length } := by
    have stat : ∀ {H' : Hp}, (∀ b ∈ fp, H' b = none) → ∀ b ∈ fp, FpOk (compCx X N' sc (cloOf X.env.cells sc.names []) s3.heap.objs.size s3 (upd H2 s2.heap.objs.size (.lst [])) fp) [] H' b := fun hn b hb =>
      ⟨hn b hb, (I4.ok.exf b hb).1, I4.ok.exfs b hb, .inl hb, (I4.ok.exf b hb).2, fun p hp => absurd (show p ∈ ([] : List (Addr × Obj)) from hp) (by simp)⟩
    refine comp_loop (fun n s' => ∃ i σ' ys H', Inv (compCx X N' sc (cloOf X.env.cells sc.names []) s3.heap.objs.size s3 (upd H2 s2.heap.objs.size (.lst [])) fp) [] σ' H' s' ∧ tn i s'.heap ∧ (∀ b ∈ fp, H' b = none) ∧ W i n σ' ys H') ?_ m0
      ⟨0, _, [], _, I4, st4, fun b hb => (f3 b hb).1, w0⟩
    rintro n s5 ⟨i, σ5, ys, H5, I5, st5, fr5, w5⟩
    obtain ⟨hD, alt⟩ := turn i n σ5 ys H5 w5
    rcases alt with ⟨stop, qn⟩ | ⟨go, hsz, N, hN, step⟩
    · refine thn (T.done (compCx X N' sc (cloOf X.env.cells sc.names []) s3.heap.objs.size s3 (upd H2 s2.heap.objs.size (.lst [])) fp) rfl rfl rfl hc i [] s5 σ5 H5 _ I5 (stat fr5) st5 stop) fun r s6 ⟨hr, I6⟩ => ?_
      subst hr
      obtain ⟨m6, n6, _⟩ := id I6.loc
      refine hRR _ _ s6 H5 m6 (I3.call' I6.os I6.base I6.hok I6.bare fun b hb => ⟨(f3 b hb).2.2.2.1, (f3 b hb).2.1, (f3 b hb).2.2.2.2.1, (f3 b hb).2.2.2.2.2⟩) n6 (fC _ I6.free) qn
    · refine thn (T.item (compCx X N' sc (cloOf X.env.cells sc.names []) s3.heap.objs.size s3 (upd H2 s2.heap.objs.size (.lst [])) fp) rfl rfl rfl hc i [] s5 σ5 H5 _ I5 (stat fr5) st5 go) fun r s6 ⟨u, hr, h6⟩ => ?_
      subst hr
      refine thn h6 fun _ s7 ⟨x, H7, I7, r7, y7, st7, fr7⟩ => ?_
      have I7' := I7.pinned (stat fr7) (T.obj _ _ st7)
      refine thn (hg _ _ _ _ _ _ s7 σ5 H7 x u _ I7' r7 (step x H7 y7)) fun _ s8 ⟨σ8, H8, I8, q8⟩ => ?_
      refine thn (ht _ _ _ _ _ _ s8 σ8 H8 _ I8 q8) fun b s9 ⟨H9, I9, q9⟩ => ?_
      have again : ∀ {σ' : St} {H' : Hp} {s' : Shared} {ys' : List V} {m' : Nat}, Inv (compCx X N' sc (cloOf X.env.cells sc.names []) s3.heap.objs.size s3 (upd H2 s2.heap.objs.size (.lst [])) fp) ([] ++ pinsAt fp s7.heap) σ' H' s' → m' < n → W (i + 1) m' σ' ys' H' →
          ∃ m, m < n ∧ ∃ i σ' ys H', Inv (compCx X N' sc (cloOf X.env.cells sc.names []) s3.heap.objs.size s3 (upd H2 s2.heap.objs.size (.lst [])) fp) [] σ' H' s' ∧ tn i s'.heap ∧ (∀ b ∈ fp, H' b = none) ∧ W i m σ' ys H' := fun {σ' H' s' ys' m'} I' hm w' => by
        refine ⟨m', hm, i + 1, σ', ys', H', I'.unpinned, T.keep _ _ _ st7 fun b hb o e => (I'.pin (b, o) (List.mem_append_right _ (List.mem_append_right _ (mem_pinsAt hb e)))).1, fun b hb => ?_, w'⟩
        obtain ⟨o, e, d⟩ := T.obj _ _ st7 b hb
        exact (I'.pin (b, o) (List.mem_append_right _ (List.mem_append_right _ (mem_pinsAt hb e)))).2.1
      cases b with
      | false =>
        rw [if_neg Bool.false_ne_true] at q9 ⊢
        obtain ⟨m', hm, w'⟩ := hN _ _ _ q9
        exact again I9 hm w'
      | true =>
        rw [if_pos rfl] at q9 ⊢
        refine thn (he _ _ _ _ _ _ s9 σ8 H9 _ I9 q9) fun xv s10 ⟨v, H10, I10, r10, hD10, w10⟩ => ?_
        obtain ⟨m', hm, w'⟩ := hN _ _ _ w10
        have q10 : rAppend (.ref s2.heap.objs.size) [v] H10 fun _ H' => H' = upd H10 s2.heap.objs.size (.lst (ys ++ [v])) := ⟨_, ys, v, rfl, rfl, hD10, hsz, rfl⟩
        refine thn (mt_append _ s10 σ8 H10 _ _ _ _ _ I10 (show RelV (.ref s2.heap.objs.size) (.ref s2.heap.objs.size) from rfl) (.cons r10 .nil) q10) fun _ s11 ⟨_, H11, I11, _, e11⟩ => ?_
        rw [e11] at I11
        exact again I11 hm w'
  exact codeAny_compStart_list loop (T.self _ 0 _ _ _ st4 loop)
theorem pe_lcomp (hc : X.calm = true) (S : CompSc X.env.scope X.N N' src sc) (hi : PI X target iter wi)
    (hg : ∀ cl C s H fp, PG (compCx X N' sc cl C s H fp) target g) (ht : ∀ cl C s H fp, PIfs (compCx X N' sc cl C s H fp) ifs tc) (he : ∀ cl C s H fp, PE (compCx X N' sc cl C s H fp) elt te)
    (hs : ∀ x, foldedSetIterable iter X.env x = pure x := by intro _; rfl) :
    PE X (.ListComp elt [⟨target, iter, ifs, 0⟩] sc pos) (tComp src wi g tc te) := by
  intro pins s σ H Q I h
  rw [eval_ListComp]
  refine wpAny_comprehension_free (use := none) rfl hs (closureFor_clo fun y hy hk => I.ok.has y.1 (S.free y hy hk)) S.kind (fun y hy hl => by rw [← hl]; exact S.uniq y hy) ?_
  refine thn (hi pins s σ H _ I h) fun v s1 h1 => thn h1 fun itv s2 h2 => ?_
  obtain ⟨it, fp, tn, J, H2, e, I2, T, st2, f2, hW⟩ := h2
  subst e
  refine comp_block (Q := Q) (RR := fun acc C => compPost (model X.prog X.w) X.A X.xe none (EP X pins σ Q) acc C) hc S hg ht he I2 T st2 f2 hW ?_
  intro D C s5 H' m I5 n5 fC q
  refine ⟨m, n5, fun h' sb => ⟨.ref D, H', ?_, rfl, q⟩⟩
  exact I5.turned (t' := s5.toks) (fun b o hb e => (sb.2 b hb).trans e) fC.1 fC.2.1 fC.2.2.2.1 fC.2.2.2.2.1 fC.2.2.2.2.2
theorem ps_setComp {i : Nat} {x : Str} {pos' spos : Pos} (hN : X.N.Nodup) (hi' : X.N[i]? = some x) (hx : Loc X.env.scope x) (hsw : swapsWith (.ListComp elt [⟨target, iter, ifs, 0⟩] sc pos) (some (.Name x pos')) spos.line X.env = pure true)
    (hc : X.calm = true) (S : CompSc X.env.scope X.N N' src sc) (hi : PI X target iter wi)
    (hg : ∀ cl C s H fp, PG (compCx X N' sc cl C s H fp) target g) (ht : ∀ cl C s H fp, PIfs (compCx X N' sc cl C s H fp) ifs tc) (he : ∀ cl C s H fp, PE (compCx X N' sc cl C s H fp) elt te)
    (hf : X.fn x = true ∨ X.env.scope.names.lookup x = some .local := by first | exact .inl rfl | exact .inr rfl | assumption)
    (hs : ∀ x, foldedSetIterable iter X.env x = pure x := by intro _; rfl) :
    PS X (.Assign [.Name x pos'] (.ListComp elt [⟨target, iter, ifs, 0⟩] sc pos) spos) (tAsg (tComp src wi g tc te) (gName i)) := by
  intro pins s σ H D I h
  rw [exec_Assign_Name_used _ _ _ _ hsw]
  refine wpAny_bind (wpAny_standAt (wpAny_bind ?_))
  show wpAny _ _ (comprehension _ _ _ _ _ _ _ _ >>= _) _ _ s
  refine wpAny_bind (wpAny_comprehension_free (use := some (assign (.Name x pos') X.env)) rfl hs (closureFor_clo fun y hy hk => I.ok.has y.1 (S.free y hy hk)) S.kind (fun y hy hl => by rw [← hl]; exact S.uniq y hy) ?_)
  refine thn (hi pins s σ H _ I h) fun v s1 h1 => thn h1 fun itv s2 h2 => ?_
  obtain ⟨it, fp, tn, J, H2, e, I2, T, st2, f2, hW⟩ := h2
  subst e
  refine comp_block (Q := fun y H' => D.nx (σ.set i (some y)) H') (RR := fun acc C => compPost (model X.prog X.w) X.A X.xe (some (assign (.Name x pos') X.env)) _ acc C) hc S hg ht he I2 T st2 f2 hW ?_
  intro D' C s5 H' m I5 n5 fC q
  refine wpAny_assign_Name (store_ok2 I5 hN hi' hx (show RelV (.ref D') (.ref D') from rfl) (fun s6 I6 hsb => ?_) hf)
  obtain ⟨a, sb, ha⟩ := hsb
  have hCa : C ≠ a := by
    rcases ha with z | z
    · rw [z]; exact fC.2.1
    · exact fun e => fC.2.2.2.2.1 x a z e.symm
  refine ⟨m, n5.sameBut sb hCa, fun h' sb' => ?_⟩
  refine wpAny_pure (wpAny_pure ?_)
  exact ⟨_, H', I6.turned (t' := s6.toks) (fun b o hb e => (sb'.2 b hb).trans e) fC.1 fC.2.1 fC.2.2.2.1 fC.2.2.2.2.1 fC.2.2.2.2.2, q⟩
end
def compOkB (osc : Scope) (ON N' : List Str) (src : List (Option Nat)) (sc : Scope) : Bool :=
  sc.kind == .function && osc.kind == .function && sc.names.all (fun y => sc.names.lookup y.1 == some y.2 && y.2 != .cell && (y.2 != .free || osc.names.lookup y.1 == some .cell || osc.names.lookup y.1 == some .free)) &&
  src.length == N'.length && (N'.zip src).all fun y => match y.2 with | none => true | some j => ON[j]? == some y.1 && sc.names.lookup y.1 == some .free
theorem CompSc.ofB {osc : Scope} {ON N' : List Str} {src : List (Option Nat)} {sc : Scope} (h : compOkB osc ON N' src sc = true) : CompSc osc ON N' src sc := by
  unfold compOkB at h
  simp only [Bool.and_eq_true] at h
  obtain ⟨⟨⟨⟨h1, h2⟩, h3⟩, h4⟩, h5⟩ := h
  have h3' := List.all_eq_true.mp h3
  have h5' := List.all_eq_true.mp h5
  refine ⟨by simpa using h1, by simpa using h2, fun y hy => ?_, fun y hy => ?_, fun y hy hf => ?_, by simpa using h4, fun i x j e1 e2 => ?_⟩
  · have := h3' y hy
    simp only [Bool.and_eq_true] at this
    simpa using this.1.1
  · have := h3' y hy
    simp only [Bool.and_eq_true] at this
    simpa using this.1.2
  · have := h3' y hy
    simp only [Bool.and_eq_true, Bool.or_eq_true] at this
    rcases this.2 with (z | z) | z
    · rw [hf] at z; exact absurd z (by decide)
    · exact .inl (by simpa using z)
    · exact .inr (by simpa using z)
  · have m : (x, some j) ∈ N'.zip src := by
      refine List.mem_of_getElem? (i := i) ?_
      rw [List.getElem?_zip_eq_some]
      exact ⟨e1, e2⟩
    have := h5' _ m
    simp only [Bool.and_eq_true] at this
    exact ⟨by simpa using this.1, by simpa using this.2⟩
section
variable {g : TG} {tc : TT} {te : TE} {D : Addr} {Q : VK} {σ0 : St} {H0 : Hp}
theorem comp_range {lo : Int} {n : Nat} (Pv : Nat → St → List V → Hp → Prop) (h0 : Pv 0 σ0 [] H0) (hD : ∀ i σ ys H, i ≤ n → Pv i σ ys H → H D = some (.lst ys) ∧ ys.length ≤ i) (hz : n ≤ sizeLine)
    (hs : ∀ i σ ys H, i < n → Pv i σ ys H → g (.int (lo + i)) σ H fun σ2 H2 => tc σ2 H2 fun b H3 => if b = true then te σ2 H3 fun v H4 => H4 D = some (.lst ys) ∧ Pv (i + 1) σ2 (ys ++ [v]) (upd H4 D (.lst (ys ++ [v]))) else Pv (i + 1) σ2 ys H3)
    (hd : ∀ σ ys H, Pv n σ ys H → Q (.ref D) H) : ∃ W : Nat → Nat → St → List V → Hp → Prop, (∃ m, W 0 m σ0 [] H0) ∧ compW (Itr lo n) g tc te D Q W := by
  refine ⟨fun i m σ ys H => m = n - i ∧ i ≤ n ∧ Pv i σ ys H, ⟨n, by simp, Nat.zero_le _, h0⟩, ?_⟩
  rintro i m σ ys H ⟨rfl, hi, p⟩
  refine ⟨(hD i σ ys H hi p).1, ?_⟩
  by_cases hlt : i < n
  · refine .inr ⟨hlt, Nat.lt_of_le_of_lt (hD i σ ys H hi p).2 (Nat.lt_of_lt_of_le hlt hz), Pv (i + 1), fun σ' ys' H' p' => ⟨n - (i + 1), by omega, rfl, hlt, p'⟩, fun x H' y => ?_⟩
    obtain ⟨e, y⟩ := y
    subst e y
    exact hs i σ ys _ hlt p
  · have e : i = n := by omega
    subst e
    exact .inl ⟨Nat.le_refl _, hd σ ys H p⟩
theorem comp_list {K : PySem.W.Frag} {a : Addr} {xs : List V} (Pv : Nat → St → List V → Hp → Prop) (h0 : Pv 0 σ0 [] H0) (hD : ∀ i σ ys H, i ≤ xs.length → Pv i σ ys H → H D = some (.lst ys) ∧ ys.length ≤ i) (hl : ∀ i σ ys H, i ≤ xs.length → Pv i σ ys H → SqL K H a xs) (hz : xs.length ≤ sizeLine)
    (hs : ∀ i x σ ys H, xs[i]? = some x → Pv i σ ys H → g x σ H fun σ2 H2 => tc σ2 H2 fun b H3 => if b = true then te σ2 H3 fun v H4 => H4 D = some (.lst ys) ∧ Pv (i + 1) σ2 (ys ++ [v]) (upd H4 D (.lst (ys ++ [v]))) else Pv (i + 1) σ2 ys H3)
    (hd : ∀ σ ys H, Pv xs.length σ ys H → Q (.ref D) H) : ∃ W : Nat → Nat → St → List V → Hp → Prop, (∃ m, W 0 m σ0 [] H0) ∧ compW (Itl K a) g tc te D Q W := by
  refine ⟨fun i m σ ys H => m = xs.length - i ∧ i ≤ xs.length ∧ Pv i σ ys H, ⟨xs.length, by simp, Nat.zero_le _, h0⟩, ?_⟩
  rintro i m σ ys H ⟨rfl, hi, p⟩
  have q := hl i σ ys H hi p
  refine ⟨(hD i σ ys H hi p).1, ?_⟩
  by_cases hlt : i < xs.length
  · refine .inr ⟨⟨xs, xs[i], q, by simp [hlt]⟩, Nat.lt_of_le_of_lt (hD i σ ys H hi p).2 (Nat.lt_of_lt_of_le hlt hz), Pv (i + 1), fun σ' ys' H' p' => ⟨xs.length - (i + 1), by omega, rfl, hlt, p'⟩, fun x H' y => ?_⟩
    obtain ⟨e, y⟩ := y
    subst e
    exact hs i x σ ys _ (y xs q) p
  · have e : i = xs.length := by omega
    subst e
    exact .inl ⟨⟨xs, q, Nat.le_refl _⟩, hd σ ys H p⟩
theorem comp_tup {K : PySem.W.Frag} {a : Addr} {xs : List V} (Pv : Nat → St → List V → Hp → Prop) (h0 : Pv 0 σ0 [] H0) (hD : ∀ i σ ys H, i ≤ xs.length → Pv i σ ys H → H D = some (.lst ys) ∧ ys.length ≤ i) (hl : ∀ i σ ys H, i ≤ xs.length → Pv i σ ys H → SqT K H a xs) (hz : xs.length ≤ sizeLine)
    (hs : ∀ i x σ ys H, xs[i]? = some x → Pv i σ ys H → g x σ H fun σ2 H2 => tc σ2 H2 fun b H3 => if b = true then te σ2 H3 fun v H4 => H4 D = some (.lst ys) ∧ Pv (i + 1) σ2 (ys ++ [v]) (upd H4 D (.lst (ys ++ [v]))) else Pv (i + 1) σ2 ys H3)
    (hd : ∀ σ ys H, Pv xs.length σ ys H → Q (.ref D) H) : ∃ W : Nat → Nat → St → List V → Hp → Prop, (∃ m, W 0 m σ0 [] H0) ∧ compW (Itt K a) g tc te D Q W := by
  refine ⟨fun i m σ ys H => m = xs.length - i ∧ i ≤ xs.length ∧ Pv i σ ys H, ⟨xs.length, by simp, Nat.zero_le _, h0⟩, ?_⟩
  rintro i m σ ys H ⟨rfl, hi, p⟩
  have q := hl i σ ys H hi p
  refine ⟨(hD i σ ys H hi p).1, ?_⟩
  by_cases hlt : i < xs.length
  · refine .inr ⟨⟨xs, xs[i], q, by simp [hlt]⟩, Nat.lt_of_le_of_lt (hD i σ ys H hi p).2 (Nat.lt_of_lt_of_le hlt hz), Pv (i + 1), fun σ' ys' H' p' => ⟨xs.length - (i + 1), by omega, rfl, hlt, p'⟩, fun x H' y => ?_⟩
    obtain ⟨e, y⟩ := y
    subst e
    exact hs i x σ ys _ (y xs q) p
  · have e : i = xs.length := by omega
    subst e
    exact .inl ⟨⟨xs, q, Nat.le_refl _⟩, hd σ ys H p⟩
end
section
variable {X : Cx} {N' : List Str} {sc : Scope} {cl : List (Str × Addr)} {C : Addr} {s : Shared} {H : Hp} {fp : List Addr}
theorem relabel_free {env : Env} {x : Str} (e : sc.names.lookup x = some .free) : (relabel sc env).names.lookup x = some .cell ∨ (relabel sc env).names.lookup x = some .free := by
  have gen : ∀ ns : List (Str × NameKind), ns.lookup x = some .free → (ns.map fun (n, k) => if (k == NameKind.free && env.scope.kind == .function && env.kindOf n == some .cell) then (n, NameKind.cell) else (n, k)).lookup x = some .cell ∨
      (ns.map fun (n, k) => if (k == NameKind.free && env.scope.kind == .function && env.kindOf n == some .cell) then (n, NameKind.cell) else (n, k)).lookup x = some .free := by
    intro ns
    induction ns with
    | nil => intro h; cases h
    | cons y r ih =>
      obtain ⟨n, k1⟩ := y
      intro h
      rw [List.map_cons]
      dsimp only
      rw [List.lookup_cons] at h
      by_cases hc : (k1 == NameKind.free && env.scope.kind == .function && env.kindOf n == some .cell) = true
      · rw [if_pos hc, List.lookup_cons]
        cases hx : x == n with
        | true => exact .inl rfl
        | false => rw [hx] at h; exact ih h
      · rw [if_neg hc, List.lookup_cons]
        cases hx : x == n with
        | true =>
          rw [hx] at h
          exact .inr h
        | false => rw [hx] at h; exact ih h
  exact gen sc.names e
theorem relabel_other {env : Env} {x : Str} {k : NameKind} (hk : (k == NameKind.free) = false) (e : sc.names.lookup x = some k) : (relabel sc env).names.lookup x = some k := by
  have gen : ∀ ns : List (Str × NameKind), ns.lookup x = some k → (ns.map fun (n, k) => if (k == NameKind.free && env.scope.kind == .function && env.kindOf n == some .cell) then (n, NameKind.cell) else (n, k)).lookup x = some k := by
    intro ns
    induction ns with
    | nil => intro h; cases h
    | cons y r ih =>
      obtain ⟨n, k1⟩ := y
      intro h
      rw [List.map_cons]
      dsimp only
      rw [List.lookup_cons] at h
      cases hx : x == n with
      | true =>
        rw [hx] at h
        have h' : k1 = k := Option.some.inj h
        subst h'
        rw [if_neg (by rw [hk]; simp), List.lookup_cons, hx]
      | false =>
        rw [hx] at h
        split
        · rw [List.lookup_cons, hx]; exact ih h
        · rw [List.lookup_cons, hx]; exact ih h
  exact gen sc.names e
theorem pvf (i : Nat) {x : Str} {pos : Pos} (hN : N'[i]? = some x := by rfl) (hv : sc.names.lookup x = some .free := by rfl) (hd : (x == ("__debug__" : Str)) = false := by decide) (hcd : (x == ("__classdict__" : Str)) = false := by decide) :
    PE (compCx X N' sc cl C s H fp) (.Name x pos) (tVar i) := pe_var (X := compCx X N' sc cl C s H fp) hN (.inr (relabel_free hv)) hd hcd
theorem pvl (i : Nat) {x : Str} {pos : Pos} (hN : N'[i]? = some x := by rfl) (hv : sc.names.lookup x = some .local := by rfl) (hd : (x == ("__debug__" : Str)) = false := by decide) (hcd : (x == ("__classdict__" : Str)) = false := by decide) :
    PE (compCx X N' sc cl C s H fp) (.Name x pos) (tVar i) := pe_var (X := compCx X N' sc cl C s H fp) hN (.inl (relabel_other rfl hv)) hd hcd
theorem pgl {i : Nat} {x : Str} {pos : Pos} (hn : N'.Nodup := by decide +kernel) (hN : N'[i]? = some x := by rfl) (hv : sc.names.lookup x = some .local := by rfl) :
    PG (compCx X N' sc cl C s H fp) (.Name x pos) (gName i) := pg_name (X := compCx X N' sc cl C s H fp) hn hN (.inl (relabel_other rfl hv)) (.inr (relabel_other rfl hv))
theorem glc {x : Str} (hv : sc.names.lookup x = some .globalImplicit := by rfl) : Gl (compCx X N' sc cl C s H fp) x := relabel_other (env := X.env) rfl hv
end
end L2
namespace L2
open PySem PySem.Spec PyProof.Rows
section
variable {X : Cx}
theorem call_divmodB : CallR X (.builtin "divmod") (fun xs H Q => ∃ i j, xs = [.int i, .int j] ∧ (0 < j ∧ j.natAbs.log2 < 9000) ∧ ∀ p, H p = none → Q (.ref p) (upd H p (.tup [.int (i / j), .int (i % j)]))) := by
  intro pins s σ H xs us Q I r h
  obtain ⟨i, j, rfl, ⟨h1, h2⟩, q⟩ := h
  obtain ⟨u, w', rfl, ⟨t, rfl⟩, ⟨t', rfl⟩⟩ := vals2 r
  refine divmod_int (by omega) ?_ (.inl (PyProof.noPylong_of_log2 h2))
  rw [Int.fdiv_eq_ediv_of_nonneg i (by omega), Int.fmod_eq_emod_of_nonneg i (by omega)]
  have hn : H s.heap.objs.size = none := I.hok.fresh (Nat.le_refl _)
  refine ⟨.ref s.heap.objs.size, _, ?_, rfl, q _ hn⟩
  refine I.laid (fun b o e => Heap.get?_push_of_some _ e) (Nat.le_refl _) ⟨by simp only [List.length_cons, List.length_nil]; rw [sizeLine_eq]; decide, [.int (i / j) s.toks, .int (i % j) (s.toks + 1)], .cons ⟨_, rfl⟩ (.cons ⟨_, rfl⟩ .nil), ?_⟩
  exact ⟨_, Heap.get?_push_size s.heap rfl, rfl, 0, rfl⟩
theorem strsAre_of {ys : List Str} : ∀ {us : List Value}, Vals (ys.map V.str) us → StrsAre us ys := by
  induction ys with
  | nil => intro us r; cases r; exact .nil
  | cons y ys ih =>
    intro us r
    cases r with
    | cons h t =>
      obtain ⟨tk, rfl⟩ := h
      exact .cons _ _ (ih t)
def rJoin (K : PySem.W.Frag) : V → List V → Hp → VK → Prop := fun x vs H Q => ∃ sep p ys, x = .str sep ∧ vs = [.ref p] ∧ SqL K H p (ys.map V.str) ∧ (ys.map (·.length)).sum + ys.length * sep.length ≤ 16777216 ∧ Q (.str (Txt.join sep ys)) H
theorem mt_join : MtR X "str.join" (rJoin X.K) := by
  intro pins s σ H x vs v us Q I rx rv h
  obtain ⟨sep, p, ys, rfl, rfl, hS, hz, q⟩ := h
  obtain ⟨tk, rfl⟩ := rx
  obtain ⟨u, rfl, ru⟩ := vals1 rv
  cases ru
  obtain ⟨its, r, pl, _⟩ := I.list hS
  exact join_list pl.isList (strsAre_of (by simpa using r)) hz fun t' k => ⟨.str (Txt.join sep ys), H, I.tok _, ⟨_, rfl⟩, q⟩
end
def PotAt (H : Hp) (p : Addr) : Prop := ∃ a b : Int, H p = some (.lst [.int a, .int b]) ∧ 0 ≤ a ∧ 0 ≤ b ∧ b ≤ 2147483647
structure Grow (p : Addr) (H H' : Hp) : Prop where
  keep : ∀ b o, b ≠ p → H b = some o → H' b = some o
  pot : PotAt H' p
theorem Grow.refl {p : Addr} {H : Hp} (h : PotAt H p) : Grow p H H := ⟨fun _ _ _ e => e, h⟩
theorem Grow.trans {p : Addr} {H H1 H2 : Hp} (a : Grow p H H1) (b : Grow p H1 H2) : Grow p H H2 := ⟨fun c o n e => b.keep c o n (a.keep c o n e), b.pot⟩
theorem Grow.same {p : Addr} {H H1 : Hp} (h : PotAt H p) (s : Same H H1) : Grow p H H1 := ⟨fun c o _ e => s c o e, let ⟨a, b, e, r⟩ := h; ⟨a, b, s _ _ e, r⟩⟩
theorem same_new {H : Hp} {p : Addr} (h : H p = none) (o : HO) : Same H (upd H p o) := fun b u q => by rw [upd_ne (ne_of_none q h)]; exact q
theorem Grow.new {p q : Addr} {H H1 : Hp} {o : HO} (a : Grow p H H1) (h : H1 q = none) : Grow p H (upd H1 q o) := a.trans (.same a.pot (same_new h o))
def spCell (K : PySem.W.Frag) : Sp := fun vs H Q _ => ∃ (a : Addr) (ns : List Int) (k : Int), vs = [.ref a, .int k] ∧ SqL K H a (ns.map V.int) ∧ 0 ≤ k ∧ ∀ n, Q (.int n) H
def spPot (K : PySem.W.Frag) : Sp := fun vs H Q _ => ∃ (a : Addr) (ns : List Int) (k : Int), vs = [.ref a, .int k] ∧ SqL K H a (ns.map V.int) ∧ 0 ≤ k ∧ k ≤ 1000 ∧ ∀ p H', H p = none → Same H H' → PotAt H' p → Q (.ref p) H'
def spDraw : Sp := fun vs H Q _ => ∃ (p : Addr) (m : Int), vs = [.ref p, .int m] ∧ PotAt H p ∧ 0 < m ∧ m.natAbs.log2 < 9000 ∧ ∀ d H', Grow p H H' → 0 ≤ d → d < m → Q (.int d) H'
def spNumber : Sp := fun vs H Q _ => ∃ (p : Addr), vs = [.ref p] ∧ PotAt H p ∧ ∀ n H', Grow p H H' → -(10 ^ 60) < n → n < 10 ^ 60 → Q (.int n) H'
def isW (x : Str) : Prop := 1 ≤ x.length ∧ x.length ≤ 8 ∧ ∀ c ∈ x.cps.toList, 97 ≤ c ∧ c ≤ 122
def spWord : Sp := fun vs H Q _ => ∃ (p : Addr), vs = [.ref p] ∧ PotAt H p ∧ ∀ x H', Grow p H H' → isW x → Q (.str x) H'
theorem ixN_lt {n : Nat} {i : Int} (h0 : 0 ≤ i) (h1 : i < n) : ixN n i = some i.toNat := by
  unfold ixN; rw [if_pos h0, if_pos h1]
theorem atI_lt {xs : List V} {i : Int} (h0 : 0 ≤ i) (h1 : i < xs.length) : ∃ v, atI xs i = some v ∧ xs[i.toNat]? = some v := by
  have e := ixN_lt h0 h1
  have hj : i.toNat < xs.length := by omega
  refine ⟨xs[i.toNat], ?_, by simp [hj]⟩
  unfold atI; rw [e]
  show xs[i.toNat]? = _
  simp [hj]
theorem atI_mem {xs : List V} {i : Int} (h0 : 0 ≤ i) (h1 : i < xs.length) : ∃ v, atI xs i = some v ∧ v ∈ xs := by
  obtain ⟨v, h, g⟩ := atI_lt h0 h1
  exact ⟨v, h, List.mem_of_getElem? g⟩
theorem atS_mem {z : Str} {i : Int} (h0 : 0 ≤ i) (h1 : i < (z.cps.toList.length : Nat)) : ∃ c, atI z.cps.toList i = some c ∧ c ∈ z.cps.toList := by
  have e := ixN_lt (n := z.cps.toList.length) h0 h1
  have hj : i.toNat < z.cps.toList.length := by omega
  refine ⟨z.cps.toList[i.toNat], ?_, List.getElem_mem hj⟩
  unfold atI; rw [e]
  show z.cps.toList[i.toNat]? = _
  simp only [hj, List.getElem?_eq_getElem]
theorem glue_fold (g : Str) : ∀ (ps : List Str) (acc : Array Nat), (ps.foldl (fun acc p => acc ++ g.cps ++ p.cps) acc).toList = acc.toList ++ (ps.map fun p => g.cps.toList ++ p.cps.toList).flatten
  | [], acc => by simp
  | p :: r, acc => by
    rw [List.foldl_cons, glue_fold g r]
    simp [List.append_assoc]
theorem join_codes (g : Str) (ps : List Str) : (Txt.join g ps).cps.toList = (ps.headD Str.empty).cps.toList ++ ((ps.drop 1).map fun p => g.cps.toList ++ p.cps.toList).flatten := by
  unfold Txt.join Builtin.Str.glued
  exact glue_fold g (ps.drop 1) _
def sgn (c : Nat) : Str := ⟨#[c]⟩
theorem nosep : (("" : Str).cps).toList = [] := by decide +kernel
theorem noStr : (Str.empty.cps).toList = [] := by decide +kernel
theorem join_signs (zs : List Nat) : (Txt.join "" (zs.map sgn)).cps.toList = zs := by
  rw [join_codes, nosep]
  cases zs with
  | nil => exact noStr
  | cons z r =>
    show [z] ++ ((r.map sgn).map fun p => [] ++ p.cps.toList).flatten = z :: r
    have e : ((r.map sgn).map fun p => [] ++ p.cps.toList).flatten = r := by
      induction r with
      | nil => rfl
      | cons y r ih =>
        rw [List.map_cons, List.map_cons, List.flatten_cons, ih]
        rfl
    rw [e]
    rfl
theorem sgn_len (zs : List Nat) : ((zs.map sgn).map (·.length)).sum = zs.length := by
  induction zs with
  | nil => rfl
  | cons z r ih => rw [List.map_cons, List.map_cons, List.sum_cons, ih, List.length_cons]; show 1 + _ = _; omega
theorem isW_of {x : Str} {zs : List Nat} (e : x.cps.toList = zs) (h1 : 1 ≤ zs.length) (h2 : zs.length ≤ 8) (h3 : ∀ c ∈ zs, 97 ≤ c ∧ c ≤ 122) : isW x := by
  have l : x.length = zs.length := by show x.cps.size = _; rw [← e]; simp
  exact ⟨by omega, by omega, by rw [e]; exact h3⟩
theorem Grow.put {p D : Addr} {H H3 H4 : Hp} {o : HO} (g3 : Grow p H H3) (hD : H3 D = none) (n : D ≠ p) (g4 : Grow p H H4) : Grow p H (upd H4 D o) := by
  refine ⟨fun b u nb e => ?_, ?_⟩
  · by_cases hb : b = D
    · subst hb
      exact absurd (g3.keep b u n e) (by rw [hD]; simp)
    · rw [upd_ne hb]
      exact g4.keep b u nb e
  · obtain ⟨x, y, e, r⟩ := g4.pot
    exact ⟨x, y, by rw [upd_ne (Ne.symm n)]; exact e, r⟩
theorem Grow.ne {p D : Addr} {H H3 : Hp} (g3 : Grow p H H3) (hD : H3 D = none) : D ≠ p := fun e => by subst e; obtain ⟨_, _, z, _⟩ := g3.pot; rw [z] at hD; cases hD
section
variable {X : Cx} {x : Str} {pos : Pos} {c : Addr} {n : String} {a b : Expr} {ta tb : TE}
theorem pe_cls (hg : Gl X x) (hm : X.mg x = some (.ref c)) (hd : (x == ("__debug__" : Str)) = false := by decide) : PE X (.Name x pos) (tC (.ref c)) := pe_glob hg hm (show RelV (.ref c) (.ref c) from rfl) hd
theorem pe_bty (hg : Gl X x) (hm : X.mg x = none) (hv : bootBuiltins x = some (.type n)) (hn : x ≠ "__name__" := by decide) (hd : (x == ("__debug__" : Str)) = false := by decide) : PE X (.Name x pos) (tC (.ty n)) := pe_bltn hg hm hv (show RelV (.ty n) (.type n) from rfl) hn hd
theorem pe_ixt (ha : PE X a ta) (hb : PE X b tb) (hs : PlainIx b) : PE X (.Subscript a b pos) (tOp (rIxT X.K) ta tb) := pe_ix ix_tup ha hb hs
end
end L2
namespace My
open PySem L2
def top (i : Nat) : Stmt := PySem.Challenge.pw_rowpipes_k17_whole_kinds.main.body.getD i (.Pass ⟨0, 0, 0, 0⟩)
abbrev sCell : Stmt := top 34
abbrev sPot : Stmt := top 35
abbrev sDraw : Stmt := top 36
abbrev sNumber : Stmt := top 37
abbrev sWord : Stmt := top 38
abbrev nCell : List Str := ["_law_script", "_law_k"]
abbrev nPot : List Str := ["_law_script", "_law_k", "_law_cell_here"]
abbrev nDraw : List Str := ["_law_pot_here", "_law_many", "_law_digit"]
abbrev nNumber : List Str := ["_law_pot_here", "_law_near", "_law_far"]
abbrev nWord : List Str := ["_law_pot_here", "_law_letters", "_law_some"]
theorem scCell : FnScope nCell ["_law_script", "_law_k"] (defScope sCell) := ⟨rfl, rfl, rfl, by decide +kernel, rfl, by decide +kernel, by decide +kernel⟩
theorem scPot : FnScope nPot ["_law_script", "_law_k"] (defScope sPot) := ⟨rfl, rfl, rfl, by decide +kernel, rfl, by decide +kernel, by decide +kernel⟩
theorem scDraw : FnScope nDraw ["_law_pot_here", "_law_many"] (defScope sDraw) := ⟨rfl, rfl, rfl, by decide +kernel, rfl, by decide +kernel, by decide +kernel⟩
theorem scNumber : FnScope nNumber ["_law_pot_here"] (defScope sNumber) := ⟨rfl, rfl, rfl, by decide +kernel, rfl, by decide +kernel, by decide +kernel⟩
theorem scWord : FnScope nWord ["_law_pot_here"] (defScope sWord) := ⟨rfl, rfl, rfl, by decide +kernel, rfl, by decide +kernel, by decide +kernel⟩
structure Blt (mg : Str → Option Value) : Prop where
  len : mg "len" = none
  max : mg "max" = none
  abs : mg "abs" = none
  divmod : mg "divmod" = none
  range : mg "range" = none
  tuple : mg "tuple" = none
  list : mg "list" = none
  isinstance : mg "isinstance" = none
section
variable {P : Program} {w : World} {K : PySem.W.Frag} {mg : Str → Option Value} {base : Heap} {f fCell fDraw : Addr} {fd dCell dDraw : FuncData}
theorem ok_cell (B : Blt mg) (F : Fun K "_law_cell_at" "_law_cell_at" sCell f fd) : FnOk P w K mg base CX0 1 f fd ["_law_script", "_law_k"] (spCell K) := by
  refine F.ok scCell (fun vs H Q E h => ?_) (fun cdv A outer s H vs Q E hr h => ?_)
  · obtain ⟨a, ns, k, rfl, _⟩ := h
    rfl
  obtain ⟨a, ns, k, rfl, hS, h0, q⟩ := h
  refine ⟨_, pss_cons (ps_if (pt_cmpR op_lt (pv 1) (pe_callB call_len_seq rfl B.len PySem.boot_len (pa_cons (pv 0) pa_nil)) (nomark _)) (pss_one (ps_ret (pe_ix ix_list (pv 0) (pv 1) (fun _ _ => rfl)))) pss_nil)
    (pss_one (ps_ret pe_int)), ?_⟩
  refine ⟨_, rfl, _, rfl, a, _, rfl, .inl hS, _, _, rfl, rfl, _, rfl, ?_⟩
  refine ite2 (fun c => ?_) (fun c => ?_)
  · have c' : k < (((ns.map V.int).length : Nat) : Int) := of_decide_eq_true c
    obtain ⟨v, hv, hg⟩ := atI_lt h0 c'
    rw [List.getElem?_map] at hg
    cases e : ns[k.toNat]? with
    | none => rw [e] at hg; cases hg
    | some n =>
      rw [e] at hg
      have hg' : V.int n = v := Option.some.inj hg
      subst hg'
      exact ⟨_, rfl, _, rfl, a, _, _, _, rfl, rfl, hS, hv, q n⟩
  · exact q 0
theorem ok_pot (B : Blt mg) (F : Fun K "_law_pot" "_law_pot" sPot f fd) (G : FnOk P w K mg base CX0 1 fCell dCell ["_law_script", "_law_k"] (spCell K)) (bG : Binds K dCell ["_law_script", "_law_k"] []) (kG : PySem.W.keepIn K (.ref fCell) = true) (mG : mg "_law_cell_at" = some (.ref fCell)) :
    FnOk P w K mg base CX0 2 f fd ["_law_script", "_law_k"] (spPot K) := by
  refine F.ok scPot (fun vs H Q E h => ?_) (fun cdv A outer s H vs Q E hr h => ?_)
  · obtain ⟨a, ns, k, rfl, _⟩ := h
    rfl
  obtain ⟨a, ns, k, rfl, hS, h0, h1, q⟩ := h
  refine ⟨_, pss_cons (ps_set (i := 2) scPot.nd rfl (Or.inl rfl) (pe_call G hr rfl mG kG bG .nil pass0 (pa_cons (pv 0) (pa_cons (pv 1) pa_nil))))
    (pss_one (ps_ret (pe_lst (pa_cons (pe_callB (call_max2 rfl) rfl B.max PyProof.Rows.boot_max (pa_cons pe_int (pa_cons (pe_op op_sub (pv 2) (pe_op op_pow pe_int pe_int)) pa_nil)))
      (pa_cons (pe_op op_add (pe_op op_mod (pe_op op_add (pe_op op_add (pe_callB call_abs rfl B.abs PyProof.Rows.boot_abs (pa_cons (pv 2) pa_nil)) (pe_op op_mul pe_int (pv 1))) pe_int) pe_int) pe_int) pa_nil))))), ?_⟩
  refine ⟨_, rfl, _, rfl, a, ns, k, rfl, hS, h0, fun n => ?_⟩
  refine ⟨_, rfl, _, _, rfl, rfl, ⟨by decide, by decide, by decide⟩, _, _, rfl, rfl, _, _, rfl, ?_⟩
  refine ⟨_, rfl, _, rfl, _, rfl, _, _, rfl, rfl, .inl ⟨by decide, by decide⟩, _, _, rfl, rfl, _, _, rfl, rfl, _, _, rfl, rfl, (by show (0 : Int) < 2147483629; decide), _, _, rfl, rfl, (by show 2 ≤ sizeLine; decide), fun p hp => ?_⟩
  refine q p _ hp (same_new hp _) ⟨_, _, upd_same, ?_, ?_, ?_⟩
  · split <;> omega
  · have := Int.emod_nonneg ((if n < 0 then -n else n) + 7919 * k + 3) (show (2147483629 : Int) ≠ 0 by decide)
    omega
  · have := Int.emod_lt_of_pos ((if n < 0 then -n else n) + 7919 * k + 3) (show (0 : Int) < 2147483629 by decide)
    omega
theorem ok_draw (B : Blt mg) (F : Fun K "_law_draw" "_law_draw" sDraw f fd) : FnOk P w K mg base CX0 1 f fd ["_law_pot_here", "_law_many"] spDraw := by
  refine F.ok scDraw (fun vs H Q E h => ?_) (fun cdv A outer s H vs Q E hr h => ?_)
  · obtain ⟨p, m, rfl, _⟩ := h
    rfl
  obtain ⟨p, m, rfl, ⟨a, b, hp, ha, hb, hb'⟩, hm, hm', q⟩ := h
  refine ⟨_, pss_cons (ps_if (pt_cmpR op_gt (pe_ix ix_list (pv 0) pe_int (fun _ _ => rfl)) pe_int (nomark _))
      (pss_cons (ps_asg (pe_callB call_divmodB rfl B.divmod PyProof.Rows.boot_divmod (pa_cons (pe_ix ix_list (pv 0) pe_int (fun _ _ => rfl)) (pa_cons (pv 1) pa_nil)))
        (pg_tup rfl (pgs_cons (pg_sub (pv 0) pe_int set_list) (pgs_cons (pg_name (i := 2) scDraw.nd rfl (Or.inl rfl)) pgs_nil))))
      (pss_one (ps_ret (pv 2)))) pss_nil)
    (pss_cons (ps_asg (pe_op op_mod (pe_op op_add (pe_op op_mul (pe_ix ix_list (pv 0) pe_int (fun _ _ => rfl)) pe_int) pe_int) pe_int) (pg_sub (pv 0) pe_int set_list))
    (pss_one (ps_ret (pe_op op_mod (pe_op op_fdiv (pe_op op_mod (pe_op op_mul (pe_ix ix_list (pv 0) pe_int (fun _ _ => rfl)) (pe_ix ix_list (pv 0) pe_int (fun _ _ => rfl))) pe_int) pe_int) (pv 1))))), ?_⟩
  refine ⟨_, rfl, p, _, _, _, rfl, rfl, SqL.of hp, rfl, _, _, rfl, rfl, _, rfl, ?_⟩
  refine ite2 (fun c => ?_) (fun c => ?_)
  · refine ⟨_, rfl, p, _, _, _, rfl, rfl, SqL.of hp, rfl, _, rfl, _, _, rfl, ⟨hm, hm'⟩, fun t ht => ?_⟩
    have np : p ≠ t := ne_of_none hp ht
    refine ⟨t, _, rfl, SqT.of upd_same, rfl, _, _, rfl, _, rfl, p, _, _, 0, rfl, rfl, (by rw [upd_ne np]; exact hp), rfl, _, _, rfl, rfl, ?_⟩
    refine ⟨_, rfl, q _ _ ⟨fun c o nc e => ?_, _, _, upd_same, Int.ediv_nonneg ha (by omega), hb, hb'⟩ (Int.emod_nonneg _ (by omega)) (Int.emod_lt_of_pos _ hm)⟩
    rw [upd_ne nc, upd_ne (ne_of_none e ht)]
    exact e
  · have h1 := Int.emod_nonneg (b * 48271 + 11) (show (2147483647 : Int) ≠ 0 by decide)
    have h2 := Int.emod_lt_of_pos (b * 48271 + 11) (show (0 : Int) < 2147483647 by decide)
    refine ⟨_, rfl, p, _, _, _, rfl, rfl, SqL.of hp, rfl, _, _, rfl, rfl, .inr ⟨by decide, by decide⟩, _, _, rfl, rfl, _, _, rfl, rfl, (by show (0 : Int) < 2147483647; decide), _, rfl, p, _, _, 1, rfl, rfl, hp, rfl, ?_⟩
    refine ⟨_, rfl, p, _, _, _, rfl, rfl, SqL.of upd_same, rfl, _, rfl, p, _, _, _, rfl, rfl, SqL.of upd_same, rfl, _, _, rfl, rfl, .inl ⟨?_, ?_⟩, _, _, rfl, rfl, (by show (0 : Int) < 2147483629; decide), _, _, rfl, rfl, ⟨by decide, by decide⟩, _, rfl, _, _, rfl, rfl, hm, ?_⟩
    · have e : ((2 : Int) ^ 64) = 18446744073709551616 := by decide
      rw [e]; omega
    · have e : ((2 : Int) ^ 64) = 18446744073709551616 := by decide
      rw [e]; omega
    · exact q _ _ ⟨fun c o nc e => by rw [upd_ne nc]; exact e, _, _, upd_same, ha, h1, by omega⟩ (Int.emod_nonneg _ (by omega)) (Int.emod_lt_of_pos _ hm)
end
end My
set_option maxHeartbeats 4000000
namespace My
open PySem L2
section
variable {P : Program} {w : World} {K : PySem.W.Frag} {mg : Str → Option Value} {base : Heap} {f fDraw : Addr} {fd dDraw : FuncData}
theorem ok_number (F : Fun K "_law_number" "_law_number" sNumber f fd) (G : FnOk P w K mg base CX0 1 fDraw dDraw ["_law_pot_here", "_law_many"] spDraw) (bG : Binds K dDraw ["_law_pot_here", "_law_many"] []) (kG : PySem.W.keepIn K (.ref fDraw) = true) (mG : mg "_law_draw" = some (.ref fDraw)) :
    FnOk P w K mg base CX0 2 f fd ["_law_pot_here"] spNumber := by
  refine F.ok scNumber (fun vs H Q E h => ?_) (fun cdv A outer s H vs Q E hr h => ?_)
  · obtain ⟨p, rfl, _⟩ := h
    rfl
  obtain ⟨p, rfl, hP, q⟩ := h
  refine ⟨_, pss_cons (ps_set (i := 1) scNumber.nd rfl (Or.inl rfl) (pe_op op_sub (pe_call G hr rfl mG kG bG .nil pass0 (pa_cons (pv 0) (pa_cons pe_int pa_nil))) pe_int))
    (pss_cons (ps_if (pt_cmpR op_gt (pe_call G hr rfl mG kG bG .nil pass0 (pa_cons (pv 0) (pa_cons pe_int pa_nil))) pe_int (nomark _)) (pss_one (ps_ret (pv 1))) pss_nil)
    (pss_cons (ps_set (i := 2) scNumber.nd rfl (Or.inl rfl) (pe_lst (pa_cons (pe_op op_add (pe_op op_sub (pe_call G hr rfl mG kG bG .nil pass0 (pa_cons (pv 0) (pa_cons (pe_op op_sub (pe_op op_mul pe_int (pe_op op_pow pe_int pe_int)) pe_int) pa_nil))) (pe_op op_pow pe_int pe_int)) pe_int)
      (pa_cons (pe_op op_sub (pe_op op_pow pe_int pe_int) pe_int) (pa_cons (pe_op op_sub pe_int (pe_op op_pow pe_int pe_int)) pa_nil)))))
    (pss_one (ps_ret (pe_ix ix_list (pv 2) (pe_op op_add (pe_op op_fdiv (pe_call G hr rfl mG kG bG .nil pass0 (pa_cons (pv 0) (pa_cons pe_int pa_nil))) pe_int) (pe_op op_mod (pv 1) pe_int)) (fun _ _ => rfl)))))), ?_⟩
  refine ⟨_, rfl, p, _, rfl, hP, by decide, by decide, fun d1 H1 g1 a1 b1 => ⟨_, _, rfl, rfl, ?_⟩⟩
  refine ⟨_, rfl, p, _, rfl, g1.pot, by decide, by decide, fun d2 H2 g2 a2 b2 => ⟨_, _, rfl, rfl, _, rfl, ?_⟩⟩
  have e60 : ((10 : Int) ^ (60 : Nat)) = 1000000000000000000000000000000000000000000000000000000000000 := by decide
  refine ite2 (fun c => ?_) (fun c => ?_)
  · exact ⟨_, rfl, q _ _ (g1.trans g2) (by rw [e60]; omega) (by rw [e60]; omega)⟩
  · refine ⟨_, rfl, _, _, rfl, rfl, ⟨by decide, by decide, by decide⟩, _, _, rfl, rfl, .inl ⟨by decide, by decide⟩, _, _, rfl, rfl, p, _, rfl, g2.pot, by decide +kernel, by decide +kernel, fun d3 H3 g3 a3 b3 => ?_⟩
    have b3' : d3 < 1999999999999999999999999999999999999999999999999999999999999 := b3
    refine ⟨_, _, rfl, rfl, ⟨by decide, by decide, by decide⟩, _, _, rfl, rfl, _, _, rfl, rfl, _, _, rfl, rfl, ⟨by decide, by decide, by decide⟩, _, _, rfl, rfl, _, _, rfl, rfl, ⟨by decide, by decide, by decide⟩, _, _, rfl, rfl, (by show 3 ≤ sizeLine; decide), fun l hl => ?_⟩
    have g3' := (g1.trans g2).trans g3
    have n1 : l ≠ p := fun e => by subst e; obtain ⟨_, _, z, _⟩ := g3'.pot; rw [z] at hl; cases hl
    refine ⟨_, rfl, _, rfl, p, _, rfl, (g3'.new hl).pot, by decide, by decide, fun d4 H4 g4 a4 b4 => ?_⟩
    have hl4 := g4.keep l _ n1 upd_same
    refine ⟨_, _, rfl, rfl, ⟨by decide, by decide⟩, _, rfl, _, _, rfl, rfl, (by show (0 : Int) < 2; decide), _, _, rfl, rfl, ?_⟩
    have i0 : 0 ≤ d4 / 2 + (d1 - 15) % 2 := by omega
    have i1 : d4 / 2 + (d1 - 15) % 2 < (3 : Nat) := by omega
    obtain ⟨v, hv, hm⟩ := atI_mem (xs := [V.int (d3 - 10 ^ (60 : Int).toNat + 1), V.int (10 ^ (60 : Int).toNat - 1), V.int (1 - 10 ^ (60 : Int).toNat)]) i0 i1
    have good : ∃ n : Int, v = .int n ∧ -(10 ^ 60) < n ∧ n < 10 ^ 60 := by
      have e60' : ((10 : Int) ^ ((60 : Int).toNat)) = 1000000000000000000000000000000000000000000000000000000000000 := by decide
      simp only [List.mem_cons, List.not_mem_nil, or_false] at hm
      rcases hm with rfl | rfl | rfl
      · exact ⟨_, rfl, by rw [e60, e60']; omega, by rw [e60, e60']; omega⟩
      · exact ⟨_, rfl, by rw [e60, e60']; omega, by rw [e60, e60']; omega⟩
      · exact ⟨_, rfl, by rw [e60, e60']; omega, by rw [e60, e60']; omega⟩
    obtain ⟨n, rfl, q1, q2⟩ := good
    exact ⟨l, _, _, _, rfl, rfl, SqL.of hl4, hv, q n _ ((g3'.new hl).trans g4) q1 q2⟩
def letters : Str := "abcdefghijklmnopqrstuvwxyz"
theorem letters_ok : ∀ c ∈ letters.cps.toList, 97 ≤ c ∧ c ≤ 122 := by decide +kernel
theorem letters_len : letters.cps.toList.length = 26 := by decide +kernel
theorem ok_word (B : Blt mg) (F : Fun K "_law_word" "_law_word" sWord f fd) (G : FnOk P w K mg base CX0 1 fDraw dDraw ["_law_pot_here", "_law_many"] spDraw) (bG : Binds K dDraw ["_law_pot_here", "_law_many"] []) (kG : PySem.W.keepIn K (.ref fDraw) = true) (mG : mg "_law_draw" = some (.ref fDraw)) :
    FnOk P w K mg base CX0 2 f fd ["_law_pot_here"] spWord := by
  refine F.ok scWord (fun vs H Q E h => ?_) (fun cdv A outer s H vs Q E hr h => ?_)
  · obtain ⟨p, rfl, _⟩ := h
    rfl
  obtain ⟨p, rfl, hP, q⟩ := h
  refine ⟨_, pss_cons (ps_set (i := 1) scWord.nd rfl (Or.inr rfl) pe_str)
    (pss_cons (ps_set (i := 2) scWord.nd rfl (Or.inr rfl) (pe_ix ix_list (pe_lst (pa_cons pe_int (pa_cons pe_int pa_nil))) (pe_call G hr rfl mG kG bG .nil pass0 (pa_cons (pv 0) (pa_cons pe_int pa_nil))) (fun _ _ => rfl)))
    (pss_one (ps_ret (pe_bm PySem.F.plainAttrs_str PySem.F.slot_str_join PySem.F.type_str_join mt_join pe_str
      (pa_cons (pe_lcomp (N' := ["_law_k", "_law_pot_here", "_law_letters", "_law_some"]) (src := [none, some 0, some 1, some 2]) rfl (CompSc.ofB (by kernel_rfl))
        (pi_range1 rfl B.range (pa_cons (pe_op op_add pe_int (pe_op op_mul (pe_call G hr rfl mG kG bG .nil pass0 (pa_cons (pv 0) (pa_cons pe_int pa_nil))) (pe_call G hr rfl mG kG bG .nil pass0 (pa_cons (pv 0) (pa_cons pe_int pa_nil))))) pa_nil))
        (fun cl C s H fp => pgl (i := 0))
        (fun cl C s H fp => pifs_nil)
        (fun cl C s H fp => pe_ix ix_str (pvf 2) (pe_call G hr glc mG kG bG .nil pass0 (pa_cons (pvf 1) (pa_cons (pvf 3) pa_nil))) (fun _ _ => rfl))) pa_nil))))), ?_⟩
  refine ⟨(by show 2 ≤ sizeLine; decide), fun l hl => ?_⟩
  have n1 : l ≠ p := fun e => by subst e; obtain ⟨_, _, z, _⟩ := hP; rw [z] at hl; cases hl
  refine ⟨_, rfl, p, _, rfl, ((Grow.refl hP).new hl).pot, by decide, by decide, fun d1 H1 g1 a1 b1 => ?_⟩
  have g1' := ((Grow.refl hP).new hl).trans g1
  obtain ⟨v, hv, hm⟩ := atI_mem (xs := [V.int 3, V.int 26]) a1 b1
  have good : ∃ n : Int, v = .int n ∧ 0 < n ∧ n ≤ 26 := by
    simp only [List.mem_cons, List.not_mem_nil, or_false] at hm
    rcases hm with rfl | rfl
    · exact ⟨3, rfl, by decide, by decide⟩
    · exact ⟨26, rfl, by decide, by decide⟩
  obtain ⟨n, rfl, n0, n26⟩ := good
  refine ⟨l, _, _, _, rfl, rfl, SqL.of (g1.keep l _ n1 upd_same), hv, rfl, ?_⟩
  refine ⟨_, rfl, p, _, rfl, g1'.pot, by decide, by decide, fun d2 H2 g2 a2 b2 => ?_⟩
  refine ⟨_, rfl, p, _, rfl, g2.pot, by decide, by decide, fun d3 H3 g3 a3 b3 => ?_⟩
  have g3' := (g1'.trans g2).trans g3
  have d23 : 0 ≤ d2 * d3 ∧ d2 * d3 ≤ 7 := by
    have e : d2 = 0 ∨ d2 = 1 := by omega
    rcases e with rfl | rfl <;> omega
  refine ⟨_, _, rfl, rfl, .inl ⟨?_, ?_⟩, _, _, rfl, rfl, _, rfl, ?_, ?_, fun D hD => ?_⟩
  · have e : ((2 : Int) ^ 64) = 18446744073709551616 := by decide
    rw [e]; omega
  · have e : ((2 : Int) ^ 64) = 18446744073709551616 := by decide
    rw [e]; omega
  · have e : ((2 : Int) ^ 62) = 4611686018427387904 := by decide
    rw [e]; omega
  · have e : ((2 : Int) ^ 62) = 4611686018427387904 := by decide
    rw [e]; omega
  have n2 : D ≠ p := fun e => by subst e; obtain ⟨_, _, z, _⟩ := g3'.pot; rw [z] at hD; cases hD
  have log : n.natAbs.log2 < 9000 := Nat.lt_of_le_of_lt (Nat.log2_le_self _) (by omega)
  refine comp_range (fun i σ ys H' => ∃ (o : Option V) (zs : List Nat), σ = [o, some (.ref p), some (.str letters), some (.int n)] ∧ ys = zs.map (fun c => V.str (sgn c)) ∧ zs.length = i ∧ (∀ c ∈ zs, 97 ≤ c ∧ c ≤ 122) ∧ H' D = some (.lst ys) ∧ Grow p H H')
    ⟨none, [], rfl, rfl, rfl, (fun _ z => nomatch z), upd_same, g3'.new hD⟩ ?_ ?_ ?_ ?_
  · rintro i σ ys H' _ ⟨o, zs, _, rfl, rfl, _, h, _⟩
    exact ⟨h, by rw [List.length_map]; exact Nat.le_refl _⟩
  · exact Nat.le_trans (show (1 + d2 * d3).toNat ≤ 8 by omega) (by decide)
  · rintro i σ ys H' hi ⟨o, zs, rfl, rfl, rfl, hz, hD', g'⟩
    refine ⟨_, rfl, _, rfl, _, rfl, p, n, rfl, g'.pot, n0, log, fun d H4 g4 a4 b4 => ?_⟩
    obtain ⟨c, hc, cm⟩ := atS_mem (z := letters) a4 (by rw [letters_len]; omega)
    refine ⟨letters, _, c, rfl, rfl, ?_, hc, g4.keep D _ n2 hD', some (.int (0 + (zs.length : Nat))), zs ++ [c], rfl, ?_, ?_, ?_, upd_same, ?_⟩
    · exact Nat.le_trans (show letters.length ≤ 26 by decide +kernel) (by decide)
    · rw [List.map_append]; rfl
    · rw [List.length_append]; rfl
    · intro y hy
      rcases List.mem_append.mp hy with z | z
      · exact hz y z
      · have : y = c := by simpa using z
        subst this
        exact letters_ok y cm
    · exact g3'.put hD n2 (g'.trans g4)
  · rintro σ ys H' ⟨o, zs, _, rfl, hl', hz, hD', g'⟩
    refine ⟨"", D, zs.map sgn, rfl, rfl, ?_, ?_, ?_⟩
    · rw [List.map_map]; exact SqL.of hD'
    · rw [sgn_len, List.length_map]
      have : zs.length ≤ 8 := by omega
      have e : ("" : Str).length = 0 := by decide +kernel
      rw [e]; omega
    · exact q _ _ g' (isW_of (join_signs zs) (by omega) (by omega) hz)
end
end My
set_option maxHeartbeats 4000000
namespace L2
open PySem PySem.Spec PyProof.Rows
inductive EqT (K : PySem.W.Frag) (H : Hp) : Nat → V → V → Prop where
  | flat {n : Nat} {v : V} (f : flatV v = true) : EqT K H n v v
  | same {n : Nat} {a : Addr} : EqT K H n (.ref a) (.ref a)
  | lst {n : Nat} {a b : Addr} {xs ys : List V} (ha : SqL K H a xs) (hb : SqL K H b ys) (hl : xs.length = ys.length) (h : ∀ (i : Nat) x y, xs[i]? = some x → ys[i]? = some y → EqT K H n x y) : EqT K H (n + 1) (.ref a) (.ref b)
  | tup {n : Nat} {a b : Addr} {xs ys : List V} (ha : SqT K H a xs) (hb : SqT K H b ys) (hl : xs.length = ys.length) (h : ∀ (i : Nat) x y, xs[i]? = some x → ys[i]? = some y → EqT K H n x y) : EqT K H (n + 1) (.ref a) (.ref b)
theorem eqV_self {v : V} (f : flatV v = true) : eqV v v = true := by
  cases v <;> first | rfl | (exact absurd (show false = true from f) Bool.false_ne_true) | (simp [eqV])
theorem all_true (n : Nat) : (List.range n).all (fun _ => true) = true := by simp
section
variable {X : Cx} {pins : List (Addr × Obj)} {σ : St} {H : Hp} {s : Shared}
theorem vals_at {xs : List V} {its : List Value} (r : Vals xs its) {j : Nat} (h : j < its.toArray.size) : ∃ x, xs[j]? = some x ∧ RelV x its.toArray[j] := by
  have hj : j < its.length := by simpa using h
  have hx : j < xs.length := by rw [r.length]; exact hj
  refine ⟨xs[j], by simp [hx], ?_⟩
  obtain ⟨u, e, ru⟩ := r.get (i := j) (x := xs[j]) (by simp [hx])
  have e' : its[j] = u := by rw [List.getElem?_eq_getElem hj] at e; exact Option.some.inj e
  show RelV xs[j] its[j]
  rw [e']; exact ru
theorem EqT.at (I : Inv X pins σ H s) {n : Nat} {x y : V} (h : EqT X.K H n x y) : ∀ {u v : Value} {A : Around}, A.units + n < cLine → RelV x u → RelV y v → SeqAt.EqAt A s u v true := by
  induction h with
  | @flat n v f =>
    intro u v' A hu ru rv
    have z := eqAt_V (A := A) (s := s) ru rv f f
    rw [eqV_self f] at z
    exact z
  | same =>
    intro u v' A hu ru rv
    cases ru; cases rv
    exact .same _
  | @lst n a b xs ys ha hb hl h ih =>
    intro u v' A hu ru rv
    cases ru; cases rv
    by_cases hab : a = b
    · subst hab; exact .same _
    · obtain ⟨its, r1, p1, _⟩ := I.list ha
      obtain ⟨its', r2, p2, _⟩ := I.list hb
      refine .of_refs hab ?_
      have z := SeqAt.RcAt.lists (A := A) (e := fun _ => true) p1.isList p2.isList (by simp [← r1.length, ← r2.length, hl]) (by omega) fun j h1 h2 => ?_
      · rw [all_true] at z; exact z
      · obtain ⟨x, e1, rx⟩ := vals_at r1 h1
        obtain ⟨y, e2, ry⟩ := vals_at r2 h2
        exact ih j x y e1 e2 (by show A.units + 1 + n < cLine; omega) rx ry
  | @tup n a b xs ys ha hb hl h ih =>
    intro u v' A hu ru rv
    cases ru; cases rv
    by_cases hab : a = b
    · subst hab; exact .same _
    · obtain ⟨its, r1, p1, _⟩ := I.tuple ha
      obtain ⟨its', r2, p2, _⟩ := I.tuple hb
      refine .of_refs hab ?_
      have z := SeqAt.RcAt.tuples (A := A) (e := fun _ => true) p1 p2 (by omega) fun j h1 h2 => ?_
      · have e : (its.toArray.size == its'.toArray.size) = true := by simp [← r1.length, ← r2.length, hl]
        rw [all_true, e] at z; exact z
      · obtain ⟨x, e1, rx⟩ := vals_at r1 h1
        obtain ⟨y, e2, ry⟩ := vals_at r2 h2
        exact ih j x y e1 e2 (by show A.units + 1 + n < cLine; omega) rx ry
def rEqT (K : PySem.W.Frag) (A : Around) (k : Bool) : R2 := fun x y H Q => ∃ n, A.units + n < cLine ∧ ((∃ a b xs ys, x = .ref a ∧ y = .ref b ∧ SqL K H a xs ∧ SqL K H b ys ∧ xs.length = ys.length ∧ ∀ (i : Nat) x y, xs[i]? = some x → ys[i]? = some y → EqT K H n x y) ∨
  (∃ a b xs ys, x = .ref a ∧ y = .ref b ∧ SqT K H a xs ∧ SqT K H b ys ∧ xs.length = ys.length ∧ ∀ (i : Nat) x y, xs[i]? = some x → ys[i]? = some y → EqT K H n x y)) ∧ Q (.bl k) H
theorem op_neT : OpR X (compareOp .NotEq) (rEqT X.K X.A.in1 false) := by
  intro pins s σ H x y v u Q I rx ry h
  obtain ⟨n, hu, h | h, q⟩ := h
  · obtain ⟨a, b, xs, ys, rfl, rfl, ha, hb, hl, he⟩ := h
    cases rx; cases ry
    obtain ⟨its, r1, p1, _⟩ := I.list ha
    obtain ⟨its', r2, p2, _⟩ := I.list hb
    refine SeqAt.RcNeAt.lists (e := fun _ => true) p1.isList p2.isList (by simp [← r1.length, ← r2.length, hl]) (by have : X.A.units + 1 + n < cLine := hu; omega) (fun j h1 h2 => ?_) _ _ _ _ ?_
    · obtain ⟨x, e1, rx⟩ := vals_at r1 h1
      obtain ⟨y, e2, ry⟩ := vals_at r2 h2
      exact (he j x y e1 e2).at I hu rx ry
    · rw [all_true]; exact ⟨.bl false, H, I, rfl, q⟩
  · obtain ⟨a, b, xs, ys, rfl, rfl, ha, hb, hl, he⟩ := h
    cases rx; cases ry
    obtain ⟨its, r1, p1, _⟩ := I.tuple ha
    obtain ⟨its', r2, p2, _⟩ := I.tuple hb
    refine SeqAt.RcNeAt.tuples (e := fun _ => true) p1 p2 (by have : X.A.units + 1 + n < cLine := hu; omega) (fun j h1 h2 => ?_) _ _ _ _ ?_
    · obtain ⟨x, e1, rx⟩ := vals_at r1 h1
      obtain ⟨y, e2, ry⟩ := vals_at r2 h2
      exact (he j x y e1 e2).at I hu rx ry
    · have e : (its.toArray.size == its'.toArray.size) = true := by simp [← r1.length, ← r2.length, hl]
      rw [all_true, e]; exact ⟨.bl false, H, I, rfl, q⟩
end
end L2
set_option maxHeartbeats 4000000
namespace TX
open PySem PySem.Builtin PySem.Builtin.Str PySem.StrLaws
theorem piece_free (x y : Str) (h a b : Nat) (hb : b ≤ x.length) (hx : ∀ k, x.cps.toList[k]? = some h → At x y x.length k) (no : ∀ k, a ≤ k → k < b → ¬ At x y x.length k) : h ∉ (strSub x a b).cps.toList := by
  intro m
  rw [strSub_toList] at m
  obtain ⟨j, e⟩ := List.getElem?_of_mem m
  have lt : j < b - a := by
    have z := (List.getElem?_eq_some_iff.mp e).1
    simp at z
    omega
  rw [List.getElem?_take_of_lt lt, List.getElem?_drop] at e
  exact no (a + j) (Nat.le_add_right _ _) (by omega) (hx _ e)
theorem pieces_free (x y : Str) (h : Nat) (hx : ∀ k, x.cps.toList[k]? = some h → At x y x.length k) : ∀ (cuts : List Nat) (a f : Nat), ChainG x y x.length a cuts f → (∀ k, f ≤ k → ¬ At x y x.length k) → ∀ p ∈ partsFrom x y.length a cuts, h ∉ p.cps.toList
  | [], a, f, ch, no, p, hp => by
    have e : f = a := ch
    subst e
    rw [List.mem_singleton.mp hp]
    exact piece_free x y h f x.length (Nat.le_refl _) hx fun k h1 _ => no k h1
  | d :: r, a, f, ch, no, p, hp => by
    rcases List.mem_cons.mp hp with rfl | hp
    · exact piece_free x y h a d (by have := ch.2.1.1; omega) hx ch.2.2.1
    · exact pieces_free x y h hx r _ f ch.2.2.2 no p hp
theorem kind_pos (x : Str) : 1 ≤ Builtin.Str.strKind x := by
  unfold Builtin.Str.strKind
  split
  · exact Nat.le_refl _
  · split <;> decide
theorem split_freeG (x y : Str) (h : Nat) (hw : 1 ≤ y.length) (hk : Builtin.Str.strKind y = 1) (hx : ∀ k, x.cps.toList[k]? = some h → At x y x.length k) : ∀ p ∈ Txt.split x y, h ∉ p.cps.toList := by
  obtain ⟨f, ch, no⟩ := occ_tight x y hw
  unfold Txt.split
  split
  · rename_i hc
    intro p hp
    rw [List.mem_singleton.mp hp]
    intro hm
    obtain ⟨j, hj⟩ := List.getElem?_of_mem hm
    have A := (hx j hj).1
    rw [Bool.or_eq_true, decide_eq_true_eq, decide_eq_true_eq, hk] at hc
    have := kind_pos x
    omega
  · split
    · rename_i he
      intro p hp
      rw [List.mem_singleton.mp hp]
      rw [List.isEmpty_iff.mp he] at ch
      have ef : f = 0 := ch
      subst ef
      rw [← sub_whole x]
      exact piece_free x y h 0 x.length (Nat.le_refl _) hx fun k h1 _ => no k h1
    · rw [partsBetween_eq]
      exact pieces_free x y h hx _ 0 f ch no
def glue (y : List Nat) : List (List Nat) → List Nat
  | [] => []
  | [p] => p
  | p :: q :: r => p ++ y ++ glue y (q :: r)
theorem glue_str (y : Str) : ∀ ps : List Str, (Str.join y ps).cps.toList = glue y.cps.toList (ps.map fun p => p.cps.toList)
  | [] => rfl
  | [p] => rfl
  | p :: q :: r => by
    have ih := glue_str y (q :: r)
    show ((p.cps ++ y.cps) ++ (Str.join y (q :: r)).cps).toList = p.cps.toList ++ y.cps.toList ++ glue y.cps.toList ((q :: r).map fun p => p.cps.toList)
    rw [← ih]
    simp
theorem cut_free {h : Nat} : ∀ {p1 p2 r1 r2 : List Nat}, h ∉ p1 → h ∉ p2 → p1 ++ h :: r1 = p2 ++ h :: r2 → p1 = p2 ∧ r1 = r2
  | [], [], _, _, _, _, e => ⟨rfl, (List.cons.inj e).2⟩
  | [], b :: p2, _, _, _, n2, e => absurd (by rw [(List.cons.inj e).1]; exact List.mem_cons_self) n2
  | a :: p1, [], _, _, n1, _, e => absurd (by rw [← (List.cons.inj e).1]; exact List.mem_cons_self) n1
  | a :: p1, b :: p2, r1, r2, n1, n2, e => by
    obtain ⟨e1, e2⟩ := List.cons.inj e
    obtain ⟨h1, h2⟩ := cut_free (fun z => n1 (List.mem_cons_of_mem _ z)) (fun z => n2 (List.mem_cons_of_mem _ z)) e2
    exact ⟨by rw [e1, h1], h2⟩
theorem glue_inj {h : Nat} {t : List Nat} : ∀ {L1 L2 : List (List Nat)}, L1 ≠ [] → L2 ≠ [] → (∀ p ∈ L1, h ∉ p) → (∀ p ∈ L2, h ∉ p) → glue (h :: t) L1 = glue (h :: t) L2 → L1 = L2
  | [], _, n, _, _, _, _ => absurd rfl n
  | _, [], _, n, _, _, _ => absurd rfl n
  | [p], [q], _, _, _, _, e => by
    have e' : p = q := e
    rw [e']
  | [p], q :: q2 :: r, _, _, f1, _, e => by
    have e' : p = q ++ (h :: t) ++ glue (h :: t) (q2 :: r) := e
    exact absurd (by rw [e']; simp) (f1 p List.mem_cons_self)
  | p :: p2 :: r, [q], _, _, _, f2, e => by
    have e' : p ++ (h :: t) ++ glue (h :: t) (p2 :: r) = q := e
    exact absurd (by rw [← e']; simp) (f2 q List.mem_cons_self)
  | p :: p2 :: r, q :: q2 :: r', _, _, f1, f2, e => by
    have e' : p ++ (h :: t) ++ glue (h :: t) (p2 :: r) = q ++ (h :: t) ++ glue (h :: t) (q2 :: r') := e
    rw [List.append_assoc, List.append_assoc, List.cons_append, List.cons_append] at e'
    obtain ⟨e1, e2⟩ := cut_free (f1 p List.mem_cons_self) (f2 q List.mem_cons_self) e'
    have e3 := List.append_cancel_left e2
    rw [e1, glue_inj (by simp) (by simp) (fun z hz => f1 z (List.mem_cons_of_mem _ hz)) (fun z hz => f2 z (List.mem_cons_of_mem _ hz)) e3]
theorem str_ext {x y : Str} (e : x.cps.toList = y.cps.toList) : x = y := by
  obtain ⟨⟨a⟩⟩ := x
  obtain ⟨⟨b⟩⟩ := y
  have : a = b := e
  rw [this]
theorem map_codes_inj : ∀ {a b : List Str}, (a.map fun p => p.cps.toList) = (b.map fun p => p.cps.toList) → a = b
  | [], [], _ => rfl
  | [], _ :: _, e => by cases e
  | _ :: _, [], e => by cases e
  | x :: a, y :: b, e => by
    obtain ⟨e1, e2⟩ := List.cons.inj e
    rw [str_ext e1, map_codes_inj e2]
theorem join_eq (sep : Str) (l : List Str) : Txt.join sep l = Str.join sep l := eq_of_beq (PyProof.Rows.join_plain_closes sep l)
theorem split_join {y : Str} {h : Nat} {t : List Nat} (ey : y.cps.toList = h :: t) (hk : Builtin.Str.strKind y = 1) {ps : List Str} (ne : ps ≠ []) (fr : ∀ p ∈ ps, h ∉ p.cps.toList)
    (hx : ∀ k, (Txt.join y ps).cps.toList[k]? = some h → At (Txt.join y ps) y (Txt.join y ps).length k) : Txt.split (Txt.join y ps) y = ps := by
  have hw : 1 ≤ y.length := by
    have : y.length = y.cps.toList.length := by simp [Str.length]
    rw [this, ey]; simp
  have fr2 := split_freeG (Txt.join y ps) y h hw hk hx
  have e := PySem.StrLaws.join_split (Txt.join y ps) y
  have e2 : (Str.join y (Txt.split (Txt.join y ps) y)).cps.toList = (Str.join y ps).cps.toList := by rw [e, join_eq]
  rw [glue_str, glue_str, ey] at e2
  have p1 := PyProof.Rows.split_pos (Txt.join y ps) y
  refine map_codes_inj (glue_inj (h := h) (t := t) ?_ ?_ ?_ ?_ e2)
  · intro z
    rw [List.map_eq_nil_iff] at z
    rw [z] at p1
    exact absurd p1 (by decide)
  · intro z
    exact ne (List.map_eq_nil_iff.mp z)
  · intro p hp
    obtain ⟨q, hq, rfl⟩ := List.mem_map.mp hp
    exact fr2 q hq
  · intro p hp
    obtain ⟨q, hq, rfl⟩ := List.mem_map.mp hp
    exact fr q hq
def blank : Str := " "
end TX
set_option maxHeartbeats 4000000
namespace L2
open PySem PySem.Spec PyProof.Rows
open Builtin Builtin.Str in
theorem split_exact {prog : Program} {w : World} {A : Around} {E : Value → Shared → Prop} {s : Shared} {x y : Str} {t u : Tok} {Q : Value → Shared → Prop} (hy : (y.length == 0) = false) (hsz : x.length ≤ sizeLine) (hz2 : (Txt.split x y).length ≤ sizeLine)
    (hq : ∀ l k, l.map (·.1) = Txt.split x y → Q (.ref s.heap.objs.size) { s with toks := k, heap := s.heap.push { cls := .type "list", data := .seq (strValues l).toArray } }) :
    wpAny (model prog w) A (call (.builtin "str.split") [.str x t, .str y u]) Q E s := by
  cases h1 : (decide (x.length < y.length) || decide (Builtin.Str.strKind x < Builtin.Str.strKind y))
  · cases hf : (occurrences x y 0 x.length (x.length + 1)).isEmpty
    · have es : Txt.split x y = partsBetween x (occurrences x y 0 x.length (x.length + 1)) y.length := (if_neg (ne_true_of_eq_false h1)).trans (if_neg (ne_true_of_eq_false hf))
      refine call_meets F.slot_str_split (typeIs_str _ _ _) F.entry_str_split (F.args_str_split_2 _ _) (meets_str_split_sep x y t u h1 hy hf hsz (by rw [← es]; exact hz2)) ?_
      show wants Q E _ { s with toks := _, heap := s.heap.push { cls := .type "list", data := .seq (strsFrom s.toks (partsBetween x (occurrences x y 0 x.length (x.length + 1)) y.length)).toArray } }
      rw [strsFrom_eq]
      exact hq (numbered s.toks _) _ ((numbered_texts _ _).trans es.symm)
    · exact call_meets F.slot_str_split (typeIs_str _ _ _) F.entry_str_split (F.args_str_split_2 _ _) (meets_str_split_not_found x y t u h1 hy hf) (hq [(x, t)] s.toks ((if_neg (ne_true_of_eq_false h1)).trans (if_pos hf)).symm)
  · exact call_meets F.slot_str_split (typeIs_str _ _ _) F.entry_str_split (F.args_str_split_2 _ _) (meets_str_split_cannot_occur x y t u h1) (hq [(x, t)] s.toks (if_pos h1).symm)
theorem vals_strs : ∀ (l : List (Str × Tok)), Vals ((l.map (·.1)).map V.str) (strValues l)
  | [] => .nil
  | p :: l => .cons ⟨p.2, rfl⟩ (vals_strs l)
section
variable {X : Cx}
def rSplit : V → List V → Hp → VK → Prop := fun v vs H Q => ∃ x y, v = .str x ∧ vs = [.str y] ∧ (y.length == 0) = false ∧ x.length ≤ 1000000 ∧ ∀ p, H p = none → Q (.ref p) (upd H p (.lst ((Txt.split x y).map V.str)))
theorem mt_split : MtR X "str.split" rSplit := by
  intro pins s σ H v vs u us Q I rx rv h
  obtain ⟨x, y, rfl, rfl, hy, hx, q⟩ := h
  obtain ⟨tk, rfl⟩ := rx
  obtain ⟨u, rfl, tk', rfl⟩ := vals1 rv
  have hl := split_le x y
  refine split_exact hy (by rw [sizeLine_eq]; omega) (by rw [sizeLine_eq]; omega) fun l k e => ?_
  have hn : H s.heap.objs.size = none := I.hok.fresh (Nat.le_refl _)
  refine ⟨.ref s.heap.objs.size, _, ?_, rfl, q _ hn⟩
  refine I.laid (fun b o e => Heap.get?_push_of_some _ e) (Nat.le_refl _) ⟨by rw [List.length_map, sizeLine_eq]; omega, strValues l, 0, ?_, Heap.get?_push_size _ rfl⟩
  rw [← e]
  exact vals_strs l
def rStarts : V → List V → Hp → VK → Prop := fun v vs H Q => ∃ x y, v = .str x ∧ vs = [.str y] ∧ Q (.bl (Txt.startswith x y)) H
theorem mt_starts : MtR X "str.startswith" rStarts := by
  intro pins s σ H v vs u us Q I rx rv h
  obtain ⟨x, y, rfl, rfl, q⟩ := h
  obtain ⟨tk, rfl⟩ := rx
  obtain ⟨u, rfl, tk', rfl⟩ := vals1 rv
  exact SC.startswith ⟨.bl _, H, I, rfl, q⟩
def rRemP : V → List V → Hp → VK → Prop := fun v vs H Q => ∃ x y, v = .str x ∧ vs = [.str y] ∧ x.length ≤ sizeLine ∧ Q (.str (Txt.removeprefix x y)) H
theorem mt_remp : MtR X "str.removeprefix" rRemP := by
  intro pins s σ H v vs u us Q I rx rv h
  obtain ⟨x, y, rfl, rfl, hx, q⟩ := h
  obtain ⟨tk, rfl⟩ := rx
  obtain ⟨u, rfl, tk', rfl⟩ := vals1 rv
  exact SC.removeprefix (fun t' k => ⟨.str (Txt.removeprefix x y), H, I.tok _, ⟨_, rfl⟩, q⟩) hx
theorem call_int_txt : CallR X (.type "int") (fun xs H Q => ∃ x n, xs = [.str x] ∧ PySem.intText? x = some n ∧ x.length ≤ 640 ∧ Q (.int n) H) := by
  intro pins s σ H xs us Q I r h
  obtain ⟨x, n, rfl, hn, hl, q⟩ := h
  obtain ⟨u, rfl, t, rfl⟩ := vals1 r
  exact PySem.W.KIN.call_text hn hl ⟨.int n, H, I.tok _, ⟨_, rfl⟩, q⟩
theorem bools_at {bs : List Bool} {its : List Value} (r : Vals (bs.map V.bl) its) {i : Nat} {v : Value} (h : its.toArray[i]? = some v) : ∃ b, bs[i]? = some b ∧ v = .bool b := by
  have h' : its[i]? = some v := by simpa using h
  have hi := (List.getElem?_eq_some_iff.mp h').1
  have hb : i < bs.length := by
    have := r.length
    rw [List.length_map] at this
    omega
  obtain ⟨u, e, ru⟩ := r.get (i := i) (x := .bl bs[i]) (by rw [List.getElem?_map, List.getElem?_eq_getElem hb]; rfl)
  rw [h'] at e
  cases e
  exact ⟨bs[i], List.getElem?_eq_getElem hb, ru⟩
theorem range_all (bs : List Bool) : (List.range bs.length).all (fun i => bs.getD i true) = bs.all id := by
  induction bs with
  | nil => rfl
  | cons b r ih =>
    rw [List.length_cons, List.range_succ_eq_map, List.all_cons, List.all_map, List.all_cons]
    show (b && _) = (b && _)
    rw [← ih]
    rfl
theorem range_any (bs : List Bool) : (List.range bs.length).any (fun i => bs.getD i true) = bs.any id := by
  induction bs with
  | nil => rfl
  | cons b r ih =>
    rw [List.length_cons, List.range_succ_eq_map, List.any_cons, List.any_map, List.any_cons]
    show (b || _) = (b || _)
    rw [← ih]
    rfl
theorem call_allL (hc : X.calm = true) : CallR X (.builtin "all") (fun xs H Q => ∃ (p : Addr) (bs : List Bool), xs = [.ref p] ∧ SqL X.K H p (bs.map V.bl) ∧ Q (.bl (bs.all id)) H) := by
  intro pins s σ H xs us Q I r h
  obtain ⟨p, bs, rfl, hS, q⟩ := h
  obtain ⟨u, rfl, ru⟩ := vals1 r
  cases ru
  obtain ⟨its, rv, pl, hz⟩ := I.list hS
  have hp : p < s.heap.objs.size := by obtain ⟨o, e, _⟩ := pl.isList; exact Heap.lt_size e
  have hl : its.toArray.size = bs.length := by have := rv.length; rw [List.length_map] at this; simp [this]
  refine call_all_walk (wpAny_pyIter_list pl.isList ?_)
  refine ⟨s.heap.objs.size, _, _, _, _, _, fun i => bs.getD i true, rfl, Walks.list (A := X.A.in1) (I.ok.hd hc) _ p (Nat.ne_of_lt hp) its.toArray, ⟨⟨_, Heap.get?_push_size _ rfl, rfl, rfl⟩, ?_⟩, ?_, fun h' tk hk => ?_⟩
  · obtain ⟨o, e, z⟩ := pl.isList
    exact ⟨o, Heap.get?_push_of_some _ e, z⟩
  · intro i v s' Q' E' hv hq
    obtain ⟨b, e, rfl⟩ := bools_at rv hv
    refine wpAny_truthy_bool ?_
    have : bs.getD i true = b := by rw [List.getD_eq_getElem?_getD, e]; rfl
    rw [← this]
    exact hq
  · rw [hl, range_all]
    have I1 : Inv X pins σ H { s with heap := s.heap.push { cls := .type "list_iterator", data := .fields #[.ref p, .int 0 0] } } := I.kept (t' := s.toks) fun b o e => Heap.get?_push_of_some _ e
    have f := I.fpOk (b := s.heap.objs.size) (H' := H) (Nat.le_refl _) (I.hok.fresh (Nat.le_refl _))
    exact ⟨.bl _, H, I1.turned (fun b o hb e => hk b o (by simpa using hb) e) f.1 f.2.1 f.2.2.2.1 f.2.2.2.2.1 f.2.2.2.2.2, rfl, q⟩
theorem call_anyL (hc : X.calm = true) : CallR X (.builtin "any") (fun xs H Q => ∃ (p : Addr) (bs : List Bool), xs = [.ref p] ∧ SqL X.K H p (bs.map V.bl) ∧ Q (.bl (bs.any id)) H) := by
  intro pins s σ H xs us Q I r h
  obtain ⟨p, bs, rfl, hS, q⟩ := h
  obtain ⟨u, rfl, ru⟩ := vals1 r
  cases ru
  obtain ⟨its, rv, pl, hz⟩ := I.list hS
  have hp : p < s.heap.objs.size := by obtain ⟨o, e, _⟩ := pl.isList; exact Heap.lt_size e
  have hl : its.toArray.size = bs.length := by have := rv.length; rw [List.length_map] at this; simp [this]
  refine call_any_walk (wpAny_pyIter_list pl.isList ?_)
  refine ⟨s.heap.objs.size, _, _, _, _, _, fun i => bs.getD i true, rfl, Walks.list (A := X.A.in1) (I.ok.hd hc) _ p (Nat.ne_of_lt hp) its.toArray, ⟨⟨_, Heap.get?_push_size _ rfl, rfl, rfl⟩, ?_⟩, ?_, fun h' tk hk => ?_⟩
  · obtain ⟨o, e, z⟩ := pl.isList
    exact ⟨o, Heap.get?_push_of_some _ e, z⟩
  · intro i v s' Q' E' hv hq
    obtain ⟨b, e, rfl⟩ := bools_at rv hv
    refine wpAny_truthy_bool ?_
    have : bs.getD i true = b := by rw [List.getD_eq_getElem?_getD, e]; rfl
    rw [← this]
    exact hq
  · rw [hl, range_any]
    have I1 : Inv X pins σ H { s with heap := s.heap.push { cls := .type "list_iterator", data := .fields #[.ref p, .int 0 0] } } := I.kept (t' := s.toks) fun b o e => Heap.get?_push_of_some _ e
    have f := I.fpOk (b := s.heap.objs.size) (H' := H) (Nat.le_refl _) (I.hok.fresh (Nat.le_refl _))
    exact ⟨.bl _, H, I1.turned (fun b o hb e => hk b o (by simpa using hb) e) f.1 f.2.1 f.2.2.2.1 f.2.2.2.2.1 f.2.2.2.2.2, rfl, q⟩
end
def Its (x : Str) : It := ⟨fun i _ => i < x.cps.size, fun i H v H' => H' = H ∧ ∃ c, x.cps[i]? = some c ∧ v = .str (sgn c), fun i _ => x.cps.size ≤ i⟩
theorem turn_strA {P : Program} {w : World} {K : PySem.W.Frag} {tg : Expr} (it : Addr) (x : Str) (t : Tok) : Turn P w K tg (Its x) [it] it (fun i h => h.IsStrIter it "str_ascii_iterator" x t i) where
  mem := by simp
  obj := fun i h st b hb => by
    have e : b = it := by simpa using hb
    subst e
    obtain ⟨o, e, c, d⟩ := st
    exact ⟨o, e, fun v z => by rw [d] at z; cases z⟩
  keep := fun i h h' st k => by
    obtain ⟨o, e, r⟩ := st
    exact ⟨o, k it (by simp) o e, r⟩
  item := by
    intro X hP hw hK hc i pins s σ H E I hf st hg
    subst hP hw hK
    have hg' : i < x.cps.size := hg
    obtain ⟨f0, f1, f2, f3, f4, f5⟩ := hf it (by simp)
    have hx : x.cps[i]? = some x.cps[i] := by simp [hg']
    refine wpAny_pyNext_ascii_item st hx fun h' st' sb => ?_
    have I1 : Inv X pins σ H { s with heap := h', toks := s.toks + 1 } := I.turned (fun b o hb e => (sb.2 b hb).trans e) f0 f1 f3 f4 f5
    obtain ⟨o, e, c, d⟩ := id st'
    exact ⟨_, rfl, go_of (s := { s with heap := h', toks := s.toks + 1 }) e c d (by decide) ⟨.str (sgn x.cps[i]), H, I1, ⟨_, rfl⟩, ⟨rfl, _, hx, rfl⟩, st', fun b hb => (hf b hb).1⟩⟩
  done := by
    intro X hP hw hK hc i pins s σ H E I hf st hg
    subst hP hw hK
    have hg' : x.cps.size ≤ i := hg
    obtain ⟨f0, f1, f2, f3, f4, f5⟩ := hf it (by simp)
    exact wpAny_pyNext_ascii_end (I.ok.hd hc) st (by simp [hg']) fun h' eb => ⟨rfl, I.turned (t' := s.toks) (fun b o hb e => eb b o hb e) f0 f1 f3 f4 f5⟩
  self := fun _ _ _ _ _ st h => wpAny_pyIter_striter_ascii st h
theorem turn_strW {P : Program} {w : World} {K : PySem.W.Frag} {tg : Expr} (it : Addr) (x : Str) (t : Tok) : Turn P w K tg (Its x) [it] it (fun i h => h.IsStrIter it "str_iterator" x t i) where
  mem := by simp
  obj := fun i h st b hb => by
    have e : b = it := by simpa using hb
    subst e
    obtain ⟨o, e, c, d⟩ := st
    exact ⟨o, e, fun v z => by rw [d] at z; cases z⟩
  keep := fun i h h' st k => by
    obtain ⟨o, e, r⟩ := st
    exact ⟨o, k it (by simp) o e, r⟩
  item := by
    intro X hP hw hK hc i pins s σ H E I hf st hg
    subst hP hw hK
    have hg' : i < x.cps.size := hg
    obtain ⟨f0, f1, f2, f3, f4, f5⟩ := hf it (by simp)
    have hx : x.cps[i]? = some x.cps[i] := by simp [hg']
    refine wpAny_pyNext_wide_item st hx fun h' st' sb => ?_
    have I1 : Inv X pins σ H { s with heap := h', toks := s.toks + 1 } := I.turned (fun b o hb e => (sb.2 b hb).trans e) f0 f1 f3 f4 f5
    obtain ⟨o, e, c, d⟩ := id st'
    exact ⟨_, rfl, go_of (s := { s with heap := h', toks := s.toks + 1 }) e c d (by decide) ⟨.str (sgn x.cps[i]), H, I1, ⟨_, rfl⟩, ⟨rfl, _, hx, rfl⟩, st', fun b hb => (hf b hb).1⟩⟩
  done := by
    intro X hP hw hK hc i pins s σ H E I hf st hg
    subst hP hw hK
    have hg' : x.cps.size ≤ i := hg
    obtain ⟨f0, f1, f2, f3, f4, f5⟩ := hf it (by simp)
    exact wpAny_pyNext_wide_end (I.ok.hd hc) st (by simp [hg']) fun h' eb => ⟨rfl, I.turned (t' := s.toks) (fun b o hb e => eb b o hb e) f0 f1 f3 f4 f5⟩
  self := fun _ _ _ _ _ st h => wpAny_pyIter_striter_wide st h
section
variable {X : Cx} {tg : Expr}
def iStr (tl : TE) : TI := fun σ H R => tl σ H fun v H1 => ∃ x, v = .str x ∧ R (Its x) H1
theorem pi_str {l : Expr} {tl : TE} (hl : PE X l tl) : PI X tg l (iStr tl) := by
  intro pins s σ H R I h
  refine thn (hl pins s σ H _ I h) fun v s1 ⟨y, H1, I1, r1, x, e, q⟩ => ?_
  subst e
  obtain ⟨tk, rfl⟩ := r1
  cases ha : x.cps.all (· < 128)
  · refine wpAny_pyIter_wide ha ⟨s1.heap.objs.size, [s1.heap.objs.size], _, _, H1, rfl, I1.kept (t' := s1.toks) fun b o e => Heap.get?_push_of_some _ e, turn_strW _ x tk, ⟨_, Heap.get?_push_size _ rfl, rfl, rfl⟩, fun b hb => ?_, q⟩
    have e : b = s1.heap.objs.size := by simpa using hb
    subst e
    exact I1.fpOk (Nat.le_refl _) (I1.hok.fresh (Nat.le_refl _))
  · refine wpAny_pyIter_ascii ha ⟨s1.heap.objs.size, [s1.heap.objs.size], _, _, H1, rfl, I1.kept (t' := s1.toks) fun b o e => Heap.get?_push_of_some _ e, turn_strA _ x tk, ⟨_, Heap.get?_push_size _ rfl, rfl, rfl⟩, fun b hb => ?_, q⟩
    have e : b = s1.heap.objs.size := by simpa using hb
    subst e
    exact I1.fpOk (Nat.le_refl _) (I1.hok.fresh (Nat.le_refl _))
end
section
variable {g : TG} {tc : TT} {te : TE} {D : Addr} {Q : VK} {σ0 : St} {H0 : Hp}
theorem comp_str {x : Str} (Pv : Nat → St → List V → Hp → Prop) (h0 : Pv 0 σ0 [] H0) (hD : ∀ i σ ys H, i ≤ x.cps.size → Pv i σ ys H → H D = some (.lst ys) ∧ ys.length ≤ i) (hz : x.cps.size ≤ sizeLine)
    (hs : ∀ i c σ ys H, x.cps[i]? = some c → Pv i σ ys H → g (.str (sgn c)) σ H fun σ2 H2 => tc σ2 H2 fun b H3 => if b = true then te σ2 H3 fun v H4 => H4 D = some (.lst ys) ∧ Pv (i + 1) σ2 (ys ++ [v]) (upd H4 D (.lst (ys ++ [v]))) else Pv (i + 1) σ2 ys H3)
    (hd : ∀ σ ys H, Pv x.cps.size σ ys H → Q (.ref D) H) : ∃ W : Nat → Nat → St → List V → Hp → Prop, (∃ m, W 0 m σ0 [] H0) ∧ compW (Its x) g tc te D Q W := by
  refine ⟨fun i m σ ys H => m = x.cps.size - i ∧ i ≤ x.cps.size ∧ Pv i σ ys H, ⟨x.cps.size, by simp, Nat.zero_le _, h0⟩, ?_⟩
  rintro i m σ ys H ⟨rfl, hi, p⟩
  refine ⟨(hD i σ ys H hi p).1, ?_⟩
  by_cases hlt : i < x.cps.size
  · refine .inr ⟨hlt, Nat.lt_of_le_of_lt (hD i σ ys H hi p).2 (Nat.lt_of_lt_of_le hlt hz), Pv (i + 1), fun σ' ys' H' p' => ⟨x.cps.size - (i + 1), by omega, rfl, hlt, p'⟩, fun v H' y => ?_⟩
    obtain ⟨e, c, hc, rfl⟩ := y
    subst e
    exact hs i c σ ys _ hc p
  · have e : i = x.cps.size := by omega
    subst e
    exact .inl ⟨Nat.le_refl _, hd σ ys H p⟩
end
end L2
set_option maxHeartbeats 4000000
namespace CT
open PySem L2
inductive Cell where
  | num (n : Int) | wrd (x : Str)
def okC : Cell → Prop
  | .num n => -(10 ^ 60) < n ∧ n < 10 ^ 60
  | .wrd x => isW x
def txC : Cell → Str
  | .num n => (toString n : String)
  | .wrd x => x
def figs (m : Nat) : List Nat := (Nat.toDigits 10 m).map Char.toNat
theorem figs_val (m : Nat) : PySem.NumText.digitsVal (figs m) = m := PySem.W.KIN.val_back m
theorem figs_dig (m : Nat) : PySem.NumText.AllDigits (figs m) := by
  intro c hc
  obtain ⟨ch, hch, e⟩ := List.mem_map.mp hc
  have r := PyProof.Rows.digit_range (Nat.isDigit_of_mem_toDigits (by decide) (by decide) hch)
  rw [← e]
  exact r
theorem figs_ne (m : Nat) : figs m ≠ [] := by
  intro e
  have h := List.map_eq_nil_iff.mp e
  exact absurd h (by have := Nat.length_toDigits_pos (b := 10) (n := m); intro z; rw [z] at this; exact absurd this (by decide))
theorem codes_pos (m : Nat) : (txC (.num (m : Nat))).cps.toList = figs m := PySem.W.KIN.signs_num m
theorem codes_neg (m : Nat) : (txC (.num (Int.negSucc m))).cps.toList = 45 :: figs (m + 1) := by
  show (Str.ofString (toString (Int.negSucc m))).cps.toList = _
  rw [PyProof.Rows.signs_ofString]
  show ("-" ++ Nat.repr (m + 1)).toList.map Char.toNat = _
  rw [String.toList_append, List.map_append]
  show [45] ++ (Nat.repr (m + 1)).toList.map Char.toNat = _
  rw [Nat.toList_repr]
  rfl
theorem figs_head {m : Nat} (h : m ≠ 0) : ∃ c r, figs m = c :: r ∧ c ≠ 48 := by
  cases e : figs m with
  | nil => exact absurd e (figs_ne m)
  | cons c r =>
    refine ⟨c, r, rfl, fun z => ?_⟩
    subst z
    have d := figs_dig m
    rw [e] at d
    have t := PySem.NumText.toDigits_all (48 :: r) d
    rw [← e, figs_val] at t
    have l1 : (figs m).length = (Nat.toDigits 10 m).length := List.length_map _
    rw [e] at l1
    have l2 : (r.dropWhile (· == 48)).length ≤ r.length := by
      have := List.dropWhile_sublist (l := r) (fun x => x == 48)
      exact this.length_le
    have e3 : (48 :: r).dropWhile (· == 48) = r.dropWhile (· == 48) := rfl
    rw [e, e3] at t
    cases q : r.dropWhile (· == 48) with
    | nil =>
      rw [q] at t
      have t' : Nat.toDigits 10 m = ['0'] := t
      have v := figs_val m
      unfold figs at v
      rw [t'] at v
      exact h (by rw [← v]; decide)
    | cons a b =>
      rw [q] at t l2
      have t' : Nat.toDigits 10 m = (a :: b).map Char.ofNat := t
      rw [t'] at l1
      rw [List.length_map] at l1
      simp at l1 l2
      omega
theorem txC_len {c : Cell} (h : okC c) : (txC c).length ≤ 100 := by
  cases c with
  | wrd x => exact Nat.le_trans h.2.1 (by decide)
  | num n =>
    have hn : n.natAbs < 10 ^ 60 := by
      have h1 : -(10 ^ 60) < n := h.1
      have h2 : n < 10 ^ 60 := h.2
      have e : ((10 : Int) ^ 60) = (((10 : Nat) ^ 60 : Nat) : Int) := by decide
      omega
    have l := PySem.int_text_length_le10 (a := n) (k := 60) (by decide) hn
    show (Str.ofString (toString n)).length ≤ 100
    have e : (Str.ofString (toString n)).length = (toString n).length := by
      show (Str.ofString (toString n)).cps.size = _
      rw [← Array.length_toList, PyProof.Rows.signs_ofString, List.length_map, String.length_toList]
    rw [e]
    omega
theorem txC_reads {n : Int} (h : okC (.num n)) : PySem.intText? (txC (.num n)) = some n := by
  have hl := txC_len h
  cases n with
  | ofNat m =>
    have e := codes_pos m
    have z := PySem.intText_digits (x := txC (.num (m : Nat))) (by rw [e]; exact figs_dig m) (by rw [e]; exact figs_ne m) (Nat.le_trans hl (by decide))
    rw [e, figs_val] at z
    exact z
  | negSucc m =>
    have e := codes_neg m
    have z := PySem.intText_neg (x := txC (.num (Int.negSucc m))) e (figs_dig _) (figs_ne _) (Nat.le_trans hl (by decide))
    rw [figs_val] at z
    exact z
end CT
set_option maxHeartbeats 4000000
namespace PySem
open Sem (wp)
section
variable {prog : Program} {w : World} {A : Around} {E : Value → Shared → Prop} {h : Heap} {g : Array GenState} {d : Drawn} {t : Nat} {os : OsState}
variable {nm q : Str} {C N : Addr} {bs bm bmB : List Value} {hdct : Bool} {sn : List Str} {sub : List Value} {ab : Bool} {col : Option Bool} {dd : Option Addr} {k0 k1 k2 k3 k5 : Option Value} {B newId initId : String}
end
end PySem
namespace L2
open PySem PySem.Spec PyProof.Rows
abbrev bmVE : List Value := [.type "ValueError", .type "Exception", .type "BaseException", .type "object"]
abbrev xO (a C : Addr) (od : Option Addr) : HO := .ext fun h => ∃ fl sl, h.get? a = some { cls := .ref C, dict := od, data := .fields fl, slots := sl }
abbrev xD (d : Addr) (fs : List (Str × V)) : HO := .ext fun h => ∃ mA, h.Ns1 d mA ∧ ∀ f, RelO (fs.lookup f) (mA f)
section
variable {P : Program} {w : World} {H : Hp} {h h' : Heap} {a C d : Addr} {od : Option Addr} {fs : List (Str × V)} {o : HO}
theorem xO_ok {fl : Array Value} {sl : Array (Option Value)} (e : h.get? a = some { cls := .ref C, dict := od, data := .fields fl, slots := sl }) : ObjOk P w H h a (xO a C od) :=
  ⟨⟨fl, sl, e⟩, ⟨_, e⟩, fun _ _ ⟨fl, sl, e⟩ k => ⟨fl, sl, k _ e⟩⟩
theorem ObjOk.there (x : ObjOk P w H h a o) : ∃ u, h.get? a = some u := by
  cases o with
  | lst xs => obtain ⟨_, _, _, _, e⟩ := x; exact ⟨_, e⟩
  | tup xs => obtain ⟨_, _, _, p⟩ := x; obtain ⟨o, e, _⟩ := p; exact ⟨_, e⟩
  | dK kvs => obtain ⟨_, _, _, _, o, _, _, e, _⟩ := x; exact ⟨_, e⟩
  | dT kvs => obtain ⟨_, _, _, _, o, _, _, e, _⟩ := x; exact ⟨_, e⟩
  | set S n => obtain ⟨o, _, _, _, e, _⟩ := x; exact ⟨_, e⟩
  | ins C dx fs => obtain ⟨_, _, _, e, _⟩ := x; exact ⟨_, e⟩
  | own y => obtain ⟨_, e⟩ := x; exact ⟨_, e⟩
  | xd fs => obtain ⟨_, ⟨_, _, _, e, _⟩, _⟩ := x; exact ⟨_, e⟩
  | rng lo hi => obtain ⟨_, _, _, e⟩ := x; exact ⟨_, e⟩
  | frz ob u => obtain ⟨e, _⟩ := x; exact ⟨_, e⟩
  | tbl ps => exact ⟨_, (show h.get? a = some _ from x)⟩
  | met f y => exact ⟨_, (show h.get? a = some _ from x)⟩
  | ext φ => obtain ⟨_, ⟨_, e⟩, _⟩ := x; exact ⟨_, e⟩
theorem HOk.none_of (x : HOk P w H h) (e : h.get? a = none) : H a = none := by
  cases q : H a with
  | none => rfl
  | some u =>
    obtain ⟨v, z⟩ := (x a u q).there
    rw [e] at z; cases z
theorem HOk.laidN (x : HOk P w H h) (k : ∀ b u, h.get? b = some u → h'.get? b = some u) (hp : h.get? a = none) (new : ObjOk P w (upd H a o) h' a o) : HOk P w (upd H a o) h' := fun b u e => by
  have hn := x.none_of hp
  by_cases hb : b = a
  · subst hb; rw [upd_same] at e; cases e; exact new
  · rw [upd_ne hb] at e
    exact (x b u e).stay (fun c v _ q => k c v q) (fun c q => by rw [upd_ne (ne_of_none q hn)]; exact q) fun c xs q => by rw [upd_ne (ne_of_none q hn)]; exact q
theorem Un.laidN {fs ex : List Addr} (k : ∀ b u, h.get? b = some u → h'.get? b = some u) (hp : h.get? a = none) (hn : H a = none) : Un fs ex H (upd H a o) h h' where
  keep := fun b u q _ _ _ => k b u q
  slot := fun b u q _ _ _ => ⟨u.slots, k b u q⟩
  free := fun b u q n _ => by rw [upd_ne (fun e => by rw [e, hp] at q; cases q)]; exact n
  there := fun b u q _ => ⟨u, k b u q⟩
  tups := fun b xs q => by rw [upd_ne (ne_of_none q hn)]; exact q
  frzs := fun b u xs q => by rw [upd_ne (ne_of_none q hn)]; exact q
  tbls := fun b ps q => ⟨#[], by rw [upd_ne (ne_of_none q hn), q]; simp⟩
end
structure XCls (K : PySem.W.Frag) (C : Addr) : Prop where
  cls : ∃ cd PE, PySem.W.clsIn K C = some cd ∧ cd.mro = .ref C :: .ref PE :: bmVE ∧ cd.hasDict = true
  mo : PySem.W.mroIn K C (.type "object") = some true
  sa : PySem.W.findIn K (.ref C) "__setattr__" = some (some (.builtin "object.__setattr__"))
  ga : PySem.W.findIn K (.ref C) "__getattribute__" = some (some (.builtin "BaseException.__getattribute__"))
  gh : PySem.W.findIn K (.ref C) "__getattr__" = some none
  mb : PySem.W.mroIn K C (.type "BaseException") = some true
  ca : PySem.W.findIn K (.ref C) "__class__" = some (some (.builtin "object.__class__"))
  cg : PySem.W.specialIn K (.builtin "object.__class__") "__get__" = some (some (.builtin "getset_descriptor.__get__"))
  ct : PySem.W.takesIn K (.builtin "object.__class__") = some true
theorem XCls.hd {K : PySem.W.Frag} {C : Addr} (c : XCls K C) : PySem.W.hasDictIn K C = true := by
  obtain ⟨cd, PE, e, _, h⟩ := c.cls
  unfold PySem.W.hasDictIn
  rw [e]
  exact h
section
variable {prog : Program} {w : World} {A : Around} {E : Value → Shared → Prop} {R : Result → Shared → Prop} {s : Shared} {K : PySem.W.Frag} {x C : Addr} {ox : Obj} {od : Option Obj} {name : Str} {tk : Tok} {v : Value}
theorem bga_entry {Q : Fin → Shared → Prop} {r : Builtin.ObjectAttr.Found} (X : K.In s.heap) (I : PySem.W.InstAt s.heap x ox C od) (hf : PySem.W.findObj K C od name = some r)
    (h : wpAny (model prog w) A (match r with | .value v => ret v | .bind g a => Builtin.ObjectAttr.bindTo g a (.ref x) (.ref C) | .missing => Builtin.ObjectAttr.noSuchAttribute (.ref x) name) Q E s) :
    wpAny (model prog w) A (Builtin.«object.__getattribute__» ⟨[.ref x, .str name tk], []⟩) Q E s := by
  obtain ⟨hh', g, d, t, os⟩ := s
  have L0 := I.type (M := model prog w)
  have L1 := PySem.W.looks_find (M := model prog w) X I hf
  unfold Builtin.«object.__getattribute__»
  refine wpAny_bind (wpAny_pure ?_)
  refine wpAny_bind (wpAny_pure (wpAny_bind (L0.at (wpAny_bind (L1.at ?_)))))
  cases r with
  | value v => exact h
  | bind g a => exact h
  | missing => exact h
theorem xgetBy {fill expr : Bool} {Q : Value → Shared → Prop} {r : Builtin.ObjectAttr.Found} (c : XCls K C) (X : K.In s.heap) (I : PySem.W.InstAt s.heap x ox C od) (hf : PySem.W.findObj K C od name = some r)
    (h : codeAny (model prog w) A (.call (.builtin "BaseException.__getattribute__") ⟨[.ref x, .str name tk], []⟩) (fun r s' => match r with | .ok (.ret v) => wpAny (model prog w) A (handedOut v) Q E s' | _ => False) s) :
    wpAny (model prog w) A (getAttrBy (.ref x) (.str name tk) fill expr) Q E s := by
  obtain ⟨hh', g, d, t, os⟩ := s
  have L0 := I.type (M := model prog w)
  have L1 := PySem.W.looks_findIn (M := model prog w) X c.ga
  have LH := PySem.W.looks_hook (M := model prog w) (mc := .ref C) (r := none) X (by show PySem.W.findIn K (.ref C) "__getattr__" = _; exact c.gh)
  have hx2 : (Value.builtin "BaseException.__getattribute__" == Value.builtin "object.__getattribute__") = false := by decide +kernel
  have hx1 : (onTheHeap (Value.ref C) && Value.builtin "BaseException.__getattribute__" == Value.builtin "object.__getattribute__") = false := by rw [hx2]; rfl
  have hx0 : (expr && onTheHeap (Value.builtin "BaseException.__getattribute__")) = false := by cases expr <;> rfl
  unfold getAttrBy
  refine wpAny_holding (wpAny_bind (L0.at (wpAny_bind (L1.at ?_))))
  show wpAny _ _ (if (onTheHeap (Value.ref C) && Value.builtin "BaseException.__getattribute__" == Value.builtin "object.__getattribute__") = true then _ else _) _ _ _
  rw [if_neg (by rw [hx1]; exact Bool.false_ne_true)]
  unfold getAttrByItsOwn
  refine wpAny_bind (LH.at (wpAny_bind (wpAny_attempt (wpAny_holding ?_))))
  unfold callGetattribute
  rw [if_neg (by rw [hx0]; exact Bool.false_ne_true)]
  unfold boundAndCalled
  rw [PySem.F.excAttr_ValueError.ga.bind]
  refine wpAny_bind (wpAny_pure (wpAny_call (codeAny_mono h fun r s' z => ?_)))
  rcases r with e | (v | _ | _ | _) <;> first | exact z | exact z.elim
theorem bga_call {r : Builtin.ObjectAttr.Found} (c : XCls K C) (X : K.In s.heap) (I : PySem.W.InstAt s.heap x ox C od) (hf : PySem.W.findObj K C od name = some r)
    (h : wpAny (model prog w) A.in1 (match r with | .value v => ret v | .bind g a => Builtin.ObjectAttr.bindTo g a (.ref x) (.ref C) | .missing => Builtin.ObjectAttr.noSuchAttribute (.ref x) name)
      (fun fin s' => match fin with | .done f => R (.ok f) s' | .again c' => c'.quiet = true ∧ codeAny (model prog w) A c' R s') (fun e s' => R (.error e) s') s) :
    codeAny (model prog w) A (.call (.builtin "BaseException.__getattribute__") ⟨[.ref x, .str name tk], []⟩) R s := by
  have sub : PySem.W.Looks (model prog w) s.heap (isInstance (.ref x) (.type "BaseException")) true := I.type.andThen (PySem.W.looks_mroIn X c.mb)
  exact codeAny_call_builtin PySem.F.excAttr_ValueError.ga.plain PySem.F.entry_bexc_ga (@PySem.W.check_slot (model prog w) _ _ s "BaseException.__getattribute__" "BaseException" "__getattribute__" (.ref x) [.str name tk] [] _ (by decide +kernel) (by decide +kernel) sub (PySem.F.args_bexc_ga _ _) (bga_entry X I hf h))
theorem xget_class {Q : Option Value → Shared → Prop} (c : XCls K C) (X : K.In s.heap) (I : PySem.W.InstAt s.heap x ox C od) (hf : PySem.W.findObj K C od "__class__" = some (.bind (.builtin "getset_descriptor.__get__") (.builtin "object.__class__")))
    (h : Q (some (.ref C)) { s with toks := s.toks + 1 }) : wpAny (model prog w) A (getAttr? (.ref x) "__class__") Q E s := by
  unfold getAttr? getAttrBy?
  refine wpAny_bind (wpAny_mkText (wpAny_bind (wpAny_attempt (xgetBy (s := { s with toks := s.toks + 1 }) c X I hf (bga_call (s := { s with toks := s.toks + 1 }) c X I hf ?_)))))
  show wpAny _ _ (holding [Value.builtin "object.__class__"] (call (.builtin "getset_descriptor.__get__") [.builtin "object.__class__", .ref x, .ref C]) >>= ret) _ _ _
  refine wpAny_bind (wpAny_holding (wpAny_call (PySem.W.class_get (s := { s with toks := s.toks + 1 }) (ox := ox) (od := od) X I c.mo (wpAny_pure ?_))))
  show wpAny _ _ (handedOut (.ref C)) _ _ _
  rw [PySem.W.handedOut_of rfl]
  exact wpAny_pure (wpAny_pure h)
end
end L2
set_option maxHeartbeats 4000000
namespace L2
open PySem PySem.Spec PyProof.Rows
section
variable {X : Cx} {pins : List (Addr × Obj)} {σ : St} {H : Hp} {s : Shared} {a C dx : Addr} {fs : List (Str × V)} {f : Str} {v y : V} {u : Value} {A : Around} {E : Value → Shared → Prop}
end
end L2
set_option maxHeartbeats 4000000
namespace L2
open PySem PySem.Spec PyProof.Rows
def excInG (K : PySem.W.Frag) (C : Addr) (bmB : List Value) (newId : String) (ini : Option Value) : Bool := match K.lookup C with
  | some ⟨.type "type", _, .cls cd, sl⟩ => (match cd.mro, sl.toList with
    | .ref C' :: bm, [_, _, _, _, some (.builtin n), _] => C' == C && n == newId && !cd.hasDel && PySem.W.tailIn K bmB bm && PySem.W.nsOkIn K cd.ns && PySem.W.nsIn K cd.ns "__init__" == some ini
    | _, _ => false)
  | _ => false
theorem ns_of {K : PySem.W.Frag} {h : Heap} {N : Addr} {mg : Str → Option Value} {n : Str} {r : Option Value} (X : K.In h) (G : h.Ns N mg) (e : PySem.W.nsIn K N n = some r) : mg n = r := by
  cases r with
  | none => exact PySem.W.ns_none_of X G e
  | some v =>
    obtain ⟨o, es, ep, ho, hd, _, hf⟩ := G
    unfold PySem.W.nsIn at e
    split at e
    · rename_i c d es' n' sl q
      have := X _ _ q
      rw [ho] at this
      cases this
      cases hd
      split at e
      · rename_i en he
        cases e
        rw [← hf]
        unfold nsFind findBy
        rw [← Array.find?_toList, he]
        rfl
      · split at e <;> cases e
    · cases e
theorem exc_of_in {K : PySem.W.Frag} {h : Heap} {C : Addr} {bmB : List Value} {newId : String} {ini : Option Value} (X : K.In h) (q : excInG K C bmB newId ini = true) :
    ∃ bm N nm q bs hdct sn sub ab col dd k0 k1 k2 k3 k5 mN, h.get? C = some (excClassObj nm q C N bs bm hdct sn sub ab col dd k0 k1 k2 k3 k5 newId) ∧ h.Ns N mN ∧ mN "__init__" = ini ∧ OwnTail h bmB bm := by
  unfold excInG at q
  split at q
  · rename_i dd cd sl ho
    split at q
    · rename_i C' bm k0 k1 k2 k3 n k5 hm hs
      simp only [Bool.and_eq_true, beq_iff_eq, Bool.not_eq_true'] at q
      obtain ⟨⟨⟨⟨⟨rfl, rfl⟩, hdel⟩, ht⟩, hok⟩, hni⟩ := q
      obtain ⟨nm, bs, mro, ns, qn, hd, sn, sub, ab, col, del⟩ := cd
      dsimp only at hm hdel hok hni
      subst hm hdel
      have hsl : sl = #[k0, k1, k2, k3, some (.builtin n), k5] := by
        obtain ⟨l⟩ := sl
        simp only at hs
        rw [hs]
      subst hsl
      exact ⟨bm, ns, nm, qn, bs, hd, sn, sub, ab, col, dd, k0, k1, k2, k3, k5, _, X _ _ ho, .of_isNs (PySem.W.isNs_of_in X hok), ns_of X (.of_isNs (PySem.W.isNs_of_in X hok)) hni, PySem.W.tail_of_in X ht⟩
    · cases q
  · cases q
section
variable {X : Cx} {CX : CXT} {k : Nat} {f C : Addr} {fd : FuncData} {ps : List Str} {sp : Sp} {E : XK} {x : Str} {p pos : Pos} {e : Expr} {es : List Expr} {t : TA}
theorem Inv.excd {pins : List (Addr × Obj)} {σ : St} {H : Hp} {s : Shared} {h' : Heap} {a : Addr} {rest : List Value} (I : Inv X pins σ H s) (m : Heap.MadeExcOf s.heap h' a (.ref C) rest) : H a = none ∧ Inv X pins σ (upd H a (xO a C none)) { s with heap := h' } := by
  obtain ⟨t, et, _, _⟩ := m.there
  have hn := I.hok.none_of m.new
  exact ⟨hn, I.un (t' := s.toks) (Un.laidN m.keeps m.new hn) (I.hok.laidN m.keeps m.new (xO_ok et))⟩
end
section
variable {X : Cx} {o value : Expr} {ta tv : TE} {f : Str} {pos pos' : Pos}
end
def XAt (K : PySem.W.Frag) (H : Hp) (a C : Addr) : Prop := XCls K C ∧ (H a = some (xO a C none) ∨ ∃ dx fs, H a = some (xO a C (some dx)) ∧ H dx = some (xD dx fs))
theorem kitx_exc {K : PySem.W.Frag} {x D : Addr} (c : XCls K D) : PySem.W.KitX K (.ref x) (.ref D) (fun h => ∃ ox od, PySem.W.InstAt h x ox D od) where
  ty := fun _ _ _ ⟨ox, od, I⟩ => I.type
  it := fun _ _ X _ => by
    obtain ⟨cdD, hcD, _⟩ := PySem.W.any_some c.hd
    unfold PySem.W.clsIn at hcD
    split at hcD
    · rename_i c' d' cd' sl' ho
      intro A' Q' E' s' k q
      unfold isType loadHead
      exact wpAny_bind (wpAny_loadPart (k _ _ (X _ _ ho)) (wpAny_pure q))
    · cases hcD
  ne := fun h tp dd its n sl X htp => by
    obtain ⟨cdD, hcD, _⟩ := PySem.W.any_some c.hd
    refine Bool.eq_false_iff.mpr fun q => ?_
    have e : D = tp := Value.ref.inj (beq_iff_eq.mp q)
    subst e
    unfold PySem.W.clsIn at hcD
    split at hcD
    · rename_i c' d' cd' sl' ho
      have z := (X _ _ ho).symm.trans htp
      cases z
    · cases hcD
  ca := fun {prog w A E Q s} X I h => by
    obtain ⟨ox, od, I⟩ := I
    have hf : PySem.W.findObj K D od "__class__" = some (.bind (.builtin "getset_descriptor.__get__") (.builtin "object.__class__")) := by
      obtain ⟨cd, PE, hc, _⟩ := c.cls
      unfold PySem.W.findObj
      rw [hc, Option.bind_some, c.ca, Option.bind_some]
      simp [c.cg, c.ct]
    exact xget_class c X I hf h
section
variable {X : Cx}
def clV : V → Value → Prop
  | .ref a, u => u = .ref a
  | .ty n, u => u = .type n
  | _, _ => False
theorem call_isinst : CallR X (.builtin "isinstance") (fun xs H Q => ∃ x cv t c b, xs = [x, cv] ∧ clV cv c ∧ (TyOf X.K H x t ∨ ∃ a C, x = .ref a ∧ t = .ref C ∧ XAt X.K H a C) ∧ PySem.W.kitOne X.K t c = some b ∧ Q (.bl b) H) := by
  intro pins s σ H xs us Q I r h
  obtain ⟨x, cv, t, c, b, rfl, hc, ty, e, q⟩ := h
  obtain ⟨u, w', rfl, r1, r2⟩ := vals2 r
  have e2 : w' = c := by
    cases cv with
    | ref a => cases (show c = _ from hc); exact r2
    | ty n => cases (show c = _ from hc); exact r2
    | _ => exact hc.elim
  subst e2
  rcases ty with ty | ⟨a, C, rfl, rfl, cx, hx⟩
  · exact isinst_ok I r1 ty e fun tk => ⟨.bl b, H, I.tok _, rfl, q⟩
  · cases (show u = Value.ref a from r1)
    have J : ∃ ox od, PySem.W.InstAt s.heap a ox C od := by
      rcases hx with ea | ⟨dx, fs, ea, ed⟩
      · obtain ⟨⟨fl, sl, ha⟩, _⟩ := I.hok a _ ea
        exact ⟨_, none, ha, rfl, rfl, True.intro⟩
      · obtain ⟨⟨fl, sl, ha⟩, _⟩ := I.hok a _ ea
        obtain ⟨⟨mA, ⟨od, _, _, ho, _⟩, _⟩, _⟩ := I.hok dx _ ed
        exact ⟨_, some od, ha, rfl, rfl, ho⟩
    exact PySem.W.kia_one (kitx_exc cx) I.kIn J e (fun z => nomatch z) fun tk => ⟨.bl b, H, I.tok _, rfl, q⟩
end
end L2
set_option maxHeartbeats 4000000
namespace L2
open PySem PySem.Spec PyProof.Rows
theorem upd_self {H : Hp} {a : Addr} {o : HO} (h : H a = some o) : upd H a o = H := by
  funext b
  unfold upd
  by_cases e : b = a
  · rw [if_pos e, e, h]
  · rw [if_neg e]
structure Top (X : Cx) (L : Addr) : Prop where
  ex : ∃ e0 r, X.stack = e0 :: r ∧ e0.frame = some L
  fr : X.env.frame = some L
structure TbAt (X : Cx) (H : Hp) (h : Heap) (T : Addr) : Prop where
  free : H T = none
  new : X.s₀.heap.objs.size ≤ T
  pn : ∀ p ∈ X.pn, p.1 ≠ T
  obj : ∃ oT ts, h.get? T = some oT ∧ oT.data = .fields ts ∧ 3 < ts.size
structure Fly (X : Cx) (H : Hp) (h : Heap) (e C : Addr) (od : Option Addr) : Prop where
  at_ : H e = some (xO e C od)
  obj : ∃ vs sl, h.get? e = some { cls := .ref C, dict := od, data := .fields vs, slots := sl } ∧ (vs[1]? = some .none ∨ ∃ T, vs[1]? = some (.ref T) ∧ TbAt X H h T)
structure FlyT (X : Cx) (H : Hp) (h : Heap) (e C : Addr) (od : Option Addr) (T : Addr) : Prop where
  at_ : H e = some (xO e C od)
  obj : ∃ vs sl, h.get? e = some { cls := .ref C, dict := od, data := .fields vs, slots := sl } ∧ vs[1]? = some (.ref T)
  tb : TbAt X H h T
section
variable {X : Cx} {pins : List (Addr × Obj)} {σ : St} {H : Hp} {s : Shared} {e C T L : Addr} {od : Option Addr}
theorem FlyT.fly {h : Heap} (f : FlyT X H h e C od T) : Fly X H h e C od := ⟨f.at_, let ⟨vs, sl, h1, h2⟩ := f.obj; ⟨vs, sl, h1, .inr ⟨T, h2, f.tb⟩⟩⟩
theorem Inv.tbNe (I : Inv X [] σ H s) (t : TbAt X H s.heap T) : T ≠ X.env.locals ∧ (∀ x c, X.env.cells.lookup x = some c → c ≠ T) ∧ ∀ p ∈ X.pn ++ [], p.1 ≠ T := by
  obtain ⟨oT, ts, h1, h2, _⟩ := t.obj
  refine ⟨fun z => ?_, fun x c hc z => ?_, fun p hp => t.pn p (by simpa using hp)⟩
  · obtain ⟨m, ⟨o', es, ep, ho', hd', _⟩, _⟩ := I.loc
    rw [← z, h1] at ho'
    cases ho'
    rw [hd'] at h2
    cases h2
  · obtain ⟨v, o, ho, hd⟩ := I.cell x c hc
    rw [z, h1] at ho
    cases ho
    rw [hd] at h2
    cases h2
theorem Inv.mark (I : Inv X [] σ H s) (f : FlyT X H s.heap e C od T) (x : Value) :
    Inv X [] σ H { s with heap := s.heap.update T (Obj.mapFields (·.setIfInBounds 3 x)) } ∧ FlyT X H (s.heap.update T (Obj.mapFields (·.setIfInBounds 3 x))) e C od T := by
  obtain ⟨n1, n2, n3⟩ := I.tbNe f.tb
  obtain ⟨oT, ts, h1, h2, h3⟩ := f.tb.obj
  have keep : ∀ b o, b ≠ T → s.heap.get? b = some o → (s.heap.update T (Obj.mapFields (·.setIfInBounds 3 x))).get? b = some o := fun b o hb q => (Heap.get?_update_other _ _ (Ne.symm hb)).trans q
  have neT : e ≠ T := fun z => by have := f.at_; rw [z, f.tb.free] at this; cases this
  obtain ⟨vs, sl, g1, g2⟩ := f.obj
  have hd' := Obj.data_mapFields h2 (·.setIfInBounds 3 x)
  refine ⟨I.turned (t' := s.toks) (it := T) keep f.tb.free n1 (.inr f.tb.new) n2 n3, f.at_, ⟨vs, sl, keep _ _ neT g1, g2⟩, f.tb.free, f.tb.new, f.tb.pn, _, _, Heap.get?_update_self _ h1 (Obj.isFreed_of_fields hd'), hd', by simpa using h3⟩
theorem flight_go {M : Model} {A : Around} {E : Value → Shared → Prop} {Q : Unit → Shared → Prop} (I : Inv X [] σ H s) (f : FlyT X H s.heap e C od T) (fr : Option Addr)
    (q : ∀ s', Inv X [] σ H s' → FlyT X H s'.heap e C od T → Q () s') : wpAny M A (setFlight (.ref e) fr) Q E s := by
  obtain ⟨vs, sl, g1, g2⟩ := f.obj
  obtain ⟨oT, ts, h1, h2, h3⟩ := f.tb.obj
  unfold setFlight
  refine wpAny_bind (wpAny_field g1 rfl g2 ?_)
  have ne : (Value.ref T != Value.none) = true := by simp
  rw [if_pos ne]
  have z := I.mark f (fr.elim .none fun f => rawInt f)
  exact wpAny_setField h1 h2 h3 (q _ z.1 z.2)
theorem frame_go {M : Model} {A : Around} {E : Value → Shared → Prop} {Q : Value → Shared → Prop} {env' : Env} (hA : A.frames = some X.stack) (tp : Top X L) (hf : env'.frame = some L) (I : Inv X [] σ H s)
    (q : ∀ h', Inv X [] σ H { s with heap := h' } → Heap.SlotsOnly (frs X.stack) s.heap h' → Q (.ref L) { s with heap := h' }) : wpAny M A (PySem.frameOf env') Q E s := by
  obtain ⟨e0, r, hst, h0⟩ := tp.ex
  have hl := I.stack
  rw [hst] at hA hl
  have dw : ((e0 :: r).dropWhile fun x => x.frame != env'.frame) = e0 :: r := by rw [hf]; simp [List.dropWhile, h0]
  unfold PySem.frameOf
  refine wpAny_bind (wpAny_frameEnvs hA ?_)
  rw [dw]
  unfold frameObject
  refine wpAny_bind (wpAny_bind (wpAny_readyFrames_fun hl fun h1 hs1 => wpAny_pure ?_))
  rw [h0]
  have e1 : (e0 :: r).filterMap (·.frame) = frs X.stack := by rw [hst]; rfl
  rw [e1] at hs1
  refine wpAny_pure (q h1 ?_ hs1)
  refine I.call (g' := s.gens) (t' := s.toks) (d' := s.drawn) (ch := []) ⟨fun b o hb _ hf _ => (hs1.2.1 b hf).trans hb, fun b o hb _ _ _ => hs1.2.2 b o hb, fun _ _ _ n _ => n, fun b o hb _ => let ⟨sl, z⟩ := hs1.2.2 b o hb; ⟨_, z⟩, fun _ _ z => z, fun _ _ _ z => z, fun b ps z => ⟨#[], by rw [z]; simp⟩⟩ (fun b u hb => ?_) I.bare fun b hb => absurd hb (by simp)
  have nf : ∀ c v, H c = some v → c ∉ frs X.stack := fun c v hc hm => by rw [I.stkFree c hm] at hc; cases hc
  refine (I.hok b u hb).stay (fun c v hc z => (hs1.2.1 c ?_).trans z) (fun _ z => z) fun _ _ z => z
  rcases hc with rfl | hc
  · exact nf c u hb
  · exact nf c _ hc
theorem entry_go {M : Model} {A : Around} {E : Value → Shared → Prop} {Q : Unit → Shared → Prop} {env' : Env} {head : Value} {hadNext : Bool} {vs : Array Value} {sl : Array (Option Value)} (hA : A.frames = some X.stack) (tp : Top X L) (hf : env'.frame = some L) (I : Inv X [] σ H s)
    (at_ : H e = some (xO e C od)) (ho : s.heap.get? e = some { cls := .ref C, dict := od, data := .fields vs, slots := sl }) (h1 : 1 < vs.size)
    (q : ∀ s' T, Inv X [] σ H s' → FlyT X H s'.heap e C od T → Q () s') :
    wpAny M A (do let a ← PySem.frameOf env'; let pl ← entryPlaceOf L hadNext; let b ← EntryCells.newEntry head a .none (rawInt L) .none pl; setField (.ref e) 1 b) Q E s := by
  refine wpAny_bind (frame_go hA tp hf I fun h2 I2 hs2 => ?_)
  refine wpAny_bind (wpAny_entryPlaceOf fun pl hpl => ?_)
  unfold EntryCells.newEntry newFields
  refine wpAny_bind (wpAny_newObj_type ?_ (hpl.sizeOk5 _ _ _ _ _))
  have ne : e ∉ frs X.stack := fun hm => by rw [I.stkFree e hm] at at_; cases at_
  have ho2 : h2.get? e = some { cls := .ref C, dict := od, data := .fields vs, slots := sl } := (hs2.2.1 e ne).trans ho
  generalize hTb : ({ cls := .type "traceback", data := .fields ([head, .ref L, .none, rawInt L, .none] ++ (if pl.isEmpty then List.replicate 6 Value.none else pl)).toArray } : Obj) = tb
  have hTd : tb.data = .fields ([head, .ref L, .none, rawInt L, .none] ++ (if pl.isEmpty then List.replicate 6 Value.none else pl)).toArray := by rw [← hTb]
  have hnf : tb.isFreed = false := by rw [← hTb]; rfl
  have I3 : Inv X [] σ H { s with heap := h2.push tb } := I2.kept (t' := s.toks) fun b o z => Heap.get?_push_of_some _ z
  have ho3 : (h2.push tb).get? e = some { cls := .ref C, dict := od, data := .fields vs, slots := sl } := Heap.get?_push_of_some _ ho2
  have hT3 : (h2.push tb).get? h2.objs.size = some tb := Heap.get?_push_size _ hnf
  have hTn : H h2.objs.size = none := I2.hok.fresh (Nat.le_refl _)
  have neT : h2.objs.size ≠ e := fun z => by rw [z] at hTn; rw [hTn] at at_; cases at_
  have pnT : ∀ p ∈ X.pn, p.1 ≠ h2.objs.size := fun p hp z => by
    have := (I2.pin p (List.mem_append_left _ hp)).1
    exact absurd (Heap.lt_size this) (by rw [z]; exact Nat.lt_irrefl _)
  refine wpAny_setField ho3 rfl h1 ?_
  have hd4 : (Obj.mapFields (·.setIfInBounds 1 (Value.ref h2.objs.size)) { cls := .ref C, dict := od, data := .fields vs, slots := sl }) = { cls := .ref C, dict := od, data := .fields (vs.setIfInBounds 1 (Value.ref h2.objs.size)), slots := sl } := rfl
  have ho4 := Heap.get?_update_self (Obj.mapFields (·.setIfInBounds 1 (Value.ref h2.objs.size))) ho3 (by rw [hd4]; rfl)
  rw [hd4] at ho4
  have keep4 : ∀ b o, b ≠ e → (h2.push tb).get? b = some o → ((h2.push tb).update e (Obj.mapFields (·.setIfInBounds 1 (Value.ref h2.objs.size)))).get? b = some o := fun b o hb z => (Heap.get?_update_other _ _ (Ne.symm hb)).trans z
  have I4 := I3.write (h' := (h2.push tb).update e (Obj.mapFields (·.setIfInBounds 1 (Value.ref h2.objs.size)))) (t' := s.toks) (x := e) (e := e) (o := xO e C od) (by rw [at_]; trivial) (.inl rfl) keep4 ⟨_, ho4⟩ (xO_ok ho4)
  rw [upd_self at_] at I4
  refine q _ h2.objs.size I4 ⟨at_, ⟨_, sl, ho4, by simp [h1]⟩, hTn, Nat.le_trans I2.sz (Nat.le_refl _), pnT, tb, _, keep4 _ _ neT hT3, hTd, ?_⟩
  simp only [List.size_toArray, List.length_append, List.length_cons, List.length_nil]
  omega
theorem note_go {M : Model} {A : Around} {E : Value → Shared → Prop} {Q : Unit → Shared → Prop} {env' : Env} (hA : A.frames = some X.stack) (tp : Top X L) (hf : env'.frame = some L) (I : Inv X [] σ H s) (f : Fly X H s.heap e C od)
    (q : ∀ s' T, Inv X [] σ H s' → FlyT X H s'.heap e C od T → Q () s') : wpAny M A (noteFrame (.ref e) env') Q E s := by
  obtain ⟨vs, sl, ho, alt⟩ := f.obj
  unfold noteFrame
  simp only [hf]
  rcases alt with h1 | ⟨T, h1, tb⟩
  · refine wpAny_bind (wpAny_field ho rfl h1 ?_)
    rw [if_neg (by decide)]
    exact entry_go hA tp hf I f.at_ ho (Array.getElem?_eq_some_iff.mp h1).1 q
  · have fT : FlyT X H s.heap e C od T := ⟨f.at_, ⟨vs, sl, ho, h1⟩, tb⟩
    obtain ⟨oT, ts, hT, hdT, h3⟩ := tb.obj
    refine wpAny_bind (wpAny_field ho rfl h1 ?_)
    have ne : (Value.ref T != Value.none) = true := by simp
    rw [if_pos ne]
    refine wpAny_bind (wpAny_field hT hdT (Array.getElem?_eq_getElem h3) ?_)
    by_cases hm : (ts[3] == rawInt L) = true
    · rw [if_pos hm]
      exact wpAny_pure (q s T I fT)
    · rw [if_neg hm]
      have z := I.mark fT .none
      refine wpAny_bind (wpAny_setField hT hdT h3 ?_)
      obtain ⟨vs', sl', ho', h1'⟩ := z.2.obj
      exact entry_go hA tp hf z.1 f.at_ ho' (Array.getElem?_eq_some_iff.mp h1').1 q
end
end L2
set_option maxHeartbeats 4000000
namespace L2
open PySem PySem.Spec PyProof.Rows
def XE (X : Cx) (E : XK) : Value → Shared → Prop := fun ev s' => ∃ e C od σ' H', ev = .ref e ∧ Inv X [] σ' H' s' ∧ Fly X H' s'.heap e C od ∧ E (.ref C) (some e) H'
abbrev Cx.xs (X : Cx) (E : XK) : Cx := X.wish (XE X E)
def CXF (P : Program) (w : World) : CXT := fun outer H s E ev s' => ∃ e C od H', ev = .ref e ∧ s'.os = s.os ∧ AllBare s'.gens ∧ Un (frs outer) [] H H' s.heap s'.heap ∧ HOk P w H' s'.heap ∧ E (.ref C) (some e) H' ∧ H' e = some (xO e C od) ∧
  ∃ vs sl T oT ts, s'.heap.get? e = some { cls := .ref C, dict := od, data := .fields vs, slots := sl } ∧ vs[1]? = some (.ref T) ∧ H' T = none ∧ s.heap.objs.size ≤ T ∧ s'.heap.get? T = some oT ∧ oT.data = .fields ts ∧ 3 < ts.size
theorem passX {X : Cx} {E : XK} : Passes (CXF X.prog X.w) (X.xs E) E := by
  intro pins σ H s ev s' I h
  obtain ⟨e, C, od, H', rfl, os, bare, un, hok, hE, at_, vs, sl, T, oT, ts, ho, h1, hT, hn, hoT, hd, h3⟩ := h
  have I' : Inv (X.xs E) pins σ H' s' := I.call' (ch := []) os un hok bare fun b z => absurd z (by simp)
  have I2 : Inv X [] σ H' s' := (I'.pins_of (pins' := []) fun p hp => absurd hp (by simp)).unwish
  refine ⟨e, C, od, σ, H', rfl, I2, ⟨at_, vs, sl, ho, .inr ⟨T, h1, hT, Nat.le_trans I.sz hn, fun p hp z => ?_, oT, ts, hoT, hd, h3⟩⟩, hE⟩
  have := (I.pin p (List.mem_append_left _ hp)).1
  exact absurd (Nat.lt_of_lt_of_le (Heap.lt_size this) hn) (by rw [z]; exact Nat.lt_irrefl _)
theorem xs_own {X : Cx} {E : XK} {L : Addr} (tp : Top X L) : PassesOwn (model X.prog X.w) X.A X.env (XE X E) := by
  intro ev s' h
  obtain ⟨e, C, od, σ, H, rfl, I, f, hE⟩ := h
  refine note_go I.ok.frames tp tp.fr I f fun s2 T I2 f2 => ?_
  obtain ⟨vs, sl, g1, g2⟩ := f2.obj
  show wpAny _ _ (field (.ref e) 1 >>= _) _ _ s2
  refine wpAny_bind (wpAny_field g1 rfl g2 ?_)
  have ne : ¬ ((Value.ref T == Value.none) = true) := by simp
  rw [if_neg ne]
  have fin := flight_go (M := model X.prog X.w) (A := X.A) (E := XE X E) (Q := fun _ s3 => XE X E (.ref e) s3) I2 f2 X.env.frame fun s3 I3 f3 => ⟨e, C, od, σ, H, rfl, I3, f3.fly, hE⟩
  first
    | exact fin
    | exact wpAny_bind (wpAny_pure fin)
theorem leave_go {X : Cx} {E : XK} {L : Addr} {ev : Value} {s' : Shared} {Q : Unit → Shared → Prop} {E2 : Value → Shared → Prop} (tp : Top X L) (h : XE X E ev s') (q : ∀ e C od σ H s2 T, ev = .ref e → Inv X [] σ H s2 → FlyT X H s2.heap e C od T → E (.ref C) (some e) H → Q () s2) :
    wpAny (model X.prog X.w) X.A (leaving X.env ev) Q E2 s' := by
  obtain ⟨e, C, od, σ, H, rfl, I, f, hE⟩ := h
  unfold leaving
  exact wpAny_bind (note_go I.ok.frames tp tp.fr I f fun s2 T I2 f2 => flight_go I2 f2 none fun s3 I3 f3 => q e C od σ H s3 T rfl I3 f3 hE)
section
variable {P : Program} {w : World} {K : PySem.W.Frag} {mg : Str → Option Value} {base : Heap}
theorem top_of {CX : CXT} {N : List Str} {qual : Str} {sc : Scope} {f : Addr} {cd : Value} {A : Around} {outer : List Env} {s : Shared} {H : Hp} {E : XK} : Top (cxOf CX P w K mg base N qual sc f cd A outer s H E) s.heap.objs.size := ⟨⟨_, _, rfl, rfl⟩, rfl⟩
theorem Fun.okX {x qual : Str} {st : Stmt} {f : Addr} {fd : FuncData} {N ps : List Str} {k : Nat} {sp : Sp} (F : Fun K x qual st f fd) (S : FnScope N ps (defScope st)) (len : ∀ vs H Q E, sp vs H Q E → vs.length = ps.length)
    (hbody : ∀ (cdv : Value) (A : Around) (outer : List Env) (s : Shared) (H : Hp) (vs : List V) (Q : VK) (E : XK), Room k (A.deeper (envOfC qual (defScope st) s.heap.objs.size f cdv)) → sp vs H Q E →
      ∃ t, PSs ((cxOf (CXF P w) P w K mg base N qual (defScope st) f cdv A outer s H E).xs E) (defBody st) t ∧ t { nx := fun _ H' => Q .non H', rt := Q } (start N vs) H) : FnOk P w K mg base (CXF P w) (k + 1) f fd ps sp := by
  obtain ⟨oc, od, kV, doc, pm, an, cdv, ct, osl, rfl, lk, hcd⟩ := F.ex
  refine fn_of lk hcd S len fun A outer s H vs Q E hr hsp => ?_
  obtain ⟨t, h, q⟩ := hbody cdv A outer s H vs Q E hr hsp
  refine ⟨t, fun pins s1 σ H1 D I hw => ?_, q⟩
  refine wpAny_mono (h pins s1 σ H1 D (I.wish _) hw) (fun _ _ z => z.unwish) fun ev s2 hx => ?_
  refine leave_go top_of hx fun e C od σ2 H2 s3 T ee I3 f3 hE => ?_
  subst ee
  obtain ⟨vs3, sl3, g1, g2⟩ := f3.obj
  obtain ⟨oT, ts, t1, t2, t3⟩ := f3.tb.obj
  exact ⟨e, C, od, H2, rfl, I3.os, I3.bare, I3.base, I3.hok, hE, f3.at_, vs3, sl3, T, oT, ts, g1, g2, f3.tb.free, f3.tb.new, t1, t2, t3⟩
end
def tRaise (C : Addr) (E : XK) (t : TA) : TS := fun _ σ H => t σ H fun vs H1 => vs.length ≤ sizeLine ∧ ∀ a, H1 a = none → E (.ref C) (some a) (upd H1 a (xO a C none))
theorem ps_raise {X : Cx} {E : XK} {C : Addr} {x : Str} {np cpos pos : Pos} {e : Expr} {es : List Expr} {t : TA} (hc : X.calm = true) (hx : excInG X.K C bmVE "ValueError.__new__" none = true) (hg : Gl (X.xs E) x) (hm : X.mg x = some (.ref C)) (ha : PA (X.xs E) (e :: es) t)
    (hdb : (x == ("__debug__" : Str)) = false := by decide) (he : starEach (e :: es) X.env = (false, eval e X.env) :: starEach es X.env := by rfl) (hpl : (backTo cpos (starEach es X.env)).any (·.1) = false := by rfl) :
    PS (X.xs E) (.Raise (some (.Call (.Name x np) (e :: es) [] cpos)) none pos) (tRaise C E t) := by
  intro pins s σ H D I h
  obtain ⟨bm, N, nm, q', bs, hd, sn, sub, ab, col, dd, k0, k1, k2, k3, k5, mN, hC, hN, hni, T⟩ := exc_of_in I.ok.mod.kin hx
  have hall : (backTo cpos (starEach (e :: es) X.env)).any (·.1) = false := by rw [he]; show (false || (backTo cpos (starEach es X.env)).any (·.1)) = false; rw [hpl]; rfl
  refine wpAny_Raise_call_subT (C := C) (nm := nm) (q := q') (N := N) (bs := bs) (bm := bm) (hdct := hd) (sn := sn) (sub := sub) (ab := ab) (col := col) (dd := dd) (k0 := k0) (k1 := k1) (k2 := k2) (k3 := k3) (k5 := k5)
    PySem.F.excBase_ValueError (mN := mN) (T.hasType PySem.F.excBase_ValueError.hasBase) (I.ok.hd hc) hall hni (ld_glob I hg hm ⟨rfl, ?_⟩ hdb)
  have hA := ha cpos pins s σ H _ I h
  rw [show starEach (e :: es) (X.xs E).env = (false, eval e X.env) :: starEach es X.env from he] at hA
  rw [show starEach (e :: es) (X.xs E).env = (false, eval e X.env) :: starEach es X.env from he]
  refine Calls.evalArgs_plain (thn hA fun us s1 ⟨vs, H1, I1, r, hz, q⟩ => ?_)
  refine ⟨rfl, by show us.length ≤ sizeLine; rw [← r.length]; exact hz, I1.bk _ _ hC, hN.keeps I1.bk, T.keeps I1.bk, fun h' a m => ?_⟩
  obtain ⟨tt, et, _, _⟩ := m.there
  obtain ⟨hn, I2⟩ := I1.excd m
  have I3 := (I2.pins_of (pins' := []) fun p hp => absurd hp (by simp)).unwish
  exact ⟨a, C, none, σ, upd H1 a (xO a C none), rfl, I3, ⟨upd_same, _, _, et, .inl rfl⟩, q a hn⟩
end L2
set_option maxHeartbeats 4000000
namespace L2
open PySem PySem.Spec PyProof.Rows
section
variable {X : Cx} {tg e : Expr}
theorem PG.nox {g : TG} (h : PG X.nox tg g) : PG X tg g := fun pins s σ H v u Q I r hw =>
  wpAny_mono (h pins s σ H v u Q (I.wish _) r hw) (fun _ _ ⟨σ', H', I', q⟩ => ⟨σ', H', I'.unwish, q⟩) fun _ _ z => False.elim z
theorem PIfs.nox {ifs : List Expr} {t : TT} (h : PIfs X.nox ifs t) : PIfs X ifs t := fun pins s σ H Q I hw =>
  wpAny_mono (h pins s σ H Q (I.wish _) hw) (fun _ _ ⟨H', I', q⟩ => ⟨H', I'.unwish, q⟩) fun _ _ z => False.elim z
end
section
variable {X : Cx} {elt target iter : Expr} {ifs : List Expr} {sc : Scope} {pos : Pos} {wi : TI} {g : TG} {tc : TT} {te : TE} {N' : List Str} {src : List (Option Nat)} {E : XK} {L : Addr}
theorem comp_loopX {it acc : Value} {env : Env} {prog : Program} {w : World} {A : Around} {s : Shared} {R : Result → Shared → Prop} {F : Value → Shared → Prop} (hF : ∀ ev s', F ev s' → notedBy (model prog w) A env (fun x s' => R (.error x) s') ev s') (Iv : Nat → Shared → Prop)
    (turn : ∀ n s, Iv n s → wpAny (model prog w) A (pyNext it) (fun r s₁ => match r with
      | none => R (.ok .next) s₁
      | some v => wpAny (model prog w) A (letOwnedTupleGo target it v) (fun _ s₁' => wpAny (model prog w) A (assign target env v) (fun _ s₂ =>
          wpAny (model prog w) A (forIn ifs true fun c r => if r = true then do let ok ← isTrue c env (eval c env); pure (ForInStep.yield ok) else pure (ForInStep.yield r)) (fun ok s₃ =>
            if ok = true then wpAny (model prog w) A (eval elt env) (fun x s₄ =>
              wpAny (model prog w) A (call (.builtin "list.append") [acc, x]) (fun _ s₅ => ∃ m, m < n ∧ Iv m s₅) F s₄) F s₃
            else ∃ m, m < n ∧ Iv m s₃) F s₂) F s₁') F s₁) F s)
    (n : Nat) (h : Iv n s) : codeAny (model prog w) A (.compLoop (.ListComp elt [⟨target, iter, ifs, 0⟩] sc pos) 0 it acc env) R s := by
  refine codeAny_loop rfl Iv (fun n s hI => ?_) n h
  show wpAny _ A ((compTurn (.ListComp elt [⟨target, iter, ifs, 0⟩] sc pos) 0 it acc env).onRaise (fun x => do noteFrame x env; theTreesLotGoes x)) _ _ s
  refine wpAny_noted ?_
  rw [compTurn_list]
  refine wpAny_mono (E := F) ?_ (fun _ _ z => z) hF
  refine wpAny_bind (wpAny_standAt (wpAny_bind (thn (turn n s hI) fun r s₁ h₁ => ?_)))
  cases r with
  | none => exact wpAny_pure h₁
  | some v =>
    refine wpAny_bind (thn h₁ fun _ s₁' h₁' => wpAny_bind (thn h₁' fun _ s₂ h₂ => wpAny_bind (thn h₂ fun ok s₃ h₃ => ?_)))
    cases ok with
    | false => exact wpAny_pure ⟨rfl, h₃⟩
    | true => exact wpAny_bind (wpAny_bind (thn h₃ fun x s₄ h₄ => wpAny_bind (thn h₄ fun _ s₅ h₅ => wpAny_pure (wpAny_pure ⟨rfl, h₅⟩))))
theorem comp_leave {pins : List (Addr × Obj)} {σ : St} {H2 : Hp} {s3 : Shared} {fp : List Addr} {cl : List (Str × Addr)} {use : Option (Value → Sem Unit)} {QQ : Value → Shared → Prop} {acc : Value} {ev : Value} {s' : Shared} (tp : Top X L) (I3 : Inv X pins σ H2 s3)
    (f3 : ∀ b ∈ fp, FpOk X pins H2 b) (h : XE (compCx X N' sc cl s3.heap.objs.size s3 H2 fp) E ev s') :
    notedBy (model X.prog X.w) X.A (compEnvC sc cl s3.heap.objs.size X.env) (fun x s'' => compPost (model X.prog X.w) X.A (XE X E) use QQ acc s3.heap.objs.size (.error x) s'') ev s' := by
  obtain ⟨e, C, od, σ', H, rfl, I, f, hE⟩ := h
  have tp' : Top (compCx X N' sc cl s3.heap.objs.size s3 H2 fp) L := ⟨tp.ex, tp.fr⟩
  refine note_go (X := compCx X N' sc cl s3.heap.objs.size s3 H2 fp) I.ok.frames tp' tp.fr I f fun s5 T I5 f5 => ?_
  obtain ⟨m6, n6, _⟩ := id I5.loc
  have fin : ∃ m, s5.heap.Ns s3.heap.objs.size m ∧ ∀ h', Heap.SameBut s3.heap.objs.size s5.heap h' → ∀ cenv : Env, cenv.locals = s3.heap.objs.size → wpAny (model X.prog X.w) X.A (PySem.passOn "comprehension.variables-let-go" (.ref e) cenv : Sem Value) (fun _ _ => False) (XE X E) { s5 with heap := h' } := by
    refine ⟨m6, n6, fun h' sb cenv hcl => ?_⟩
    have J : Inv X [] σ H s5 := (I3.call' I5.os I5.base I5.hok I5.bare fun b hb => ⟨(f3 b hb).2.2.2.1, (f3 b hb).2.1, (f3 b hb).2.2.2.2.1, (f3 b hb).2.2.2.2.2⟩).pins_of (pins' := []) fun p hp => absurd hp (by simp)
    have fC : FpOk X [] H s3.heap.objs.size := by
      have z := I3.fpOk (H' := H) (b := s3.heap.objs.size) (Nat.le_refl _) I5.free
      exact ⟨z.1, z.2.1, z.2.2.1, z.2.2.2.1, z.2.2.2.2.1, fun p hp => z.2.2.2.2.2 p (List.mem_append_left _ (by simpa using hp))⟩
    have J2 : Inv X [] σ H { s5 with heap := h' } := J.turned (t' := s5.toks) (fun b o hb z => (sb.2 b hb).trans z) fC.1 fC.2.1 fC.2.2.2.1 fC.2.2.2.2.1 fC.2.2.2.2.2
    obtain ⟨vs, sl, g1, g2⟩ := f5.obj
    obtain ⟨oT, ts, t1, t2, t3⟩ := f5.tb.obj
    have neC : ∀ b, H b ≠ none → b ≠ s3.heap.objs.size := fun b hb z => hb (by rw [z]; exact I5.free)
    have neT : T ≠ s3.heap.objs.size := fun z => by
      obtain ⟨o, es, ep, ho, hd, _⟩ := n6
      have ho' : s5.heap.get? s3.heap.objs.size = some o := ho
      rw [z, ho'] at t1
      cases t1
      rw [hd] at t2
      cases t2
    have f6 : FlyT X H h' e C od T := ⟨f5.at_, ⟨vs, sl, (sb.2 e (neC e (by rw [f5.at_]; simp))).trans g1, g2⟩, f5.tb.free, Nat.le_trans I3.sz f5.tb.new, fun p hp z => by
      have := (I3.pin p (List.mem_append_left _ hp)).1
      exact absurd (Nat.lt_of_lt_of_le (Heap.lt_size this) f5.tb.new) (by rw [z]; exact Nat.lt_irrefl _), oT, ts, (sb.2 T neT).trans t1, t2, t3⟩
    obtain ⟨vs', sl', g1', g2'⟩ := f6.obj
    unfold PySem.passOn
    refine wpAny_bind (wpAny_field g1' rfl g2' ?_)
    have ne : ¬ ((Value.ref T == Value.none) = true) := by simp
    rw [if_neg ne]
    have go := flight_go (M := model X.prog X.w) (A := X.A) (E := XE X E) (Q := fun _ s7 => wpAny (model X.prog X.w) X.A (throw (.ref e) : Sem Value) (fun _ _ => False) (XE X E) s7) J2 f6 cenv.frame fun s7 I7 f7 => wpAny_throw ⟨e, C, od, σ, H, rfl, I7, f7.fly, hE⟩
    first
      | exact wpAny_bind go
      | exact wpAny_bind (wpAny_pure (wpAny_bind go))
  cases use <;> exact fin
theorem comp_blockX {pins : List (Addr × Obj)} {σ : St} {H2 : Hp} {s2 : Shared} {it : Addr} {fp : List Addr} {tn : Nat → Heap → Prop} {J : It} {Q : VK} {E2 : Value → Shared → Prop} {use : Option (Value → Sem Unit)} {QQ : Value → Shared → Prop}
    (hc : X.calm = true) (tp : Top X L) (S : CompSc X.env.scope X.N N' src sc)
    (hg : ∀ cl C s H fp, PG ((compCx X N' sc cl C s H fp).xs E) target g) (ht : ∀ cl C s H fp, PIfs ((compCx X N' sc cl C s H fp).xs E) ifs tc) (he : ∀ cl C s H fp, PE ((compCx X N' sc cl C s H fp).xs E) elt te)
    (I2 : Inv X pins σ H2 s2) (T : Turn X.prog X.w X.K target J fp it tn) (st2 : tn 0 s2.heap) (f2 : ∀ b ∈ fp, FpOk X pins H2 b)
    (hW : ∀ D, H2 D = none → ∃ W : Nat → Nat → St → List V → Hp → Prop, (∃ m, W 0 m (inSt src σ) [] (upd H2 D (.lst []))) ∧ compW J g tc te D Q W)
    (hRR : ∀ D C s5 H' m, Inv X pins σ H' s5 → s5.heap.Ns C m → FpOk X pins H' C → Q (.ref D) H' → compPost (model X.prog X.w) X.A (XE X E) use QQ (.ref D) C (.ok .next) s5) :
    wpAny (model X.prog X.w) X.A (newList []) (fun acc s₃ => wpAny (model X.prog X.w) X.A (newFunctionEnv sc X.env.globals (cloOf X.env.cells sc.names []) [] X.env.qual none .none (some X.env)) (fun cenv s₄ =>
      codeAny (model X.prog X.w) X.A (.compStart (.ListComp elt [⟨target, iter, ifs, 0⟩] sc pos) 0 (.ref it) acc { cenv with scope := relabel sc X.env }) (compPost (model X.prog X.w) X.A (XE X E) use QQ acc cenv.locals) s₄) E2 s₃) E2 s2 := by
  have o2 : ∀ b ∈ fp, b < s2.heap.objs.size := fun b hb => by
    obtain ⟨o, z, _⟩ := T.obj 0 _ st2 b hb
    exact Heap.lt_size z
  refine wpAny_newObj_type ?_
  have fr2 : H2 s2.heap.objs.size = none := I2.hok.fresh (Nat.le_refl _)
  obtain ⟨W, ⟨m0, w0⟩, turn⟩ := hW s2.heap.objs.size fr2
  have I3 : Inv X pins σ (upd H2 s2.heap.objs.size (.lst [])) { s2 with heap := s2.heap.push { cls := .type "list", dict := none, data := .seq ([] : List Value).toArray } } :=
    I2.laid (t' := s2.toks) (fun b u z => Heap.get?_push_of_some _ z) (Nat.le_refl _) ⟨Nat.zero_le _, [], 0, .nil, Heap.get?_push_size _ rfl⟩
  have st3 : tn 0 (s2.heap.push { cls := .type "list", dict := none, data := .seq ([] : List Value).toArray }) := T.keep 0 _ _ st2 fun b hb o z => Heap.get?_push_of_some _ z
  generalize hs3 : ({ s2 with heap := s2.heap.push { cls := .type "list", dict := none, data := .seq ([] : List Value).toArray } } : Shared) = s3 at I3
  have hh3 : s3.heap = s2.heap.push { cls := .type "list", dict := none, data := .seq ([] : List Value).toArray } := by rw [← hs3]
  have sz3 : s2.heap.objs.size < s3.heap.objs.size := by rw [hh3, Heap.size_push]; exact Nat.lt_succ_self _
  have o3 : ∀ b ∈ fp, b < s3.heap.objs.size := fun b hb => Nat.lt_trans (o2 b hb) sz3
  have f3 : ∀ b ∈ fp, FpOk X pins (upd H2 s2.heap.objs.size (.lst [])) b := fun b hb => ⟨by rw [upd_ne (Nat.ne_of_lt (o2 b hb))]; exact (f2 b hb).1, (f2 b hb).2⟩
  rw [← hh3] at st3
  refine wpAny_newFunctionEnv S.nocell (by intro y hy; simp at hy) (fun h1 hns hsb => ?_) S.kind
  have hsb' : Heap.SameBut s3.heap.objs.size (s3.heap.push { cls := .type "dict", data := .dict #[] }) h1 := hsb
  generalize hY : compCx X N' sc (cloOf X.env.cells sc.names []) s3.heap.objs.size s3 (upd H2 s2.heap.objs.size (.lst [])) fp = Y
  have I4 : Inv Y [] (inSt src σ) (upd H2 s2.heap.objs.size (.lst [])) { s3 with heap := h1, toks := s3.toks + ([] : List (Str × Value)).length } := by
    rw [← hY]
    exact comp_start S I3 f3 o3 hns hsb'
  have st4 : tn 0 h1 := T.keep 0 _ _ st3 fun b hb o z => (hsb'.2 b (Nat.ne_of_lt (o3 b hb))).trans (Heap.get?_push_of_some _ z)
  have fC : ∀ (H' : Hp) , H' s3.heap.objs.size = none → FpOk X pins H' s3.heap.objs.size := fun H' hn => I3.fpOk (Nat.le_refl _) hn
  have loop : codeAny (model X.prog X.w) X.A (.compLoop (.ListComp elt [⟨target, iter, ifs, 0⟩] sc pos) 0 (.ref it) (.ref s2.heap.objs.size) (compEnvC sc (cloOf X.env.cells sc.names []) s3.heap.objs.size X.env))
      (compPost (model X.prog X.w) X.A (XE X E) use QQ (.ref s2.heap.objs.size) s3.heap.objs.size) { s3 with heap := h1, toks := s3.toks + ([] : List (Str × Value)).length } := by
    have stat : ∀ {H' : Hp}, (∀ b ∈ fp, H' b = none) → ∀ b ∈ fp, FpOk (Y.xs E) [] H' b := fun hn b hb => by
      have z := I4.ok
      subst hY
      exact ⟨hn b hb, (z.exf b hb).1, z.exfs b hb, .inl hb, (z.exf b hb).2, fun p hp => absurd (show p ∈ ([] : List (Addr × Obj)) from hp) (by simp)⟩
    have hgY := hg (cloOf X.env.cells sc.names []) s3.heap.objs.size s3 (upd H2 s2.heap.objs.size (.lst [])) fp
    have htY := ht (cloOf X.env.cells sc.names []) s3.heap.objs.size s3 (upd H2 s2.heap.objs.size (.lst [])) fp
    have heY := he (cloOf X.env.cells sc.names []) s3.heap.objs.size s3 (upd H2 s2.heap.objs.size (.lst [])) fp
    refine comp_loopX (F := XE Y E) (fun ev s' hx => by subst hY; exact comp_leave tp I3 f3 hx) (fun n s' => ∃ i σ' ys H', Inv (Y.xs E) [] σ' H' s' ∧ tn i s'.heap ∧ (∀ b ∈ fp, H' b = none) ∧ W i n σ' ys H') ?_ m0
      ⟨0, _, [], _, I4.wish _, st4, fun b hb => (f3 b hb).1, w0⟩
    rintro n s5 ⟨i, σ5, ys, H5, I5, st5, fr5, w5⟩
    obtain ⟨hD, alt⟩ := turn i n σ5 ys H5 w5
    subst hY
    rcases alt with ⟨stop, qn⟩ | ⟨go, hsz, N, hN, step⟩
    · refine thn (T.done ((compCx X N' sc (cloOf X.env.cells sc.names []) s3.heap.objs.size s3 (upd H2 s2.heap.objs.size (.lst [])) fp).xs E) rfl rfl rfl hc i [] s5 σ5 H5 _ I5 (stat fr5) st5 stop) fun r s6 ⟨hr, I6⟩ => ?_
      subst hr
      obtain ⟨m6, n6, _⟩ := id I6.loc
      exact hRR _ _ s6 H5 m6 (I3.call' I6.os I6.base I6.hok I6.bare fun b hb => ⟨(f3 b hb).2.2.2.1, (f3 b hb).2.1, (f3 b hb).2.2.2.2.1, (f3 b hb).2.2.2.2.2⟩) n6 (fC _ I6.free) qn
    · refine thn (T.item ((compCx X N' sc (cloOf X.env.cells sc.names []) s3.heap.objs.size s3 (upd H2 s2.heap.objs.size (.lst [])) fp).xs E) rfl rfl rfl hc i [] s5 σ5 H5 _ I5 (stat fr5) st5 go) fun r s6 ⟨u, hr, h6⟩ => ?_
      subst hr
      refine thn h6 fun _ s7 ⟨x, H7, I7, r7, y7, st7, fr7⟩ => ?_
      have I7' := I7.pinned (stat fr7) (T.obj _ _ st7)
      refine thn (hgY _ s7 σ5 H7 x u _ I7' r7 (step x H7 y7)) fun _ s8 ⟨σ8, H8, I8, q8⟩ => ?_
      refine thn (htY _ s8 σ8 H8 _ I8 q8) fun b s9 ⟨H9, I9, q9⟩ => ?_
      have again : ∀ {σ' : St} {H' : Hp} {s' : Shared} {ys' : List V} {m' : Nat}, Inv ((compCx X N' sc (cloOf X.env.cells sc.names []) s3.heap.objs.size s3 (upd H2 s2.heap.objs.size (.lst [])) fp).xs E) ([] ++ pinsAt fp s7.heap) σ' H' s' → m' < n → W (i + 1) m' σ' ys' H' →
          ∃ m, m < n ∧ ∃ i σ' ys H', Inv ((compCx X N' sc (cloOf X.env.cells sc.names []) s3.heap.objs.size s3 (upd H2 s2.heap.objs.size (.lst [])) fp).xs E) [] σ' H' s' ∧ tn i s'.heap ∧ (∀ b ∈ fp, H' b = none) ∧ W i m σ' ys H' := fun {σ' H' s' ys' m'} I' hm w' => by
        refine ⟨m', hm, i + 1, σ', ys', H', I'.unpinned, T.keep _ _ _ st7 fun b hb o z => (I'.pin (b, o) (List.mem_append_right _ (List.mem_append_right _ (mem_pinsAt hb z)))).1, fun b hb => ?_, w'⟩
        obtain ⟨o, z, d⟩ := T.obj _ _ st7 b hb
        exact (I'.pin (b, o) (List.mem_append_right _ (List.mem_append_right _ (mem_pinsAt hb z)))).2.1
      cases b with
      | false =>
        rw [if_neg Bool.false_ne_true] at q9 ⊢
        obtain ⟨m', hm, w'⟩ := hN _ _ _ q9
        exact again I9 hm w'
      | true =>
        rw [if_pos rfl] at q9 ⊢
        refine thn (heY _ s9 σ8 H9 _ I9 q9) fun xv s10 ⟨v, H10, I10, r10, hD10, w10⟩ => ?_
        obtain ⟨m', hm, w'⟩ := hN _ _ _ w10
        have q10 : rAppend (.ref s2.heap.objs.size) [v] H10 fun _ H' => H' = upd H10 s2.heap.objs.size (.lst (ys ++ [v])) := ⟨_, ys, v, rfl, rfl, hD10, hsz, rfl⟩
        refine thn (mt_append _ s10 σ8 H10 _ _ _ _ _ I10 (show RelV (.ref s2.heap.objs.size) (.ref s2.heap.objs.size) from rfl) (.cons r10 .nil) q10) fun _ s11 ⟨_, H11, I11, _, e11⟩ => ?_
        rw [e11] at I11
        exact again I11 hm w'
  exact codeAny_compStart_list loop (T.self _ 0 _ _ _ st4 loop)
theorem pe_lcompX (hc : X.calm = true) (tp : Top X L) (S : CompSc X.env.scope X.N N' src sc) (hi : PI (X.xs E) target iter wi)
    (hg : ∀ cl C s H fp, PG ((compCx X N' sc cl C s H fp).xs E) target g) (ht : ∀ cl C s H fp, PIfs ((compCx X N' sc cl C s H fp).xs E) ifs tc) (he : ∀ cl C s H fp, PE ((compCx X N' sc cl C s H fp).xs E) elt te)
    (hs : ∀ x, foldedSetIterable iter X.env x = pure x := by intro _; rfl) :
    PE (X.xs E) (.ListComp elt [⟨target, iter, ifs, 0⟩] sc pos) (tComp src wi g tc te) := by
  intro pins s σ H Q I h
  rw [eval_ListComp]
  refine wpAny_comprehension_free (use := none) rfl hs (closureFor_clo fun y hy hk => I.ok.has y.1 (S.free y hy hk)) S.kind (fun y hy hl => by rw [← hl]; exact S.uniq y hy) ?_
  refine thn (hi pins s σ H _ I h) fun v s1 h1 => thn h1 fun itv s2 h2 => ?_
  obtain ⟨it, fp, tn, J, H2, z, I2, T, st2, f2, hW⟩ := h2
  subst z
  refine comp_blockX (Q := Q) (QQ := EP (X.xs E) pins σ Q) (use := none) hc tp S hg ht he I2.unwish T st2 f2 hW ?_
  intro D C s5 H' m I5 n5 fC q
  refine ⟨m, n5, fun h' sb => ⟨.ref D, H', ?_, rfl, q⟩⟩
  exact (I5.turned (t' := s5.toks) (fun b o hb z => (sb.2 b hb).trans z) fC.1 fC.2.1 fC.2.2.2.1 fC.2.2.2.2.1 fC.2.2.2.2.2).wish _
theorem ps_setCompX {i : Nat} {x : Str} {pos' spos : Pos} (hN : X.N.Nodup) (hi' : X.N[i]? = some x) (hx : Loc X.env.scope x) (hsw : swapsWith (.ListComp elt [⟨target, iter, ifs, 0⟩] sc pos) (some (.Name x pos')) spos.line X.env = pure true)
    (hc : X.calm = true) (tp : Top X L) (S : CompSc X.env.scope X.N N' src sc) (hi : PI (X.xs E) target iter wi)
    (hg : ∀ cl C s H fp, PG ((compCx X N' sc cl C s H fp).xs E) target g) (ht : ∀ cl C s H fp, PIfs ((compCx X N' sc cl C s H fp).xs E) ifs tc) (he : ∀ cl C s H fp, PE ((compCx X N' sc cl C s H fp).xs E) elt te)
    (hf : X.fn x = true ∨ X.env.scope.names.lookup x = some .local := by first | exact .inl rfl | exact .inr rfl | assumption)
    (hs : ∀ x, foldedSetIterable iter X.env x = pure x := by intro _; rfl) :
    PS (X.xs E) (.Assign [.Name x pos'] (.ListComp elt [⟨target, iter, ifs, 0⟩] sc pos) spos) (tAsg (tComp src wi g tc te) (gName i)) := by
  intro pins s σ H D I h
  rw [exec_Assign_Name_used _ _ _ _ hsw]
  refine wpAny_bind (wpAny_standAt (wpAny_bind ?_))
  show wpAny _ _ (comprehension _ _ _ _ _ _ _ _ >>= _) _ _ s
  refine wpAny_bind (wpAny_comprehension_free (use := some (assign (.Name x pos') X.env)) rfl hs (closureFor_clo fun y hy hk => I.ok.has y.1 (S.free y hy hk)) S.kind (fun y hy hl => by rw [← hl]; exact S.uniq y hy) ?_)
  refine thn (hi pins s σ H _ I h) fun v s1 h1 => thn h1 fun itv s2 h2 => ?_
  obtain ⟨it, fp, tn, J, H2, z, I2, T, st2, f2, hW⟩ := h2
  subst z
  refine comp_blockX (Q := fun y H' => D.nx (σ.set i (some y)) H') (use := some (assign (.Name x pos') X.env)) hc tp S hg ht he I2.unwish T st2 f2 hW ?_
  intro D' C s5 H' m I5 n5 fC q
  refine wpAny_assign_Name (store_ok2 I5 hN hi' hx (show RelV (.ref D') (.ref D') from rfl) (fun s6 I6 hsb => ?_) hf)
  obtain ⟨a, sb, ha⟩ := hsb
  have hCa : C ≠ a := by
    rcases ha with z | z
    · rw [z]; exact fC.2.1
    · exact fun z' => fC.2.2.2.2.1 x a z z'.symm
  refine ⟨m, n5.sameBut sb hCa, fun h' sb' => ?_⟩
  refine wpAny_pure (wpAny_pure ?_)
  exact ⟨_, H', (I6.turned (t' := s6.toks) (fun b o hb z => (sb'.2 b hb).trans z) fC.1 fC.2.1 fC.2.2.2.1 fC.2.2.2.2.1 fC.2.2.2.2.2).wish _, q⟩
end
end L2
set_option maxHeartbeats 4000000
namespace L2
open PySem PySem.Spec PyProof.Rows
section
variable {X : Cx} {pins : List (Addr × Obj)} {σ : St} {H : Hp} {s : Shared}
theorem drop_ok {M : Model} {A : Around} {E2 : Value → Shared → Prop} {i : Nat} {n : Str} {pos : Pos} {Q : Unit → Shared → Prop} (I : Inv X pins σ H s) (hN : X.N.Nodup) (hi : X.N[i]? = some n) (hk : X.env.scope.names.lookup n = some .local)
    (q : ∀ s', Inv X pins (σ.set i none) H s' → Q () s') : wpAny M A (do bindName X.env n .none; unbindBehindTheSuite X.env n pos) Q E2 s := by
  refine wpAny_bind (wpAny_bindName (store_ok I hN hi (.inl hk) (show RelV .non .none from rfl) (fun s1 I1 => ?_) (.inr hk)))
  have hiσ : i < σ.length := by rw [I.len]; exact (List.getElem?_eq_some_iff.mp hi).1
  obtain ⟨m, hn, hl⟩ := id I1.loc
  obtain ⟨u, ru, lk⟩ := hl i n .non hi (List.getElem?_set_self hiσ) (.inl hk)
  have hv : m n = some u := by
    rcases lk with ⟨_, z⟩ | ⟨z, _⟩
    · exact z
    · have hk' : X.env.kindOf n = some .local := hk
      rw [hk'] at z
      rcases z with z | z <;> cases z
  have hp : (X.env.scope.kind == .class || (X.env.scope.kind == .module && X.env.locals != X.env.globals)) = false := by rw [I.ok.kind]; rfl
  unfold unbindBehindTheSuite
  refine wpAny_onRaise (wpAny_unbindName_local hk hn hv hp fun h' u' hn' hs => q _ ?_)
  obtain ⟨oL, _, _, hoL, _⟩ := id hn
  have below : ∀ b o, X.s₀.heap.get? b = some o → b ≠ X.env.locals := fun b o z => Nat.ne_of_lt (Nat.lt_of_lt_of_le (Heap.lt_size z) I1.ok.above)
  refine ⟨I1.ok, I1.os, I1.bare, ⟨fun b o z nn hb hx => (hs.2 b (below b o z)).trans (I1.base.keep b o z nn hb hx), fun b o z nn hb hx => ?_, I1.base.free, fun b o z hx => ?_, I1.base.tups, I1.base.frzs, I1.base.tbls⟩, ⟨_, hn', fun j y v' e1 e2 e3 => ?_⟩, fun y c z => ?_, I1.free, I1.freeC, fun p hp' => ?_, fun b ob z => ?_, by simpa using I.len⟩
  · obtain ⟨sl, z1⟩ := I1.base.slot b o z nn hb hx
    exact ⟨sl, (hs.2 b (below b o z)).trans z1⟩
  · obtain ⟨o', z1⟩ := I1.base.there b o z hx
    exact ⟨o', (hs.2 b (below b o z)).trans z1⟩
  · have hj : j ≠ i := fun z => by
      rw [z, List.getElem?_set_self hiσ] at e2
      cases e2
    rw [List.getElem?_set_ne (Ne.symm hj)] at e2
    obtain ⟨u2, r2, lk2⟩ := hl j y v' e1 (by rw [List.getElem?_set_ne (Ne.symm hj)]; exact e2) e3
    refine ⟨u2, r2, ?_⟩
    have hyn : y ≠ n := fun z => hj (nodup_ix hN e1 (z ▸ hi))
    rcases lk2 with ⟨k, z⟩ | ⟨k, c, z1, z2⟩
    · exact .inl ⟨k, by simp [hyn, z]⟩
    · exact .inr ⟨k, c, z1, z2.sameBut hs (I1.cne y c z1)⟩
  · obtain ⟨w', z1⟩ := I1.cell y c z
    exact ⟨w', z1.sameBut hs (I1.cne y c z)⟩
  · obtain ⟨z1, z2, z3, z4, z5⟩ := I1.pin p hp'
    exact ⟨(hs.2 p.1 z3).trans z1, z2, z3, z4, z5⟩
  · refine (I1.hok b ob z).stay (fun c w' hc z1 => (hs.2 c ?_).trans z1) (fun _ z1 => z1) fun _ _ z1 => z1
    rintro rfl
    rcases hc with rfl | hc
    · rw [I1.free] at z; cases z
    · rw [I1.free] at hc; cases hc
end
abbrev Cx.bear (X : Cx) (pins : List (Addr × Obj)) : Cx := { X with pn := X.pn ++ pins }
abbrev Cx.inx (X : Cx) (e : Addr) : Cx := { X with A := X.A.mark (some (.ref e)), calm := false, xe := fun _ _ => False }
section
variable {X : Cx} {pins : List (Addr × Obj)} {σ : St} {H : Hp} {s : Shared}
theorem Inv.bear (I : Inv X pins σ H s) : Inv (X.bear pins) [] σ H s :=
  ⟨⟨I.ok.mod, I.ok.kind, I.ok.glob, I.ok.blt, I.ok.above, I.ok.inj, I.ok.has, I.ok.cab, I.ok.hd, I.ok.frames, I.ok.stk, I.ok.exf, I.ok.bs, I.ok.bsz, I.ok.noex, I.ok.exfs, I.ok.funs, I.ok.frf⟩, I.os, I.bare, I.base, I.loc, I.cell, I.free, I.freeC, fun p hp => I.pin p (by simpa using hp), I.hok, I.len⟩
theorem Inv.unbear (I : Inv (X.bear pins) [] σ H s) : Inv X pins σ H s :=
  ⟨⟨I.ok.mod, I.ok.kind, I.ok.glob, I.ok.blt, I.ok.above, I.ok.inj, I.ok.has, I.ok.cab, I.ok.hd, I.ok.frames, I.ok.stk, I.ok.exf, I.ok.bs, I.ok.bsz, I.ok.noex, I.ok.exfs, I.ok.funs, I.ok.frf⟩, I.os, I.bare, I.base, I.loc, I.cell, I.free, I.freeC, fun p hp => I.pin p (by simpa using hp), I.hok, I.len⟩
theorem Inv.inx (I : Inv X pins σ H s) (e : Addr) : Inv (X.inx e) pins σ H s :=
  ⟨⟨I.ok.mod, I.ok.kind, I.ok.glob, I.ok.blt, I.ok.above, I.ok.inj, I.ok.has, I.ok.cab, (fun z => absurd (show false = true from z) (by decide)), I.ok.frames, I.ok.stk, I.ok.exf, I.ok.bs, I.ok.bsz, I.ok.noex, I.ok.exfs, I.ok.funs, I.ok.frf⟩, I.os, I.bare, I.base, I.loc, I.cell, I.free, I.freeC, I.pin, I.hok, I.len⟩
theorem Inv.outx {e : Addr} (ok : X.Ok) (I : Inv (X.inx e) pins σ H s) : Inv X pins σ H s := ⟨ok, I.os, I.bare, I.base, I.loc, I.cell, I.free, I.freeC, I.pin, I.hok, I.len⟩
end
def tTry (K : PySem.W.Frag) (tb : TS) (E : XK) (Cc : Addr) (i : Nat) (ts : TS) : TS := fun D σ H => tb D σ H ∧ ∀ (σ' : St) (C e : Addr) (od : Option Addr) (H' : Hp), σ'.length = σ.length → H' e = some (xO e C od) → E (.ref C) (some e) H' →
  PySem.W.exmOne K (.ref C) (.ref Cc) = some true ∧ ts { nx := fun σ2 H2 => D.nx (σ2.set i none) H2, rt := D.rt, bk := fun σ2 H2 => D.bk (σ2.set i none) H2, ct := fun σ2 H2 => D.ct (σ2.set i none) H2 } (σ'.set i (some (.ref e))) H'
theorem ps_try {X : Cx} {E : XK} {L Cc : Addr} {i : Nat} {n x : Str} {body suite : List Stmt} {b0 : Stmt} {np hpos pos : Pos} {tb ts : TS} (tp : Top X L) (hN : X.N.Nodup) (hi : X.N[i]? = some n) (hk : X.env.scope.names.lookup n = some .local) (hg : Gl X x) (hm : X.mg x = some (.ref Cc))
    (hb : ∀ pins, PSs ((X.bear pins).xs E) body tb) (hs : ∀ e, PSs (X.inx e) (b0 :: suite) ts) (hdb : (x == ("__debug__" : Str)) = false := by decide) :
    PS X (.Try body [.ExceptHandler (some (.Name x np)) (some n) (b0 :: suite) hpos] [] [] pos) (tTry X.K tb E Cc i ts) := by
  intro pins s σ H D I h
  obtain ⟨h1, h2⟩ := h
  have back : ∀ {f : Flow} {s1 : Shared}, SP ((X.bear pins).xs E) [] D f s1 → SP X pins D f s1 := fun {f s1} z => by
    cases f with
    | next => obtain ⟨σ', H', I', q⟩ := z; exact ⟨σ', H', I'.unwish.unbear, q⟩
    | brk => obtain ⟨σ', H', I', q⟩ := z; exact ⟨σ', H', I'.unwish.unbear, q⟩
    | cont => obtain ⟨σ', H', I', q⟩ := z; exact ⟨σ', H', I'.unwish.unbear, q⟩
    | ret u => obtain ⟨v, σ', H', I', r, q⟩ := z; exact ⟨v, σ', H', I'.unwish.unbear, r, q⟩
  refine wpAny_Try_except (wpAny_mono (hb pins [] s σ H D (I.bear.wish _) h1) (fun f s1 z => ?_) fun ev s1 hx => ?_)
  · cases f with
    | next => exact wpAny_execs_nil (back z)
    | brk => exact back (f := .brk) z
    | cont => exact back (f := .cont) z
    | ret u => exact back (f := .ret u) z
  obtain ⟨e, C, od, σ1, H1, rfl, I1, f1, hE⟩ := hx
  have tpb : Top (X.bear pins) L := ⟨tp.ex, tp.fr⟩
  have hlen : σ1.length = σ.length := by rw [I1.len]; exact I.len.symm
  obtain ⟨hm1, hts⟩ := h2 σ1 C e od H1 hlen f1.at_ hE
  refine note_go (X := X.bear pins) I1.ok.frames tpb tp.fr I1 f1 fun s2 T I2 f2 => ?_
  refine flight_go I2 f2 none fun s3 I3 f3 => ?_
  refine wpAny_handleBy_cons (codeAny_handlers_test ?_) (by intro z; cases z)
  have I3m : Inv (X.inx e) pins σ1 H1 s3 := I3.unbear.inx e
  refine ld_glob (X := X.inx e) I3m hg hm ?_ hdb
  obtain ⟨⟨fl, sl, ho4⟩, _⟩ := I3.hok e _ f3.at_
  have LT : PySem.W.Looks (model X.prog X.w) s3.heap (typeOf (.ref e)) (.ref C) := (PySem.W.Looks.ld ho4).andThen .now
  refine (PySem.W.exm_one I3m.kIn LT hm1).here ?_
  refine codeAny_handlers_suite_as ?_
  refine flight_go I3 f3 none fun s5 I5 f5 => ?_
  refine store_ok (X := X.inx e) (I5.unbear.inx e) hN hi (.inl hk) (show RelV (.ref e) (.ref e) from rfl) (fun s6 I6 => ?_) (.inr hk)
  refine wpAny_mono (hs e pins s6 _ H1 _ I6 hts) (fun f s7 z => ?_) fun _ _ z => False.elim z
  cases f with
  | next => obtain ⟨σ', H', I', q⟩ := z; exact drop_ok (I'.outx I.ok) hN hi hk fun s8 I8 => ⟨_, H', I8, q⟩
  | brk => obtain ⟨σ', H', I', q⟩ := z; exact drop_ok (I'.outx I.ok) hN hi hk fun s8 I8 => ⟨_, H', I8, q⟩
  | cont => obtain ⟨σ', H', I', q⟩ := z; exact drop_ok (I'.outx I.ok) hN hi hk fun s8 I8 => ⟨_, H', I8, q⟩
  | ret u => obtain ⟨v, σ', H', I', r, q⟩ := z; exact drop_ok (I'.outx I.ok) hN hi hk fun s8 I8 => ⟨v, _, H', I8, r, q⟩
end L2
set_option maxHeartbeats 4000000
namespace L2
open PySem PySem.Spec PyProof.Rows
section
variable {elt t1 i1 t2 i2 : Expr} {f1 f2 : List Expr} {sc : Scope} {pos : Pos}
section
variable {it acc : Value} {env : Env} {prog : Program} {w : World} {A : Around} {s : Shared} {R : Result → Shared → Prop}
end
end
section
variable {X : Cx} {elt t1 i1 t2 i2 : Expr} {f1 f2 : List Expr} {sc : Scope} {pos : Pos} {wi wi2 : TI} {g g2 : TG} {tc tc2 : TT} {te : TE} {N' : List Str} {src : List (Option Nat)}
end
end L2
set_option maxHeartbeats 4000000
namespace HT
open PySem PyProof.Rows
open PySem.AutoSeq1 (wpAny_loadPart')
section
variable {prog : Program} {w : World} {A : Around} {E : Value → Shared → Prop} {s : Shared}
end
end HT
namespace L2
open PySem PySem.Spec PyProof.Rows
section
variable {X : Cx}
theorem op_neLen (hu : X.A.units < cLine) : OpR X (compareOp .NotEq) (fun x y H Q => ∃ a b xs ys, x = .ref a ∧ y = .ref b ∧ SqL X.K H a xs ∧ SqL X.K H b ys ∧ xs.length ≠ ys.length ∧ Q (.bl true) H) := by
  intro pins s σ H x y v u Q I rx ry h
  obtain ⟨a, b, xs, ys, rfl, rfl, ha, hb, hl, q⟩ := h
  cases rx; cases ry
  obtain ⟨its, r1, p1, _⟩ := I.list ha
  obtain ⟨its', r2, p2, _⟩ := I.list hb
  exact SeqAt.RcNeAt.lists_lengths p1.isList p2.isList (by simp [← r1.length, ← r2.length, hl]) hu _ _ _ _ ⟨.bl true, H, I, rfl, q⟩
end
end L2
set_option maxHeartbeats 4000000
namespace L2
open PySem PySem.Spec PyProof.Rows
theorem for_str {x : Str} {g : TG} {tb : TS} {D : Ends} {σ : St} {H : Hp} (Pv : Nat → St → Hp → Prop) (h0 : Pv 0 σ H)
    (hs : ∀ i c σ H, x.cps[i]? = some c → Pv i σ H → g (.str (sgn c)) σ H fun σ2 H2 => tb { D with nx := Pv (i + 1), ct := Pv (i + 1), bk := D.nx } σ2 H2) (hd : ∀ σ H, Pv x.cps.size σ H → D.nx σ H) :
    ∃ W : Nat → Nat → St → Hp → Prop, (∃ m, W 0 m σ H) ∧ ∀ i m σ H, W i m σ H →
      ((Its x).stop i H ∧ D.nx σ H) ∨ ((Its x).go i H ∧ ∃ N : St → Hp → Prop, (∀ σ' H', N σ' H' → ∃ m', m' < m ∧ W (i + 1) m' σ' H') ∧ ∀ v H', (Its x).yld i H v H' → g v σ H' fun σ2 H2 => tb { D with nx := N, ct := N, bk := D.nx } σ2 H2) := by
  refine ⟨fun i m σ H => m = x.cps.size - i ∧ i ≤ x.cps.size ∧ Pv i σ H, ⟨x.cps.size, by simp, Nat.zero_le _, h0⟩, ?_⟩
  rintro i m σ H ⟨rfl, hi, p⟩
  by_cases hlt : i < x.cps.size
  · refine .inr ⟨hlt, Pv (i + 1), fun σ' H' p' => ⟨x.cps.size - (i + 1), by omega, rfl, hlt, p'⟩, fun v H' y => ?_⟩
    obtain ⟨e, c, hc, rfl⟩ := y
    subst e
    exact hs i c σ _ hc p
  · have e : i = x.cps.size := by omega
    subst e
    exact .inl ⟨Nat.le_refl _, hd σ H p⟩
section
variable {X : Cx}
def rSlS : V → Option Int → Option Int → Hp → VK → Prop := fun x lo hi H Q => ∃ z, x = .str z ∧ z.length ≤ sizeLine ∧ Q (.str (Txt.slice z lo hi)) H
theorem sl_str : SlR X rSlS := by
  intro pins s σ H x v vl vu lo hi sl Q I rx hs pl pu h
  obtain ⟨z, rfl, hz, q⟩ := h
  obtain ⟨t, rfl⟩ := rx
  refine ⟨"str", _, F.slot_str_getitem.lookup, typeIs_str _ _ _, ?_⟩
  have fin : ∀ (l u : Option (Int × Tok)), l.map (·.1) = lo → u.map (·.1) = hi → s.heap.IsSlice sl l u none → wpAny (model X.prog X.w) X.A (getItem (.str z t) (.ref sl)) (EP X pins σ Q) X.xe s := fun l u e1 e2 hsl => by
    subst e1 e2
    exact wpAny_getItem_str_slice hsl rfl (post_val_or_str ⟨Nat.le_trans (Txt.slice_le z _ _) hz, fun t' k => ⟨.str (Txt.slice z (l.map (·.1)) (u.map (·.1))), H, I.tok _, ⟨_, rfl⟩, q⟩⟩)
  cases pl with
  | none =>
    cases pu with
    | none => exact fin none none rfl rfl hs
    | int j tj => exact fin none (some (j, tj)) rfl rfl hs
  | int i ti =>
    cases pu with
    | none => exact fin (some (i, ti)) none rfl rfl hs
    | int j tj => exact fin (some (i, ti)) (some (j, tj)) rfl rfl hs
def rInsert : V → List V → Hp → VK → Prop := fun x vs H Q => ∃ l xs k y, x = .ref l ∧ vs = [.int k, y] ∧ H l = some (.lst xs) ∧ 0 ≤ k ∧ k < 1000000 ∧ xs.length < sizeLine ∧ Q .non (upd H l (.lst (xs.take k.toNat ++ y :: xs.drop k.toNat)))
theorem mt_insert : MtM X "list.insert" rInsert := by
  intro pins s σ H x vs v us Q I rx rv h
  obtain ⟨l, xs, k, y, rfl, rfl, hH, h0, h1, hz, q⟩ := h
  cases rx
  obtain ⟨u1, u2, rfl, ⟨t, rfl⟩, ru⟩ := vals2 rv
  obtain ⟨z, its, n, r, hl, e⟩ := I.lstM hH
  refine call_meets F.slot_list_insert ⟨_, e, rfl⟩ F.entry_list_insert (F.args_list_insert_3 _ _ _) (PySem.AutoSeq1.list_insert_list_int_val_1 l its.toArray n k t u2 (by rw [fitsIndex_both (by omega) (by omega)]; decide) (by rw [List.size_toArray]; omega)) ⟨e, ?_⟩
  refine ⟨.non, _, I.lset (its' := its.take k.toNat ++ u2 :: its.drop k.toNat) hH e ?_ ((r.take _).append (.cons ru (r.drop _))) ?_, rfl, q⟩
  · have hm : ∀ a : List Value, a.take (min k.toNat a.length) = a.take k.toNat ∧ a.drop (min k.toNat a.length) = a.drop k.toNat := fun a => by
      by_cases c : k.toNat ≤ a.length
      · rw [Nat.min_eq_left c]; exact ⟨rfl, rfl⟩
      · rw [Nat.min_eq_right (by omega), List.take_of_length_le (Nat.le_refl _), List.take_of_length_le (by omega), List.drop_of_length_le (Nat.le_refl _), List.drop_of_length_le (by omega)]; exact ⟨rfl, rfl⟩
    show ((its.toArray.extract 0 (if k < 0 then (k + ((its.toArray.size : Nat) : Int)).toNat else min k.toNat its.toArray.size)).push u2 ++ its.toArray.extract (if k < 0 then (k + ((its.toArray.size : Nat) : Int)).toNat else min k.toNat its.toArray.size)) = _
    rw [if_neg (by omega), List.size_toArray]
    apply Array.toList_inj.mp
    rw [Array.toList_append, Array.toList_push, Array.toList_extract, Array.toList_extract]
    simp only [List.extract_eq_take_drop, List.drop_zero, Nat.sub_zero, List.size_toArray]
    rw [(hm its).1, (hm its).2, List.take_of_length_le (l := List.drop k.toNat its) (by rw [List.length_drop]; omega)]
    simp
  · rw [List.length_append, List.length_cons, List.length_take, List.length_drop]
    omega
end
end L2
set_option maxHeartbeats 4000000
namespace My
open PySem L2 CT
abbrev sIsWord : Stmt := top 9
abbrev sIsNum : Stmt := top 10
abbrev sReadNum : Stmt := top 11
abbrev sReadWord : Stmt := top 12
theorem scIsWord : FnScope ["text"] ["text"] (defScope sIsWord) := ⟨rfl, rfl, rfl, by decide +kernel, rfl, by decide +kernel, by decide +kernel⟩
theorem scIsNum : FnScope ["text", "figures"] ["text"] (defScope sIsNum) := ⟨rfl, rfl, rfl, by decide +kernel, rfl, by decide +kernel, by decide +kernel⟩
theorem scReadNum : FnScope ["text"] ["text"] (defScope sReadNum) := ⟨rfl, rfl, rfl, by decide +kernel, rfl, by decide +kernel, by decide +kernel⟩
theorem scReadWord : FnScope ["text"] ["text"] (defScope sReadWord) := ⟨rfl, rfl, rfl, by decide +kernel, rfl, by decide +kernel, by decide +kernel⟩
structure Blt2 (mg : Str → Option Value) : Prop where
  str : mg "str" = none
  int : mg "int" = none
  all : mg "all" = none
  any : mg "any" = none
  min : mg "min" = none
  sorted : mg "sorted" = none
  set : mg "set" = none
  bool : mg "bool" = none
def figures : Str := "0123456789"
structure Cst (mg : Str → Option Value) : Prop where
  lw : ∃ t, mg "LONGEST_WORD" = some (.int 8 t)
  le : ∃ t, mg "LETTERS" = some (.str letters t)
  fi : ∃ t, mg "FIGURES" = some (.str figures t)
structure Wid (mg : Str → Option Value) : Prop where
  wr : ∃ t, mg "WIDEST_ROW" = some (.int 6 t)
def allIn (z x : Str) : Bool := x.cps.toList.all fun c => decide (c ∈ z.cps.toList)
def wordB (x : Str) : Bool := decide (1 ≤ (x.length : Int)) && decide ((x.length : Int) ≤ 8) && allIn letters x
def numB (x : Str) : Bool := if x = "0" then true else if Txt.removeprefix x "-" = "" ∨ Txt.startswith (Txt.removeprefix x "-") "0" = true then false else allIn figures (Txt.removeprefix x "-")
def spIsWord : Sp := fun vs H Q _ => ∃ x, vs = [.str x] ∧ x.length ≤ 1000000 ∧ ∀ H', Same H H' → Q (.bl (wordB x)) H'
def spIsNum : Sp := fun vs H Q _ => ∃ x, vs = [.str x] ∧ x.length ≤ 1000000 ∧ ∀ H', Same H H' → Q (.bl (numB x)) H'
theorem big {n : Nat} (h : n ≤ 1000000) : n ≤ sizeLine := Nat.le_trans h (by decide)
theorem take_all {x : Str} {p : Nat → Bool} : ∀ {i : Nat}, i = x.cps.size → ((x.cps.toList.take i).map p).all id = x.cps.toList.all p := fun {i} e => by
  subst e
  rw [List.take_of_length_le (by simp), List.all_map]
  rfl
theorem take_snoc {l : List Nat} {i : Nat} {c : Nat} (h : l[i]? = some c) (p : Nat → Bool) : (l.take (i + 1)).map p = (l.take i).map p ++ [p c] := by
  rw [List.take_add_one, h, List.map_append]
  rfl
theorem rd_allin {K : PySem.W.Frag} {z x : Str} {σ : St} {H : Hp} {Q : VK} {i : Nat} (hi : σ[i]? = some (some (.str x))) (hx : x.length ≤ 1000000) (q : ∀ H', Same H H' → Q (.bl (allIn z x)) H') :
    tCB (fun xs H Q => ∃ (p : Addr) (bs : List Bool), xs = [.ref p] ∧ SqL K H p (bs.map V.bl) ∧ Q (.bl (bs.all id)) H)
      (tCons (tComp [none] (iStr (tVar i)) (gName 0) tNoIf (tOp (fun x y H Q => ∃ i j, x = .str i ∧ y = .str j ∧ Q (.bl (!(Builtin.Str.occurrences j i 0 j.length 1).isEmpty)) H) (tVar 0) (tC (.str z)))) tNil) σ H Q := by
  refine ⟨_, hi, x, rfl, fun D hD => ?_⟩
  refine comp_str (fun i σ ys H' => (∃ o, σ = [o]) ∧ ys = ((x.cps.toList.take i).map fun c => decide (c ∈ z.cps.toList)).map V.bl ∧ H' D = some (.lst ys) ∧ Same H H') ⟨⟨none, rfl⟩, rfl, upd_same, same_new hD _⟩ ?_ (big hx) ?_ ?_
  · rintro i σ ys H' _ ⟨_, rfl, h, _⟩
    refine ⟨h, ?_⟩
    rw [List.length_map, List.length_map, List.length_take]
    exact Nat.min_le_left _ _
  · rintro i c σ ys H' hc ⟨⟨o, rfl⟩, rfl, h, sm⟩
    refine ⟨_, rfl, sgn c, z, rfl, rfl, h, ⟨_, rfl⟩, ?_, ?_, fun b u eb => ?_⟩
    · have hc' : x.cps.toList[i]? = some c := by simpa using hc
      rw [take_snoc hc', List.map_append]
      have fo : (!(Builtin.Str.occurrences z (sgn c) 0 z.length 1).isEmpty) = decide (c ∈ z.cps.toList) := PySem.StrLaws.found_one z c
      rw [fo]
      rfl
    · exact upd_same
    · by_cases hb : b = D
      · subst hb
        exact absurd eb (by rw [hD]; simp)
      · rw [upd_ne hb]; exact sm _ _ eb
  · rintro σ ys H' ⟨_, rfl, h, sm⟩
    refine ⟨D, _, rfl, SqL.of h, ?_⟩
    rw [take_all rfl]
    exact q H' sm
section
variable {P : Program} {w : World} {K : PySem.W.Frag} {mg : Str → Option Value} {base : Heap} {f g1 g2 : Addr} {fd d1 d2 : FuncData}
theorem ok_isword (B : Blt mg) (B2 : Blt2 mg) (Z : Cst mg) (F : Fun K "is_word" "is_word" sIsWord f fd) : FnOk P w K mg base CX0 1 f fd ["text"] spIsWord := by
  refine F.ok scIsWord (fun vs H Q E h => ?_) (fun cdv A outer s H vs Q E hr h => ?_)
  · obtain ⟨x, rfl, _⟩ := h
    rfl
  obtain ⟨x, rfl, hx, q⟩ := h
  obtain ⟨t8, m8⟩ := Z.lw
  obtain ⟨tl, ml⟩ := Z.le
  refine ⟨_, pss_one (ps_ret (pe_and (pe_chain op_le op_le pe_int (pe_callB call_len_str rfl B.len PySem.boot_len (pa_cons (pv 0) pa_nil)) (pe_glob (v := .int 8) rfl m8 ⟨t8, rfl⟩))
    (pe_one (pe_callB (call_allL rfl) rfl B2.all PyProof.Rows.boot_all (pa_cons
      (pe_lcomp (N' := ["sign"]) (src := [none]) rfl (CompSc.ofB (by kernel_rfl)) (pi_str (pv 0)) (fun cl C s H fp => pgl (i := 0)) (fun cl C s H fp => pifs_nil)
        (fun cl C s H fp => pe_cmpR op_in_str (pvl 0) (pe_glob (v := .str letters) glc ml ⟨tl, rfl⟩) rfl)) pa_nil))))), ?_⟩
  refine ⟨_, rfl, x, rfl, big hx, _, _, rfl, rfl, _, rfl, ?_⟩
  refine ite2 (fun c1 => ?_) (fun c1 => ⟨false, rfl, ?_⟩)
  · have h1 : (1 : Int) ≤ (x.length : Int) := of_decide_eq_true c1
    refine ⟨_, _, rfl, rfl, _, rfl, ?_⟩
    refine ite2 (fun c2 => ?_) (fun c2 => ?_)
    · have h2 : (x.length : Int) ≤ 8 := of_decide_eq_true c2
      refine rd_allin (K := K) rfl hx fun H' sm => ?_
      have e : wordB x = allIn letters x := by unfold wordB; rw [decide_eq_true h1, decide_eq_true h2]; rfl
      rw [← e]
      exact q H' sm
    · have e : wordB x = false := by
        unfold wordB
        rw [show decide ((x.length : Int) ≤ 8) = false from Bool.eq_false_iff.mpr c2]
        simp
      rw [← e]
      exact q H (Same.refl H)
  · refine ite2 (fun c => absurd c (by decide)) (fun _ => ?_)
    have e : wordB x = false := by
      unfold wordB
      rw [show decide ((1 : Int) ≤ (x.length : Int)) = false from Bool.eq_false_iff.mpr c1]
      simp
    rw [← e]
    exact q H (Same.refl H)
theorem ok_isnum (B2 : Blt2 mg) (Z : Cst mg) (F : Fun K "is_number_text" "is_number_text" sIsNum f fd) : FnOk P w K mg base CX0 1 f fd ["text"] spIsNum := by
  refine F.ok scIsNum (fun vs H Q E h => ?_) (fun cdv A outer s H vs Q E hr h => ?_)
  · obtain ⟨x, rfl, _⟩ := h
    rfl
  obtain ⟨x, rfl, hx, q⟩ := h
  obtain ⟨tf, mf⟩ := Z.fi
  refine ⟨_, pss_cons (ps_if (pt_cmpR op_eq (pv 0) pe_str (nomark _)) (pss_one (ps_ret pe_bl)) pss_nil)
    (pss_cons (ps_set (i := 1) scIsNum.nd rfl (Or.inl rfl) (pe_bm PySem.F.plainAttrs_str PySem.F.slot_str_removeprefix PySem.F.type_str_removeprefix mt_remp (pv 0) (pa_cons pe_str pa_nil)))
    (pss_cons (ps_if (PW.pt (pw_or (pt_cmpR op_eq (pv 1) pe_str (nomark _)) (pw_or1 (pt_val (pe_bm PySem.F.plainAttrs_str PySem.F.slot_str_startswith PySem.F.type_str_startswith mt_starts (pv 1) (pa_cons pe_str pa_nil)))))) (pss_one (ps_ret pe_bl)) pss_nil)
    (pss_one (ps_ret (pe_callB (call_allL rfl) rfl B2.all PyProof.Rows.boot_all (pa_cons
      (pe_lcomp (N' := ["sign"]) (src := [none]) rfl (CompSc.ofB (by kernel_rfl)) (pi_str (pv 1)) (fun cl C s H fp => pgl (i := 0)) (fun cl C s H fp => pifs_nil)
        (fun cl C s H fp => pe_cmpR op_in_str (pvl 0) (pe_glob (v := .str figures) glc mf ⟨tf, rfl⟩) rfl)) pa_nil)))))), ?_⟩
  refine ⟨_, rfl, rfl, _, rfl, ?_⟩
  refine ite2 (fun c => ?_) (fun c => ?_)
  · have e : x = "0" := by
      have := of_decide_eq_true c
      injection this
    have e2 : numB x = true := by unfold numB; rw [if_pos e]
    rw [← e2]
    exact q H (Same.refl H)
  have n0 : x ≠ "0" := fun e => c (by rw [e]; exact decide_eq_true rfl)
  refine ⟨_, rfl, rfl, x, _, rfl, rfl, big hx, ?_⟩
  have hl : (Txt.removeprefix x "-").length ≤ 1000000 := Nat.le_trans (PyProof.Rows.len_removeprefix x "-") hx
  refine ⟨_, rfl, rfl, _, rfl, ?_⟩
  refine ite2 (fun c1 => ?_) (fun c1 => ?_)
  · have e : Txt.removeprefix x "-" = "" := by
      have := of_decide_eq_true c1
      injection this
    refine iteT ?_
    have e2 : numB x = false := by unfold numB; rw [if_neg n0, if_pos (Or.inl e)]
    rw [← e2]
    exact q H (Same.refl H)
  refine ⟨_, rfl, rfl, _, _, rfl, rfl, _, rfl, ?_⟩
  have n1 : Txt.removeprefix x "-" ≠ "" := fun e => c1 (by rw [e]; exact decide_eq_true rfl)
  refine ite2 (fun c2 => ?_) (fun c2 => ?_)
  · have e2 : numB x = false := by unfold numB; rw [if_neg n0, if_pos (Or.inr c2)]
    rw [← e2]
    exact q H (Same.refl H)
  · refine rd_allin (K := K) rfl hl fun H' sm => ?_
    have e2 : numB x = allIn figures (Txt.removeprefix x "-") := by unfold numB; rw [if_neg n0, if_neg (fun z => z.elim n1 c2)]
    rw [← e2]
    exact q H' sm
end
end My
set_option maxHeartbeats 4000000
namespace My
open PySem L2 CT
theorem len_codes (x : Str) : x.length = x.cps.toList.length := by simp [Str.length]
theorem starts_one (x : Str) (c : Nat) : Txt.startswith x ⟨#[c]⟩ = decide (x.cps.toList[0]? = some c) := by
  unfold Txt.startswith
  have z := PySem.StrLaws.subAt_one x c 0
  have e1 : (⟨#[c]⟩ : Str).length = 1 := rfl
  rw [e1] at z ⊢
  rw [Bool.eq_iff_iff, Bool.and_eq_true, decide_eq_true_eq, decide_eq_true_eq]
  exact z
theorem remp_no {x : Str} {c : Nat} (h : x.cps.toList[0]? ≠ some c) : Txt.removeprefix x ⟨#[c]⟩ = x := by
  rw [PySem.StrLaws.removeprefix_eq]
  refine if_neg fun z => h ?_
  have z' : Txt.startswith x ⟨#[c]⟩ = true := z
  rw [starts_one] at z'
  exact of_decide_eq_true z'
theorem remp_yes {x : Str} {c : Nat} {r : List Nat} (h : x.cps.toList = c :: r) : (Txt.removeprefix x ⟨#[c]⟩).cps.toList = r := by
  rw [PySem.StrLaws.removeprefix_eq, if_pos ?_]
  · have e1 : (⟨#[c]⟩ : Str).length = 1 := rfl
    show (x.cps.toList.drop (⟨#[c]⟩ : Str).length).take (x.length - (⟨#[c]⟩ : Str).length) = r
    rw [e1, len_codes, h]
    simp
  · show Txt.startswith x ⟨#[c]⟩ = true
    rw [starts_one, h]
    exact decide_eq_true rfl
theorem minus_eq : ("-" : Str) = ⟨#[45]⟩ := by decide +kernel
theorem nought_eq : ("0" : Str) = ⟨#[48]⟩ := by decide +kernel
theorem none_eq : ("" : Str) = ⟨#[]⟩ := by decide +kernel
theorem letters_list : letters.cps.toList = List.range' 97 26 := by decide +kernel
theorem figures_list : figures.cps.toList = List.range' 48 10 := by decide +kernel
theorem wordB_wrd {x : Str} (h : isW x) : wordB x = true := by
  unfold wordB allIn
  rw [decide_eq_true (by have := h.1; omega), decide_eq_true (by have := h.2.1; omega)]
  simp only [Bool.true_and, List.all_eq_true, decide_eq_true_eq]
  intro c hc
  have := h.2.2 c hc
  rw [letters_list, List.mem_range'_1]
  omega
theorem allIn_figs {x : Str} {m : Nat} (e : x.cps.toList = figs m) : allIn figures x = true := by
  unfold allIn
  rw [e]
  simp only [List.all_eq_true, decide_eq_true_eq]
  intro c hc
  have := figs_dig m c hc
  rw [figures_list, List.mem_range'_1]
  omega
theorem numB_pos {x : Str} {m : Nat} (h0 : m ≠ 0) (e : (Txt.removeprefix x "-").cps.toList = figs m) (hx : x ≠ "0") : numB x = true := by
  obtain ⟨c, r, q, nc⟩ := figs_head h0
  unfold numB
  rw [if_neg hx, if_neg, allIn_figs e]
  rintro (z | z)
  · rw [z, none_eq] at e
    rw [← e] at q
    cases q
  · rw [nought_eq, starts_one, e, q] at z
    have z' := of_decide_eq_true z
    exact nc (Option.some.inj z')
theorem numB_num (n : Int) : numB (txC (.num n)) = true := by
  cases n with
  | ofNat m =>
    by_cases h0 : m = 0
    · subst h0
      unfold numB
      exact if_pos (by decide +kernel)
    · obtain ⟨c, r, q, nc⟩ := figs_head h0
      have e := codes_pos m
      have hx : txC (.num (m : Nat)) ≠ "0" := fun z => by
        rw [z, nought_eq, q] at e
        exact nc (List.cons.inj e).1.symm
      have dc := figs_dig m c (by rw [q]; exact List.mem_cons_self)
      refine numB_pos h0 (x := txC (.num (m : Nat))) ?_ hx
      rw [minus_eq, remp_no ?_]
      · exact e
      · rw [e, q]
        intro z
        have : c = 45 := Option.some.inj z
        omega
  | negSucc m =>
    have e := codes_neg m
    refine numB_pos (Nat.succ_ne_zero m) (x := txC (.num (Int.negSucc m))) ?_ ?_
    · rw [minus_eq]
      exact remp_yes e
    · intro z
      rw [z, nought_eq] at e
      exact absurd (List.cons.inj e).1 (by decide)
theorem kit_same {K : PySem.W.Frag} {t : Value} (h : (t == t) = true) : PySem.W.kitOne K t t = some true := by
  unfold PySem.W.kitOne
  exact if_pos h
end My
set_option maxHeartbeats 4000000
namespace My
open PySem L2 CT
def allSome {α : Type} : List (Option α) → Option (List α)
  | [] => some []
  | none :: _ => none
  | some a :: r => (allSome r).map (a :: ·)
theorem allSome_some {α : Type} : ∀ {l : List (Option α)} {as : List α}, allSome l = some as ↔ l = as.map some
  | [], as => by
    constructor
    · intro h; cases (Option.some.inj h); rfl
    · intro h; cases as with
      | nil => rfl
      | cons _ _ => cases h
  | none :: l, as => by
    constructor
    · intro h; cases h
    · intro h; cases as <;> cases h
  | some a :: l, as => by
    have ih := @allSome_some α l
    constructor
    · intro h
      have h' : (allSome l).map (a :: ·) = some as := h
      cases e : allSome l with
      | none => rw [e] at h'; cases h'
      | some bs =>
        rw [e] at h'
        have : a :: bs = as := Option.some.inj h'
        rw [← this, ih.mp e]; rfl
    · intro h
      cases as with
      | nil => cases h
      | cons b bs =>
        rw [List.map_cons] at h
        obtain ⟨h1, h2⟩ := List.cons.inj h
        cases h1
        show (allSome l).map (a :: ·) = _
        rw [ih.mpr h2]; rfl
theorem allSome_none {α : Type} : ∀ {l : List (Option α)}, allSome l = none ↔ none ∈ l
  | [] => by simp [allSome]
  | none :: l => by simp [allSome]
  | some a :: l => by
    have ih := @allSome_none α l
    show (allSome l).map (a :: ·) = none ↔ _
    rw [Option.map_eq_none_iff, ih]
    simp
def valN (x : Str) : Int := (PySem.intText? x).getD 0
def NumOk (x : Str) : Prop := numB x = true → x.length ≤ 640
theorem fig_iff {x : Str} : allIn figures x = true ↔ PySem.NumText.AllDigits x.cps.toList := by
  unfold allIn
  rw [List.all_eq_true]
  have fl := figures_list
  constructor
  · intro h c hc
    have := of_decide_eq_true (h c hc)
    rw [fl, List.mem_range'] at this
    obtain ⟨i, hi, e⟩ := this
    exact ⟨by omega, by omega⟩
  · intro h c hc
    obtain ⟨h1, h2⟩ := h c hc
    refine decide_eq_true ?_
    rw [fl, List.mem_range']
    exact ⟨c - 48, by omega, by omega⟩
theorem numB_shape {x : Str} (h : numB x = true) : (x.cps.toList = [48]) ∨ ∃ c r, c ≠ 48 ∧ PySem.NumText.AllDigits (c :: r) ∧ (x.cps.toList = c :: r ∨ x.cps.toList = 45 :: c :: r) := by
  unfold numB at h
  by_cases h0 : x = "0"
  · left; rw [h0, nought_eq]
  rw [if_neg h0] at h
  by_cases h1 : Txt.removeprefix x "-" = "" ∨ Txt.startswith (Txt.removeprefix x "-") "0" = true
  · rw [if_pos h1] at h; cases h
  rw [if_neg h1] at h
  have hd := fig_iff.mp h
  right
  cases e : (Txt.removeprefix x "-").cps.toList with
  | nil =>
    refine absurd (Or.inl ?_) h1
    rw [none_eq]
    exact TX.str_ext e
  | cons c r =>
    rw [e] at hd
    have hc : c ≠ 48 := fun z => h1 (.inr (by rw [nought_eq, starts_one, e, z]; rfl))
    refine ⟨c, r, hc, hd, ?_⟩
    by_cases hm : x.cps.toList[0]? = some 45
    · right
      cases ex : x.cps.toList with
      | nil => rw [ex] at hm; cases hm
      | cons a b =>
        rw [ex] at hm
        have : a = 45 := Option.some.inj hm
        subst this
        have := remp_yes ex
        rw [← minus_eq] at this
        rw [this] at e
        rw [e]
    · left
      have := remp_no hm
      rw [← minus_eq] at this
      rw [this] at e
      exact e
theorem val_reads {x : Str} (h : numB x = true) (hl : x.length ≤ 640) : PySem.intText? x = some (valN x) := by
  have some_of : ∀ {n : Int}, PySem.intText? x = some n → PySem.intText? x = some (valN x) := fun {n} z => by unfold valN; rw [z]; rfl
  rcases numB_shape h with e | ⟨c, r, _, hd, e | e⟩
  · refine some_of (PySem.intText_digits (by rw [e]; intro c hc; have : c = 48 := by simpa using hc
                                             subst this; exact ⟨by decide, by decide⟩) (by rw [e]; simp) (Nat.le_trans hl (by decide)))
  · exact some_of (PySem.intText_digits (by rw [e]; exact hd) (by rw [e]; simp) (Nat.le_trans hl (by decide)))
  · exact some_of (PySem.intText_neg e hd (by simp) (Nat.le_trans hl (by decide)))
def Exc (CN : Addr) (H : Hp) (E : XK) : Prop := ∀ a H', Same H H' → H' a = some (xO a CN none) → E (.ref CN) (some a) H'
def spReadNumX (CN : Addr) : Sp := fun vs H Q E => ∃ x, vs = [.str x] ∧ x.length ≤ 1000000 ∧ NumOk x ∧ (numB x = true → ∀ H', Same H H' → Q (.int (valN x)) H') ∧ (numB x = false → Exc CN H E)
def NoTx (K : PySem.W.Frag) (H : Hp) (v : V) : Prop := ∃ t, TyOf K H v t ∧ PySem.W.kitOne K t (.type "str") = some false
structure ClsN (K : PySem.W.Frag) (mg : Str → Option Value) (CN : Addr) : Prop where
  ex : excInG K CN bmVE "ValueError.__new__" none = true
  mN : mg "NoText" = some (.ref CN)
section
variable {P : Program} {w : World} {K : PySem.W.Frag} {mg : Str → Option Value} {base : Heap} {f g1 g2 CN : Addr} {fd d1 d2 : FuncData}
theorem ok_readnumX (B2 : Blt2 mg) (C : ClsN K mg CN) (F : Fun K "read_number" "read_number" sReadNum f fd) (G : FnOk P w K mg base CX0 1 g1 d1 ["text"] spIsNum) (bG : Binds K d1 ["text"] []) (kG : PySem.W.keepIn K (.ref g1) = true) (mG : mg "is_number_text" = some (.ref g1)) :
    FnOk P w K mg base (CXF P w) 2 f fd ["text"] (spReadNumX CN) := by
  refine F.okX scReadNum (fun vs H Q E h => ?_) (fun cdv A outer s H vs Q E hr h => ?_)
  · obtain ⟨n, rfl, _⟩ := h
    rfl
  obtain ⟨x, rfl, hx, hn, q1, q2⟩ := h
  refine ⟨_, pss_cons (ps_if (pt_not (pt_val (pe_call G hr rfl mG kG bG .nil pass0 (pa_cons (pv 0) pa_nil)))) (pss_one (ps_raise rfl C.ex rfl C.mN (pa_cons pe_str pa_nil))) pss_nil)
    (pss_one (ps_ret (pe_callTy call_int_txt rfl B2.int PyProof.Rows.boot_int (pa_cons (pv 0) pa_nil)))), ?_⟩
  refine ⟨_, rfl, x, rfl, hx, fun H1 s1 => ⟨_, rfl, ?_⟩⟩
  cases e : numB x with
  | false => exact iteT ⟨(by show 1 ≤ sizeLine; decide), fun a ha => q2 e a _ (s1.trans (same_new ha _)) upd_same⟩
  | true => exact iteF ⟨_, rfl, x, valN x, rfl, val_reads e (hn e), hn e, q1 e H1 s1⟩
def spReadWordX (CN : Addr) : Sp := fun vs H Q E => ∃ x, vs = [.str x] ∧ x.length ≤ 1000000 ∧ (wordB x = true → ∀ H', Same H H' → Q (.str x) H') ∧ (wordB x = false → Exc CN H E)
theorem ok_readwordX (C : ClsN K mg CN) (F : Fun K "read_word" "read_word" sReadWord f fd) (G : FnOk P w K mg base CX0 1 g1 d1 ["text"] spIsWord) (bG : Binds K d1 ["text"] []) (kG : PySem.W.keepIn K (.ref g1) = true) (mG : mg "is_word" = some (.ref g1)) :
    FnOk P w K mg base (CXF P w) 2 f fd ["text"] (spReadWordX CN) := by
  refine F.okX scReadWord (fun vs H Q E h => ?_) (fun cdv A outer s H vs Q E hr h => ?_)
  · obtain ⟨n, rfl, _⟩ := h
    rfl
  obtain ⟨x, rfl, hx, q1, q2⟩ := h
  refine ⟨_, pss_cons (ps_if (pt_not (pt_val (pe_call G hr rfl mG kG bG .nil pass0 (pa_cons (pv 0) pa_nil)))) (pss_one (ps_raise rfl C.ex rfl C.mN (pa_cons pe_str pa_nil))) pss_nil)
    (pss_one (ps_ret (pv 0))), ?_⟩
  refine ⟨_, rfl, x, rfl, hx, fun H1 s1 => ⟨_, rfl, ?_⟩⟩
  cases e : wordB x with
  | false => exact iteT ⟨(by show 1 ≤ sizeLine; decide), fun a ha => q2 e a _ (s1.trans (same_new ha _)) upd_same⟩
  | true => exact iteF ⟨_, rfl, q1 e H1 s1⟩
end
end My
set_option maxHeartbeats 4000000
namespace L2
open PySem PySem.Spec PyProof.Rows
def Ris (xs : Array Nat) : Prop := xs.toList.Pairwise (· < ·)
theorem Ris.lt {xs : Array Nat} (h : Ris xs) {i j a b : Nat} (hij : i < j) (ha : xs[i]? = some a) (hb : xs[j]? = some b) : a < b := by
  rw [← Array.getElem?_toList] at ha hb
  obtain ⟨h1, e1⟩ := List.getElem?_eq_some_iff.mp ha
  obtain ⟨h2, e2⟩ := List.getElem?_eq_some_iff.mp hb
  rw [← e1, ← e2]
  exact List.pairwise_iff_getElem.mp h i j h1 h2 hij
theorem below_go {xs : Array Nat} (h : Ris xs) (j : Nat) : ∀ (fuel lo hi : Nat), hi ≤ xs.size → lo ≤ hi → hi - lo ≤ fuel → (∀ i a, i < lo → xs[i]? = some a → a < j) → (∀ i a, hi ≤ i → xs[i]? = some a → j ≤ a) →
    SetTable.below.go xs j fuel lo hi ≤ xs.size ∧ (∀ i a, i < SetTable.below.go xs j fuel lo hi → xs[i]? = some a → a < j) ∧ ∀ i a, SetTable.below.go xs j fuel lo hi ≤ i → xs[i]? = some a → j ≤ a
  | 0, lo, hi, h1, h2, h3, h4, h5 => by
    have e : lo = hi := by omega
    subst e
    exact ⟨h1, h4, h5⟩
  | fuel + 1, lo, hi, h1, h2, h3, h4, h5 => by
    unfold SetTable.below.go
    by_cases hlt : lo < hi
    · rw [if_pos hlt]
      have hm : (lo + hi) / 2 < xs.size := by omega
      have eg : xs[(lo + hi) / 2]? = some xs[(lo + hi) / 2] := Array.getElem?_eq_getElem hm
      have ed : xs.getD ((lo + hi) / 2) j = xs[(lo + hi) / 2] := by simp [Array.getD, hm]
      dsimp only
      rw [ed]
      by_cases hc : xs[(lo + hi) / 2] < j
      · rw [if_pos hc]
        refine below_go h j fuel _ hi h1 (by omega) (by omega) (fun i a hi' e => ?_) h5
        by_cases q : i = (lo + hi) / 2
        · subst q
          rw [eg] at e
          cases e
          exact hc
        · exact Nat.lt_trans (h.lt (by omega) e eg) hc
      · rw [if_neg hc]
        refine below_go h j fuel lo _ (by omega) (by omega) (by omega) h4 fun i a hi' e => ?_
        by_cases q : i = (lo + hi) / 2
        · subst q
          rw [eg] at e
          cases e
          omega
        · have := h.lt (show (lo + hi) / 2 < i by omega) eg e
          omega
    · rw [if_neg hlt]
      have e : lo = hi := by omega
      subst e
      exact ⟨h1, h4, h5⟩
theorem below_spec {xs : Array Nat} (h : Ris xs) (j : Nat) : SetTable.below xs j ≤ xs.size ∧ (∀ i a, i < SetTable.below xs j → xs[i]? = some a → a < j) ∧ ∀ i a, SetTable.below xs j ≤ i → xs[i]? = some a → j ≤ a :=
  below_go h j xs.size 0 xs.size (Nat.le_refl _) (Nat.zero_le _) (by omega) (fun i a hi => absurd hi (by omega)) fun i a hi e => by
    rw [Array.getElem?_eq_none hi] at e
    cases e
theorem ris_insert {xs : Array Nat} (h : Ris xs) {j : Nat} (hn : xs[SetTable.below xs j]? ≠ some j) : Ris (SetTable.insertAt xs (SetTable.below xs j) j) := by
  obtain ⟨h1, h2, h3⟩ := below_spec h j
  unfold Ris
  rw [SetTable.toList_insertAt]
  have hl : ∀ a ∈ xs.toList.take (SetTable.below xs j), a < j := fun a ha => by
    obtain ⟨i, hi⟩ := List.mem_iff_getElem?.mp ha
    rw [List.getElem?_take] at hi
    split at hi
    · rename_i hlt
      exact h2 i a hlt (by rw [← Array.getElem?_toList]; exact hi)
    · cases hi
  have hr : ∀ a ∈ xs.toList.drop (SetTable.below xs j), j < a := fun a ha => by
    obtain ⟨i, hi⟩ := List.mem_iff_getElem?.mp ha
    rw [List.getElem?_drop, Array.getElem?_toList] at hi
    have q := h3 _ a (Nat.le_add_right _ i) hi
    rcases Nat.lt_or_eq_of_le q with q | q
    · exact q
    · exfalso
      subst q
      cases i with
      | zero => exact hn hi
      | succ i =>
        have hb : SetTable.below xs j < xs.size := by
          have := (Array.getElem?_eq_some_iff.mp hi).1
          omega
        have e0 : xs[SetTable.below xs j]? = some xs[SetTable.below xs j] := Array.getElem?_eq_getElem hb
        have l1 := h3 _ _ (Nat.le_refl _) e0
        have l2 := h.lt (show SetTable.below xs j < SetTable.below xs j + (i + 1) by omega) e0 hi
        omega
  have hp : (xs.toList.take (SetTable.below xs j) ++ xs.toList.drop (SetTable.below xs j)).Pairwise (· < ·) := by rw [List.take_append_drop]; exact h
  rw [List.pairwise_append] at hp
  first
  | (rw [List.pairwise_append]
     refine ⟨hp.1, ?_, fun a ha b hb => ?_⟩
     · exact List.pairwise_cons.mpr ⟨hr, hp.2.1⟩
     · rcases List.mem_cons.mp hb with e | hb
       · subst e; exact hl a ha
       · exact hp.2.2 a ha b hb)
  | skip
structure TabOk (t : SetTable) (b : Bool) : Prop where
  ris : Ris t.place
  dum : t.dummies = #[]
  led : t.led = b
theorem has_nil (j : Nat) : SetTable.has #[] j = false := by simp [SetTable.has]
theorem probe_empty {t : SetTable} (hd : t.dummies = #[]) {f : Nat → Int} {h : Int} (hf : ∀ i, (f i == h) = false) : ∀ (fuel : Nat) (p : SetTable.Probe) (j : Nat) (d : Option Nat), p.dummy = none → SetTable.probe.go t f h fuel p = some (.empty j d) →
    d = none ∧ t.slot j = .empty
  | 0, p, j, d, _, e => by
    unfold SetTable.probe.go at e
    cases e
  | fuel + 1, p, j, d, hp, e => by
    have adv : ∀ p : SetTable.Probe, p.dummy = none → (t.advance p).dummy = none := fun p hp => by
      unfold SetTable.advance
      split
      · exact hp
      · exact hp
    unfold SetTable.probe.go at e
    split at e
    · rename_i hs
      cases e
      exact ⟨hp, hs⟩
    · rename_i hs
      unfold SetTable.slot at hs
      dsimp only at hs
      rw [hd, has_nil] at hs
      split at hs <;> cases hs
    · rename_i i hs
      rw [hf i] at e
      exact probe_empty hd hf fuel _ j d (adv p hp) e
theorem slot_empty {t : SetTable} {j : Nat} (h : t.slot j = .empty) : t.place[SetTable.below t.place j]? ≠ some j := fun e => by
  unfold SetTable.slot at h
  dsimp only at h
  rw [e] at h
  rw [if_pos (by simp)] at h
  cases h
theorem ris_range (n : Nat) : Ris (Array.range n) := by
  unfold Ris
  rw [Array.toList_range]
  exact List.pairwise_lt_range
theorem standIn_ok {t : SetTable} {b : Bool} (h : TabOk t b) (n : Nat) : TabOk (t.standIn n) b := ⟨ris_range n, rfl, h.led⟩
theorem layNew_ok {t : SetTable} {b : Bool} (ok : TabOk t b) (es : Array (Int × Value)) (h : Int) (x : Value) : TabOk (layNew t es h x).2.1 b := by
  unfold layNew
  split
  · rename_i slot wd e
    have hs : t.slot slot = .empty := by
      unfold SetTable.freeSlot at e
      split at e
      · rename_i j d e2
        unfold SetTable.probe at e2
        obtain ⟨q1, q2⟩ := probe_empty ok.dum (fun _ => by simp; omega) _ _ _ _ rfl e2
        subst q1
        cases e
        exact q2
      · cases e
    have o2 : TabOk (t.put slot).1 b := by
      unfold SetTable.put
      refine ⟨ris_insert ok.ris (slot_empty hs), ?_, ok.led⟩
      show (if SetTable.has t.dummies slot = true then _ else t.dummies) = #[]
      rw [ok.dum, has_nil]
      rfl
    dsimp only
    unfold SetTable.orStandIn
    split
    · exact o2
    · exact standIn_ok o2 _
  · exact standIn_ok ok _
theorem ris_filterMap {α : Type} (f : Nat → Option α) (n : Nat) : (((List.range n).filterMap fun j => (f j).map (j, ·)).map (·.1)).Pairwise (· < ·) := by
  have e : (((List.range n).filterMap fun j => (f j).map (j, ·)).map (·.1)) = (List.range n).filter fun j => (f j).isSome := by
    rw [List.map_filterMap, ← List.filterMap_eq_filter]
    congr 1
    funext j
    cases hf : f j <;> simp [Option.guard, hf]
  rw [e]
  exact List.Pairwise.filter _ List.pairwise_lt_range
theorem relayAll_ok {t : SetTable} {b : Bool} (ok : TabOk t b) (es : Array (Int × Value)) (n : Nat) : TabOk (relayAll t es n).2.1 b := by
  unfold relayAll
  split
  · rename_i t' order e
    have o2 : TabOk t' b := by
      unfold SetTable.relaid SetTable.laid at e
      simp only [bind, Option.bind_eq_some_iff] at e
      obtain ⟨owner, _, e⟩ := e
      cases e
      exact ⟨ris_filterMap _ _, rfl, ok.led⟩
    dsimp only
    split
    · exact o2
    · exact standIn_ok ok _
  · exact standIn_ok ok _
section
variable {prog : Program} {w : World} {A : Around} {E : Value → Shared → Prop} {s : Shared}
def byTextW (w : World) : Bool := w.params.followText "set-order"
def kOf : Value → Key
  | .int i _ => .inl i
  | .str x _ => .inr x
  | _ => .inl 0
theorem kOf_is {k : Key} {v : Value} (h : keyIs k v = true) : kOf v = k := by
  rcases keyIs_shape h with ⟨i, t, rfl, rfl⟩ | ⟨x, t, rfl, rfl⟩ <;> rfl
structure SetR (prog : Program) (w : World) (h : Heap) (a : Addr) (ks : List Key) (es : Array (Int × Value)) (ep : Nat) (t : SetTable) : Prop where
  obj : h.get? a = some { cls := .type "set", dict := none, data := .set es ep t, slots := #[] }
  els : ElemsOf (mixKind prog w) es.toList
  few : es.size < scanBound
  fits : t.fits es.size = true
  tab : TabOk t (!byTextW w)
  nod : ks.Nodup
  keys : (es.toList.map fun e => kOf e.2).Perm ks
theorem SetR.keep {h h' : Heap} {a : Addr} {ks : List Key} {es : Array (Int × Value)} {ep : Nat} {t : SetTable} (r : SetR prog w h a ks es ep t) (k : ∀ o, h.get? a = some o → h'.get? a = some o) : SetR prog w h' a ks es ep t :=
  ⟨k _ r.obj, r.els, r.few, r.fits, r.tab, r.nod, r.keys⟩
theorem SetR.mem {h : Heap} {a : Addr} {ks : List Key} {es : Array (Int × Value)} {ep : Nat} {t : SetTable} (r : SetR prog w h a ks es ep t) {k : Key} : (∃ e ∈ es.toList, (mixKind prog w).is k e.2 = true) ↔ k ∈ ks := by
  constructor
  · rintro ⟨e, he, hk⟩
    refine r.keys.mem_iff.mp (List.mem_map.mpr ⟨e, he, kOf_is hk⟩)
  · intro hk
    obtain ⟨e, he, q⟩ := List.mem_map.mp (r.keys.mem_iff.mpr hk)
    obtain ⟨⟨k', hk', _⟩, _⟩ := r.els e he
    refine ⟨e, he, ?_⟩
    have : kOf e.2 = k' := kOf_is hk'
    rw [← q, this]
    exact hk'
open Classical in
noncomputable def addK (ks : List Key) (k : Key) : List Key := if k ∈ ks then ks else ks ++ [k]
theorem store_r {h : Heap} {a : Addr} {es : Array (Int × Value)} {ep : Nat} {t : SetTable} (ho : h.get? a = some { cls := .type "set", dict := none, data := .set es ep t, slots := #[] }) (es' : Array (Int × Value)) (t' : SetTable) :
    (h.update a (Obj.putSet es' t')).get? a = some { cls := .type "set", dict := none, data := .set es' (ep + 1) t', slots := #[] } := by
  have := Heap.get?_update_self (Obj.putSet es' t') ho (by rw [putSet_of es' t' rfl]; rfl)
  rw [putSet_of es' t' rfl] at this
  exact this
theorem add_tail {g : Bool → Sem Unit} (hg : ∀ (b : Bool) (s₁ : Shared) (Q' : Unit → Shared → Prop), Q' () s₁ → wpAny (model prog w) A (g b) Q' E s₁)
    {a : Addr} {es : Array (Int × Value)} {ep : Nat} {t : SetTable} (ho : s.heap.get? a = some { cls := .type "set", dict := none, data := .set es ep t, slots := #[] })
    {es1 : Array (Int × Value)} {t2 : SetTable} {ks : List Key} (he : ElemsOf (mixKind prog w) es1.toList) (hb : es1.size < scanBound) (hf : t2.fits es1.size = true) (ht : TabOk t2 (!byTextW w)) (hn : ks.Nodup) (hk : (es1.toList.map fun e => kOf e.2).Perm ks)
    {wasDummy : Bool} {R : Option Bool → Shared → Prop}
    (h : ∀ h' es' ep' t', Heap.SameBut a s.heap h' → SetR prog w h' a ks es' ep' t' → R (some true) { s with heap := h' }) :
    wpAny (model prog w) A (do
        storeSet a es1 t2
        if (!wasDummy && t2.tooFull) = true then do
            g (relayAll t2 es1 (SetTable.grown es1.size)).2.2
            storeSet a (relayAll t2 es1 (SetTable.grown es1.size)).1 (relayAll t2 es1 (SetTable.grown es1.size)).2.1
            pure (some true)
          else pure (some true)) R E s := by
  refine wpAny_bind (wpAny_storeSet_of ho rfl ?_ (fits_of_scanBound hb))
  have ho1 := store_r ho es1 t2
  have sb1 := Heap.SameBut.update s.heap a (Obj.putSet es1 t2)
  split
  · have hp := relayAll_perm t2 es1 (SetTable.grown es1.size)
    have hfr := relayAll_fits t2 es1 (SetTable.grown es1.size)
    have hto := relayAll_ok ht es1 (SetTable.grown es1.size)
    generalize hRl : relayAll t2 es1 (SetTable.grown es1.size) = Rl at hp hfr hto ⊢
    obtain ⟨es2, t3, gave2⟩ := Rl
    dsimp only at hp hfr hto ⊢
    have hsz : es2.size = es1.size := by rw [← Array.length_toList, hp.length_eq, Array.length_toList]
    have hb2 : es2.size < scanBound := by rw [hsz]; exact hb
    refine wpAny_bind (hg _ _ _ ?_)
    refine wpAny_bind (wpAny_storeSet_of ho1 rfl ?_ (fits_of_scanBound hb2))
    exact wpAny_pure (h _ es2 _ t3 (sb1.trans (Heap.SameBut.update _ a _)) ⟨store_r ho1 es2 t3, he.perm hp, hb2, hfr, hto, hn, (hp.map _).trans hk⟩)
  · exact wpAny_pure (h _ es1 _ t2 sb1 ⟨ho1, he, hb, hf, ht, hn, hk⟩)
theorem add_hashed {a : Addr} {ks : List Key} {es : Array (Int × Value)} {ep : Nat} {t : SetTable} {k : Key} {x : Value} {Q : Bool → Shared → Prop} (hkey : keyIs k x = true) (hsc : x.scannable = true) (hS : SetR prog w s.heap a ks es ep t)
    (hroom : ks.length + 1 < scanBound)
    (h : ∀ b h' es' ep' t', Heap.SameBut a s.heap h' → SetR prog w h' a (addK ks k) es' ep' t' → Q b { s with heap := h' }) :
    wpAny (model prog w) A (setAddHashed a x ((mixKind prog w).hash k)) Q E s := by
  have hsize : es.size = ks.length := by rw [← hS.keys.length_eq, List.length_map, Array.length_toList]
  have hkey' : (mixKind prog w).is k x = true := hkey
  have hel := hS.els
  unfold setAddHashed setAddHashedIn
  refine wpAny_holding (wpAny_bind (wpAny_setState_of hS.obj rfl hS.fits ?_))
  dsimp only
  rw [byScan_of hsc hS.few hel]
  simp only [↓reduceIte]
  unfold setAddByScan
  refine wpAny_bind ?_
  refine wpAny_bind (wpAny_rule ?_)
  refine wpAny_bind (wpAny_setScan_of hkey' hS.obj rfl hS.fits hel ?_)
  cases hr : List.findIdx? (fun e => (mixKind prog w).is k e.2) es.toList with
  | some j =>
    dsimp only
    obtain ⟨hj, hpj, _⟩ := List.findIdx?_eq_some_iff_getElem.mp hr
    have hin : k ∈ ks := hS.mem.mp ⟨es.toList[j], List.getElem_mem hj, hpj⟩
    refine wpAny_pure (wpAny_pure ?_)
    have e : s = { s with heap := s.heap } := by cases s; rfl
    have := h false s.heap es ep t (Heap.SameBut.refl a s.heap) (by unfold addK; rw [if_pos hin]; exact hS)
    rw [e]
    exact this
  | none =>
    dsimp only
    have hout : k ∉ ks := fun hin => by
      obtain ⟨e, he, hp⟩ := hS.mem.mpr hin
      have := List.findIdx?_eq_none_iff.mp hr e he
      rw [hp] at this
      exact Bool.noConfusion this
    have hgw : ∀ (b : Bool) {s₁ : Shared} {Q' : Unit → Shared → Prop}, Q' () s₁ → wpAny (model prog w) A (match b with | true => rule "set.scan.the-table-gave-way" | false => pure ()) Q' E s₁ :=
      fun b s₁ Q' hq => by cases b <;> first | exact wpAny_pure hq | exact wpAny_rule hq
    have hperm := layNew_perm t es ((mixKind prog w).hash k) x
    have hfits := layNew_fits t es ((mixKind prog w).hash k) x
    have htab := layNew_ok hS.tab es ((mixKind prog w).hash k) x
    generalize hL : layNew t es ((mixKind prog w).hash k) x = L at hperm hfits htab ⊢
    obtain ⟨es1, t1, wasDummy, gave⟩ := L
    dsimp only at hperm hfits htab ⊢
    rw [Array.toList_push] at hperm
    have hel1 : ElemsOf (mixKind prog w) es1.toList := (hel.push hkey' hsc).perm hperm
    have hb1' : es1.size < scanBound := by
      rw [← Array.length_toList, hperm.length_eq, List.length_append, Array.length_toList, hsize]
      simpa using hroom
    have ead : addK ks k = ks ++ [k] := by unfold addK; rw [if_neg hout]
    have hnod : (addK ks k).Nodup := by
      rw [ead, List.nodup_append]
      exact ⟨hS.nod, by simp, fun x hx y hy e => by simp at hy; subst hy; subst e; exact hout hx⟩
    have hkeys : (es1.toList.map fun e => kOf e.2).Perm (addK ks k) := by
      rw [ead]
      refine (hperm.map _).trans ?_
      rw [List.map_append]
      refine hS.keys.append ?_
      show [kOf x].Perm [k]
      rw [kOf_is hkey]
    refine wpAny_bind (hgw _ ?_)
    split
    · refine wpAny_bind ?_
      rw [hashByValue_scannable 8 hsc]
      refine wpAny_pure ?_
      refine add_tail (ks := addK ks k) ?_ hS.obj hel1 hb1' ?_ ?_ hnod hkeys ?_
      · intro b s₁ Q' hq; cases b <;> first | exact wpAny_pure hq | exact wpAny_rule hq
      · split
        · exact hfits
        · exact SetTable.fits_plain_off hfits
      · split
        · exact htab
        · exact ⟨htab.ris, htab.dum, htab.led⟩
      · intro h' es' ep' t' hsb hS'; dsimp only; exact wpAny_pure (h true h' es' ep' t' hsb hS')
    · refine wpAny_bind (wpAny_pure ?_)
      simp only [↓reduceIte]
      refine add_tail (ks := addK ks k) ?_ hS.obj hel1 hb1' hfits htab hnod hkeys ?_
      · intro b s₁ Q' hq; cases b <;> first | exact wpAny_pure hq | exact wpAny_rule hq
      · intro h' es' ep' t' hsb hS'; dsimp only; exact wpAny_pure (h true h' es' ep' t' hsb hS')
noncomputable def metK (key : Nat → Key) : Nat → List Key
  | 0 => []
  | i + 1 => addK (metK key i) (key i)
theorem addK_len (ks : List Key) (k : Key) : (addK ks k).length ≤ ks.length + 1 := by
  unfold addK
  split
  · omega
  · simp
theorem metK_len (key : Nat → Key) : ∀ i, (metK key i).length ≤ i
  | 0 => Nat.le_refl _
  | i + 1 => Nat.le_trans (addK_len _ _) (Nat.succ_le_succ (metK_len key i))
theorem mem_addK {ks : List Key} {k x : Key} : x ∈ addK ks k ↔ x ∈ ks ∨ x = k := by
  unfold addK
  split
  · rename_i h
    exact ⟨.inl, fun q => q.elim id fun e => e ▸ h⟩
  · simp
theorem mem_metK {key : Nat → Key} {x : Key} : ∀ {i : Nat}, x ∈ metK key i ↔ ∃ j, j < i ∧ key j = x
  | 0 => by simp [metK]
  | i + 1 => by
    show x ∈ addK (metK key i) (key i) ↔ _
    rw [mem_addK, mem_metK]
    constructor
    · rintro (⟨j, hj, e⟩ | e)
      · exact ⟨j, Nat.lt_succ_of_lt hj, e⟩
      · exact ⟨i, Nat.lt_succ_self _, e.symm⟩
    · rintro ⟨j, hj, e⟩
      rcases Nat.lt_succ_iff_lt_or_eq.mp hj with q | q
      · exact .inl ⟨j, q, e⟩
      · exact .inr (by rw [← e, q])
end
section
variable {prog : Program} {w : World} {A : Around} {R : Result → Shared → Prop} {I : Addr} {fp wr : List Addr} {G : Array GenState → Array GenState → Prop} {n : Nat} {P : Nat → Value → Prop} {St : Nat → Shared → Prop}
theorem set_loop (W : WalksS prog w A.in1 I fp wr G n P St) (S : Addr) (hSf : S ∉ fp) (key : Nat → Key) (hval : ∀ i v, P i v → keyIs (key i) v = true ∧ v.scannable = true) (hb : n + 1 < scanBound) :
    ∀ (k i : Nat) (s : Shared) (es : Array (Int × Value)) (ep : Nat) (t : SetTable), n - i = k → i ≤ n → St i s → SetR prog w s.heap S (metK key i) es ep t →
      (∀ s' es' ep' t', Moved (S :: wr) G s s' → SetR prog w s'.heap S (metK key n) es' ep' t' → R (.ok (.ret .none)) s') →
      codeAny (model prog w) A (.builtin "set.update.loop" ⟨[.ref S, .ref I], []⟩) R s := by
  have hSw : S ∉ wr := fun h => hSf (W.sub _ h)
  have hsub : ∀ b ∈ wr, b ∈ S :: wr := fun b hb => List.mem_cons_of_mem _ hb
  intro k
  induction k with
  | zero =>
    intro i s es ep t hk hi hst hS hR
    have hin : i = n := by omega
    subst hin
    refine codeAny_builtin F.entry_set_update_loop ?_
    rw [Around.under_plainId F.plain_set_update_loop _]
    show wpAny _ A.in1 (pyNext (.ref I) >>= _) _ _ s
    refine wpAny_bind (W.done s _ _ hst fun s' hm => ?_)
    show wpAny _ A.in1 (ret Value.none) _ _ s'
    exact wpAny_pure (hR s' es ep t (hm.mono hsub) (hS.keep fun o e => hm.heap S o hSw e))
  | succ k ih =>
    intro i s es ep t hk hi hst hS hR
    have hlt : i < n := by omega
    refine codeAny_builtin F.entry_set_update_loop ?_
    rw [Around.under_plainId F.plain_set_update_loop _]
    show wpAny _ A.in1 (pyNext (.ref I) >>= _) _ _ s
    refine wpAny_bind (W.item i s _ _ hlt hst fun v s' hP hst' hm => ?_)
    obtain ⟨hv1, hv2⟩ := hval i v hP
    have hS' := hS.keep (h' := s'.heap) fun o e => hm.heap S o hSw e
    show wpAny _ A.in1 (holding [v] (setAdd S v) >>= _) _ _ s'
    refine wpAny_bind (wpAny_holding ?_)
    unfold setAdd
    refine wpAny_holding ?_
    refine wpAny_bind ((mixKind prog w).pyHash (k := key i) hv1 ?_)
    have hroom : (metK key i).length + 1 < scanBound := by have := metK_len key i; omega
    refine add_hashed (s := { s' with toks := s'.toks + 1 }) hv1 hv2 hS' hroom fun b h' es' ep' t' hsb hS2 => ?_
    refine wpAny_pure ⟨plainId_quiet F.plain_set_update_loop _, ih (i + 1) _ es' ep' t' (by omega) hlt (W.frame _ s' _ _ hst' (Nat.le_succ _) fun b hb o e => ?_) hS2 fun s'' es2 ep2 t2 hm'' hS'' => ?_⟩
    · rw [hsb.2 b (fun h : b = S => hSf (by rw [← h]; exact hb))]; exact e
    · refine hR s'' es2 ep2 t2 (Moved.trans W.gtrans ((hm.mono hsub).then_heap (Nat.le_succ _) fun b o hb e => ?_) hm'') hS''
      rw [hsb.2 b (fun h : b = S => hb (by rw [h]; exact List.mem_cons_self))]; exact e
end
section
variable {prog : Program} {w : World} {A : Around} {E : Value → Shared → Prop} {s : Shared}
theorem set_new_led (a : Value) {Q₁ : Value → Shared → Prop}
    (h : Q₁ (.ref s.heap.objs.size) { s with heap := s.heap.push { cls := .type "set", dict := none, data := .set #[] 0 (.fresh 0 0 (!byTextW w)) } }) :
    codeAny (model prog w) A (.call (.builtin "set.__new__") ⟨[.type "set", a], []⟩) (wants Q₁ E) s := by
  refine codeAny_of_tree ?_
  show wpAny _ A.in1 (do checkBuiltinCall "set.__new__" ⟨[.type "set", a], []⟩; again (.builtin "set.__new__" ⟨[.type "set", a], []⟩)) _ _ s
  refine wpAny_bind (wpAny_of_eq (F.newCall_set_1 a) (wpAny_pure ⟨plainId_quiet F.plain_set_new _, codeAny_builtin F.entry_set_new ?_⟩))
  rw [Around.under_plainId F.plain_set_new _]
  unfold Builtin.«set.__new__» Builtin.Frozenset.newClass
  have hsub := sub_set_self
  obtain ⟨hp, g, d, tk, os⟩ := s
  dsimp only
  wp_walk
  refine wpAny_askSetting (wpAny_pure ?_)
  dsimp only
  simp only [newObj]
  refine wpAny_bind (wpAny_alloc (wpAny_pure ?_))
  exact wpAny_pure h
end
end L2
set_option maxHeartbeats 8000000
namespace L2
open PySem PySem.Spec PyProof.Rows
theorem sub_tuple_set : isSubtype (.type "tuple") (.type "set") = pure false := by rw [isSubtype_type]; kernel_rfl
theorem sub_tuple_frozenset : isSubtype (.type "tuple") (.type "frozenset") = pure false := by rw [isSubtype_type]; kernel_rfl
structure SetSrc (prog : Program) (w : World) (T : String) (l : Addr) (items : Array Value) : Prop where
  sub1 : isSubtype (.type T) (.type "set") = pure false
  sub2 : isSubtype (.type T) (.type "frozenset") = pure false
  nd : (Value.type T == Value.type "dict") = false
  it : ∀ (A : Around) (s : Shared) (o : Obj), A.handled = none → s.heap.get? l = some o → o.cls = .type T → (∃ n, o.data = .seq items n) → ∃ (oI : Obj) (St : Nat → Heap → Prop),
    (∀ (E : Value → Shared → Prop) (Q : Value → Shared → Prop), Q (.ref s.heap.objs.size) { s with heap := s.heap.push oI } → wpAny (model prog w) A (pyIter (.ref l)) Q E s) ∧
    Walks prog w A s.heap.objs.size [s.heap.objs.size, l] [s.heap.objs.size] items.size (fun i v => items[i]? = some v) St ∧ St 0 (s.heap.push oI)
theorem src_list {prog : Program} {w : World} {l : Addr} {items : Array Value} : SetSrc prog w "list" l items where
  sub1 := F.sub_list_set
  sub2 := F.sub_list_frozenset
  nd := by decide
  it := fun A s o hh ho hc hd => by
    have hl : s.heap.IsList l items := ⟨o, ho, hc, hd⟩
    refine ⟨_, _, fun E Q q => wpAny_pyIter_list hl q, Walks.list hh _ l (Nat.ne_of_lt (Heap.lt_size ho)) items, ⟨_, Heap.get?_push_size _ rfl, rfl, rfl⟩, hl.push _⟩
theorem src_tup {prog : Program} {w : World} {l : Addr} {items : Array Value} : SetSrc prog w "tuple" l items where
  sub1 := sub_tuple_set
  sub2 := sub_tuple_frozenset
  nd := by decide
  it := fun A s o hh ho hc hd => by
    have hl : s.heap.IsTuple l items := ⟨o, ho, hc, hd⟩
    refine ⟨_, _, fun E Q q => wpAny_pyIter_tuple hl q, Walks.tuple hh _ l (Nat.ne_of_lt (Heap.lt_size ho)) items, ⟨_, Heap.get?_push_size _ rfl, rfl, rfl⟩, hl.push _⟩
section
variable {prog : Program} {w : World} {A : Around} {E : Value → Shared → Prop} {s : Shared}
theorem call_set_of {T : String} {l : Addr} {items : Array Value} {o : Obj} {key : Nat → Key} {Q : Value → Shared → Prop} (src : SetSrc prog w T l items)
    (hh : A.handled = none) (ho : s.heap.get? l = some o) (hc : o.cls = .type T) (hdt : ∃ n, o.data = .seq items n) (hi : ∀ i v, items[i]? = some v → keyIs (key i) v = true ∧ v.scannable = true) (hb : items.size + 1 < scanBound)
    (h : ∀ (h' : Heap) (tk : Nat) es ep t, SetR prog w h' s.heap.objs.size (metK key items.size) es ep t → (∀ b o, s.heap.get? b = some o → h'.get? b = some o) → Q (.ref s.heap.objs.size) { s with heap := h', toks := tk }) :
    wpAny (model prog w) A (call (.type "set") [.ref l]) Q E s := by
  obtain ⟨c, tl, hmro⟩ := F.called_set.mro
  have hmade := F.called_set.made
  have hsub := F.called_set.sub
  refine wpAny_call (codeAny_of_tree ?_)
  show wpAny _ _ (callAny (.type "set") _) _ _ _
  refine wpAny_pure ⟨Code.quiet_builtin _ (by decide +kernel), codeAny_builtin F.entry_type_call ?_⟩
  rw [Around.under_plain (weight_type_call_type "set" [.ref l] []) rfl]
  have h1 := F.called_set.notType
  have h2 := F.called_set.canCreate
  have hct := F.typeCall_set_1 (.ref l)
  repeat (any_goals (first | assumption | wp_step))
  refine codeAny_mono (set_new_led (.ref l) (E := E) (Q₁ := fun obj s₁ => obj = .ref s.heap.objs.size ∧ s₁ = { s with heap := s.heap.push { cls := .type "set", dict := none, data := .set #[] 0 (.fresh 0 0 (!byTextW w)) } }) ⟨rfl, rfl⟩) fun r s₁ hr => ?_
  cases r with
  | error e => exact hr
  | ok fl =>
    cases fl with
    | ret obj =>
      obtain ⟨rfl, rfl⟩ := hr
      have hS : (s.heap.push { cls := .type "set", dict := none, data := .set #[] 0 (.fresh 0 0 (!byTextW w)) }).get? s.heap.objs.size = some { cls := .type "set", dict := none, data := .set #[] 0 (.fresh 0 0 (!byTextW w)) } := Heap.get?_push_size _ rfl
      have hT : Shared.TypeIs { s with heap := s.heap.push { cls := .type "set", dict := none, data := .set #[] 0 (.fresh 0 0 (!byTextW w)) } } (.ref s.heap.objs.size) "set" := ⟨_, hS, rfl⟩
      have hli := F.called_set.init.lookup
      have hbi := F.called_set.init.bind (.ref s.heap.objs.size)
      repeat (any_goals (first | assumption | wp_step))
      refine codeAny_mono (codeAny_call_builtin (R := wants (fun r s₂ => r = .none ∧ ∃ h' tk es ep t, s₂ = { s with heap := h', toks := tk } ∧
          SetR prog w h' s.heap.objs.size (metK key items.size) es ep t ∧ (∀ b o, s.heap.get? b = some o → h'.get? b = some o)) E) F.called_set.init.plain F.entry_set_init (check_set_init_1 hT ?_)) fun r₂ s₂ hr₂ => ?_
      · have ho' : (s.heap.push { cls := .type "set", dict := none, data := .set #[] 0 (.fresh 0 0 (!byTextW w)) }).get? l = some o := Heap.get?_push_of_some _ ho
        have hTl : Shared.TypeIs { s with heap := s.heap.push { cls := .type "set", dict := none, data := .set #[] 0 (.fresh 0 0 (!byTextW w)) } } (.ref l) T := ⟨_, ho', hc⟩
        have hsls := src.sub1
        have hslf := src.sub2
        have hne := src.nd
        obtain ⟨oI, St, hit, W, st⟩ := src.it A.in1.in1.in1 { s with heap := s.heap.push { cls := .type "set", dict := none, data := .set #[] 0 (.fresh 0 0 (!byTextW w)) } } o (by simpa using hh) ho' hc hdt
        unfold Builtin.«set.__init__» noKeywords Builtin.Frozenset.updateFrom
        generalize hPI : pyIter = PI
        wp_walk
        subst hPI
        refine wpAny_of_in1 (hit _ _ ?_)
        refine wpAny_bind (wpAny_runValue ?_)
        have hlS : l < s.heap.objs.size := Heap.lt_size ho
        have hsz : (s.heap.push { cls := .type "set", dict := none, data := .set #[] 0 (.fresh 0 0 (!byTextW w)) }).objs.size = s.heap.objs.size + 1 := Heap.size_push _ _
        have hSf : s.heap.objs.size ∉ [(s.heap.push { cls := .type "set", dict := none, data := .set #[] 0 (.fresh 0 0 (!byTextW w)) }).objs.size, l] := by
          rw [hsz]; simp only [List.mem_cons, List.not_mem_nil, or_false, not_or]
          exact ⟨Nat.ne_of_lt (Nat.lt_succ_self _), Nat.ne_of_gt hlS⟩
        refine set_loop W.toS s.heap.objs.size hSf key (fun i v hv => hi i v hv) hb (items.size - 0) 0 _ #[] 0 (SetTable.fresh 0 0 (!byTextW w)) (by omega) (Nat.zero_le _) st ?hS0 ?hR
        case hS0 =>
          have hget := Heap.get?_push_of_some oI hS
          exact ⟨hget, fun e he => absurd he (by simp), by unfold scanBound; decide, by simp [SetTable.fits, SetTable.fresh, SetTable.fill], ⟨List.Pairwise.nil, rfl, rfl⟩, List.nodup_nil, by simp [metK]⟩
        case hR =>
          intro s' es' ep' t' hm hS'
          obtain ⟨h', g', d', tk', os'⟩ := s'
          have eg : g' = s.gens := hm.gens
          have ed : d' = s.drawn := hm.drawn
          have eo : os' = s.os := hm.os
          subst eg; subst ed; subst eo
          show wpAny _ _ _ _ _ _
          refine wpAny_pure ?_
          show wpAny _ _ (ret Value.none) _ _ _
          refine wpAny_pure ⟨rfl, h', tk', es', ep', t', rfl, hS', fun b o e => ?_⟩
          have hb1 : b ≠ s.heap.objs.size := Nat.ne_of_lt (Heap.lt_size e)
          have hb2 : b ≠ (s.heap.push { cls := .type "set", dict := none, data := .set #[] 0 (.fresh 0 0 (!byTextW w)) }).objs.size := by
            rw [hsz]; exact Nat.ne_of_lt (Nat.lt_succ_of_lt (Heap.lt_size e))
          exact hm.heap b o (by simp only [List.mem_cons, List.not_mem_nil, or_false, not_or]; exact ⟨hb1, hb2⟩) (Heap.get?_push_of_some _ (Heap.get?_push_of_some _ e))
      · cases r₂ with
        | error e => exact hr₂
        | ok fl₂ =>
          cases fl₂ with
          | ret r =>
            obtain ⟨rfl, h', tk, es, ep, t, rfl, hS', hk'⟩ := hr₂
            repeat (any_goals (first | assumption | wp_step))
            exact h _ _ es ep t hS' hk'
          | _ => exact hr₂.elim
    | _ => exact hr.elim
end
end L2
set_option maxHeartbeats 8000000
namespace L2
open PySem PySem.Spec PyProof.Rows
theorem entry_set_iter' : entryFor table "set.__iter__" = some Builtin.«frozenset.__iter__» :=
  entryFor_alias (id' := "frozenset.__iter__") (by kernel_rfl) rfl (by decide +kernel) (by kernel_rfl)
theorem slot_si_next : Slot "set_iterator" "__next__" "set_iterator.__next__" :=
  .of (owner := "set_iterator") (n := "__next__") (by rw [typeLookup_type, builtinLookup_eq_fast]; kernel_rfl) (by decide +kernel) (by decide +kernel) (by decide +kernel)
    (by first | exact .inl (by decide +kernel) | exact .inr (by decide +kernel)) (by rw [isSubtype_type]; kernel_rfl)
theorem entry_si_next : entryFor table "set_iterator.__next__" = some Builtin.«set_iterator.__next__» := entryFor_of_fast (by kernel_rfl)
theorem args_si_next (a : Value) : argsOk "set_iterator.__next__" ⟨[a], []⟩ := by unfold argsOk; kernel_rfl
section
variable {prog : Program} {w : World} {A : Around} {E : Value → Shared → Prop} {s : Shared}
theorem choose_ok {src : Source} {n : Nat} {Q : Nat → Shared → Prop} (hn : n ≠ 0) (h : ∀ k d, k < n → Q k { s with drawn := d }) : wpAny (model prog w) A (choose src n) Q E s := fun _ _ _ =>
  ⟨hn, h _ _ (Nat.mod_lt _ (Nat.pos_of_ne_zero hn))⟩
theorem eraseIdx_perm {α : Type} : ∀ {xs : List α} {i : Nat} {x : α}, xs[i]? = some x → (x :: xs.eraseIdx i).Perm xs
  | [], i, x, h => by simp at h
  | y :: ys, 0, x, h => by
    have e : y = x := by simpa using h
    subst e
    exact List.Perm.refl _
  | y :: ys, i + 1, x, h => by
    have h' : ys[i]? = some x := by simpa using h
    exact (List.Perm.swap _ _ _).trans ((eraseIdx_perm h').cons y)
theorem drawOrder_ok {α : Type} : ∀ (n : Nat) (xs : List α) (s : Shared) {Q : List α → Shared → Prop}, xs.length = n → (∀ ys d, ys.Perm xs → Q ys { s with drawn := d }) → wpAny (model prog w) A (drawOrder n xs) Q E s
  | 0, xs, s, Q, e, h => by
    have : xs = [] := List.length_eq_zero_iff.mp e
    subst this
    unfold drawOrder
    exact wpAny_pure (h [] s.drawn (List.Perm.refl _))
  | n + 1, [], s, Q, e, h => by cases e
  | n + 1, x :: xs, s, Q, e, h => by
    unfold drawOrder
    refine wpAny_bind (choose_ok (by simp) fun k d hk => ?_)
    have hk' : (x :: xs)[k]? = some (x :: xs)[k] := List.getElem?_eq_getElem hk
    rw [hk']
    dsimp only
    refine wpAny_bind (drawOrder_ok n _ _ (by rw [List.length_eraseIdx_of_lt hk, e]; rfl) fun ys d' hp => ?_)
    exact wpAny_pure (h _ d' ((hp.cons _).trans (eraseIdx_perm hk')))
abbrev siObj (first : Value) (i : Nat) (S : Addr) (n ep : Nat) : Obj := { cls := .type "set_iterator", data := .fields #[first, .int i 0, .ref S, .int n 0, .int ep 0] }
def drawnB (es : Array (Int × Value)) (t : SetTable) : Bool := !t.plain && decide (es.size > 1)
theorem set_iter {S : Addr} {ks : List Key} {es : Array (Int × Value)} {ep : Nat} {t : SetTable} {Q : Value → Shared → Prop} (hS : SetR prog w s.heap S ks es ep t)
    (h1 : (!byTextW w && drawnB es t) = false → Q (.ref s.heap.objs.size) { s with heap := s.heap.push (siObj (.int 0 0) 0 S es.size ep) })
    (h2 : (!byTextW w && drawnB es t) = true → ∀ (d : Drawn) (ps : List Nat), ps.Perm (List.range es.size) → Q (.ref (s.heap.objs.size + 1)) { s with heap := (s.heap.push { cls := .type "tuple", data := .seq (ps.map fun (i : Nat) => Value.int i 0).toArray }).push (siObj (.ref s.heap.objs.size) 0 S es.size ep), drawn := d }) :
    wpAny (model prog w) A (pyIter (.ref S)) Q E s := by
  have hT : s.TypeIs (.ref S) "set" := ⟨_, hS.obj, rfl⟩
  have hz : es.size ≤ sizeLine := fits_of_scanBound hS.few
  refine wpAny_pyIter_slot hT F.slot_set_iter (wpAny_call_entry F.slot_set_iter hT entry_set_iter' ?_ (F.args_set_iter_1 _))
  unfold Builtin.«frozenset.__iter__» Builtin.Frozenset.slot0 slotArgs
  simp only [List.isEmpty_nil, Bool.not_true, Bool.false_eq_true, ↓reduceIte, bind_assoc, List.length_nil, bne_self_eq_false]
  unfold Builtin.Frozenset.addrOf Builtin.Frozenset.sizeOf
  refine wpAny_bind (wpAny_pure ?_)
  try dsimp only
  refine wpAny_bind (wpAny_pure ?_)
  refine wpAny_bind (wpAny_bind (wpAny_setEntries_of hS.obj rfl hS.fits (wpAny_pure ?_)))
  unfold setDrawn setsByText
  refine wpAny_bind (wpAny_bind (wpAny_setState_of hS.obj rfl hS.fits (wpAny_bind (wpAny_bind (wpAny_askSetting (wpAny_pure (wpAny_pure ?_)))))))
  show wpAny _ _ (if (!byTextW w && drawnB es t) = true then _ else _) _ _ _
  cases hb : (!byTextW w && drawnB es t)
  · rw [if_neg (by simp)]
    refine wpAny_bind (wpAny_pure ?_)
    refine wpAny_bind (wpAny_setEpoch_of hS.obj rfl hS.fits ?_)
    refine wpAny_bind (wpAny_newObj_type (wpAny_pure ⟨_, rfl, "set_iterator", _, ⟨_, Heap.get?_push_size _ rfl, rfl⟩, slot_si_next.lookup, ?_⟩))
    exact h1 hb
  · rw [if_pos rfl]
    refine wpAny_bind (drawOrder_ok es.size (List.range es.size) s (by simp) fun ps d hp => ?_)
    have hl : ps.length = es.size := by rw [hp.length_eq]; simp
    refine wpAny_bind (wpAny_newTuple ?_ (by rw [List.length_map, hl]; exact hz))
    have hS2 := hS.keep (h' := s.heap.push { cls := .type "tuple", data := .seq (ps.map fun (i : Nat) => rawInt i).toArray }) fun o e => Heap.get?_push_of_some _ e
    refine wpAny_bind (wpAny_setEpoch_of hS2.obj rfl hS2.fits ?_)
    refine wpAny_bind (wpAny_newObj_type (wpAny_pure ⟨_, rfl, "set_iterator", _, ⟨_, Heap.get?_push_size _ rfl, rfl⟩, slot_si_next.lookup, ?_⟩))
    have := h2 hb d ps hp
    rw [size_push']
    exact this
theorem si_start {I S : Addr} {first : Value} {i n ep : Nat} {Q : Option Value → Shared → Prop} (hI : s.heap.get? I = some (siObj first i S n ep))
    (h : wpAny (model prog w) A.in1 (Builtin.«set_iterator.__next__» ⟨[.ref I], []⟩) (fun fin s' => ∃ r, fin = .done (.ret r) ∧ Q (some r) s') (fun e s' => wpAny (model prog w) A (do if ← isInstance e (.type "StopIteration") then pure none else throw e) Q E s') s) :
    wpAny (model prog w) A (pyNext (.ref I)) Q E s := by
  have hT : s.TypeIs (.ref I) "set_iterator" := ⟨_, hI, rfl⟩
  unfold pyNext
  refine wpAny_bind (wpAny_attempt (wpAny_callSpecial?_slot (name := Str.ofString "__next__") hT slot_si_next (wpAny_call_entry slot_si_next hT entry_si_next ?_ (args_si_next _))))
  refine wpAny_mono h (fun fin s' q => ?_) fun e s' q => ?_
  · obtain ⟨r, rfl, q⟩ := q
    exact ⟨_, rfl, wpAny_pure q⟩
  · exact q
theorem si_field {I S : Addr} {first : Value} {i n ep : Nat} (hI : s.heap.get? I = some (siObj first i S n ep)) {first' : Value} {i' : Nat} {fs : Array Value} (k : Nat) (v : Value) (hk : k < 5) (e : (#[first, .int i 0, .ref S, .int n 0, .int ep 0] : Array Value).setIfInBounds k v = fs) :
    (s.heap.update I (Obj.mapFields (·.setIfInBounds k v))).get? I = some { cls := .type "set_iterator", data := .fields fs } := by
  have := Heap.get?_update_self (Obj.mapFields (·.setIfInBounds k v)) hI (Obj.isFreed_of_fields (Obj.data_mapFields (o := siObj first i S n ep) rfl _))
  rw [this, ← e]
  rfl
end
end L2
set_option maxHeartbeats 8000000
namespace L2
open PySem PySem.Spec PyProof.Rows
section
variable {prog : Program} {w : World} {A : Around} {E : Value → Shared → Prop} {s : Shared}
theorem si_raise {Q : Option Value → Shared → Prop} {h0 : Heap} {I : Addr} (hh : A.handled = none) (hQ : ∀ h', Heap.ExtBut I h0 h' → Q none { s with heap := h' }) (hs : Heap.ExtBut I h0 s.heap) :
    wpAny (model prog w) A.in1 (newExc (.type "StopIteration") [] >>= fun e => (raiseNew e : Sem Fin)) (fun fin s' => ∃ r, fin = .done (.ret r) ∧ Q (some r) s') (fun e s' => wpAny (model prog w) A (do if ← isInstance e (.type "StopIteration") then pure none else throw e) Q E s') s := by
  refine wpAny_bind ?_
  simp only [newExc, newTuple]
  refine wpAny_bind (wpAny_newObj_type ?_ (by size_fits))
  refine wpAny_bind (m := firstArgMember _ _) (wpAny_of_eq (a := Value.none) (by first | rfl | (simp only [firstArgMember]; rfl)) ?_)
  refine wpAny_newObj_type ?_ (by size_fits)
  simp only [raiseNew]
  refine wpAny_bind (wpAny_handled ?_)
  rw [show A.in1.handled = none from hh]
  refine wpAny_bind (wpAny_pure (wpAny_throw ?_))
  refine wpAny_bind (wpAny_isInstance (T := "StopIteration") (b := true) ⟨_, Heap.get?_push_size _ rfl, rfl⟩ isSubtype_stop ?_)
  exact wpAny_pure (hQ _ ((hs.push _).push _))
theorem si_open {I S : Addr} {ks : List Key} {es : Array (Int × Value)} {i ep : Nat} {t : SetTable} {first : Value} {R : Fin → Shared → Prop} {F : Value → Shared → Prop} (hI : s.heap.get? I = some (siObj first i S es.size ep)) (hS : SetR prog w s.heap S ks es ep t)
    (h : wpAny (model prog w) A (if let .int slot _ := first then do
        match ← setNext S slot.toNat i ep with
        | some (x, next) =>
          setField (.ref I) 0 (rawInt next)
          setField (.ref I) 1 (rawInt (i + 1))
          ret x
        | none => setField (.ref I) 2 .none; raiseNew (← newExc (.type "StopIteration") [])
      else do
        let some places ← seqItems? first | unsupported "internal:set_iterator"
        match places[i]? with
        | some (.int place _) =>
          let x ← setNextDrawn S place.toNat ep
          setField (.ref I) 1 (rawInt (i + 1))
          ret x
        | some _ => unsupported "internal:set_iterator"
        | none => setField (.ref I) 0 (rawInt 0); setField (.ref I) 2 .none; raiseNew (← newExc (.type "StopIteration") [])) R F s) :
    wpAny (model prog w) A (Builtin.«set_iterator.__next__» ⟨[.ref I], []⟩) R F s := by
  unfold Builtin.«set_iterator.__next__» slotArgs
  simp only [List.isEmpty_nil, Bool.not_true, Bool.false_eq_true, ↓reduceIte, bind_assoc, List.length_nil, bne_self_eq_false]
  refine wpAny_bind (wpAny_pure ?_)
  try dsimp only
  refine wpAny_bind (wpAny_fieldsOf hI rfl ?_)
  dsimp only
  refine wpAny_bind (wpAny_setEntries_of hS.obj rfl hS.fits ?_)
  rw [if_neg (by simp)]
  exact h
theorem si_item {I S : Addr} {ks : List Key} {es : Array (Int × Value)} {i ep slot next : Nat} {t : SetTable} {v : Value} {Q : Option Value → Shared → Prop} (hI : s.heap.get? I = some (siObj (.int slot 0) i S es.size ep)) (hS : SetR prog w s.heap S ks es ep t)
    (hn : ∀ (Q : Option (Value × Nat) → Shared → Prop) (E : Value → Shared → Prop), Q (some (v, next)) s → wpAny (model prog w) A.in1 (setNext S slot i ep) Q E s)
    (hQ : ∀ h', h'.get? I = some (siObj (.int next 0) (i + 1) S es.size ep) → (∀ b, b ≠ I → h'.get? b = s.heap.get? b) → Q (some v) { s with heap := h' }) : wpAny (model prog w) A (pyNext (.ref I)) Q E s := by
  refine si_start hI (si_open hI hS ?_)
  dsimp only
  refine wpAny_bind (hn _ _ ?_)
  dsimp only
  refine wpAny_bind (wpAny_setField hI rfl (by simp) ?_)
  have h1 := si_field (s := s) hI (first' := .none) (i' := 0) (fs := #[.int next 0, .int i 0, .ref S, .int es.size 0, .int ep 0]) 0 (rawInt next) (by decide) (by simp [rawInt])
  refine wpAny_bind (wpAny_setField h1 rfl (by simp) ?_)
  have h2 := si_field (s := { s with heap := s.heap.update I (Obj.mapFields (·.setIfInBounds 0 (rawInt next))) }) (first := .int next 0) (i := i) (S := S) (n := es.size) (ep := ep) h1 (first' := .none) (i' := 0) (fs := #[.int next 0, .int ((i + 1 : Nat) : Int) 0, .ref S, .int es.size 0, .int ep 0]) 1 (rawInt ((i : Int) + 1)) (by decide) (by simp [rawInt])
  refine wpAny_pure ⟨_, rfl, hQ _ h2 fun b hb => ?_⟩
  exact ((Heap.SameBut.update _ I _).2 b hb).trans ((Heap.SameBut.update _ I _).2 b hb)
theorem si_end {I S : Addr} {ks : List Key} {es : Array (Int × Value)} {i ep slot : Nat} {t : SetTable} {Q : Option Value → Shared → Prop} (hh : A.handled = none) (hI : s.heap.get? I = some (siObj (.int slot 0) i S es.size ep)) (hS : SetR prog w s.heap S ks es ep t)
    (hn : ∀ (Q : Option (Value × Nat) → Shared → Prop) (E : Value → Shared → Prop), Q none s → wpAny (model prog w) A.in1 (setNext S slot i ep) Q E s)
    (hQ : ∀ h', Heap.ExtBut I s.heap h' → Q none { s with heap := h' }) : wpAny (model prog w) A (pyNext (.ref I)) Q E s := by
  refine si_start hI (si_open hI hS ?_)
  dsimp only
  refine wpAny_bind (hn _ _ ?_)
  dsimp only
  refine wpAny_bind (wpAny_setField hI rfl (by simp) ?_)
  exact si_raise (s := { s with heap := s.heap.update I (Obj.mapFields (·.setIfInBounds 2 .none)) }) (I := I) (h0 := s.heap) hh hQ (Heap.SameBut.update ..).extBut
theorem sd_item {I S T : Addr} {ks : List Key} {es : Array (Int × Value)} {i ep p : Nat} {t : SetTable} {ps : Array Value} {hv : Int} {v : Value} {Q : Option Value → Shared → Prop} (hI : s.heap.get? I = some (siObj (.ref T) i S es.size ep)) (hS : SetR prog w s.heap S ks es ep t)
    (hT : s.heap.get? T = some { cls := .type "tuple", data := .seq ps }) (hp : ps[i]? = some (.int p 0)) (he : es[p]? = some (hv, v))
    (hQ : ∀ h', h'.get? I = some (siObj (.ref T) (i + 1) S es.size ep) → (∀ b, b ≠ I → h'.get? b = s.heap.get? b) → Q (some v) { s with heap := h' }) : wpAny (model prog w) A (pyNext (.ref I)) Q E s := by
  refine si_start hI (si_open hI hS ?_)
  dsimp only
  unfold seqItems?
  refine wpAny_bind (wpAny_bind (wpAny_load hT (wpAny_pure ?_)))
  dsimp only
  rw [hp]
  dsimp only
  unfold setNextDrawn
  refine wpAny_bind (wpAny_bind (wpAny_setState_of hS.obj rfl hS.fits ?_))
  dsimp only
  rw [if_neg (by simp)]
  rw [show es[(p : Int).toNat]? = some (hv, v) from he]
  refine wpAny_pure ?_
  refine wpAny_bind (wpAny_setField hI rfl (by simp) ?_)
  have h2 := si_field (s := s) hI (first' := .none) (i' := 0) (fs := #[.ref T, .int ((i + 1 : Nat) : Int) 0, .ref S, .int es.size 0, .int ep 0]) 1 (rawInt ((i : Int) + 1)) (by decide) (by simp [rawInt])
  exact wpAny_pure ⟨_, rfl, hQ _ h2 fun b hb => (Heap.SameBut.update _ I _).2 b hb⟩
theorem sd_end {I S T : Addr} {ks : List Key} {es : Array (Int × Value)} {i ep : Nat} {t : SetTable} {ps : Array Value} {Q : Option Value → Shared → Prop} (hh : A.handled = none) (hI : s.heap.get? I = some (siObj (.ref T) i S es.size ep)) (hS : SetR prog w s.heap S ks es ep t)
    (hT : s.heap.get? T = some { cls := .type "tuple", data := .seq ps }) (hp : ps[i]? = none)
    (hQ : ∀ h', Heap.ExtBut I s.heap h' → Q none { s with heap := h' }) : wpAny (model prog w) A (pyNext (.ref I)) Q E s := by
  refine si_start hI (si_open hI hS ?_)
  dsimp only
  unfold seqItems?
  refine wpAny_bind (wpAny_bind (wpAny_load hT (wpAny_pure ?_)))
  dsimp only
  rw [hp]
  dsimp only
  refine wpAny_bind (wpAny_setField hI rfl (by simp) ?_)
  have h1 := si_field (s := s) hI (first' := .none) (i' := 0) (fs := #[.int 0 0, .int i 0, .ref S, .int es.size 0, .int ep 0]) 0 (rawInt 0) (by decide) (by simp [rawInt])
  refine wpAny_bind (wpAny_setField h1 rfl (by simp) ?_)
  refine si_raise (s := { s with heap := (s.heap.update I (Obj.mapFields (·.setIfInBounds 0 (rawInt 0)))).update I (Obj.mapFields (·.setIfInBounds 2 .none)) }) (I := I) (h0 := s.heap) hh hQ ?_
  exact ((Heap.SameBut.update s.heap I _).trans (Heap.SameBut.update _ I _)).extBut
end
end L2
set_option maxHeartbeats 8000000
namespace L2
open PySem PySem.Spec PyProof.Rows
theorem pick_go {α : Type} (next : Nat → Nat) : ∀ (fuel k : Nat) (left : List α) (out : Array α), left.length = fuel → (pickOrder.go next fuel k left out).toList.Perm (out.toList ++ left)
  | 0, k, left, out, e => by
    have : left = [] := List.length_eq_zero_iff.mp e
    subst this
    unfold pickOrder.go
    simp
  | fuel + 1, k, left, out, e => by
    unfold pickOrder.go
    have hlt : next k % left.length < left.length := Nat.mod_lt _ (by omega)
    have hg : left[next k % left.length]? = some left[next k % left.length] := List.getElem?_eq_getElem hlt
    rw [hg]
    dsimp only
    refine (pick_go next fuel (k + 1) _ _ (by rw [List.length_eraseIdx_of_lt hlt, e]; rfl)).trans ?_
    rw [Array.toList_push, List.append_assoc]
    refine List.Perm.append_left _ ?_
    exact eraseIdx_perm hg
theorem pick_perm {α : Type} (next : Nat → Nat) (xs : Array α) : (pickOrder next xs).toList.Perm xs.toList := by
  unfold pickOrder
  have := pick_go next xs.size 0 xs.toList #[] (by simp)
  simpa using this
def slAt (place : Array Nat) : Nat → Nat
  | 0 => 0
  | i + 1 => (place[i]?.getD 0) + 1
theorem below_slAt {place : Array Nat} (h : Ris place) : ∀ {i : Nat}, i ≤ place.size → SetTable.below place (slAt place i) = i
  | 0, _ => by
    obtain ⟨h1, h2, h3⟩ := below_spec h 0
    show SetTable.below place 0 = 0
    rcases Nat.eq_zero_or_pos (SetTable.below place 0) with q | q
    · exact q
    · have hz : 0 < place.size := by omega
      have := h2 0 _ q (Array.getElem?_eq_getElem hz)
      omega
  | i + 1, hi => by
    have hlt : i < place.size := hi
    have eg : place[i]? = some place[i] := Array.getElem?_eq_getElem hlt
    have es : slAt place (i + 1) = place[i] + 1 := by show (place[i]?.getD 0) + 1 = _; rw [eg]; rfl
    rw [es]
    obtain ⟨h1, h2, h3⟩ := below_spec h (place[i] + 1)
    rcases Nat.lt_trichotomy (SetTable.below place (place[i] + 1)) (i + 1) with q | q | q
    · have := h3 i _ (by omega) eg
      omega
    · exact q
    · have hlt2 : i + 1 < place.size := by omega
      have e2 : place[i + 1]? = some place[i + 1] := Array.getElem?_eq_getElem hlt2
      have a := h2 (i + 1) _ q e2
      have b := h.lt (Nat.lt_succ_self i) eg e2
      omega
section
variable {prog : Program} {w : World}
def Nx (prog : Program) (w : World) (S : Addr) (ks : List Key) (es : Array (Int × Value)) (ep : Nat) (t : SetTable) (sl : Nat → Nat) (vs : List Value) : Prop :=
  ∀ (i : Nat) (s : Shared) (A : Around) (E : Value → Shared → Prop) (Q : Option (Value × Nat) → Shared → Prop), SetR prog w s.heap S ks es ep t → i ≤ es.size → Q ((vs[i]?).map fun v => (v, sl (i + 1))) s → wpAny (model prog w) A (setNext S (sl i) i ep) Q E s
theorem nx_text {S : Addr} {ks : List Key} {es : Array (Int × Value)} {ep : Nat} {t : SetTable} (hb : byTextW w = true) : Nx prog w S ks es ep t (fun _ => 0) ((pickOrder (w.params.setOrder S ep) es).toList.map (·.2)) := by
  intro i s A E Q hS hi q
  unfold setNext setsByText
  refine wpAny_bind (wpAny_setState_of hS.obj rfl hS.fits ?_)
  dsimp only
  refine wpAny_bind (wpAny_bind (wpAny_askSetting (wpAny_pure ?_)))
  rw [if_pos (show (model prog w).w.params.followText "set-order" = true from hb), if_neg (by simp)]
  unfold setWalk setsByText
  refine wpAny_bind (wpAny_bind (wpAny_setState_of hS.obj rfl hS.fits ?_))
  dsimp only
  refine wpAny_bind (wpAny_bind (wpAny_askSetting (wpAny_pure ?_)))
  rw [if_pos (show (model prog w).w.params.followText "set-order" = true from hb)]
  refine wpAny_bind (wpAny_askSetting (wpAny_pure (wpAny_pure ?_)))
  rw [List.getElem?_map, Option.map_map, Array.getElem?_toList] at q
  exact q
theorem nx_plain {S : Addr} {ks : List Key} {es : Array (Int × Value)} {ep : Nat} {t : SetTable} (hb : byTextW w = false) (hd : drawnB es t = false) : Nx prog w S ks es ep t (slAt t.place) (es.toList.map (·.2)) := by
  intro i s A E Q hS hi q
  have hps : t.place.size = es.size := by have := hS.fits; simp [SetTable.fits] at this; exact this.1
  unfold setNext setsByText
  refine wpAny_bind (wpAny_setState_of hS.obj rfl hS.fits ?_)
  dsimp only
  refine wpAny_bind (wpAny_bind (wpAny_askSetting (wpAny_pure ?_)))
  rw [if_neg (show ¬ (model prog w).w.params.followText "set-order" = true by show ¬ byTextW w = true; rw [hb]; decide)]
  have hled : t.led = true := by rw [hS.tab.led, hb]; rfl
  show wpAny _ _ (if drawnB es t = true then _ else _) _ _ _
  rw [if_neg (by rw [hd]; decide)]
  show wpAny _ _ ((if (!t.led && !es.isEmpty) = true then unsupported _ else pure ()) >>= _) _ _ _
  rw [if_neg (by rw [hled]; simp)]
  refine wpAny_bind (wpAny_pure (wpAny_pure ?_))
  rw [below_slAt hS.tab.ris (by rw [hps]; exact hi)]
  rw [List.getElem?_map, Option.map_map, Array.getElem?_toList] at q
  by_cases hlt : i < es.size
  · rw [Array.getElem?_eq_getElem hlt] at q ⊢
    have hp2 : i < t.place.size := by rw [hps]; exact hlt
    have e2 : slAt t.place (i + 1) = t.place[i] + 1 := by show (t.place[i]?.getD 0) + 1 = _; rw [Array.getElem?_eq_getElem hp2]; rfl
    rw [Array.getElem?_eq_getElem hp2]
    dsimp only [Option.map_some, Function.comp] at q ⊢
    rw [e2] at q
    exact q
  · rw [Array.getElem?_eq_none (by omega)] at q ⊢
    exact q
theorem slot_si_iter : Slot "set_iterator" "__iter__" "set_iterator.__iter__" :=
  .of (owner := "set_iterator") (n := "__iter__") (by rw [typeLookup_type, builtinLookup_eq_fast]; kernel_rfl) (by decide +kernel) (by decide +kernel) (by decide +kernel)
    (by first | exact .inl (by decide +kernel) | exact .inr (by decide +kernel)) (by rw [isSubtype_type]; kernel_rfl)
theorem entry_si_iter : entryFor table "set_iterator.__iter__" = some Builtin.«dict_keyiterator.__iter__» :=
  entryFor_alias (id' := "dict_keyiterator.__iter__") (by kernel_rfl) rfl (by decide +kernel) (by kernel_rfl)
theorem args_si_iter (a : Value) : argsOk "set_iterator.__iter__" ⟨[a], []⟩ := by unfold argsOk; kernel_rfl
theorem si_self {A : Around} {E : Value → Shared → Prop} {s : Shared} {I S : Addr} {first : Value} {i n ep : Nat} {Q : Value → Shared → Prop} (hI : s.heap.get? I = some (siObj first i S n ep)) (h : Q (.ref I) s) : wpAny (model prog w) A (pyIter (.ref I)) Q E s := by
  have hT : s.TypeIs (.ref I) "set_iterator" := ⟨_, hI, rfl⟩
  refine wpAny_pyIter_slot hT slot_si_iter (wpAny_call_entry slot_si_iter hT entry_si_iter ?_ (args_si_iter _))
  show wpAny _ _ (ret (.ref I)) _ _ s
  exact wpAny_pure ⟨_, rfl, "set_iterator", _, hT, slot_si_next.lookup, h⟩
theorem walk_int {A : Around} (hh : A.handled = none) {I S : Addr} (hne : S ≠ I) {ks : List Key} {es : Array (Int × Value)} {ep : Nat} {t : SetTable} {sl : Nat → Nat} {vs : List Value} (hv : vs.length = es.size) (hn : Nx prog w S ks es ep t sl vs) :
    Walks prog w A I [I, S] [I] es.size (fun i v => vs[i]? = some v) (fun i h => h.get? I = some (siObj (.int (sl i) 0) i S es.size ep) ∧ SetR prog w h S ks es ep t) where
  sub := fun b hb => by simp at hb; simp [hb]
  frame := fun _ _ _ st hk => ⟨hk I (by simp) _ st.1, st.2.keep fun o e => hk S (by simp) o e⟩
  item := fun i s Q E hi st hQ => by
    have e : vs[i]? = some (vs[i]'(by omega)) := List.getElem?_eq_getElem (by omega)
    refine si_item (v := vs[i]'(by omega)) (next := sl (i + 1)) st.1 st.2 (fun Q E q => hn i s _ E Q st.2 (Nat.le_of_lt hi) (by rw [e]; exact q)) fun h' h1 h2 => ?_
    exact hQ _ h' s.toks e ⟨h1, st.2.keep fun o q => (h2 S hne).trans q⟩ fun b o hb q => (h2 b (by simpa using hb)).trans q
  done := fun s Q E st hQ => si_end hh st.1 st.2 (fun Q E q => hn es.size s _ E Q st.2 (Nat.le_refl _) (by rw [List.getElem?_eq_none (by omega)]; exact q)) fun h' he => hQ h' s.toks fun b o hb e => he b o (fun h => hb (by simp [h])) e
  self := fun i s Q E st hQ => si_self st.1 hQ
theorem walk_drawn {A : Around} (hh : A.handled = none) {I S T : Addr} (hne : S ≠ I) (hnt : T ≠ I) {ks : List Key} {es : Array (Int × Value)} {ep : Nat} {t : SetTable} {ps : List Nat} (hp : ps.Perm (List.range es.size)) :
    Walks prog w A I [I, S, T] [I] es.size (fun i v => (ps.filterMap fun j => (es[j]?).map (·.2))[i]? = some v) (fun i h => h.get? I = some (siObj (.ref T) i S es.size ep) ∧ SetR prog w h S ks es ep t ∧ h.get? T = some { cls := .type "tuple", data := .seq (ps.map fun (i : Nat) => Value.int i 0).toArray }) where
  sub := fun b hb => by simp at hb; simp [hb]
  frame := fun _ _ _ st hk => ⟨hk I (by simp) _ st.1, st.2.1.keep fun o e => hk S (by simp) o e, hk T (by simp) _ st.2.2⟩
  item := fun i s Q E hi st hQ => by
    have hl : ps.length = es.size := by rw [hp.length_eq]; simp
    have hlt : i < ps.length := by omega
    have hpi : ps[i] < es.size := List.mem_range.mp (hp.mem_iff.mp (List.getElem_mem hlt))
    have em : (ps.filterMap fun j => (es[j]?).map (·.2)) = ps.map fun j => (es.getD j (0, .none)).2 := by
      have gen : ∀ l : List Nat, (∀ j ∈ l, j < es.size) → (l.filterMap fun j => (es[j]?).map (·.2)) = l.map fun j => (es.getD j (0, .none)).2 := by
        intro l
        induction l with
        | nil => intro _; rfl
        | cons a l ih =>
          intro hl
          have ha := hl a List.mem_cons_self
          rw [List.filterMap_cons, ih fun j hj => hl j (List.mem_cons_of_mem _ hj)]
          simp [Array.getD, ha]
      exact gen ps fun j hj => List.mem_range.mp (hp.mem_iff.mp hj)
    refine sd_item (p := ps[i]) (hv := es[ps[i]].1) (v := es[ps[i]].2) st.1 st.2.1 st.2.2 (by simp [hlt]) (by rw [Array.getElem?_eq_getElem hpi]) fun h' h1 h2 => ?_
    refine hQ _ h' s.toks ?_ ⟨h1, st.2.1.keep fun o q => (h2 S hne).trans q, (h2 T hnt).trans st.2.2⟩ fun b o hb q => (h2 b (by simpa using hb)).trans q
    rw [em, List.getElem?_map, List.getElem?_eq_getElem hlt]
    simp [Array.getD, hpi]
  done := fun s Q E st hQ => by
    have hl : ps.length = es.size := by rw [hp.length_eq]; simp
    exact sd_end hh st.1 st.2.1 st.2.2 (by simp [hl]) fun h' he => hQ h' s.toks fun b o hb e => he b o (fun h => hb (by simp [h])) e
  self := fun i s Q E st hQ => si_self st.1 hQ
end
end L2
set_option maxHeartbeats 8000000
namespace L2
open PySem PySem.Spec PyProof.Rows
section
variable {prog : Program} {w : World} {A : Around} {E : Value → Shared → Prop} {s : Shared}
theorem set_walk (hh : A.handled = none) {S : Addr} {ks : List Key} {es : Array (Int × Value)} {ep : Nat} {t : SetTable} {Q : Value → Shared → Prop} (hS : SetR prog w s.heap S ks es ep t)
    (h : ∀ (I : Addr) (h1 : Heap) (d : Drawn) (fp : List Addr) (vs : List Value) (St : Nat → Heap → Prop), (∀ b o, s.heap.get? b = some o → h1.get? b = some o) → s.heap.objs.size ≤ I → (∀ b ∈ fp, b = S ∨ s.heap.objs.size ≤ b) →
      Walks prog w A I fp [I] es.size (fun i v => vs[i]? = some v) St → St 0 h1 → vs.length = es.size → vs.Perm (es.toList.map (·.2)) → Q (.ref I) { s with heap := h1, drawn := d }) :
    wpAny (model prog w) A (pyIter (.ref S)) Q E s := by
  have hlt : S < s.heap.objs.size := Heap.lt_size hS.obj
  refine set_iter hS (fun hb => ?_) fun hb d ps hp => ?_
  · have key : ∀ sl vs, sl 0 = 0 → vs.length = es.size → vs.Perm (es.toList.map (·.2)) → Nx prog w S ks es ep t sl vs → Q (.ref s.heap.objs.size) { s with heap := s.heap.push (siObj (.int 0 0) 0 S es.size ep) } := fun sl vs h0 hl hpm hn => by
      have W := walk_int (A := A) hh (I := s.heap.objs.size) (S := S) (Nat.ne_of_lt hlt) hl hn
      have := h s.heap.objs.size (s.heap.push (siObj (.int 0 0) 0 S es.size ep)) s.drawn _ vs _ (fun b o e => Heap.get?_push_of_some _ e) (Nat.le_refl _) (fun b hb => ?_) W ⟨?_, hS.keep fun o e => Heap.get?_push_of_some _ e⟩ hl hpm
      · exact this
      · simp only [List.mem_cons, List.not_mem_nil, or_false] at hb
        rcases hb with rfl | rfl
        · exact .inr (Nat.le_refl _)
        · exact .inl rfl
      · rw [h0]
        exact Heap.get?_push_size _ rfl
    cases hbt : byTextW w with
    | true => exact key _ _ rfl (by rw [List.length_map, (pick_perm _ _).length_eq, Array.length_toList]) ((pick_perm _ _).map _) (nx_text hbt)
    | false =>
      rw [hbt] at hb
      exact key _ _ rfl (by rw [List.length_map, Array.length_toList]) (List.Perm.refl _) (nx_plain hbt (by simpa using hb))
  · have hl : ps.length = es.size := by rw [hp.length_eq]; simp
    have W := walk_drawn (prog := prog) (w := w) (A := A) hh (I := s.heap.objs.size + 1) (S := S) (T := s.heap.objs.size) (Nat.ne_of_lt (Nat.lt_succ_of_lt hlt)) (Nat.ne_of_lt (Nat.lt_succ_self _)) (ks := ks) (es := es) (ep := ep) (t := t) hp
    have pm : (ps.filterMap fun j => (es[j]?).map (·.2)).Perm (es.toList.map (·.2)) := by
      refine (hp.filterMap _).trans ?_
      rw [← List.map_filterMap]
      rw [filterMap_getElem?_range]
    refine h (s.heap.objs.size + 1) _ d _ _ _ (fun b o e => Heap.get?_push_of_some _ (Heap.get?_push_of_some _ e)) (Nat.le_succ _) (fun b hb => ?_) W ⟨?_, hS.keep fun o e => Heap.get?_push_of_some _ (Heap.get?_push_of_some _ e), Heap.get?_push_of_some _ (Heap.get?_push_size _ rfl)⟩ (by rw [pm.length_eq, List.length_map, Array.length_toList]) pm
    · simp only [List.mem_cons, List.not_mem_nil, or_false] at hb
      rcases hb with rfl | rfl | rfl
      · exact .inr (Nat.le_succ _)
      · exact .inl rfl
      · exact .inr (Nat.le_refl _)
    · have := Heap.get?_push_size (s.heap.push { cls := .type "tuple", data := .seq (ps.map fun (i : Nat) => Value.int i 0).toArray }) (o := siObj (.ref s.heap.objs.size) 0 S es.size ep) rfl
      rw [size_push'] at this
      exact this
theorem hint_set {r : Addr} {Q : Bool → Shared → Prop} (hT : s.TypeIs (.ref r) "set") (h : Q false s) : wpAny (model prog w) A (Builtin.List.listLengthHint (.ref r)) Q E s := by
  unfold Builtin.List.listLengthHint
  refine wpAny_bind (wpAny_specialOf hT PySem.F.slot_set_len.lookup ?_)
  generalize hid : ("set.__len__" : String) = id0
  wp_delta
  rw [show splitId id0 = some ("set", "__len__") from by subst hid; decide +kernel]
  subst hid
  refine wpAny_bind (wpAny_isInstance (T := "set") (b := true) hT (by rw [isSubtype_type]; kernel_rfl) ?_)
  refine wpAny_ite_split (fun hab => absurd hab (by decide)) (fun _ => ?_)
  refine wpAny_ite_split (fun _ => ?_) (fun hab => absurd (by decide +kernel) hab)
  refine wpAny_bind (wpAny_typeOf hT ?_)
  exact wpAny_pure h
theorem set_extend {S L : Addr} {ks : List Key} {es : Array (Int × Value)} {ep : Nat} {t : SetTable} {R : Result → Shared → Prop} (hh : A.handled = none) (hS : SetR prog w s.heap S ks es ep t) (hSL : L ≠ S) (res : Value) (c₀ : Nat) (hL : s.heap.get? L = some { cls := .type "list", data := .seq #[] c₀ })
    (hR : ∀ h' tk d acc' c', (∀ b o, b ≠ L → s.heap.get? b = some o → h'.get? b = some o) → h'.get? L = some { cls := .type "list", dict := none, data := .seq acc' c', slots := #[] } → acc'.toList.Perm (es.toList.map (·.2)) → R (.ok (.ret res)) { s with heap := h', toks := tk, drawn := d }) :
    wpAny (model prog w) A.in1 (Builtin.List.listExtendWith (.ref L) (.ref S) res)
      (fun fin s' => match fin with | .done f => R (.ok f) s' | .again c' => c'.quiet = true ∧ codeAny (model prog w) A c' R s') (fun e s' => R (.error e) s') s := by
  have hT : s.TypeIs (.ref S) "set" := ⟨_, hS.obj, rfl⟩
  have hz : es.size ≤ sizeLine := fits_of_scanBound hS.few
  unfold Builtin.List.listExtendWith
  refine wpAny_bind (wpAny_typeOf hT ?_)
  have h1 : Builtin.List.listSameRef (.ref L) (.ref S) = false := by simp [Builtin.List.listSameRef, hSL]
  have h2 : (Value.type "set" == Value.type "list") = false := by decide
  have h3 : (Value.type "set" == Value.type "tuple") = false := by decide
  simp only [h1, h2, h3, Bool.or_false, Bool.false_eq_true, if_false]
  refine wpAny_bind (set_walk (A := A.in1) hh hS fun I h1 d fp vs St hk hI hfp W st hvl hpm => ?_)
  have hLlt : L < s.heap.objs.size := Heap.lt_size hL
  have hLI : L ≠ I := Nat.ne_of_lt (Nat.lt_of_lt_of_le hLlt hI)
  have hLf : L ∉ fp := fun hb => by
    rcases hfp L hb with e | e
    · exact hSL e
    · exact absurd hLlt (Nat.not_lt.mpr e)
  have key : ∀ (h : Heap) (c₁ tk : Nat), St 0 h → (∀ b o, b ≠ L → s.heap.get? b = some o → h.get? b = some o) →
      h.get? L = some { cls := .type "list", data := .seq #[] c₁ } → codeAny (model prog w) A (.builtin "list.extend.loop" ⟨[.ref L, .ref I, res], []⟩) R { s with heap := h, toks := tk, drawn := d } := by
    intro h c₁ tk hst hkk hS₁
    refine codeAny_extend_loopS W.toS hz L hLf res es.size 0 _ #[] c₁ rfl (Nat.zero_le _) hst hS₁ (ItemsOf.nil _) fun s' acc' c' hm hS' hacc => ?_
    rw [Moved.eq_with hm]
    refine hR s'.heap s'.toks d acc' c' (fun b o hb e => hm.heap b o (fun hmem => ?_) (hkk b o hb e)) hS' ?_
    · rcases List.mem_cons.mp hmem with e' | hmem
      · exact hb e'
      · have := List.mem_singleton.mp hmem
        subst this
        exact absurd (Heap.lt_size e) (Nat.not_lt.mpr hI)
    · have ev : acc'.toList = vs := by
        refine List.ext_getElem? fun i => ?_
        rw [Array.getElem?_toList]
        by_cases hlt : i < es.size
        · have : i < acc'.size := by rw [hacc.1]; exact hlt
          rw [Array.getElem?_eq_getElem this]
          exact (hacc.2 i _ (Array.getElem?_eq_getElem this)).symm
        · rw [Array.getElem?_eq_none (by rw [hacc.1]; omega), List.getElem?_eq_none (by omega)]
      rw [ev]
      exact hpm
  have hS₁ : h1.get? L = some { cls := .type "list", data := .seq #[] c₀ } := hk _ _ hL
  refine wpAny_bind (wpAny_holding (hint_set (s := { s with heap := h1, drawn := d }) ⟨_, hk _ _ hS.obj, rfl⟩ ?_))
  refine wpAny_ite_split (fun _ => ?_) (fun _ => wpAny_pure ⟨plainId_quiet PySem.F.plain_extend_loop _, key _ c₀ _ st (fun b o _ e => hk b o e) hS₁⟩)
  refine wpAny_bind (wpAny_rule ?_)
  refine wpAny_bind ?_
  show wpAny _ _ (updateSeq L (·.push .none) >>= fun _ => updateSeq L (·.pop)) _ _ _
  refine wpAny_bind (wpAny_updateSeq hS₁ rfl ?_)
  have hS₂ := Heap.get?_update_self (Obj.mapSeq (·.push Value.none)) hS₁ rfl
  refine wpAny_updateSeq (hz := by seq_fits) hS₂ rfl ?_
  have hS₃ := Heap.get?_update_self (Obj.mapSeq (·.pop)) hS₂ rfl
  refine wpAny_pure ⟨plainId_quiet PySem.F.plain_extend_loop _, key _ _ _ ?_ (fun b o hb e => ?_) hS₃⟩
  · refine W.frame 0 _ _ st fun b hb o e => ?_
    have hbS : b ≠ L := fun h => hLf (h ▸ hb)
    exact (Heap.get?_update_other _ _ (Ne.symm hbS)).trans ((Heap.get?_update_other _ _ (Ne.symm hbS)).trans e)
  · exact (Heap.get?_update_other _ _ (Ne.symm hb)).trans ((Heap.get?_update_other _ _ (Ne.symm hb)).trans (hk _ _ e))
theorem set_collect {S : Addr} {ks : List Key} {es : Array (Int × Value)} {ep : Nat} {t : SetTable} {R : List Value → Shared → Prop} (hh : A.handled = none) (hS : SetR prog w s.heap S ks es ep t)
    (h : ∀ (h' : Heap) (tk : Nat) (d : Drawn) (vs : List Value), s.heap.objs.size ≤ h'.objs.size → (∀ b o, s.heap.get? b = some o → h'.get? b = some o) → vs.Perm (es.toList.map (·.2)) → R vs { s with heap := h', toks := tk, drawn := d }) :
    wpAny (model prog w) A (collect (.ref S)) R E s := by
  have hlt : S < s.heap.objs.size := Heap.lt_size hS.obj
  unfold collect
  refine wpAny_bind (wpAny_runValue (codeAny_builtin entry_proto_collect' ?_))
  rw [Around.under_plainId PySem.F.plain_proto_collect _]
  show wpAny _ A.in1 (newList [] >>= fun l => again (.builtin "list.__iadd__" ⟨[l, .ref S], []⟩)) _ _ s
  refine wpAny_bind (wpAny_newObj_type ?_)
  refine wpAny_pure ⟨plainId_quiet PySem.F.plain_list_iadd _, codeAny_builtin entry_list_iadd' ?_⟩
  rw [Around.under_plainId PySem.F.plain_list_iadd _]
  have hL : (s.heap.push { cls := .type "list", data := .seq ([] : List Value).toArray }).get? s.heap.objs.size = some { cls := .type "list", data := .seq #[] } := Heap.get?_push_size _ rfl
  show wpAny _ A.in1 (Builtin.List.listExtendWith (.ref s.heap.objs.size) (.ref S) (.ref s.heap.objs.size)) _ _ _
  have key := set_extend (A := A) (s := { s with heap := s.heap.push { cls := .type "list", data := .seq ([] : List Value).toArray } })
    (R := fun (q : Result) (s' : Shared) => ∃ (h' : Heap) (tk : Nat) (d : Drawn) (acc' : Array Value) (c' : Nat), q = .ok (.ret (.ref s.heap.objs.size)) ∧ s' = { s with heap := h', toks := tk, drawn := d } ∧
      (∀ b o, s.heap.get? b = some o → h'.get? b = some o) ∧ h'.get? s.heap.objs.size = some { cls := .type "list", dict := none, data := .seq acc' c', slots := #[] } ∧ acc'.toList.Perm (es.toList.map (·.2)))
    hh (hS.keep fun o e => Heap.get?_push_of_some _ e) (Nat.ne_of_gt hlt) (.ref s.heap.objs.size) 0 hL
    (fun h' tk d acc' c' hk hS' hacc => ⟨h', tk, d, acc', c', rfl, rfl, fun b o e => hk b o (Nat.ne_of_lt (Heap.lt_size e)) (Heap.get?_push_of_some _ e), hS', hacc⟩)
  refine wpAny_mono key (fun fin s' x => ?_) fun e s' x => ?_
  · cases fin with
    | done f =>
      obtain ⟨h', tk, d, acc', c', e, rfl, hk, hS', hacc⟩ := x
      cases e
      show wpAny _ A (load s.heap.objs.size >>= _) _ _ _
      refine wpAny_bind (wpAny_load hS' ?_)
      exact wpAny_pure (h h' tk d acc'.toList (Nat.le_of_lt (Heap.lt_size hS')) hk hacc)
    | again c₁ =>
      refine ⟨x.1, codeAny_mono x.2 fun q s₂ y => ?_⟩
      obtain ⟨h', tk, d, acc', c', rfl, rfl, hk, hS', hacc⟩ := y
      show wpAny _ A (load s.heap.objs.size >>= _) _ _ _
      refine wpAny_bind (wpAny_load hS' ?_)
      exact wpAny_pure (h h' tk d acc'.toList (Nat.le_of_lt (Heap.lt_size hS')) hk hacc)
  · obtain ⟨_, _, _, _, _, e', _⟩ := x
    cases e'
theorem set_sorted {S : Addr} {ks : List Key} {es : Array (Int × Value)} {ep : Nat} {t : SetTable} {Q : Value → Shared → Prop} (hh : A.handled = none) (hS : SetR prog w s.heap S ks es ep t)
    (h : ∀ (h' : Heap) (tk : Nat) (d : Drawn) (vs : List Value), s.heap.objs.size ≤ h'.objs.size → (∀ b o, s.heap.get? b = some o → h'.get? b = some o) → vs.Perm (es.toList.map (·.2)) →
      wpAny (model prog w) A.in1 (call (.builtin "list.sort") [.ref h'.objs.size]) (fun _ s' => Q (.ref h'.objs.size) s') E { s with heap := h'.push (seqObj "list" vs.toArray 0), toks := tk, drawn := d }) :
    wpAny (model prog w) A (call (.builtin "sorted") [.ref S]) Q E s := by
  refine Calls.call_function_entry kind_sorted plain_sorted entry_sorted (args_sorted1 _) ?_
  unfold Builtin.«sorted»
  refine wpAny_bind (m := checkCount "sorted" 1 1 _) (wpAny_pure ?_)
  refine wpAny_bind (set_collect (A := A.in1) hh hS fun h' tk d vs hz hk hp => ?_)
  have hl : vs.length ≤ sizeLine := by rw [hp.length_eq, List.length_map, Array.length_toList]; exact fits_of_scanBound hS.few
  refine wpAny_bind (wpAny_newList ?_ hl)
  refine wpAny_bind (wpAny_holding (wpAny_mono (h h' tk d vs hz hk hp) (fun _ s' x => ?_) fun _ _ e => e))
  exact wpAny_pure ⟨_, rfl, x⟩
end
end L2
set_option maxHeartbeats 8000000
namespace L2
open PySem PySem.Spec PyProof.Rows
def ltS (x y : Str) : Prop := x.cps.toList < y.cps.toList
theorem boot_set' : bootBuiltins "set" = some (.type "set") := by kernel_rfl
theorem ltS_of {x y : Str} (h : ¬ y.cps.toList < x.cps.toList) (n : x ≠ y) : ltS x y := by
  unfold ltS
  have hle : x.cps.toList ≤ y.cps.toList := List.not_lt.mp h
  refine Decidable.byContradiction fun h2 => n ?_
  have hle2 : y.cps.toList ≤ x.cps.toList := List.not_lt.mp h2
  have e := List.le_antisymm hle hle2
  cases x; cases y
  simp at e
  subst e
  rfl
theorem out_str {vs : List Value} {ss : List Str} (hS : StrsAre vs ss) {xs : Array Keyed} (hp : xs.Perm (pairsOf vs)) (hs : SortedToK strKind xs (pairsOf vs).size) :
    ∃ ss', StrsAre (xs.map (·.2)).toList ss' ∧ ss'.Perm ss ∧ ss'.Pairwise fun a b => ¬ b.cps.toList < a.cps.toList := by
  have hl : xs.toList.Perm (vs.zip vs) := by rw [← pairsOf_toList]; exact Array.perm_iff_toList_perm.mp hp
  have hmem : ∀ p, p ∈ xs.toList → p.1 = p.2 ∧ p.1 ∈ vs := fun p hp' => mem_zip_self (hl.mem_iff.mp hp')
  refine ⟨xs.toList.map (fun p => strOf p.1), ?_, ?_, ?_⟩
  · have e : (xs.map (·.2)).toList = xs.toList.map (·.1) := by
      rw [Array.toList_map]; exact List.map_congr_left fun p hp' => (hmem p hp').1.symm
    rw [e]
    have h1 := strsAre_map (xs.toList.map (·.1)) (by
      intro v hv
      obtain ⟨p, hp', rfl⟩ := List.mem_map.mp hv
      exact hS.all _ (hmem p hp').2)
    rwa [List.map_map] at h1
  · have h1 := hl.map (fun p => strOf p.1)
    have e2 : (vs.zip vs).map (fun p => strOf p.1) = ss := by
      have : (vs.zip vs).map (fun p => strOf p.1) = ((vs.zip vs).map Prod.fst).map strOf := by rw [List.map_map]; rfl
      rw [this, List.map_fst_zip (Nat.le_refl _), hS.strs]
    rwa [e2] at h1
  · rw [List.pairwise_iff_getElem]
    intro i j hi hj hij
    have hi' : i < xs.size := by simpa using hi
    have hj' : j < xs.size := by simpa using hj
    have h1 := hs i j (Nat.le_of_lt hij) (by rw [← hp.size_eq]; exact hj')
    obtain ⟨x, t, ex⟩ := hS.all _ (hmem xs[i] (by simp)).2
    obtain ⟨y, u, ey⟩ := hS.all _ (hmem xs[j] (by simp)).2
    rw [KK_str hi' (x := x) (t := t) (q := xs[i].2) (Prod.ext ex rfl), KK_str hj' (x := y) (t := u) (q := xs[j].2) (Prod.ext ey rfl)] at h1
    change decide (y.cps.toList < x.cps.toList) = false at h1
    simp only [List.getElem_map, Array.getElem_toList]
    rw [show strOf xs[i].1 = x by rw [ex]; rfl, show strOf xs[j].1 = y by rw [ey]; rfl]
    exact of_decide_eq_false h1
section
variable {prog : Program} {w : World} {A : Around} {E : Value → Shared → Prop} {s : Shared}
theorem sort_ints {a : Addr} {vs : List Value} {ns : List Int} {Q : Value → Shared → Prop} (ho : s.heap.get? a = some (seqObj "list" vs.toArray 0)) (hI : IntsAre vs ns) (h64 : vs.length < 64)
    (h : ∀ (out : Array Value) (ns' : List Int), IntsAre out.toList ns' → ns'.Perm ns → ns'.Pairwise (· ≤ ·) → Q .none { s with heap := sortedHeap s.heap a vs out }) : wpAny (model prog w) A (call (.builtin "list.sort") [.ref a]) Q E s :=
  wpAny_call_entry slot_list_sort ⟨_, ho, rfl⟩ entry_list_sort (list_sort_tree ho hI h64 fun out ns' a1 a2 a3 => ⟨_, rfl, h out ns' a1 a2 a3⟩) (args_list_sort _)
theorem sort_strs {a : Addr} {vs : List Value} {ss : List Str} {Q : Value → Shared → Prop} (ho : s.heap.get? a = some (seqObj "list" vs.toArray 0)) (hS : StrsAre vs ss) (h64 : vs.length < 64)
    (h : ∀ (out : Array Value) (ss' : List Str), StrsAre out.toList ss' → ss'.Perm ss → (ss'.Pairwise fun a b => ¬ b.cps.toList < a.cps.toList) → Q .none { s with heap := sortedHeap s.heap a vs out }) : wpAny (model prog w) A (call (.builtin "list.sort") [.ref a]) Q E s :=
  wpAny_call_entry slot_list_sort ⟨_, ho, rfl⟩ entry_list_sort (list_sort_treeK strKind_oneLt ho hS.keysOf (fun v₁ v₂ rest e => keyKind_strs (by rw [← e]; exact hS)) h64 fun st' hp hs => ⟨_, rfl, by
    obtain ⟨ss', h1, h2, h3⟩ := out_str hS hp hs
    exact h _ ss' h1 h2 h3⟩) (args_list_sort _)
end
def SortedOf (xs ys : List V) : Prop :=
  (∃ ns ms : List Int, xs = ns.map V.int ∧ ys = ms.map V.int ∧ ms.Pairwise (· < ·) ∧ ∀ n, n ∈ ms ↔ n ∈ ns) ∨ ∃ ns ms : List Str, xs = ns.map V.str ∧ ys = ms.map V.str ∧ ms.Pairwise ltS ∧ ∀ n, n ∈ ms ↔ n ∈ ns
def tSortSet (K : PySem.W.Frag) (te : TE) : TE := fun σ H Q => te σ H fun x H1 => ∃ a xs, x = .ref a ∧ (SqL K H1 a xs ∨ SqT K H1 a xs) ∧ xs.length < 64 ∧ ((∃ ns : List Int, xs = ns.map V.int) ∨ ∃ ss : List Str, xs = ss.map V.str) ∧
  ∀ p ys, H1 p = none → SortedOf xs ys → Q (.ref p) (upd H1 p (.lst ys))
theorem nod_of {ms ms' : List Int} (h : ms.Pairwise (· ≤ ·)) (n : ms.Nodup) : ms.Pairwise (· < ·) := by
  rw [List.pairwise_iff_getElem] at h ⊢
  intro i j hi hj hij
  have h1 := h i j hi hj hij
  have h2 := List.pairwise_iff_getElem.mp n i j hi hj hij
  omega
theorem vals_intsA {ns : List Int} : ∀ {us : List Value}, IntsAre us ns → Vals (ns.map V.int) us := by
  induction ns with
  | nil => intro us r; cases r; exact .nil
  | cons y ys ih => intro us r; cases r with | cons _ t r => exact .cons ⟨t, rfl⟩ (ih r)
theorem vals_strs' {ns : List Str} : ∀ {us : List Value}, StrsAre us ns → Vals (ns.map V.str) us := by
  induction ns with
  | nil => intro us r; cases r; exact .nil
  | cons y ys ih => intro us r; cases r with | cons _ t r => exact .cons ⟨t, rfl⟩ (ih r)
def keyV : V → Key
  | .int n => .inl n
  | .str x => .inr x
  | _ => .inl 0
def keyAt (xs : List V) (i : Nat) : Key := ((xs[i]?).map keyV).getD (.inl 0)
theorem mem_keyAt {xs : List V} {k : Key} : k ∈ metK (keyAt xs) xs.length ↔ ∃ x ∈ xs, keyV x = k := by
  rw [mem_metK]
  constructor
  · rintro ⟨j, hj, e⟩
    refine ⟨xs[j], List.getElem_mem hj, ?_⟩
    unfold keyAt at e
    rw [List.getElem?_eq_getElem hj] at e
    exact e
  · rintro ⟨x, hx, e⟩
    obtain ⟨j, hj, rfl⟩ := List.mem_iff_getElem.mp hx
    refine ⟨j, hj, ?_⟩
    unfold keyAt
    rw [List.getElem?_eq_getElem hj]
    exact e
theorem keyAt_is {xs : List V} {its : List Value} (r : Vals xs its) (hx : ∀ x ∈ xs, (∃ n, x = .int n) ∨ ∃ y, x = .str y) (i : Nat) (v : Value) (e : its.toArray[i]? = some v) : keyIs (keyAt xs i) v = true ∧ v.scannable = true := by
  have e' : its[i]? = some v := by simpa using e
  have hl := r.length
  have hi : i < xs.length := by rw [hl]; exact (List.getElem?_eq_some_iff.mp e').1
  obtain ⟨u, hu, ru⟩ := r.get (List.getElem?_eq_getElem hi)
  rw [e'] at hu
  cases hu
  have ek : keyAt xs i = keyV xs[i] := by unfold keyAt; rw [List.getElem?_eq_getElem hi]; rfl
  rw [ek]
  rcases hx xs[i] (List.getElem_mem hi) with ⟨n, q⟩ | ⟨y, q⟩
  · rw [q] at ru ⊢
    obtain ⟨t, rfl⟩ := ru
    exact ⟨keyIs_int n t, rfl⟩
  · rw [q] at ru ⊢
    obtain ⟨t, rfl⟩ := ru
    exact ⟨keyIs_str y t, rfl⟩
section
variable {X : Cx} {e : Expr} {te : TE} {p1 p2 pos pos2 : Pos}
theorem sortset_run {pins : List (Addr × Obj)} {σ : St} {H : Hp} {s : Shared} {Q : VK} {S : Addr} {xs : List V} {es : Array (Int × Value)} {ep : Nat} {t : SetTable} (hc : X.calm = true) (I : Inv X pins σ H s) (hS : SetR X.prog X.w s.heap S (metK (keyAt xs) xs.length) es ep t) (h64 : xs.length < 64)
    (hx : (∃ ns : List Int, xs = ns.map V.int) ∨ ∃ ss : List Str, xs = ss.map V.str) (q : ∀ p ys, H p = none → SortedOf xs ys → Q (.ref p) (upd H p (.lst ys))) :
    wpAny (model X.prog X.w) X.A (call (.builtin "sorted") [.ref S]) (EP X pins σ Q) X.xe s := by
  refine set_sorted (I.ok.hd hc) hS fun h' tk d vs hz hk hp => ?_
  have hn : H h'.objs.size = none := I.hok.fresh hz
  have hperm : (vs.map kOf).Perm (metK (keyAt xs) xs.length) := by
    refine (hp.map kOf).trans ?_
    rw [List.map_map]
    exact hS.keys
  have hlen : vs.length < 64 := by
    have h1 := hperm.length_eq
    have h2 := metK_len (keyAt xs) xs.length
    rw [List.length_map] at h1
    omega
  have hel : ∀ v ∈ vs, ∃ k, keyIs k v = true ∧ k ∈ metK (keyAt xs) xs.length := fun v hv => by
    obtain ⟨e, he, rfl⟩ := List.mem_map.mp (hp.mem_iff.mp hv)
    obtain ⟨⟨k, hk', _⟩, _⟩ := hS.els e he
    exact ⟨k, hk', hS.mem.mp ⟨e, he, hk'⟩⟩
  have hob : (h'.push (seqObj "list" vs.toArray 0)).get? h'.objs.size = some (seqObj "list" vs.toArray 0) := Heap.get?_push_size _ rfl
  have fin : ∀ (ys : List V) (out : Array Value), Vals ys out.toList → ys.length < 64 → SortedOf xs ys → EP X pins σ Q (.ref h'.objs.size) { s with heap := sortedHeap (h'.push (seqObj "list" vs.toArray 0)) h'.objs.size vs out, toks := tk, drawn := d } := fun ys out r hl so => by
    have keep : ∀ b o, s.heap.get? b = some o → (sortedHeap (h'.push (seqObj "list" vs.toArray 0)) h'.objs.size vs out).get? b = some o := fun b o e => by
      have hb := hk b o e
      have hlt := Heap.lt_size hb
      rw [sortedHeap_old (Nat.ne_of_lt hlt) (by rw [size_push']; exact Nat.lt_succ_of_lt hlt)]
      exact Heap.get?_push_of_some _ hb
    obtain ⟨c, hat⟩ : ∃ c, (sortedHeap (h'.push (seqObj "list" vs.toArray 0)) h'.objs.size vs out).get? h'.objs.size = some (seqObj "list" out c) := sortedHeap_at hob
    have hobj : ObjOk X.prog X.w (upd H h'.objs.size (.lst ys)) (sortedHeap (h'.push (seqObj "list" vs.toArray 0)) h'.objs.size vs out) h'.objs.size (.lst ys) := ⟨by rw [sizeLine_eq]; omega, out.toList, c, r, by rw [hat]⟩
    refine ⟨.ref h'.objs.size, upd H h'.objs.size (.lst ys), ?_, rfl, q _ _ hn so⟩
    exact I.call' (s' := { s with heap := sortedHeap (h'.push (seqObj "list" vs.toArray 0)) h'.objs.size vs out, toks := tk, drawn := d }) (ch := []) rfl (Un.laid keep hz hn) (I.hok.laid keep hz hobj) I.bare fun b hb => absurd hb (by simp)
  rcases hx with ⟨ns, rfl⟩ | ⟨ss, rfl⟩
  · have hint : ∀ v ∈ vs, ∃ n t, v = Value.int n t := fun v hv => by
      obtain ⟨k, hk1, hk2⟩ := hel v hv
      obtain ⟨x, hx, e⟩ := mem_keyAt.mp hk2
      obtain ⟨n, hn', rfl⟩ := List.mem_map.mp hx
      subst e
      rcases keyIs_shape hk1 with ⟨i, t, e1, e2⟩ | ⟨y, t, e1, e2⟩
      · exact ⟨i, t, e2⟩
      · cases e1
    have hI := intsAre_map vs hint
    refine sort_ints hob hI hlen fun out ns' a1 a2 a3 => ?_
    have ek : vs.map kOf = (vs.map numOf).map Sum.inl := by
      rw [List.map_map]
      refine List.map_congr_left fun v hv => ?_
      obtain ⟨n, t, rfl⟩ := hint v hv
      rfl
    have hnod : ns'.Nodup := by
      refine a2.nodup_iff.mpr ?_
      have h1 := hperm.nodup_iff.mpr hS.nod
      rw [ek] at h1
      exact (List.pairwise_map.mp h1).imp fun hne e => hne (congrArg _ e)
    refine fin (ns'.map V.int) out (vals_intsA a1) (by rw [List.length_map, a2.length_eq, List.length_map]; exact hlen) (.inl ⟨ns, ns', rfl, rfl, nod_of (ms' := []) a3 hnod, fun n => ?_⟩)
    rw [a2.mem_iff]
    have : n ∈ vs.map numOf ↔ (Sum.inl n : Key) ∈ vs.map kOf := by
      rw [ek]
      constructor
      · exact fun h => List.mem_map.mpr ⟨n, h, rfl⟩
      · intro h
        obtain ⟨m, hm, e⟩ := List.mem_map.mp h
        cases e
        exact hm
    rw [this, hperm.mem_iff, mem_keyAt]
    constructor
    · rintro ⟨x, hx, e⟩
      obtain ⟨m, hm, rfl⟩ := List.mem_map.mp hx
      cases e
      exact hm
    · exact fun h => ⟨.int n, List.mem_map.mpr ⟨n, h, rfl⟩, rfl⟩
  · have hstr : ∀ v ∈ vs, ∃ n t, v = Value.str n t := fun v hv => by
      obtain ⟨k, hk1, hk2⟩ := hel v hv
      obtain ⟨x, hx, e⟩ := mem_keyAt.mp hk2
      obtain ⟨n, hn', rfl⟩ := List.mem_map.mp hx
      subst e
      rcases keyIs_shape hk1 with ⟨i, t, e1, e2⟩ | ⟨y, t, e1, e2⟩
      · cases e1
      · exact ⟨y, t, e2⟩
    have hI := strsAre_map vs hstr
    refine sort_strs hob hI hlen fun out ns' a1 a2 a3 => ?_
    have ek : vs.map kOf = (vs.map strOf).map Sum.inr := by
      rw [List.map_map]
      refine List.map_congr_left fun v hv => ?_
      obtain ⟨n, t, rfl⟩ := hstr v hv
      rfl
    have hnod : ns'.Nodup := by
      refine a2.nodup_iff.mpr ?_
      have h1 := hperm.nodup_iff.mpr hS.nod
      rw [ek] at h1
      exact (List.pairwise_map.mp h1).imp fun hne e => hne (congrArg _ e)
    refine fin (ns'.map V.str) out (vals_strs' a1) (by rw [List.length_map, a2.length_eq, List.length_map]; exact hlen) (.inr ⟨ss, ns', rfl, rfl, ?_, fun n => ?_⟩)
    · rw [List.pairwise_iff_getElem] at a3 ⊢
      intro i j hi hj hij
      exact ltS_of (a3 i j hi hj hij) (List.pairwise_iff_getElem.mp hnod i j hi hj hij)
    rw [a2.mem_iff]
    have : n ∈ vs.map strOf ↔ (Sum.inr n : Key) ∈ vs.map kOf := by
      rw [ek]
      constructor
      · exact fun h => List.mem_map.mpr ⟨n, h, rfl⟩
      · intro h
        obtain ⟨m, hm, e⟩ := List.mem_map.mp h
        cases e
        exact hm
    rw [this, hperm.mem_iff, mem_keyAt]
    constructor
    · rintro ⟨x, hx, e⟩
      obtain ⟨m, hm, rfl⟩ := List.mem_map.mp hx
      cases e
      exact hm
    · exact fun h => ⟨.str n, List.mem_map.mpr ⟨n, h, rfl⟩, rfl⟩
theorem pe_sortset (hc : X.calm = true) (hg1 : Gl X "sorted") (hm1 : X.mg "sorted" = none) (hg2 : Gl X "set") (hm2 : X.mg "set" = none) (he : PE X e te) (hs1 : starEach [e] X.env = [(false, eval e X.env)] := by rfl)
    (hs2 : starEach [Expr.Call (.Name "set" p2) [e] [] pos2] X.env = [(false, eval (.Call (.Name "set" p2) [e] [] pos2) X.env)] := by rfl) :
    PE X (.Call (.Name "sorted" p1) [.Call (.Name "set" p2) [e] [] pos2] [] pos) (tSortSet X.K te) := by
  intro pins s σ H Q I h
  refine wpAny_Call_Name_kw (ld_blt I hg1 hm1 boot_sorted ?_ (by decide) (by decide))
  refine PyProof.Rows.callWith_builtin1 ?_ hs2 rfl
  rw [hs2]
  refine Calls.spliced_cons ?_
  refine wpAny_Call_Name_kw (ld_blt I hg2 hm2 boot_set' ?_ (by decide) (by decide))
  refine PyProof.Rows.callWith_type1 ?_ hs1 rfl
  rw [hs1]
  refine Calls.spliced_cons (thn (he pins s σ H _ I h) fun u s1 ⟨x, H1, I1, r1, a, xs, ex, hsq, h64, hx, q⟩ => ?_)
  refine Calls.spliced_nil ?_
  subst ex
  cases r1
  have hx' : ∀ x ∈ xs, (∃ n, x = .int n) ∨ ∃ y, x = .str y := fun x hxm => by
    rcases hx with ⟨ns, rfl⟩ | ⟨ss, rfl⟩
    · obtain ⟨n, _, rfl⟩ := List.mem_map.mp hxm; exact .inl ⟨n, rfl⟩
    · obtain ⟨n, _, rfl⟩ := List.mem_map.mp hxm; exact .inr ⟨n, rfl⟩
  have go : ∀ {T : String} {its : List Value} {o : Obj}, SetSrc X.prog X.w T a its.toArray → Vals xs its → s1.heap.get? a = some o → o.cls = .type T → (∃ n, o.data = .seq its.toArray n) →
      wpAny (model X.prog X.w) X.A (call (.type "set") [.ref a]) (fun v s2 => wpAny (model X.prog X.w) X.A (spliced []) (fun vs s3 => wpAny (model X.prog X.w) X.A (call (.builtin "sorted") (v :: vs)) (EP X pins σ Q) X.xe s3) X.xe s2) X.xe s1 := fun {T its o} src r ho hcl hd => by
    have hl := r.length
    refine call_set_of (key := keyAt xs) src (I1.ok.hd hc) ho hcl hd (keyAt_is r hx') (by simp [scanBound]; omega) fun h' tk es ep t hS hk => ?_
    refine Calls.spliced_nil ?_
    have esz : its.toArray.size = xs.length := by rw [List.size_toArray, hl]
    rw [esz] at hS
    exact sortset_run hc (I1.kept (t' := tk) hk) hS h64 hx q
  rcases hsq with hsq | hsq
  · obtain ⟨its, r, pl, _⟩ := I1.list hsq
    obtain ⟨o, ho, hcl, hd⟩ := pl.isList
    exact go src_list r ho hcl hd
  · obtain ⟨its, r, pl, _⟩ := I1.tuple hsq
    obtain ⟨o, ho, hcl, hd⟩ := pl
    exact go src_tup r ho hcl hd
end
end L2
set_option maxHeartbeats 4000000
namespace CS
open PySem L2
abbrev Spn := Option Int × Option Int
def eV : Option Int → V
  | none => .non
  | some n => .int n
inductive CSet where
  | num (sps : List Spn)
  | wrd (b : Bool) (ws : List Str)
structure SpansAt (H : Hp) (t : Addr) (as : List Addr) (sps : List Spn) : Prop where
  tup : H t = some (.tup (as.map V.ref))
  len : as.length = sps.length
  at_ : ∀ (i : Nat) a s, as[i]? = some a → sps[i]? = some s → H a = some (.tup [eV s.1, eV s.2])
def SetAt (H : Hp) (a : Addr) : CSet → Prop
  | .num sps => ∃ t as, H a = some (.tup [.str "n", .ref t]) ∧ SpansAt H t as sps
  | .wrd b ws => ∃ t, H a = some (.tup [.str "w", .bl b, .ref t]) ∧ H t = some (.tup (ws.map V.str))
theorem SpansAt.keep {H H' : Hp} {t : Addr} {as : List Addr} {sps : List Spn} (k : ∀ a xs, H a = some (.tup xs) → H' a = some (.tup xs)) (h : SpansAt H t as sps) : SpansAt H' t as sps :=
  ⟨k _ _ h.tup, h.len, fun i a s e1 e2 => k _ _ (h.at_ i a s e1 e2)⟩
theorem SetAt.keep {H H' : Hp} {a : Addr} {S : CSet} (k : ∀ a xs, H a = some (.tup xs) → H' a = some (.tup xs)) (h : SetAt H a S) : SetAt H' a S := by
  cases S with
  | num sps => obtain ⟨t, as, h1, h2⟩ := h; exact ⟨t, as, k _ _ h1, h2.keep k⟩
  | wrd b ws => obtain ⟨t, h1, h2⟩ := h; exact ⟨t, k _ _ h1, k _ _ h2⟩
theorem SetAt.same {H H' : Hp} {a : Addr} {S : CSet} (s : Same H H') (h : SetAt H a S) : SetAt H' a S := h.keep fun _ _ e => s _ _ e
theorem SpansAt.same {H H' : Hp} {t : Addr} {as : List Addr} {sps : List Spn} (s : Same H H') (h : SpansAt H t as sps) : SpansAt H' t as sps := h.keep fun _ _ e => s _ _ e
theorem SetAt.grow {p : Addr} {H H' : Hp} {a : Addr} {S : CSet} (hP : PotAt H p) (g : Grow p H H') (h : SetAt H a S) : SetAt H' a S := h.keep fun c xs e => g.keep c _ (fun z => by
  subst z
  obtain ⟨_, _, q, _⟩ := hP
  rw [q] at e
  cases e) e
def inSp (s : Spn) (n : Int) : Bool := s.1.all (fun l => decide (l ≤ n)) && s.2.all (fun h => decide (n ≤ h))
def hasV : CSet → V → Bool
  | .num sps, .int n => sps.any fun s => inSp s n
  | .num _, _ => false
  | .wrd b ws, .str x => decide (x ∈ ws) == b
  | .wrd _ _, _ => false
def relS (s s' : Spn) : Prop := ∃ h l, s.2 = some h ∧ s'.1 = some l ∧ h + 1 < l
def okSp (s : Spn) : Prop := (∀ l h, s.1 = some l → s.2 = some h → l ≤ h) ∧ ∀ n, s.1 = some n ∨ s.2 = some n → -(10 ^ 60) < n ∧ n < 10 ^ 60
def okS : CSet → Prop
  | .num sps => sps.length ≤ 40 ∧ sps.Pairwise relS ∧ ∀ s ∈ sps, okSp s
  | .wrd _ ws => ws.length ≤ 40 ∧ ws.Pairwise ltS ∧ ∀ x ∈ ws, isW x
def someSp : Spn → List Int
  | (none, none) => [0, 1]
  | (none, some h) => [h, h - 1]
  | (some l, hh) => if hh = some l then [l] else [l, l + 1]
def goW : Nat → Nat → List Nat → List Nat
  | 0, _, w => w
  | f + 1, l, w => if l = 0 then w else goW f ((l - 1) / 26) ((97 + (l - 1) % 26) :: w)
def wbn (n : Nat) : Str := ⟨(goW (n + 1) (n + 1) []).toArray⟩
def besides (ws : List Str) : List Str := ((List.range (ws.length + 2)).map wbn).filter fun x => !decide (x ∈ ws)
def someV : CSet → List V
  | .num sps => (sps.flatMap someSp).map V.int
  | .wrd true ws => ws.map V.str
  | .wrd false ws => (besides ws).map V.str
def manyGo : Int → List Spn → Int
  | acc, [] => acc
  | acc, (some l, some h) :: r => manyGo (acc + if h - l + 1 < 3 then h - l + 1 else 3) r
  | _, _ :: _ => 3
def manyS : CSet → Int
  | .num sps => manyGo 0 sps
  | .wrd b ws => if b = true then ws.length else 3
def okCellOf : CSet → V → Prop
  | .num _, v => ∃ n, v = .int n
  | .wrd _ _, v => ∃ x, v = .str x ∧ isW x
theorem ltS_irrefl {x : Str} (h : ltS x x) : False := List.lt_irrefl _ h
theorem nodup_of {ws : List Str} (h : ws.Pairwise ltS) : ws.Nodup := h.imp fun hl e => by subst e; exact ltS_irrefl hl
structure GoodS (S : CSet) : Prop where
  mem : ∀ x ∈ someV S, hasV S x = true ∧ okCellOf S x
  tri : (manyS S = 0 ∧ someV S = [] ∧ ∀ v, hasV S v = false) ∨ (manyS S = 1 ∧ ∃ c, someV S = [c] ∧ ∀ v, hasV S v = true → v = c) ∨ (2 ≤ manyS S ∧ ∃ x ∈ someV S, ∃ y ∈ someV S, x ≠ y)
end CS
set_option maxHeartbeats 4000000
namespace CS
open PySem L2
structure SpL (H : Hp) (l : Addr) (as : List Addr) (sps : List Spn) : Prop where
  lst : H l = some (.lst (as.map V.ref))
  len : as.length = sps.length
  at_ : ∀ (i : Nat) a s, as[i]? = some a → sps[i]? = some s → H a = some (.tup [eV s.1, eV s.2])
theorem pot_ne_tup {H : Hp} {p a : Addr} {xs : List V} (hP : PotAt H p) (e : H a = some (.tup xs)) : a ≠ p := fun z => by
  subst z
  obtain ⟨_, _, q, _⟩ := hP
  rw [q] at e
  cases e
theorem SpL.grow {p : Addr} {H H' : Hp} {l : Addr} {as : List Addr} {sps : List Spn} (hP : PotAt H p) (n : l ≠ p) (g : Grow p H H') (h : SpL H l as sps) : SpL H' l as sps :=
  ⟨g.keep _ _ n h.lst, h.len, fun i a s e1 e2 => g.keep _ _ (pot_ne_tup hP (h.at_ i a s e1 e2)) (h.at_ i a s e1 e2)⟩
theorem SpL.same {H H' : Hp} {l : Addr} {as : List Addr} {sps : List Spn} (s : Same H H') (h : SpL H l as sps) : SpL H' l as sps :=
  ⟨s _ _ h.lst, h.len, fun i a sp e1 e2 => s _ _ (h.at_ i a sp e1 e2)⟩
theorem pair_snoc {as : List Addr} {sps : List Spn} (hl : as.length = sps.length) {R : Addr → Spn → Prop} (h : ∀ (i : Nat) a s, as[i]? = some a → sps[i]? = some s → R a s) {t : Addr} {s' : Spn} (ht : R t s') :
    ∀ (i : Nat) a s, (as ++ [t])[i]? = some a → (sps ++ [s'])[i]? = some s → R a s := by
  intro i a s e1 e2
  by_cases hi : i < as.length
  · rw [List.getElem?_append_left hi] at e1
    rw [List.getElem?_append_left (by omega)] at e2
    exact h i a s e1 e2
  · have hi' : i = as.length := by
      have := (List.getElem?_eq_some_iff.mp e1).1
      rw [List.length_append] at this
      simp at this
      omega
    subst hi'
    rw [List.getElem?_append_right (Nat.le_refl _), Nat.sub_self] at e1
    rw [hl, List.getElem?_append_right (Nat.le_refl _), Nat.sub_self] at e2
    cases e1
    cases e2
    exact ht
theorem SpL.put {H : Hp} {l : Addr} {as as2 : List Addr} {sps sps2 : List Spn} {old : List V} (h : H l = some (.lst old)) (hl : as2.length = sps2.length) (hat : ∀ (i : Nat) a s, as2[i]? = some a → sps2[i]? = some s → H a = some (.tup [eV s.1, eV s.2])) :
    SpL (upd H l (.lst (as2.map V.ref))) l as2 sps2 :=
  ⟨upd_same, hl, fun i a s e1 e2 => by rw [upd_ne (ne_of (hat i a s e1 e2) h (by intro z; cases z))]; exact hat i a s e1 e2⟩
theorem SpL.unsnoc {H : Hp} {l : Addr} {as : List Addr} {sps : List Spn} (h : SpL H l as sps) (ne : sps ≠ []) : ∃ as' a sps' s, as = as' ++ [a] ∧ sps = sps' ++ [s] ∧ as'.length = sps'.length ∧ (∀ (i : Nat) a s, as'[i]? = some a → sps'[i]? = some s → H a = some (.tup [eV s.1, eV s.2])) ∧ H a = some (.tup [eV s.1, eV s.2]) := by
  have ne2 : as ≠ [] := fun z => ne (List.eq_nil_of_length_eq_zero (by rw [← h.len, z]; rfl))
  have e1 := List.dropLast_concat_getLast ne2
  have e2 := List.dropLast_concat_getLast ne
  have hl : as.dropLast.length = sps.dropLast.length := by rw [List.length_dropLast, List.length_dropLast, h.len]
  have hpos : 0 < sps.length := List.length_pos_iff.mpr ne
  refine ⟨as.dropLast, as.getLast ne2, sps.dropLast, sps.getLast ne, e1.symm, e2.symm, hl, fun i a s g1 g2 => ?_, ?_⟩
  · refine h.at_ i a s ?_ ?_
    · rw [← e1, List.getElem?_append_left (List.getElem?_eq_some_iff.mp g1).1]; exact g1
    · rw [← e2, List.getElem?_append_left (List.getElem?_eq_some_iff.mp g2).1]; exact g2
  · refine h.at_ (sps.length - 1) _ _ ?_ ?_
    · rw [← h.len, ← List.getLast?_eq_getElem?]; exact List.getLast?_eq_some_getLast ne2
    · rw [← List.getLast?_eq_getElem?]; exact List.getLast?_eq_some_getLast ne
theorem ixN_last {α : Type} (xs : List α) (v : α) : ixN (xs ++ [v]).length (-1) = some xs.length := by
  unfold ixN
  rw [if_neg (by decide), List.length_append, List.length_singleton, if_pos (by omega)]
  congr 1
  omega
theorem set_last {α : Type} (xs : List α) (v w : α) : (xs ++ [v]).set xs.length w = xs ++ [w] := by
  rw [List.set_append_right _ _ (Nat.le_refl _), Nat.sub_self]
  rfl
def Bd (ms : List Int) (s : Spn) : Prop := ∃ l h, s = (some l, some h) ∧ l ≤ h ∧ (-(10 ^ 60) < l ∧ h < 10 ^ 60) ∧ ∀ m ∈ ms, h < m
structure GoodL (ms : List Int) (sps : List Spn) : Prop where
  pw : sps.Pairwise relS
  bd : ∀ s ∈ sps, Bd ms s
theorem GoodL.nil (ms : List Int) : GoodL ms [] := ⟨.nil, by simp⟩
theorem GoodL.merge {x : Int} {ms : List Int} {sps : List Spn} {l h : Int} (g : GoodL (x :: ms) (sps ++ [(some l, some h)])) (hx : ∀ m ∈ ms, x < m) (hb : -(10 ^ 60) < x ∧ x < 10 ^ 60) : GoodL ms (sps ++ [(some l, some x)]) := by
  obtain ⟨pw, bd⟩ := g
  rw [List.pairwise_append] at pw
  refine ⟨?_, fun s hs => ?_⟩
  · rw [List.pairwise_append]
    refine ⟨pw.1, List.pairwise_singleton _ _, fun a ha b hb' => ?_⟩
    have := pw.2.2 a ha _ (List.mem_singleton.mpr rfl)
    rw [List.mem_singleton.mp hb']
    exact this
  · rcases List.mem_append.mp hs with z | z
    · obtain ⟨l', h', e, h1, h2, h3⟩ := bd s (List.mem_append_left _ z)
      exact ⟨l', h', e, h1, h2, fun m hm => h3 m (List.mem_cons_of_mem _ hm)⟩
    · obtain ⟨l', h', e, h1, h2, h3⟩ := bd (some l, some h) (List.mem_append_right _ (List.mem_singleton.mpr rfl))
      cases e
      have := h3 x List.mem_cons_self
      exact ⟨l, x, List.mem_singleton.mp z, by omega, ⟨h2.1, hb.2⟩, hx⟩
theorem GoodL.snoc {x : Int} {ms : List Int} {sps : List Spn} (g : GoodL (x :: ms) sps) (hx : ∀ m ∈ ms, x < m) (hb : -(10 ^ 60) < x ∧ x < 10 ^ 60) (hlast : ∀ sps' l h, sps = sps' ++ [(some l, some h)] → h + 1 < x) : GoodL ms (sps ++ [(some x, some x)]) := by
  obtain ⟨pw, bd⟩ := g
  refine ⟨?_, fun s hs => ?_⟩
  · rw [List.pairwise_append]
    refine ⟨pw, List.pairwise_singleton _ _, fun a ha b hb' => ?_⟩
    rw [List.mem_singleton.mp hb']
    by_cases ne : sps = []
    · rw [ne] at ha; cases ha
    · have e2 := List.dropLast_concat_getLast ne
      obtain ⟨l, h, e, h1, h2, h3⟩ := bd _ (List.getLast_mem ne)
      rw [e] at e2
      have hh := hlast _ l h e2.symm
      rw [← e2] at ha pw
      rw [List.pairwise_append] at pw
      rcases List.mem_append.mp ha with z | z
      · obtain ⟨h', l', e3, e4, lt⟩ := pw.2.2 a z _ (List.mem_singleton.mpr rfl)
        have e4' : l = l' := Option.some.inj e4
        exact ⟨h', x, e3, rfl, by omega⟩
      · rw [List.mem_singleton.mp z]
        exact ⟨h, x, rfl, rfl, hh⟩
  · rcases List.mem_append.mp hs with z | z
    · obtain ⟨l', h', e, h1, h2, h3⟩ := bd s z
      exact ⟨l', h', e, h1, h2, fun m hm => h3 m (List.mem_cons_of_mem _ hm)⟩
    · exact ⟨x, x, List.mem_singleton.mp z, Int.le_refl _, hb, hx⟩
structure OkL (sps : List Spn) : Prop where
  pw : sps.Pairwise relS
  ok : ∀ s ∈ sps, okSp s
theorem GoodL.ok {ms : List Int} {sps : List Spn} (g : GoodL ms sps) : OkL sps := ⟨g.pw, fun s hs => by
  obtain ⟨l, h, rfl, h1, h2, _⟩ := g.bd s hs
  refine ⟨fun a b e1 e2 => ?_, fun n hn => ?_⟩
  · cases e1; cases e2; exact h1
  · rcases hn with e | e
    · cases e
      exact ⟨h2.1, by omega⟩
    · cases e
      exact ⟨by omega, h2.2⟩⟩
theorem OkL.first {s : Spn} {r : List Spn} (g : OkL (s :: r)) : OkL ((none, s.2) :: r) := by
  refine ⟨?_, fun s' hs => ?_⟩
  · have h := List.pairwise_cons.mp g.pw
    exact List.pairwise_cons.mpr ⟨fun b hb => h.1 b hb, h.2⟩
  · rcases List.mem_cons.mp hs with rfl | z
    · refine ⟨fun l h e _ => (by cases e), fun n hn => (g.ok s List.mem_cons_self).2 n ?_⟩
      rcases hn with e | e
      · cases e
      · exact .inr e
    · exact g.ok s' (List.mem_cons_of_mem _ z)
theorem OkL.last {s : Spn} {r : List Spn} (g : OkL (r ++ [s])) : OkL (r ++ [(s.1, none)]) := by
  refine ⟨?_, fun s' hs => ?_⟩
  · have h := List.pairwise_append.mp g.pw
    refine List.pairwise_append.mpr ⟨h.1, List.pairwise_singleton _ _, fun a ha b hb => ?_⟩
    have := h.2.2 a ha s (List.mem_singleton.mpr rfl)
    rw [List.mem_singleton.mp hb]
    exact this
  · rcases List.mem_append.mp hs with z | z
    · exact g.ok s' (List.mem_append_left _ z)
    · rw [List.mem_singleton.mp z]
      refine ⟨fun l h _ e => (by cases e), fun n hn => (g.ok s (List.mem_append_right _ (List.mem_singleton.mpr rfl))).2 n ?_⟩
      rcases hn with e | e
      · exact .inl e
      · cases e
theorem nodup_le {α : Type} [DecidableEq α] : ∀ {ms ns : List α}, ms.Nodup → (∀ m ∈ ms, m ∈ ns) → ms.length ≤ ns.length
  | [], _, _, _ => Nat.zero_le _
  | m :: ms, ns, nd, h => by
    have nd' := List.nodup_cons.mp nd
    have hm := h m List.mem_cons_self
    have ih := nodup_le (ms := ms) (ns := ns.erase m) nd'.2 fun x hx => (List.mem_erase_of_ne (fun e => nd'.1 (by rw [← e]; exact hx))).mpr (h x (List.mem_cons_of_mem _ hx))
    rw [List.length_erase_of_mem hm] at ih
    have : 0 < ns.length := List.length_pos_of_mem hm
    rw [List.length_cons]
    omega
theorem sorted_ints {ns : List Int} {ys : List V} (h : SortedOf (ns.map V.int) ys) : ∃ ms : List Int, ys = ms.map V.int ∧ ms.Pairwise (· < ·) ∧ (∀ n ∈ ms, n ∈ ns) ∧ ms.length ≤ ns.length := by
  rcases h with ⟨ns', ms, e1, e2, h1, h2⟩ | ⟨ss, ms, e1, e2, h1, h2⟩
  · have : ns = ns' := by
      have := congrArg (List.map fun v => match v with | V.int n => n | _ => 0) e1
      simpa [List.map_map, Function.comp_def] using this
    subst this
    refine ⟨ms, e2, h1, fun n hn => (h2 n).mp hn, nodup_le (h1.imp fun hl e => by omega) fun n hn => (h2 n).mp hn⟩
  · cases ns with
    | nil =>
      cases ss with
      | nil =>
        cases ms with
        | nil => exact ⟨[], e2, .nil, by simp, Nat.le_refl _⟩
        | cons m ms => exact absurd ((h2 m).mp List.mem_cons_self) (by simp)
      | cons s ss => cases e1
    | cons n ns =>
      cases ss with
      | nil => cases e1
      | cons s ss => simp at e1
theorem sorted_strs {ns : List Str} {ys : List V} (h : SortedOf (ns.map V.str) ys) : ∃ ms : List Str, ys = ms.map V.str ∧ ms.Pairwise ltS ∧ (∀ n ∈ ms, n ∈ ns) ∧ ms.length ≤ ns.length := by
  rcases h with ⟨ss, ms, e1, e2, h1, h2⟩ | ⟨ns', ms, e1, e2, h1, h2⟩
  · cases ns with
    | nil =>
      cases ss with
      | nil =>
        cases ms with
        | nil => exact ⟨[], e2, .nil, by simp, Nat.le_refl _⟩
        | cons m ms => exact absurd ((h2 m).mp List.mem_cons_self) (by simp)
      | cons s ss => cases e1
    | cons n ns =>
      cases ss with
      | nil => cases e1
      | cons s ss => simp at e1
  · have : ns = ns' := by
      have := congrArg (List.map fun v => match v with | V.str n => n | _ => "") e1
      simpa [List.map_map, Function.comp_def] using this
    subst this
    exact ⟨ms, e2, h1, fun n hn => (h2 n).mp hn, nodup_le (nodup_of h1) fun n hn => (h2 n).mp hn⟩
end CS
set_option maxHeartbeats 8000000
namespace My
open PySem L2 CS
abbrev sSpans : Stmt := top 39
abbrev sWords : Stmt := top 40
abbrev sSet : Stmt := top 41
theorem scSpans : FnScope ["_law_pot_here", "_law_some", "_law_spans_here", "_law_low"] ["_law_pot_here"] (defScope sSpans) := ⟨rfl, rfl, rfl, by decide +kernel, rfl, by decide +kernel, by decide +kernel⟩
theorem scWords : FnScope ["_law_pot_here", "_law_some"] ["_law_pot_here"] (defScope sWords) := ⟨rfl, rfl, rfl, by decide +kernel, rfl, by decide +kernel, by decide +kernel⟩
theorem scSet : FnScope ["_law_pot_here"] ["_law_pot_here"] (defScope sSet) := ⟨rfl, rfl, rfl, by decide +kernel, rfl, by decide +kernel, by decide +kernel⟩
def szS : CSet → Nat
  | .num sps => sps.length
  | .wrd _ ws => ws.length
def spSet : Sp := fun vs H Q _ => ∃ (p : Addr), vs = [.ref p] ∧ PotAt H p ∧ ∀ a S H', Grow p H H' → SetAt H' a S → okS S → szS S ≤ 5 → Q (.ref a) H'
abbrev tDraw (m : Int) : TE := tCall spDraw [] E0 (tCons (tVar 0) (tCons (tC (.int m)) tNil))
theorem p62a {j : Int} (h : 0 ≤ j) (h1 : j ≤ 1000) : -(2 ^ 62) ≤ j ∧ j < 2 ^ 62 := by
  have e : ((2 : Int) ^ 62) = 4611686018427387904 := by decide
  rw [e]; omega
theorem rd_ne {K : PySem.W.Frag} {A : Around} {σ : St} {H : Hp} {Q : Bool → Hp → Prop} {i : Nat} {l : Addr} {xs : List V} (hu : A.units + 0 < cLine) (e : σ[i]? = some (some (.ref l))) (h : H l = some (.lst xs)) (q : ∀ z, H z = none → Q (!decide (xs = [])) (upd H z (.lst []))) :
    tTest (tOp (fun x y H Q => rEqT K A false x y H Q ∨ ∃ a b xs ys, x = .ref a ∧ y = .ref b ∧ SqL K H a xs ∧ SqL K H b ys ∧ xs.length ≠ ys.length ∧ Q (.bl true) H) (tVar i) (tLst tNil)) σ H Q := by
  refine ⟨_, e, Nat.zero_le _, fun z hz => ?_⟩
  have q' := q z hz
  have hl := same_new hz (.lst []) _ _ h
  cases xs with
  | nil => exact .inl ⟨0, hu, .inl ⟨l, z, [], [], rfl, rfl, SqL.of hl, SqL.of upd_same, rfl, fun i x y e => by cases e⟩, _, rfl, q'⟩
  | cons x xs => exact .inr ⟨l, z, _, [], rfl, rfl, SqL.of hl, SqL.of upd_same, by simp, _, rfl, q'⟩
section
variable {P : Program} {w : World} {K : PySem.W.Frag} {mg : Str → Option Value} {base : Heap} {f g1 g2 g3 : Addr} {fd d1 d2 d3 : FuncData}
theorem ok_spans (B : Blt mg) (B2 : Blt2 mg) (F : Fun K "_law_spans" "_law_spans" sSpans f fd) (G : FnOk P w K mg base CX0 2 g1 d1 ["_law_pot_here", "_law_many"] spDraw) (bG : Binds K d1 ["_law_pot_here", "_law_many"] []) (kG : PySem.W.keepIn K (.ref g1) = true) (mG : mg "_law_draw" = some (.ref g1))
    (G2 : FnOk P w K mg base CX0 2 g2 d2 ["_law_pot_here"] spNumber) (b2 : Binds K d2 ["_law_pot_here"] []) (k2 : PySem.W.keepIn K (.ref g2) = true) (m2 : mg "_law_number" = some (.ref g2)) :
    FnOk P w K mg base CX0 3 f fd ["_law_pot_here"] spSet := by
  refine F.ok scSpans (fun vs H Q E h => ?_) (fun cdv A outer s H vs Q E hr h => ?_)
  · obtain ⟨p, rfl, _⟩ := h
    rfl
  obtain ⟨p, rfl, hP, q⟩ := h
  have hu0 : (A.deeper (PyProof.Rows.envOfC "_law_spans" (defScope sSpans) s.heap.objs.size f cdv)).units < cLine := by have := hr.units; omega
  have hu1 : (A.deeper (PyProof.Rows.envOfC "_law_spans" (defScope sSpans) s.heap.objs.size f cdv)).units + 1 + 0 < cLine := by have := hr.units; omega
  refine ⟨_, pss_cons (ps_setComp (i := 1) (N' := ["_law_k", "_law_pot_here"]) (src := [none, some 0]) scSpans.nd rfl (Or.inl rfl) rfl rfl (CompSc.ofB (by kernel_rfl))
      (pi_range1 rfl B.range (pa_cons (pe_call G hr rfl mG kG bG .nil pass0 (pa_cons (pv 0) (pa_cons pe_int pa_nil))) pa_nil)) (fun cl C s H fp => pgl (i := 0)) (fun cl C s H fp => pifs_nil)
      (fun cl C s H fp => pe_call G2 hr glc m2 k2 b2 .nil pass0 (pa_cons (pvf 1) pa_nil)))
    (pss_cons (ps_set (i := 2) scSpans.nd rfl (Or.inl rfl) (pe_lst pa_nil))
    (pss_cons (ps_for PassesOwn.never rfl (pi_list (pe_sortset rfl rfl B2.sorted rfl B2.set (pv 1))) (pg_name (i := 3) scSpans.nd rfl (Or.inl rfl))
      (pss_one (ps_if (PW.pt (pw_and (pt_cmpR (op_neT.or (op_neLen hu0)) (pv 2) (pe_lst pa_nil) (nomark _)) (pw_and1 (PW.pt (pw_or (pt_cmpR op_eq (pe_call G hr rfl mG kG bG .nil pass0 (pa_cons (pv 0) (pa_cons pe_int pa_nil))) pe_int (nomark _))
          (pw_or1 (pt_cmpR op_lt (pv 3) (pe_op op_add (pe_ix ix_tup (pe_ix ix_list (pv 2) (pe_un un_neg pe_int) (fun _ _ => rfl)) pe_int (fun _ _ => rfl)) pe_int) (nomark _))))))))
        (pss_one (ps_asg (pe_tup (pa_cons (pe_ix ix_tup (pe_ix ix_list (pv 2) (pe_un un_neg pe_int) (fun _ _ => rfl)) pe_int (fun _ _ => rfl)) (pa_cons (pv 3) pa_nil))) (pg_sub (pv 2) (pe_un un_neg pe_int) set_list)))
        (pss_one (ps_expr (pe_bm PySem.F.plainAttrs_list PySem.F.slot_list_append PySem.F.type_list_append mt_append (pv 2) (pa_cons (pe_tup (pa_cons (pv 3) (pa_cons (pv 3) pa_nil))) pa_nil)))))))
    (pss_cons (ps_if (PW.pt (pw_and (pt_cmpR (op_neT.or (op_neLen hu0)) (pv 2) (pe_lst pa_nil) (nomark _)) (pw_and1 (pt_cmpR op_eq (pe_call G hr rfl mG kG bG .nil pass0 (pa_cons (pv 0) (pa_cons pe_int pa_nil))) pe_int (nomark _)))))
      (pss_one (ps_asg (pe_tup (pa_cons pe_non (pa_cons (pe_ix ix_tup (pe_ix ix_list (pv 2) pe_int (fun _ _ => rfl)) pe_int (fun _ _ => rfl)) pa_nil))) (pg_sub (pv 2) pe_int set_list))) pss_nil)
    (pss_cons (ps_if (PW.pt (pw_and (pt_cmpR (op_neT.or (op_neLen hu0)) (pv 2) (pe_lst pa_nil) (nomark _)) (pw_and1 (pt_cmpR op_eq (pe_call G hr rfl mG kG bG .nil pass0 (pa_cons (pv 0) (pa_cons pe_int pa_nil))) pe_int (nomark _)))))
      (pss_one (ps_asg (pe_tup (pa_cons (pe_ix ix_tup (pe_ix ix_list (pv 2) (pe_un un_neg pe_int) (fun _ _ => rfl)) pe_int (fun _ _ => rfl)) (pa_cons pe_non pa_nil))) (pg_sub (pv 2) (pe_un un_neg pe_int) set_list))) pss_nil)
    (pss_one (ps_ret (pe_tup (pa_cons pe_str (pa_cons (pe_callTy call_tuple_of rfl B.tuple PyProof.Rows.boot_tuple (pa_cons (pv 2) pa_nil)) pa_nil))))))))), ?_⟩
  refine ⟨_, rfl, p, _, rfl, hP, by decide, by decide, fun j H1 G1 j0 j1 => ?_⟩
  have j40 : j ≤ 5 := by omega
  refine ⟨j, rfl, (p62a j0 (by omega)).1, (p62a j0 (by omega)).2, fun D hD => ?_⟩
  have nD : D ≠ p := G1.ne hD
  refine comp_range (n := j.toNat) (fun i σ ys H' => ∃ (o : Option V) (ns : List Int), σ = [o, some (.ref p)] ∧ ys = ns.map V.int ∧ ns.length = i ∧ (∀ n ∈ ns, -(10 ^ 60) < n ∧ n < 10 ^ 60) ∧ H' D = some (.lst ys) ∧ Grow p H H')
    ⟨none, [], rfl, rfl, rfl, by simp, upd_same, G1.new hD⟩ ?_ ?_ ?_ ?_
  · rintro i σ ys H' _ ⟨o, ns, _, rfl, rfl, _, h, _⟩
    exact ⟨h, by rw [List.length_map]; exact Nat.le_refl _⟩
  · exact Nat.le_trans (show j.toNat ≤ 40 by omega) (by decide)
  · rintro i σ ys H' hi ⟨o, ns, rfl, rfl, rfl, hn, h, g'⟩
    refine ⟨_, rfl, p, rfl, g'.pot, fun n H2 g2 n1 n2 => ⟨g2.keep D _ nD h, some (.int (0 + (ns.length : Nat))), ns ++ [n], rfl, by rw [List.map_append]; rfl, by rw [List.length_append]; rfl, ?_, upd_same, G1.put hD nD (g'.trans g2)⟩⟩
    intro y hy
    rcases List.mem_append.mp hy with z | z
    · exact hn y z
    · rw [List.mem_singleton.mp z]; exact ⟨n1, n2⟩
  rintro σ0 ys0 H2 ⟨o0, ns, _, rfl, hns, hbn, hD2, g2⟩
  refine ⟨Nat.zero_le _, fun L hL => ?_⟩
  have nL : L ≠ p := g2.ne hL
  have s3 := same_new hL (.lst [])
  have g3 := g2.new (o := .lst []) hL
  have hD3 := s3 _ _ hD2
  refine ⟨_, rfl, D, _, rfl, .inl (SqL.of hD3), by rw [List.length_map, hns]; omega, .inl ⟨ns, rfl⟩, fun SA ys hSA hso => ?_⟩
  obtain ⟨ms, rfl, hms, hsub, hml⟩ := sorted_ints hso
  have s4 := same_new hSA (.lst (ms.map V.int))
  have nSA : SA ≠ p := g3.ne hSA
  have nLS : L ≠ SA := fun z => by rw [← z, upd_same] at hSA; cases hSA
  have g4 := g3.new (o := .lst (ms.map V.int)) hSA
  have g2n := g2
  refine ⟨SA, rfl, ⟨_, SqL.of upd_same⟩, ?_⟩
  have ng : ∀ {H' : Hp} {o : HO}, Grow p H H' → Grow p H (upd H' L o) := fun {H' o} g' => g2.put hL nL g'
  refine for_list (xs := ms.map V.int) (fun i σ H' => ∃ (o : Option V) (as : List Addr) (sps : List Spn), σ = [some (.ref p), some (.ref D), some (.ref L), o] ∧ SpL H' L as sps ∧ sps.length ≤ i ∧ GoodL (ms.drop i) sps ∧ Grow p H H' ∧ H' SA = some (.lst (ms.map V.int)))
    ⟨none, [], [], rfl, ⟨s4 _ _ upd_same, rfl, fun i a s e => by cases e⟩, Nat.zero_le _, GoodL.nil _, g4, upd_same⟩ ?_ ?_ ?_
  · rintro i σ H' _ ⟨_, _, _, _, _, _, _, _, h⟩
    exact SqL.of h
  · rintro i v σ H' hv ⟨o, as, sps, rfl, hS, hlen, hgood, g', hSA'⟩
    rw [List.getElem?_map] at hv
    cases ex : ms[i]? with
    | none => rw [ex] at hv; cases hv
    | some x =>
      rw [ex] at hv
      have hv' : V.int x = v := Option.some.inj hv
      subst hv'
      have hi := (List.getElem?_eq_some_iff.mp ex).1
      have ed : ms.drop i = x :: ms.drop (i + 1) := by rw [List.drop_eq_getElem_cons hi, (List.getElem?_eq_some_iff.mp ex).2]
      rw [ed] at hgood
      have hxm : ∀ m ∈ ms.drop (i + 1), x < m := fun m hm => by
        have pw := hms.drop (i := i)
        rw [ed] at pw
        exact List.rel_of_pairwise_cons pw hm
      have hxb := hbn x (hsub x (List.mem_of_getElem? ex))
      have hi40 : ms.length ≤ 5 := by omega
      have big40 : ∀ n : Nat, n ≤ 45 → n < sizeLine := fun n hn => Nat.lt_of_le_of_lt (Nat.le_trans hn (by decide : 45 ≤ 1000)) (by decide)
      have app : ∀ H5, SpL H5 L as sps → Grow p H H5 → H5 SA = some (.lst (ms.map V.int)) → (∀ sps' l h, sps = sps' ++ [(some l, some h)] → h + 1 < x) →
          tDrop (tBM K "list" rAppend (tVar 2) (tCons (tTup (tCons (tVar 3) (tCons (tVar 3) tNil))) tNil)) { nx := fun σ H' => ∃ (o : Option V) (as : List Addr) (sps : List Spn), σ = [some (.ref p), some (.ref D), some (.ref L), o] ∧ SpL H' L as sps ∧ sps.length ≤ i + 1 ∧ GoodL (ms.drop (i + 1)) sps ∧ Grow p H H' ∧ H' SA = some (.lst (ms.map V.int)), ct := fun σ H' => ∃ (o : Option V) (as : List Addr) (sps : List Spn), σ = [some (.ref p), some (.ref D), some (.ref L), o] ∧ SpL H' L as sps ∧ sps.length ≤ i + 1 ∧ GoodL (ms.drop (i + 1)) sps ∧ Grow p H H' ∧ H' SA = some (.lst (ms.map V.int)), bk := fun _ _ => False, rt := Q } [some (.ref p), some (.ref D), some (.ref L), some (.int x)] H5 := fun H5 hS5 g5 hSA5 hlast => by
        refine ⟨_, rfl, .inl ⟨rfl, _, SqL.of hS5.lst⟩, _, rfl, _, rfl, (by show 2 ≤ sizeLine; decide), fun t ht => ?_⟩
        have s5 := same_new ht (.tup [.int x, .int x])
        have hS6 := hS5.same s5
        refine ⟨L, _, _, rfl, rfl, hS6.lst, ?_, some (.int x), as ++ [t], sps ++ [(some x, some x)], rfl, ?_, ?_, hgood.snoc hxm hxb hlast, ng (g5.new ht), ?_⟩
        · rw [List.length_map, hS5.len]; exact big40 _ (by omega)
        · have := SpL.put (as := as) (sps := sps) (as2 := as ++ [t]) (sps2 := sps ++ [(some x, some x)]) hS6.lst (by rw [List.length_append, List.length_append, hS5.len]; rfl) (pair_snoc hS6.len (R := fun a s => _ = some (HO.tup [eV s.1, eV s.2])) hS6.at_ upd_same)
          rw [List.map_append] at this
          exact this
        · rw [List.length_append]; exact Nat.add_le_add_right hlen 1
        · rw [upd_ne (Ne.symm nLS)]; exact s5 _ _ hSA5
      have mer : ∀ H5, SpL H5 L as sps → Grow p H H5 → H5 SA = some (.lst (ms.map V.int)) → sps ≠ [] →
          tAsg (tTup (tCons (tOp (rIxT K) (tOp (rIxL K) (tVar 2) (tUn (rU fun i => .int (-i)) (tC (.int 1)))) (tC (.int 0))) (tCons (tVar 3) tNil))) (gSub (tVar 2) (tUn (rU fun i => .int (-i)) (tC (.int 1))) rSetL) { nx := fun σ H' => ∃ (o : Option V) (as : List Addr) (sps : List Spn), σ = [some (.ref p), some (.ref D), some (.ref L), o] ∧ SpL H' L as sps ∧ sps.length ≤ i + 1 ∧ GoodL (ms.drop (i + 1)) sps ∧ Grow p H H' ∧ H' SA = some (.lst (ms.map V.int)), ct := fun σ H' => ∃ (o : Option V) (as : List Addr) (sps : List Spn), σ = [some (.ref p), some (.ref D), some (.ref L), o] ∧ SpL H' L as sps ∧ sps.length ≤ i + 1 ∧ GoodL (ms.drop (i + 1)) sps ∧ Grow p H H' ∧ H' SA = some (.lst (ms.map V.int)), bk := fun _ _ => False, rt := Q } [some (.ref p), some (.ref D), some (.ref L), some (.int x)] H5 := fun H5 hS5 g5 hSA5 ne => by
        obtain ⟨as', a, sps', sp, rfl, rfl, hl', hat', ha⟩ := hS5.unsnoc ne
        obtain ⟨l, h, rfl, _⟩ := hgood.bd sp (List.mem_append_right _ (List.mem_singleton.mpr rfl))
        have em : (as' ++ [a]).map V.ref = as'.map V.ref ++ [.ref a] := by rw [List.map_append]; rfl
        have hlst : H5 L = some (.lst (as'.map V.ref ++ [.ref a])) := by rw [← em]; exact hS5.lst
        refine ⟨_, rfl, _, rfl, L, _, _, .ref a, rfl, rfl, SqL.of hlst, atI_last _ _, a, _, _, _, rfl, rfl, SqT.of ha, rfl, _, rfl, (by show 2 ≤ sizeLine; decide), fun t ht => ?_⟩
        have s5 := same_new ht (.tup [eV (some l), .int x])
        refine ⟨_, rfl, _, rfl, L, _, _, as'.length, rfl, rfl, s5 _ _ hlst, ?_, ?_⟩
        · have := ixN_last (as'.map V.ref) (V.ref a)
          rw [List.length_map] at this
          exact this
        have es : (as'.map V.ref ++ [V.ref a]).set as'.length (.ref t) = (as' ++ [t]).map V.ref := by
          have := set_last (as'.map V.ref) (V.ref a) (V.ref t)
          rw [List.length_map] at this
          rw [this, List.map_append]
          rfl
        rw [es]
        refine ⟨some (.int x), as' ++ [t], sps' ++ [(some l, some x)], rfl, ?_, ?_, hgood.merge hxm hxb, ng (g5.new ht), ?_⟩
        · exact SpL.put (as := as') (sps := sps') (s5 _ _ hlst) (by rw [List.length_append, List.length_append, hl']; rfl) (pair_snoc hl' (R := fun a s => _ = some (HO.tup [eV s.1, eV s.2])) (fun i a s e1 e2 => s5 _ _ (hat' i a s e1 e2)) upd_same)
        · rw [List.length_append] at hlen ⊢
          exact Nat.le_succ_of_le hlen
        · rw [upd_ne (Ne.symm nLS)]; exact s5 _ _ hSA5
      refine rd_ne (A := (A.deeper (PyProof.Rows.envOfC "_law_spans" (defScope sSpans) s.heap.objs.size f cdv)).in1) hu1 rfl hS.lst fun z hz => ?_
      have sz := same_new hz (.lst [])
      have gz := g'.new (o := .lst []) hz
      have hSz := hS.same sz
      have hSAz := sz _ _ hSA'
      by_cases ne : sps = []
      · have na : as.map V.ref = [] := by
          have : as.length = 0 := by rw [hS.len, ne]; rfl
          rw [List.eq_nil_of_length_eq_zero this]; rfl
        rw [decide_eq_true na]
        refine iteF (iteF ?_)
        exact app _ hSz gz hSAz fun sps' l h e => absurd (ne.symm.trans e) (by simp)
      · have na : as.map V.ref ≠ [] := fun e => ne (List.eq_nil_of_length_eq_zero (by rw [← hS.len]; simpa using congrArg List.length e))
        rw [decide_eq_false na]
        refine iteT ⟨_, rfl, p, _, rfl, gz.pot, by decide, by decide, fun d H5 g5 a5 b5 => ⟨rfl, _, rfl, ?_⟩⟩
        have hS5 := hSz.grow gz.pot nL g5
        have G5 := gz.trans g5
        have hSA5 := g5.keep _ _ nSA hSAz
        refine ite2 (fun c => ?_) (fun c => ?_)
        · exact iteT (mer _ hS5 G5 hSA5 ne)
        · obtain ⟨as', a, sps', sp, ea, esp, hl', hat', ha⟩ := hS5.unsnoc ne
          obtain ⟨l, h, rfl, _⟩ := hgood.bd sp (by rw [esp]; exact List.mem_append_right _ (List.mem_singleton.mpr rfl))
          have hlst : H5 L = some (.lst (as'.map V.ref ++ [.ref a])) := by
            have := hS5.lst
            rw [ea, List.map_append] at this
            exact this
          refine ⟨_, rfl, _, rfl, _, rfl, L, _, _, .ref a, rfl, rfl, SqL.of hlst, atI_last _ _, a, _, _, _, rfl, rfl, SqT.of ha, rfl, _, _, rfl, rfl, _, _, rfl, rfl, _, rfl, ?_⟩
          refine ite2 (fun c => ?_) (fun c => ?_)
          · exact mer _ hS5 G5 hSA5 ne
          · have c' : ¬ x < h + 2 := fun z => c (decide_eq_true z)
            refine app _ hS5 G5 hSA5 fun sps2 l2 h2 e => ?_
            rw [esp] at e
            have := List.append_inj_right' e rfl
            cases this
            omega
  · rintro σ H5 ⟨o, as, sps, rfl, hS, hlen, hgood, g5, _⟩
    rw [List.length_map] at hlen
    have ok5 := hgood.ok
    clear hgood
    have hlen40 : sps.length ≤ 5 := by omega
    have fin : ∀ (H' : Hp) (as : List Addr) (sps : List Spn), SpL H' L as sps → sps.length ≤ 5 → OkL sps → Grow p H H' →
        tRet (tTup (tCons (tC (.str "n")) (tCons (tCB (fun xs H Q => ∃ p ys, xs = [.ref p] ∧ ((SqL K H p ys ∧ ∀ l, H l = none → Q (.ref l) (upd H l (.tup ys))) ∨ (SqT K H p ys ∧ Q (.ref p) H))) (tCons (tVar 2) tNil)) tNil))) { nx := fun _ H' => Q .non H', rt := Q } [some (.ref p), some (.ref D), some (.ref L), o] H' := fun H' as sps hS hl ok g' => by
      refine ⟨_, rfl, L, _, rfl, .inl ⟨SqL.of hS.lst, fun t ht => ⟨(by show 2 ≤ sizeLine; decide), fun a ha => ?_⟩⟩⟩
      have s1 := same_new ht (.tup (as.map V.ref))
      have s2 := same_new ha (.tup [.str "n", .ref t])
      refine q a (.num sps) _ ((g'.new ht).new ha) ⟨t, as, upd_same, s2 _ _ upd_same, hS.len, fun i b sp e1 e2 => s2 _ _ (s1 _ _ (hS.at_ i b sp e1 e2))⟩ ⟨by omega, ok.pw, ok.ok⟩ hl
    have second : ∀ (H' : Hp) (as : List Addr) (sps : List Spn), SpL H' L as sps → sps.length ≤ 5 → OkL sps → Grow p H H' → ∀ D' : Ends, D'.nx = (fun σ H' => tRet (tTup (tCons (tC (.str "n")) (tCons (tCB (fun xs H Q => ∃ p ys, xs = [.ref p] ∧ ((SqL K H p ys ∧ ∀ l, H l = none → Q (.ref l) (upd H l (.tup ys))) ∨ (SqT K H p ys ∧ Q (.ref p) H))) (tCons (tVar 2) tNil)) tNil))) { nx := fun _ H' => Q .non H', rt := Q } σ H') →
        tIfS (tAnd (tTest (tOp (fun x y H Q => rEqT K ((A.deeper (PyProof.Rows.envOfC "_law_spans" (defScope sSpans) s.heap.objs.size f cdv)).in1) false x y H Q ∨ ∃ a b xs ys, x = .ref a ∧ y = .ref b ∧ SqL K H a xs ∧ SqL K H b ys ∧ xs.length ≠ ys.length ∧ Q (.bl true) H) (tVar 2) (tLst tNil))) (tTest (tOp rEq (tDraw 4) (tC (.int 0)))))
          (tAsg (tTup (tCons (tOp (rIxT K) (tOp (rIxL K) (tVar 2) (tUn (rU fun i => .int (-i)) (tC (.int 1)))) (tC (.int 0))) (tCons (tC .non) tNil))) (gSub (tVar 2) (tUn (rU fun i => .int (-i)) (tC (.int 1))) rSetL)) tNext D' [some (.ref p), some (.ref D), some (.ref L), o] H' := fun H' as sps hS hl ok g' D' eD => by
      refine rd_ne (A := (A.deeper (PyProof.Rows.envOfC "_law_spans" (defScope sSpans) s.heap.objs.size f cdv)).in1) hu1 rfl hS.lst fun z hz => ?_
      have sz := same_new hz (.lst [])
      have gz := g'.new (o := .lst []) hz
      have hSz := hS.same sz
      by_cases ne : sps = []
      · have na : as.map V.ref = [] := by
          have : as.length = 0 := by rw [hS.len, ne]; rfl
          rw [List.eq_nil_of_length_eq_zero this]; rfl
        rw [decide_eq_true na]
        refine iteF (iteF ?_)
        show D'.nx _ _
        rw [eD]
        exact fin _ as sps hSz hl ok gz
      · have na : as.map V.ref ≠ [] := fun e => ne (List.eq_nil_of_length_eq_zero (by rw [← hS.len]; simpa using congrArg List.length e))
        rw [decide_eq_false na]
        refine iteT ⟨_, rfl, p, _, rfl, gz.pot, by decide, by decide, fun d H6 g6 a6 b6 => ⟨rfl, _, rfl, ?_⟩⟩
        have hS6 := hSz.grow gz.pot nL g6
        have G6 := gz.trans g6
        refine ite2 (fun c => ?_) (fun c => ?_)
        · obtain ⟨as', a, sps', sp, rfl, rfl, hl', hat', ha⟩ := hS6.unsnoc ne
          have em : (as' ++ [a]).map V.ref = as'.map V.ref ++ [.ref a] := by rw [List.map_append]; rfl
          have hlst : H6 L = some (.lst (as'.map V.ref ++ [.ref a])) := by rw [← em]; exact hS6.lst
          refine ⟨_, rfl, _, rfl, L, _, _, .ref a, rfl, rfl, SqL.of hlst, atI_last _ _, a, _, _, _, rfl, rfl, SqT.of ha, rfl, (by show 2 ≤ sizeLine; decide), fun t ht => ?_⟩
          have s5 := same_new ht (.tup [eV sp.1, .non])
          refine ⟨_, rfl, _, rfl, L, _, _, as'.length, rfl, rfl, s5 _ _ hlst, ?_, ?_⟩
          · have := ixN_last (as'.map V.ref) (V.ref a)
            rw [List.length_map] at this
            exact this
          have es : (as'.map V.ref ++ [V.ref a]).set as'.length (.ref t) = (as' ++ [t]).map V.ref := by
            have := set_last (as'.map V.ref) (V.ref a) (V.ref t)
            rw [List.length_map] at this
            rw [this, List.map_append]
            rfl
          rw [es, eD]
          refine fin _ (as' ++ [t]) (sps' ++ [(sp.1, none)]) ?_ (by rw [List.length_append] at hl ⊢; exact hl) ok.last (ng (G6.new ht))
          exact SpL.put (as := as') (sps := sps') (s5 _ _ hlst) (by rw [List.length_append, List.length_append, hl']; rfl) (pair_snoc hl' (R := fun a s => _ = some (HO.tup [eV s.1, eV s.2])) (fun i a s e1 e2 => s5 _ _ (hat' i a s e1 e2)) upd_same)
        · show D'.nx _ _
          rw [eD]
          exact fin _ as sps hS6 hl ok G6
    refine rd_ne (A := (A.deeper (PyProof.Rows.envOfC "_law_spans" (defScope sSpans) s.heap.objs.size f cdv)).in1) hu1 rfl hS.lst fun z hz => ?_
    have sz := same_new hz (.lst [])
    have gz := g5.new (o := .lst []) hz
    have hSz := hS.same sz
    by_cases ne : sps = []
    · have na : as.map V.ref = [] := by
        have : as.length = 0 := by rw [hS.len, ne]; rfl
        rw [List.eq_nil_of_length_eq_zero this]; rfl
      rw [decide_eq_true na]
      exact iteF (iteF (second _ as sps hSz hlen40 ok5 gz _ rfl))
    · have na : as.map V.ref ≠ [] := fun e => ne (List.eq_nil_of_length_eq_zero (by rw [← hS.len]; simpa using congrArg List.length e))
      rw [decide_eq_false na]
      refine iteT ⟨_, rfl, p, _, rfl, gz.pot, by decide, by decide, fun d H6 g6 a6 b6 => ⟨rfl, _, rfl, ?_⟩⟩
      have hS6 := hSz.grow gz.pot nL g6
      have G6 := gz.trans g6
      refine ite2 (fun c => ?_) (fun c => ?_)
      · match as, sps, hS6, ne, hlen40, ok5 with
        | [], [], _, ne, _, _ => exact absurd rfl ne
        | [], _ :: _, hS6, _, _, _ => exact absurd hS6.len (by simp)
        | _ :: _, [], hS6, _, _, _ => exact absurd hS6.len (by simp)
        | a :: as, sp :: sps, hS6, _, hl, ok =>
          have ha := hS6.at_ 0 a sp rfl rfl
          have h0 : atI ((a :: as).map V.ref) 0 = some (.ref a) := atI_nat (j := 0) rfl
          refine ⟨_, rfl, L, _, _, _, rfl, rfl, SqL.of hS6.lst, h0, a, _, _, _, rfl, rfl, SqT.of ha, rfl, (by show 2 ≤ sizeLine; decide), fun t ht => ?_⟩
          have s5 := same_new ht (.tup [.non, eV sp.2])
          refine ⟨_, rfl, L, _, _, 0, rfl, rfl, s5 _ _ hS6.lst, ?_, ?_⟩
          · unfold ixN
            rw [if_pos (by decide), if_pos (by simp)]
            rfl
          refine second _ (t :: as) ((none, sp.2) :: sps) ?_ hl ok.first (ng (G6.new ht)) _ rfl
          refine SpL.put (as := as) (sps := sps) (as2 := t :: as) (s5 _ _ hS6.lst) (by simpa using hS6.len) fun i b s' e1 e2 => ?_
          cases i with
          | zero => cases e1; cases e2; exact upd_same
          | succ i => exact s5 _ _ (hS6.at_ (i + 1) b s' (by simpa using e1) (by simpa using e2))
      · exact second _ as sps hS6 hlen40 ok5 G6 _ rfl
end
end My
set_option maxHeartbeats 8000000
namespace My
open PySem L2 CS
section
variable {P : Program} {w : World} {K : PySem.W.Frag} {mg : Str → Option Value} {base : Heap} {f g1 g2 g3 : Addr} {fd d1 d2 d3 : FuncData}
theorem ok_words (B : Blt mg) (B2 : Blt2 mg) (F : Fun K "_law_words" "_law_words" sWords f fd) (G : FnOk P w K mg base CX0 2 g1 d1 ["_law_pot_here", "_law_many"] spDraw) (bG : Binds K d1 ["_law_pot_here", "_law_many"] []) (kG : PySem.W.keepIn K (.ref g1) = true) (mG : mg "_law_draw" = some (.ref g1))
    (G2 : FnOk P w K mg base CX0 2 g2 d2 ["_law_pot_here"] spWord) (b2 : Binds K d2 ["_law_pot_here"] []) (k2 : PySem.W.keepIn K (.ref g2) = true) (m2 : mg "_law_word" = some (.ref g2)) :
    FnOk P w K mg base CX0 3 f fd ["_law_pot_here"] spSet := by
  refine F.ok scWords (fun vs H Q E h => ?_) (fun cdv A outer s H vs Q E hr h => ?_)
  · obtain ⟨p, rfl, _⟩ := h
    rfl
  obtain ⟨p, rfl, hP, q⟩ := h
  refine ⟨_, pss_cons (ps_setComp (i := 1) (N' := ["_law_k", "_law_pot_here"]) (src := [none, some 0]) scWords.nd rfl (Or.inl rfl) rfl rfl (CompSc.ofB (by kernel_rfl))
      (pi_range1 rfl B.range (pa_cons (pe_call G hr rfl mG kG bG .nil pass0 (pa_cons (pv 0) (pa_cons pe_int pa_nil))) pa_nil)) (fun cl C s H fp => pgl (i := 0)) (fun cl C s H fp => pifs_nil)
      (fun cl C s H fp => pe_call G2 hr glc m2 k2 b2 .nil pass0 (pa_cons (pvf 1) pa_nil)))
    (pss_one (ps_ret (pe_tup (pa_cons pe_str (pa_cons (pe_cmpR op_eq (pe_call G hr rfl mG kG bG .nil pass0 (pa_cons (pv 0) (pa_cons pe_int pa_nil))) pe_int (nomark _)) (pa_cons (pe_callTy call_tuple_of rfl B.tuple PyProof.Rows.boot_tuple (pa_cons (pe_sortset rfl rfl B2.sorted rfl B2.set (pv 1)) pa_nil)) pa_nil)))))), ?_⟩
  refine ⟨_, rfl, p, _, rfl, hP, by decide, by decide, fun j H1 G1 j0 j1 => ?_⟩
  have j40 : j ≤ 5 := by omega
  refine ⟨j, rfl, (p62a j0 (by omega)).1, (p62a j0 (by omega)).2, fun D hD => ?_⟩
  have nD : D ≠ p := G1.ne hD
  refine comp_range (n := j.toNat) (fun i σ ys H' => ∃ (o : Option V) (ns : List Str), σ = [o, some (.ref p)] ∧ ys = ns.map V.str ∧ ns.length = i ∧ (∀ n ∈ ns, isW n) ∧ H' D = some (.lst ys) ∧ Grow p H H')
    ⟨none, [], rfl, rfl, rfl, by simp, upd_same, G1.new hD⟩ ?_ ?_ ?_ ?_
  · rintro i σ ys H' _ ⟨o, ns, _, rfl, rfl, _, h, _⟩
    exact ⟨h, by rw [List.length_map]; exact Nat.le_refl _⟩
  · exact Nat.le_trans (show j.toNat ≤ 40 by omega) (by decide)
  · rintro i σ ys H' hi ⟨o, ns, rfl, rfl, rfl, hn, h, g'⟩
    refine ⟨_, rfl, p, rfl, g'.pot, fun n H2 g2 n1 => ⟨g2.keep D _ nD h, some (.int (0 + (ns.length : Nat))), ns ++ [n], rfl, by rw [List.map_append]; rfl, by rw [List.length_append]; rfl, ?_, upd_same, G1.put hD nD (g'.trans g2)⟩⟩
    intro y hy
    rcases List.mem_append.mp hy with z | z
    · exact hn y z
    · rw [List.mem_singleton.mp z]; exact n1
  rintro σ0 ys0 H2 ⟨o0, ns, _, rfl, hns, hbn, hD2, g2⟩
  have fin : ∀ (H' : Hp) (l : Addr) (ns : List Str), H' l = some (.lst (ns.map V.str)) → ns.length ≤ 5 → (∀ n ∈ ns, isW n) → l ≠ p → Grow p H H' →
      tRet (tTup (tCons (tC (.str "w")) (tCons (tOp rEq (tDraw 2) (tC (.int 0))) (tCons (tCB (fun xs H Q => ∃ p ys, xs = [.ref p] ∧ ((SqL K H p ys ∧ ∀ l, H l = none → Q (.ref l) (upd H l (.tup ys))) ∨ (SqT K H p ys ∧ Q (.ref p) H))) (tCons (tSortSet K (tVar 1)) tNil)) tNil)))) { nx := fun _ H' => Q .non H', rt := Q } [some (.ref p), some (.ref l)] H' := fun H' l ns hl hln hw nl g' => by
    refine ⟨_, rfl, p, _, rfl, g'.pot, by decide, by decide, fun d H5 g5 a5 b5 => ⟨rfl, _, rfl, l, _, rfl, .inl (SqL.of (g5.keep _ _ nl hl)), by rw [List.length_map]; omega, .inr ⟨ns, rfl⟩, fun SA ys hSA hso => ?_⟩⟩
    obtain ⟨ms, rfl, hms, hsub, hml⟩ := sorted_strs hso
    refine ⟨SA, _, rfl, .inl ⟨SqL.of upd_same, fun t ht => ⟨(by show 3 ≤ sizeLine; decide), fun a ha => ?_⟩⟩⟩
    exact q a (.wrd _ ms) _ (((((g'.trans g5).new hSA).new ht)).new ha) ⟨t, upd_same, same_new ha _ _ _ upd_same⟩ ⟨by omega, hms, fun x hx => hw x (hsub x hx)⟩ (by show ms.length ≤ 5; omega)
  exact fin _ D ns hD2 (by omega) hbn nD g2
theorem ok_set (F : Fun K "_law_set" "_law_set" sSet f fd) (G : FnOk P w K mg base CX0 3 g1 d1 ["_law_pot_here", "_law_many"] spDraw) (bG : Binds K d1 ["_law_pot_here", "_law_many"] []) (kG : PySem.W.keepIn K (.ref g1) = true) (mG : mg "_law_draw" = some (.ref g1))
    (G2 : FnOk P w K mg base CX0 3 g2 d2 ["_law_pot_here"] spSet) (b2 : Binds K d2 ["_law_pot_here"] []) (k2 : PySem.W.keepIn K (.ref g2) = true) (m2 : mg "_law_spans" = some (.ref g2))
    (G3 : FnOk P w K mg base CX0 3 g3 d3 ["_law_pot_here"] spSet) (b3 : Binds K d3 ["_law_pot_here"] []) (k3 : PySem.W.keepIn K (.ref g3) = true) (m3 : mg "_law_words" = some (.ref g3)) :
    FnOk P w K mg base CX0 4 f fd ["_law_pot_here"] spSet := by
  refine F.ok scSet (fun vs H Q E h => ?_) (fun cdv A outer s H vs Q E hr h => ?_)
  · obtain ⟨p, rfl, _⟩ := h
    rfl
  obtain ⟨p, rfl, hP, q⟩ := h
  refine ⟨_, pss_cons (ps_if (pt_cmpR op_eq (pe_call G hr rfl mG kG bG .nil pass0 (pa_cons (pv 0) (pa_cons pe_int pa_nil))) pe_int (nomark _)) (pss_one (ps_ret (pe_call G2 hr rfl m2 k2 b2 .nil pass0 (pa_cons (pv 0) pa_nil)))) pss_nil)
    (pss_one (ps_ret (pe_call G3 hr rfl m3 k3 b3 .nil pass0 (pa_cons (pv 0) pa_nil)))), ?_⟩
  refine ⟨_, rfl, p, _, rfl, hP, by decide, by decide, fun d1 H1 g1 a1 b1 => ⟨rfl, _, rfl, ?_⟩⟩
  refine ite2 (fun c => ?_) (fun c => ?_)
  · exact ⟨_, rfl, p, rfl, g1.pot, fun a S H2 g2 h1 h2 h3 => q a S H2 (g1.trans g2) h1 h2 h3⟩
  · exact ⟨_, rfl, p, rfl, g1.pot, fun a S H2 g2 h1 h2 h3 => q a S H2 (g1.trans g2) h1 h2 h3⟩
end
end My
set_option maxHeartbeats 4000000
namespace My
open PySem L2 CT CS
abbrev sLongest : Stmt := top 49
abbrev sSpoilt : Stmt := top 50
abbrev sTold : Stmt := top 48
abbrev sSpanText : Stmt := top 42
abbrev sText : Stmt := top 43
abbrev sShowEnd : Stmt := top 16
abbrev sShowSpan : Stmt := top 17
abbrev sShowSpans : Stmt := top 18
abbrev sShowWords : Stmt := top 19
abbrev sShowSet : Stmt := top 20
abbrev sReadEnd : Stmt := top 21
abbrev sReadSpan : Stmt := top 22
abbrev sLiesBehind : Stmt := top 23
abbrev sReadSpans : Stmt := top 24
abbrev sReadListed : Stmt := top 25
abbrev sReadWords : Stmt := top 26
abbrev sReadSet : Stmt := top 27
abbrev sIsNumber : Stmt := top 8
abbrev sInSpan : Stmt := top 14
abbrev sHas : Stmt := top 15
abbrev sIsOf : Stmt := top 29
abbrev sHeadOf : Stmt := top 30
abbrev sShowKind : Stmt := top 31
abbrev sReadKind : Stmt := top 32
abbrev sLHas : Stmt := top 44
abbrev sLIsOf : Stmt := top 45
abbrev sCellr : Stmt := top 46
abbrev sRow : Stmt := top 47
abbrev sKindIn : Stmt := top 51
abbrev sRight : Stmt := top 52
abbrev sLaw : Stmt := top 53
theorem scLongest : FnScope ["_law_text", "_law_most", "_law_here", "_law_sign"] ["_law_text"] (defScope sLongest) := ⟨rfl, rfl, rfl, by decide +kernel, rfl, by decide +kernel, by decide +kernel⟩
theorem scSpoilt : FnScope ["_law_pot_here", "_law_text", "_law_every", "_law_sign", "_law_at", "_law_way", "_law_parts", "_law_other"] ["_law_pot_here", "_law_text"] (defScope sSpoilt) := ⟨rfl, rfl, rfl, by decide +kernel, rfl, by decide +kernel, by decide +kernel⟩
theorem scTold : FnScope ["_law_text", "_law_tale", "e"] ["_law_text"] (defScope sTold) := ⟨rfl, rfl, rfl, by decide +kernel, rfl, by decide +kernel, by decide +kernel⟩
theorem scSpanText : FnScope ["_law_low", "_law_high"] ["_law_low", "_law_high"] (defScope sSpanText) := ⟨rfl, rfl, rfl, by decide +kernel, rfl, by decide +kernel, by decide +kernel⟩
theorem scText : FnScope ["_law_tale", "_law_texts"] ["_law_tale"] (defScope sText) := ⟨rfl, rfl, rfl, by decide +kernel, rfl, by decide +kernel, by decide +kernel⟩
theorem scShowEnd : FnScope ["number"] ["number"] (defScope sShowEnd) := ⟨rfl, rfl, rfl, by decide +kernel, rfl, by decide +kernel, by decide +kernel⟩
theorem scShowSpan : FnScope ["span", "low", "high"] ["span"] (defScope sShowSpan) := ⟨rfl, rfl, rfl, by decide +kernel, rfl, by decide +kernel, by decide +kernel⟩
theorem scShowSpans : FnScope ["spans"] ["spans"] (defScope sShowSpans) := ⟨rfl, rfl, rfl, by decide +kernel, rfl, by decide +kernel, by decide +kernel⟩
theorem scShowWords : FnScope ["just_these", "words", "listed"] ["just_these", "words"] (defScope sShowWords) := ⟨rfl, rfl, rfl, by decide +kernel, rfl, by decide +kernel, by decide +kernel⟩
theorem scShowSet : FnScope ["told"] ["told"] (defScope sShowSet) := ⟨rfl, rfl, rfl, by decide +kernel, rfl, by decide +kernel, by decide +kernel⟩
theorem scReadEnd : FnScope ["text"] ["text"] (defScope sReadEnd) := ⟨rfl, rfl, rfl, by decide +kernel, rfl, by decide +kernel, by decide +kernel⟩
theorem scReadSpan : FnScope ["text", "number", "before", "dots", "behind", "low", "high"] ["text"] (defScope sReadSpan) := ⟨rfl, rfl, rfl, by decide +kernel, rfl, by decide +kernel, by decide +kernel⟩
theorem scLiesBehind : FnScope ["span", "earlier"] ["span", "earlier"] (defScope sLiesBehind) := ⟨rfl, rfl, rfl, by decide +kernel, rfl, by decide +kernel, by decide +kernel⟩
theorem scReadSpans : FnScope ["text", "spans", "at"] ["text"] (defScope sReadSpans) := ⟨rfl, rfl, rfl, by decide +kernel, rfl, by decide +kernel, by decide +kernel⟩
theorem scReadListed : FnScope ["text", "words"] ["text"] (defScope sReadListed) := ⟨rfl, rfl, rfl, by decide +kernel, rfl, by decide +kernel, by decide +kernel⟩
theorem scReadWords : FnScope ["text"] ["text"] (defScope sReadWords) := ⟨rfl, rfl, rfl, by decide +kernel, rfl, by decide +kernel, by decide +kernel⟩
theorem scReadSet : FnScope ["text"] ["text"] (defScope sReadSet) := ⟨rfl, rfl, rfl, by decide +kernel, rfl, by decide +kernel, by decide +kernel⟩
theorem scIsNumber : FnScope ["cell"] ["cell"] (defScope sIsNumber) := ⟨rfl, rfl, rfl, by decide +kernel, rfl, by decide +kernel, by decide +kernel⟩
theorem scInSpan : FnScope ["span", "number", "low", "high"] ["span", "number"] (defScope sInSpan) := ⟨rfl, rfl, rfl, by decide +kernel, rfl, by decide +kernel, by decide +kernel⟩
theorem scHas : FnScope ["told", "cell"] ["told", "cell"] (defScope sHas) := ⟨rfl, rfl, rfl, by decide +kernel, rfl, by decide +kernel, by decide +kernel⟩
theorem scIsOf : FnScope ["kind", "row"] ["kind", "row"] (defScope sIsOf) := ⟨rfl, rfl, rfl, by decide +kernel, rfl, by decide +kernel, by decide +kernel⟩
theorem scHeadOf : FnScope ["kind"] ["kind"] (defScope sHeadOf) := ⟨rfl, rfl, rfl, by decide +kernel, rfl, by decide +kernel, by decide +kernel⟩
theorem scShowKind : FnScope ["kind"] ["kind"] (defScope sShowKind) := ⟨rfl, rfl, rfl, by decide +kernel, rfl, by decide +kernel, by decide +kernel⟩
theorem scReadKind : FnScope ["text", "parts"] ["text"] (defScope sReadKind) := ⟨rfl, rfl, rfl, by decide +kernel, rfl, by decide +kernel, by decide +kernel⟩
theorem scLHas : FnScope ["_law_tale", "_law_cell_here", "_law_low", "_law_high"] ["_law_tale", "_law_cell_here"] (defScope sLHas) := ⟨rfl, rfl, rfl, by decide +kernel, rfl, by decide +kernel, by decide +kernel⟩
theorem scLIsOf : FnScope ["_law_kind", "_law_row_here"] ["_law_kind", "_law_row_here"] (defScope sLIsOf) := ⟨rfl, rfl, rfl, by decide +kernel, rfl, by decide +kernel, by decide +kernel⟩
theorem scCellr : FnScope ["_law_pot_here", "_law_tale", "_law_way", "_law_low", "_law_high"] ["_law_pot_here", "_law_tale"] (defScope sCellr) := ⟨rfl, rfl, rfl, by decide +kernel, rfl, by decide +kernel, by decide +kernel⟩
theorem scRow : FnScope ["_law_pot_here", "_law_kind", "_law_row_here", "_law_way"] ["_law_pot_here", "_law_kind"] (defScope sRow) := ⟨rfl, rfl, rfl, by decide +kernel, rfl, by decide +kernel, by decide +kernel⟩
theorem scKindIn : FnScope ["_law_text", "_law_parts", "_law_found"] ["_law_text"] (defScope sKindIn) := ⟨rfl, rfl, rfl, by decide +kernel, rfl, by decide +kernel, by decide +kernel⟩
theorem scRight : FnScope ["_law_pot_here", "_law_kind", "_law_text", "_law_tale", "_law_k", "_law_other", "_law_odd"] ["_law_pot_here", "_law_kind", "_law_text"] (defScope sRight) := ⟨rfl, rfl, rfl, by decide +kernel, rfl, by decide +kernel, by decide +kernel⟩
theorem scLaw : FnScope ["_law_script", "_law_k", "_law_pot_here", "_law_kind", "_law_text", "_law_stayed", "_law_j", "_law_row_here", "_law_found"] ["_law_script"] (defScope sLaw) := ⟨rfl, rfl, rfl, by decide +kernel, rfl, by decide +kernel, by decide +kernel⟩
theorem idx_to (n len : Nat) (h : len ≤ n) : Builtin.Str.strSliceIndices none (some (n : Int)) 1 len = Builtin.Str.strSliceIndices none (some (len : Int)) 1 len := by
  unfold Builtin.Str.strSliceIndices
  have e1 : (if (n : Int) < 0 then (n : Int) + len else n) = n := if_neg (by omega)
  have e2 : (if (len : Int) < 0 then (len : Int) + len else len) = len := if_neg (by omega)
  have e3 : min (n : Int) len = len := by omega
  have e4 : min (len : Int) len = len := by omega
  simp only [e1, e2, e3, e4]
  rfl
theorem idx_from (n len : Nat) (h : len ≤ n) : Builtin.Str.strSliceIndices (some (n : Int)) none 1 len = Builtin.Str.strSliceIndices (some (len : Int)) none 1 len := by
  unfold Builtin.Str.strSliceIndices
  have e1 : (if (n : Int) < 0 then (n : Int) + len else n) = n := if_neg (by omega)
  have e2 : (if (len : Int) < 0 then (len : Int) + len else len) = len := if_neg (by omega)
  have e3 : min (n : Int) len = len := by omega
  have e4 : min (len : Int) len = len := by omega
  simp only [e1, e2, e3, e4]
  rfl
theorem slice_to (x : Str) (n : Nat) : (Txt.slice x none (some (n : Int))).cps.toList = x.cps.toList.take n := by
  have main : ∀ m : Nat, m ≤ x.length → (Txt.slice x none (some (m : Int))).cps.toList = x.cps.toList.take m := fun m hm => by
    have e : Txt.slice x none (some (m : Int)) = _ := PySem.StrLaws.sliceText_to (x := x) (j := (m : Int)) ⟨by omega, by rw [← len_codes]; exact_mod_cast hm⟩
    rw [e]
    simp
  by_cases h : n ≤ x.length
  · exact main n h
  · have e : Txt.slice x none (some (n : Int)) = Txt.slice x none (some (x.length : Int)) := by
      unfold Txt.slice
      rw [idx_to n x.length (by omega)]
    rw [e, main _ (Nat.le_refl _), List.take_of_length_le (by rw [len_codes]; exact Nat.le_refl _), List.take_of_length_le (by rw [← len_codes]; omega)]
theorem slice_from (x : Str) (n : Nat) : (Txt.slice x (some (n : Int)) none).cps.toList = x.cps.toList.drop n := by
  have main : ∀ m : Nat, m ≤ x.length → (Txt.slice x (some (m : Int)) none).cps.toList = x.cps.toList.drop m := fun m hm => by
    have e : Txt.slice x (some (m : Int)) none = _ := PySem.StrLaws.sliceText_from (x := x) (i := (m : Int)) ⟨by omega, by rw [← len_codes]; exact_mod_cast hm⟩
    rw [e]
    show List.take _ (List.drop m x.cps.toList) = _
    refine List.take_of_length_le ?_
    rw [List.length_drop]
    omega
  by_cases h : n ≤ x.length
  · exact main n h
  · have e : Txt.slice x (some (n : Int)) none = Txt.slice x (some (x.length : Int)) none := by
      unfold Txt.slice
      rw [idx_from n x.length (by omega)]
    rw [e, main _ (Nat.le_refl _), List.drop_of_length_le (by rw [len_codes]; exact Nat.le_refl _), List.drop_of_length_le (by rw [← len_codes]; omega)]
end My
set_option maxHeartbeats 4000000
namespace My
open PySem L2 CT CS
def remM (x : Str) : Str := Txt.removeprefix x "-"
theorem remM_yes {x : Str} (h : x.cps.toList[0]? = some 45) : remM x = Txt.slice x (some 1) none := by
  refine TX.str_ext ?_
  have e : (Txt.slice x (some 1) none).cps.toList = x.cps.toList.drop 1 := slice_from x 1
  rw [e]
  cases ex : x.cps.toList with
  | nil => rw [ex] at h; cases h
  | cons a b =>
    rw [ex] at h
    have : a = 45 := Option.some.inj h
    subst this
    unfold remM
    rw [minus_eq]
    exact remp_yes ex
theorem remM_no {x : Str} (h : x.cps.toList[0]? ≠ some 45) : remM x = x := by
  unfold remM
  rw [minus_eq]
  exact remp_no h
theorem remM_len (x : Str) : (remM x).length ≤ x.length := by
  by_cases h : x.cps.toList[0]? = some 45
  · rw [remM_yes h]; exact Txt.slice_le _ _ _
  · rw [remM_no h]; exact Nat.le_refl _
def dV (x : Str) : Nat := PySem.NumText.digitsVal x.cps.toList
theorem numB_iff {x : Str} : numB x = true ↔ remM x ≠ "" ∧ allIn figures (remM x) = true ∧ ((remM x).cps.toList[0]? = some 48 → (remM x).length ≤ 1 ∧ x = remM x) := by
  have z0 : remM "0" = "0" := by decide +kernel
  have z1 : ("0" : Str) ≠ "" := by decide +kernel
  have z2 : allIn figures "0" = true := by decide +kernel
  have z3 : ("0" : Str).length ≤ 1 := by decide +kernel
  unfold numB
  by_cases h0 : x = "0"
  · rw [if_pos h0, h0, z0]
    exact ⟨fun _ => ⟨z1, z2, fun _ => ⟨z3, rfl⟩⟩, fun _ => rfl⟩
  rw [if_neg h0]
  have st : Txt.startswith (remM x) "0" = decide ((remM x).cps.toList[0]? = some 48) := by rw [nought_eq]; exact starts_one _ _
  show (if remM x = "" ∨ Txt.startswith (remM x) "0" = true then false else allIn figures (remM x)) = true ↔ _
  rw [st]
  by_cases h1 : remM x = ""
  · rw [if_pos (.inl h1)]
    exact ⟨fun z => (by cases z), fun z => absurd h1 z.1⟩
  by_cases h2 : (remM x).cps.toList[0]? = some 48
  · rw [if_pos (.inr (decide_eq_true h2))]
    refine ⟨fun z => (by cases z), fun z => ?_⟩
    obtain ⟨_, _, z⟩ := z
    obtain ⟨z, zz⟩ := z h2
    exfalso
    apply h0
    rw [zz, nought_eq]
    refine TX.str_ext ?_
    rw [len_codes] at z
    cases ex : (remM x).cps.toList with
    | nil => rw [ex] at h2; cases h2
    | cons a b =>
      rw [ex] at h2 z
      have : a = 48 := Option.some.inj h2
      subst this
      cases b with
      | nil => rfl
      | cons _ _ => simp at z
  · rw [if_neg (by rintro (z | z); exact h1 z; exact h2 (of_decide_eq_true z))]
    exact ⟨fun z => ⟨h1, z, fun w => absurd w h2⟩, fun z => z.2.1⟩
end My
set_option maxHeartbeats 4000000
namespace My
open PySem L2 CT CS
theorem mem_glue {y : List Nat} : ∀ {L : List (List Nat)} {p : List Nat}, p ∈ L → p <:+: TX.glue y L
  | [], _, h => absurd h (by simp)
  | [q], p, h => by
    have e : p = q := by simpa using h
    rw [e]; exact List.infix_rfl
  | q :: q2 :: r, p, h => by
    have e3 : TX.glue y (q :: q2 :: r) = q ++ y ++ TX.glue y (q2 :: r) := rfl
    rw [e3]
    rcases List.mem_cons.mp h with e | e
    · rw [e, List.append_assoc]; exact (List.prefix_append _ _).isInfix
    · exact (mem_glue e).trans (List.suffix_append _ _).isInfix
theorem part_infix {x y p : Str} (h : p ∈ Txt.split x y) : p.cps.toList <:+: x.cps.toList := by
  have e := PySem.StrLaws.join_split x y
  have e2 : x.cps.toList = TX.glue y.cps.toList ((Txt.split x y).map fun p => p.cps.toList) := by rw [← TX.glue_str, e]
  rw [e2]
  exact mem_glue (List.mem_map.mpr ⟨p, h, rfl⟩)
theorem infix_len {x p : Str} (h : p.cps.toList <:+: x.cps.toList) : p.length ≤ x.length := by
  rw [len_codes, len_codes]; exact h.length_le
theorem part_len {x y p : Str} {n : Nat} (h : p ∈ Txt.split x y) (hx : x.length ≤ n) : p.length ≤ n := Nat.le_trans (infix_len (part_infix h)) hx
theorem parts_few {x y : Str} (hx : x.length ≤ 1000000) : (Txt.split x y).length ≤ sizeLine := by
  have := PyProof.Rows.split_le x y
  rw [sizeLine_eq]; omega
def RunC (n : Nat) (cs : List Nat) : Prop := ∀ l, l <:+: cs → PySem.NumText.AllDigits l → l.length ≤ n
def RunB (n : Nat) (x : Str) : Prop := RunC n x.cps.toList
theorem RunC.sub {n : Nat} {cs ds : List Nat} (h : RunC n cs) (s : ds <:+: cs) : RunC n ds := fun l hl hd => h l (hl.trans s) hd
theorem dig_one {c : Nat} : (decide (c ∈ figures.cps.toList) = true) ↔ 48 ≤ c ∧ c ≤ 57 := by
  rw [decide_eq_true_iff, figures_list, List.mem_range']
  constructor
  · rintro ⟨i, hi, e⟩; omega
  · rintro ⟨h1, h2⟩; exact ⟨c - 48, by omega, by omega⟩
theorem run_step {t : List Nat} {c run long : Nat} (hs : ∀ l, l <:+ t → PySem.NumText.AllDigits l → l.length ≤ run) (hl : RunC long t) :
    (∀ l, l <:+ t ++ [c] → PySem.NumText.AllDigits l → l.length ≤ (run + 1) * (if decide (c ∈ figures.cps.toList) = true then 1 else 0)) ∧ RunC (if (run + 1) * (if decide (c ∈ figures.cps.toList) = true then 1 else 0) > long then (run + 1) * (if decide (c ∈ figures.cps.toList) = true then 1 else 0) else long) (t ++ [c]) := by
  have h1 : ∀ l, l <:+ t ++ [c] → PySem.NumText.AllDigits l → l.length ≤ (run + 1) * (if decide (c ∈ figures.cps.toList) = true then 1 else 0) := by
    intro l hsu hd
    rcases List.suffix_concat_iff.mp hsu with rfl | ⟨u, rfl, hu⟩
    · exact Nat.zero_le _
    · have hc : decide (c ∈ figures.cps.toList) = true := dig_one.mpr (hd c (by simp))
      have := hs u hu fun d z => hd d (List.mem_append_left _ z)
      rw [if_pos hc, List.length_append, Nat.mul_one]
      exact Nat.add_le_add_right this 1
  refine ⟨h1, fun l hi hd => ?_⟩
  rcases List.infix_concat_iff.mp hi with z | z
  · have := h1 l z hd
    by_cases c1 : (run + 1) * (if decide (c ∈ figures.cps.toList) = true then 1 else 0) > long
    · rw [if_pos c1]; exact this
    · rw [if_neg c1]; omega
  · have := hl l z hd
    by_cases c1 : (run + 1) * (if decide (c ∈ figures.cps.toList) = true then 1 else 0) > long
    · rw [if_pos c1]; omega
    · rw [if_neg c1]; exact this
def spLongest : Sp := fun vs H Q _ => ∃ x, vs = [.str x] ∧ x.length ≤ sizeLine ∧ ∀ n : Nat, RunB n x → ∀ H', Same H H' → Q (.int n) H'
theorem log_le {m : Int} (h0 : 0 < m) (h : m ≤ 10000000) : m.natAbs.log2 < 9000 := by
  have h2 : m.natAbs < 2 ^ 24 := Nat.lt_of_le_of_lt (show m.natAbs ≤ 10000000 by omega) (by decide)
  exact Nat.lt_trans ((Nat.log2_lt (by omega)).mpr h2) (by decide)
section
variable {P : Program} {w : World} {K : PySem.W.Frag} {mg : Str → Option Value} {base : Heap} {f g1 g2 CN : Addr} {fd d1 d2 : FuncData}
theorem ok_longest (B : Blt mg) (B2 : Blt2 mg) (F : Fun K "_law_longest" "_law_longest" sLongest f fd) : FnOk P w K mg base CX0 1 f fd ["_law_text"] spLongest := by
  refine F.ok scLongest (fun vs H Q E h => ?_) (fun cdv A outer s H vs Q E hr h => ?_)
  · obtain ⟨x, rfl, _⟩ := h
    rfl
  obtain ⟨x, rfl, hx, q⟩ := h
  refine ⟨_, pss_cons (ps_asg (pe_tup (pa_cons pe_int (pa_cons pe_int pa_nil))) (pg_tup rfl (pgs_cons (pg_name (i := 1) scLongest.nd rfl (Or.inl rfl)) (pgs_cons (pg_name (i := 2) scLongest.nd rfl (Or.inl rfl)) pgs_nil))))
    (pss_cons (ps_for PassesOwn.never rfl (pi_str (pv 0)) (pg_name (i := 3) scLongest.nd rfl (Or.inl rfl))
      (pss_cons (ps_set (i := 2) scLongest.nd rfl (Or.inl rfl) (pe_op op_mul (pe_op op_add (pv 2) pe_int) (pe_callTy call_int1 rfl B2.int PyProof.Rows.boot_int (pa_cons (pe_cmpR op_in_str (pv 3) pe_str rfl) pa_nil))))
      (pss_one (ps_set (i := 1) scLongest.nd rfl (Or.inl rfl) (pe_callB (call_max2 rfl) rfl B.max PyProof.Rows.boot_max (pa_cons (pv 1) (pa_cons (pv 2) pa_nil)))))))
    (pss_one (ps_ret (pv 1)))), ?_⟩
  refine ⟨(by show 2 ≤ sizeLine; decide), fun t ht => ⟨t, _, rfl, SqT.of upd_same, rfl, _, _, rfl, _, _, rfl, rfl, ?_⟩⟩
  refine ⟨_, rfl, x, rfl, for_str (fun i σ H' => (∃ (o : Option V) (long run : Nat), σ = [some (.str x), some (.int long), some (.int run), o] ∧ (∀ l, l <:+ x.cps.toList.take i → PySem.NumText.AllDigits l → l.length ≤ run) ∧ RunC long (x.cps.toList.take i)) ∧ Same H H')
    ⟨⟨none, 0, 0, rfl, fun l hl _ => by rw [List.suffix_nil.mp hl]; exact Nat.le_refl _, fun l hl _ => by rw [List.infix_nil.mp hl]; exact Nat.le_refl _⟩, same_new ht _⟩ ?_ ?_⟩
  · rintro i c σ H' hc ⟨⟨o, long, run, rfl, hs, hl⟩, sm⟩
    have hc' : x.cps.toList[i]? = some c := by simpa using hc
    have fo : (!(Builtin.Str.occurrences figures (sgn c) 0 figures.length 1).isEmpty) = decide (c ∈ figures.cps.toList) := PySem.StrLaws.found_one figures c
    obtain ⟨n1, n2⟩ := run_step (c := c) hs hl
    refine ⟨_, rfl, _, _, rfl, rfl, _, rfl, sgn c, figures, rfl, rfl, .inr ⟨_, rfl, _, _, rfl, rfl, ?_, ?_⟩⟩
    · rw [fo]
      refine .inr ?_
      cases decide (c ∈ figures.cps.toList) <;> exact ⟨by decide, by decide⟩
    · rw [fo]
      refine ⟨_, rfl, _, rfl, _, _, rfl, ⟨some (.str (sgn c)), (if (run + 1) * (if decide (c ∈ figures.cps.toList) = true then 1 else 0) > long then (run + 1) * (if decide (c ∈ figures.cps.toList) = true then 1 else 0) else long), (run + 1) * (if decide (c ∈ figures.cps.toList) = true then 1 else 0), ?_, ?_, ?_⟩, sm⟩
      · have e1 : (((run : Int) + 1) * (if decide (c ∈ figures.cps.toList) = true then (1 : Int) else 0)) = (((run + 1) * (if decide (c ∈ figures.cps.toList) = true then 1 else 0) : Nat) : Int) := by
          cases decide (c ∈ figures.cps.toList) <;> simp
        show [some (V.str x), some (V.int (if (((run : Int) + 1) * (if decide (c ∈ figures.cps.toList) = true then (1 : Int) else 0)) > (long : Int) then (((run : Int) + 1) * (if decide (c ∈ figures.cps.toList) = true then (1 : Int) else 0)) else (long : Int))), some (V.int (((run : Int) + 1) * (if decide (c ∈ figures.cps.toList) = true then (1 : Int) else 0))), some (V.str (sgn c))] = _
        rw [e1]
        generalize (run + 1) * (if decide (c ∈ figures.cps.toList) = true then 1 else 0) = m
        have e2 : (if (m : Int) > (long : Int) then (m : Int) else (long : Int)) = ((if m > long then m else long : Nat) : Int) := by
          by_cases z : m > long
          · rw [if_pos z, if_pos (by omega)]
          · rw [if_neg z, if_neg (by omega)]
        rw [e2]
      · rw [List.take_add_one, hc']; exact n1
      · rw [List.take_add_one, hc']; exact n2
  · rintro σ H' ⟨⟨o, long, run, rfl, hs, hl⟩, sm⟩
    rw [List.take_of_length_le (by simp)] at hl
    exact ⟨_, rfl, q long hl H' sm⟩
end
end My
set_option maxHeartbeats 4000000
namespace L2
open PySem PySem.Spec PyProof.Rows
section
variable {X : Cx}
def rPart : V → List V → Hp → VK → Prop := fun v vs H Q => ∃ x y, v = .str x ∧ vs = [.str y] ∧ (y.length == 0) = false ∧ x.length ≤ sizeLine ∧ ∀ p, H p = none → Q (.ref p) (upd H p (.tup [.str (Txt.partition x y).1, .str (Txt.partition x y).2.1, .str (Txt.partition x y).2.2]))
theorem mt_part : MtR X "str.partition" rPart := by
  intro pins s σ H v vs u us Q I rx rv h
  obtain ⟨x, y, rfl, rfl, hy, hx, q⟩ := h
  obtain ⟨tk, rfl⟩ := rx
  obtain ⟨u, rfl, tk', rfl⟩ := vals1 rv
  have hn : H s.heap.objs.size = none := I.hok.fresh (Nat.le_refl _)
  have q' := q _ hn
  refine call_meets F.slot_str_partition (typeIs_str _ _ _) F.entry_str_partition (F.args_str_partition_2 _ _) (meets_str_partition x y tk tk' hy hx) ?_
  unfold Txt.partition at q'
  cases e : Builtin.Str.occurrences x y 0 x.length 1 with
  | nil =>
    rw [e] at q'
    refine ⟨.ref s.heap.objs.size, _, ?_, rfl, q'⟩
    exact I.laid (fun b o e => Heap.get?_push_of_some _ e) (Nat.le_refl _) ⟨by show 3 ≤ sizeLine; decide, [_, _, _], .cons ⟨_, rfl⟩ (.cons ⟨_, rfl⟩ (.cons ⟨_, rfl⟩ .nil)), ⟨_, Heap.get?_push_size _ rfl, rfl, _, rfl⟩⟩
  | cons i r =>
    rw [e] at q'
    refine ⟨.ref s.heap.objs.size, _, ?_, rfl, q'⟩
    exact I.laid (fun b o e => Heap.get?_push_of_some _ e) (Nat.le_refl _) ⟨by show 3 ≤ sizeLine; decide, [_, _, _], .cons ⟨_, rfl⟩ (.cons ⟨_, rfl⟩ (.cons ⟨_, rfl⟩ .nil)), ⟨_, Heap.get?_push_size _ rfl, rfl, _, rfl⟩⟩
theorem pe_fv {e : Expr} {te : TE} {pos : Pos} (h : PE X e te) : PE X (.FormattedValue e (-1) none pos) (fun σ H Q => te σ H fun v H1 => ∃ x, v = .str x ∧ x.length ≤ sizeLine ∧ Q (.str x) H1) := by
  intro pins s σ H Q I hq
  refine FormattedValue_plain (thn (h pins s σ H _ I hq) fun v s1 ⟨y, H1, I1, r1, x, e, hx, q⟩ => ?_)
  subst e
  obtain ⟨tk, rfl⟩ := r1
  exact formatField_str (fun t' k => ⟨.str x, H1, I1.tok _, ⟨_, rfl⟩, q⟩) hx
def PJ (X : Cx) (es : List Expr) (t : Str → TE) : Prop := ∀ (out : Str) (pins : List (Addr × Obj)) (s : Shared) (σ : St) (H : Hp) (Q : VK), Inv X pins σ H s → t out σ H Q → wpAny (model X.prog X.w) X.A (joinParts out (evalEach es X.env)) (EP X pins σ Q) X.xe s
def jNil : Str → TE := fun out _ H Q => out.length ≤ sizeLine ∧ Q (.str out) H
def jCons (te : TE) (t : Str → TE) : Str → TE := fun out σ H Q => te σ H fun v H1 => ∃ y, v = .str y ∧ (out ++ y).length ≤ sizeLine ∧ t (out ++ y) σ H1 Q
theorem pj_nil : PJ X [] jNil := fun out pins s σ H Q I h => joinParts_nilE (joinParts_nil ⟨.str out, H, I.tok _, ⟨_, rfl⟩, h.2⟩ h.1)
theorem pj_cons {e : Expr} {es : List Expr} {te : TE} {t : Str → TE} (h : PE X e te) (h2 : PJ X es t) : PJ X (e :: es) (jCons te t) := by
  intro out pins s σ H Q I hq
  refine joinParts_consE (joinParts_cons (thn (h pins s σ H _ I hq) fun v s1 ⟨y, H1, I1, r1, x, e, hx, q⟩ => ?_))
  subst e
  obtain ⟨tk, rfl⟩ := r1
  exact ⟨hx, h2 _ pins s1 σ H1 Q I1 q⟩
theorem pe_fstr {e1 e2 : Expr} {es : List Expr} {t : Str → TE} {pos : Pos} (h : PJ X (e1 :: e2 :: es) t) : PE X (.JoinedStr (e1 :: e2 :: es) pos) (t Str.empty) := by
  intro pins s σ H Q I hq
  exact JoinedStr_many (h _ pins s σ H Q I hq)
end
end L2
namespace L2
open PySem PySem.Spec PyProof.Rows
section
variable {X : Cx}
def rJoinT (K : PySem.W.Frag) : V → List V → Hp → VK → Prop := fun x vs H Q => ∃ sep p ys, x = .str sep ∧ vs = [.ref p] ∧ SqT K H p (ys.map V.str) ∧ (ys.map (·.length)).sum + ys.length * sep.length ≤ 16777216 ∧ Q (.str (Txt.join sep ys)) H
theorem mt_joinT : MtR X "str.join" (rJoinT X.K) := by
  intro pins s σ H x vs v us Q I rx rv h
  obtain ⟨sep, p, ys, rfl, rfl, hS, hz, q⟩ := h
  obtain ⟨tk, rfl⟩ := rx
  obtain ⟨u, rfl, ru⟩ := vals1 rv
  cases ru
  obtain ⟨its, r, pl, _⟩ := I.tuple hS
  exact join_tuple pl (strsAre_of (by simpa using r)) hz fun t' k => ⟨.str (Txt.join sep ys), H, I.tok _, ⟨_, rfl⟩, q⟩
theorem call_str_non : CallR X (.type "str") (fun xs H Q => xs = [.non] ∧ Q (.str "None") H) := by
  intro pins s σ H xs us Q I r h
  obtain ⟨rfl, q⟩ := h
  obtain ⟨u, rfl, ru⟩ := vals1 r
  cases ru
  exact PySem.P.str_of_none ⟨.str _, H, I.tok _, ⟨_, rfl⟩, q⟩
end
end L2
set_option maxHeartbeats 4000000
namespace My
open PySem L2 CT CS
def inB (n : Int) : Prop := -(10 ^ 60) < n ∧ n < 10 ^ 60
theorem log60 {n : Int} (h : inB n) : n.natAbs.log2 < 1920 := by
  have h1 : n.natAbs < 2 ^ 200 := by
    have e : (10 : Int) ^ 60 < 2 ^ 200 := by decide
    have := h.1; have := h.2
    have e2 : ((2 ^ 200 : Nat) : Int) = (2 : Int) ^ 200 := by decide
    omega
  by_cases z : n.natAbs = 0
  · rw [z]; decide
  · exact Nat.lt_trans ((Nat.log2_lt z).mpr h1) (by decide)
def endT : Option Int → Str
  | none => ""
  | some n => txC (.num n)
def dots : Str := ".."
def spanT (s : Spn) : Str := match s with
  | (some l, some h) => if l = h then txC (.num l) else txC (.num l) ++ dots ++ txC (.num h)
  | (l, h) => endT l ++ dots ++ endT h
theorem endT_len {e : Option Int} (h : ∀ n, e = some n → inB n) : (endT e).length ≤ 100 := by
  cases e with
  | none => decide +kernel
  | some n => exact txC_len (c := .num n) (h n rfl)
theorem empty_cat (x : Str) : Str.empty ++ x = x := by
  refine TX.str_ext ?_
  show (Str.empty.cps ++ x.cps).toList = x.cps.toList
  rw [Array.toList_append]
  rfl
theorem cat_len (x y : Str) : (x ++ y).length = x.length + y.length := by
  rw [len_codes, len_codes, len_codes]
  show (x.cps ++ y.cps).toList.length = _
  rw [Array.toList_append, List.length_append]
theorem dots_len : dots.length = 2 := by decide +kernel
def spShowEnd : Sp := fun vs H Q _ => ∃ e : Option Int, vs = [eV e] ∧ (∀ n, e = some n → inB n) ∧ Q (.str (endT e)) H
def spShowSpan : Sp := fun vs H Q _ => ∃ (a : Addr) (s : Spn), vs = [.ref a] ∧ H a = some (.tup [eV s.1, eV s.2]) ∧ (∀ n, s.1 = some n ∨ s.2 = some n → inB n) ∧ Q (.str (spanT s)) H
theorem eV_non' (e : Option Int) : decide (eV e = .non) = decide (e = none) := by cases e <;> rfl
section
variable {P : Program} {w : World} {K : PySem.W.Frag} {mg : Str → Option Value} {base : Heap} {f g1 g2 CN : Addr} {fd d1 d2 : FuncData}
theorem ok_showend (B2 : Blt2 mg) (F : Fun K "show_end" "show_end" sShowEnd f fd) : FnOk P w K mg base CX0 1 f fd ["number"] spShowEnd := by
  refine F.ok scShowEnd (fun vs H Q E h => ?_) (fun cdv A outer s H vs Q E hr h => ?_)
  · obtain ⟨e, rfl, _⟩ := h
    rfl
  obtain ⟨e, rfl, hb, q⟩ := h
  refine ⟨_, pss_one (ps_ret (pe_ifExp (pt_cmpR op_isN (pv 0) pe_non (nomark _)) pe_str (pe_callTy call_str_int rfl B2.str PyProof.Rows.boot_str (pa_cons (pv 0) pa_nil)))), ?_⟩
  refine ⟨_, rfl, rfl, _, rfl, ?_⟩
  cases e with
  | none => exact iteT q
  | some n => exact iteF ⟨_, rfl, n, rfl, log60 (hb n rfl), q⟩
theorem ok_showspan (B2 : Blt2 mg) (F : Fun K "show_span" "show_span" sShowSpan f fd) (G : FnOk P w K mg base CX0 1 g1 d1 ["number"] spShowEnd) (bG : Binds K d1 ["number"] []) (kG : PySem.W.keepIn K (.ref g1) = true) (mG : mg "show_end" = some (.ref g1)) :
    FnOk P w K mg base CX0 2 f fd ["span"] spShowSpan := by
  refine F.ok scShowSpan (fun vs H Q E h => ?_) (fun cdv A outer s H vs Q E hr h => ?_)
  · obtain ⟨a, s, rfl, _⟩ := h
    rfl
  obtain ⟨a, ⟨l, h⟩, rfl, ha, hb, q⟩ := h
  refine ⟨_, pss_cons (ps_asg (pv 0) (pg_tup rfl (pgs_cons (pg_name (i := 1) scShowSpan.nd rfl (Or.inl rfl)) (pgs_cons (pg_name (i := 2) scShowSpan.nd rfl (Or.inl rfl)) pgs_nil))))
    (pss_cons (ps_if (PW.pt (pw_and (pt_cmpR op_notN (pv 1) pe_non (nomark _)) (pw_and1 (pt_cmpR op_eq (pv 1) (pv 2) (nomark _))))) (pss_one (ps_ret (pe_callTy call_str_int rfl B2.str PyProof.Rows.boot_str (pa_cons (pv 1) pa_nil)))) pss_nil)
    (pss_one (ps_ret (pe_fstr (pj_cons (pe_fv (pe_call G hr rfl mG kG bG .nil pass0 (pa_cons (pv 1) pa_nil))) (pj_cons pe_str (pj_cons (pe_fv (pe_call G hr rfl mG kG bG .nil pass0 (pa_cons (pv 2) pa_nil))) pj_nil))))))), ?_⟩
  have hl : (endT l).length ≤ 100 := endT_len fun n e => hb n (.inl e)
  have hh : (endT h).length ≤ 100 := endT_len fun n e => hb n (.inr e)
  have sz : ∀ n : Nat, n ≤ 300 → n ≤ sizeLine := fun n hn => Nat.le_trans hn (by decide)
  have rest : spanT (l, h) = endT l ++ dots ++ endT h → ∀ (D : Ends), D.rt = Q →
      tRet (jCons (fun σ H Q => tCall spShowEnd [] E0 (tCons (tVar 1) tNil) σ H fun v H1 => ∃ x, v = .str x ∧ x.length ≤ sizeLine ∧ Q (.str x) H1) (jCons (tC (.str dots)) (jCons (fun σ H Q => tCall spShowEnd [] E0 (tCons (tVar 2) tNil) σ H fun v H1 => ∃ x, v = .str x ∧ x.length ≤ sizeLine ∧ Q (.str x) H1) jNil)) Str.empty) D [some (.ref a), some (eV l), some (eV h)] H := fun e D hD => by
    refine ⟨_, rfl, l, rfl, fun n e => hb n (.inl e), _, rfl, sz _ (by omega), _, rfl, ?_, dots, rfl, ?_, _, rfl, h, rfl, fun n e => hb n (.inr e), _, rfl, sz _ (by omega), _, rfl, ?_, ?_, ?_⟩
    · rw [empty_cat]; exact sz _ (by omega)
    · rw [empty_cat, cat_len, dots_len]; exact sz _ (by omega)
    · rw [empty_cat, cat_len, cat_len, dots_len]; exact sz _ (by omega)
    · rw [empty_cat, cat_len, cat_len, dots_len]; exact sz _ (by omega)
    · rw [hD, empty_cat, ← e]; exact q
  refine ⟨_, rfl, a, _, rfl, SqT.of ha, rfl, _, _, rfl, _, _, rfl, rfl, ?_⟩
  refine ⟨_, rfl, rfl, _, rfl, ?_⟩
  rw [eV_non']
  cases l with
  | none => exact iteF (iteF (rest (by cases h <;> rfl) _ rfl))
  | some l =>
    refine iteT ⟨_, rfl, _, rfl, ?_⟩
    cases h with
    | none => exact ⟨rfl, _, rfl, iteF (rest rfl _ rfl)⟩
    | some h =>
      refine ⟨rfl, _, rfl, ?_⟩
      by_cases e : l = h
      · subst e
        rw [decide_eq_true rfl]
        refine iteT ⟨_, rfl, l, rfl, log60 (hb l (.inl rfl)), ?_⟩
        have es : spanT (some l, some l) = txC (.num l) := if_pos rfl
        rw [es] at q
        exact q
      · rw [decide_eq_false (fun z => e (by injection z))]
        exact iteF (rest (if_neg e) _ rfl)
end
end My
set_option maxHeartbeats 4000000
namespace My
open PySem L2 CT CS
def comma : Str := ","
def spansT (sps : List Spn) : Str := if sps = [] then "-" else Txt.join comma (sps.map spanT)
def wordsT (b : Bool) (ws : List Str) : Str := if b = true then (if ws = [] then "-" else Txt.join comma ws) else if ws = [] then "*" else ("*-" : Str) ++ Txt.join comma ws
def setT : CSet → Str
  | .num sps => ("n:" : Str) ++ spansT sps
  | .wrd b ws => ("w:" : Str) ++ wordsT b ws
theorem comma_len : comma.length = 1 := by decide +kernel
theorem spanT_len {s : Spn} (h : ∀ n, s.1 = some n ∨ s.2 = some n → inB n) : (spanT s).length ≤ 202 := by
  obtain ⟨l, hh⟩ := s
  have h1 : (endT l).length ≤ 100 := endT_len fun n e => h n (.inl e)
  have h2 : (endT hh).length ≤ 100 := endT_len fun n e => h n (.inr e)
  have g : (endT l ++ dots ++ endT hh).length ≤ 202 := by rw [cat_len, cat_len, dots_len]; omega
  cases l with
  | none => cases hh <;> exact g
  | some l =>
    cases hh with
    | none => exact g
    | some hh =>
      show (if l = hh then txC (.num l) else txC (.num l) ++ dots ++ txC (.num hh)).length ≤ 202
      by_cases e : l = hh
      · rw [if_pos e]; exact Nat.le_trans h1 (by decide)
      · rw [if_neg e]; exact g
theorem sum_le {l : List Str} {b : Nat} (h : ∀ x ∈ l, x.length ≤ b) : (l.map (·.length)).sum ≤ b * l.length := by
  induction l with
  | nil => simp
  | cons x l ih =>
    have := ih fun y hy => h y (List.mem_cons_of_mem _ hy)
    have := h x List.mem_cons_self
    rw [List.map_cons, List.sum_cons, List.length_cons, Nat.mul_succ]
    omega
theorem join_len {l : List Str} {b : Nat} (h : ∀ x ∈ l, x.length ≤ b) (hl : l.length ≤ 40) : (Txt.join comma l).length ≤ 40 * b + 40 := by
  rw [TX.join_eq]
  have z := PySem.StrLaws.join_length_le comma l
  have s := sum_le h
  have : b * l.length ≤ b * 40 := Nat.mul_le_mul_left _ hl
  rw [comma_len] at z
  omega
theorem join_room {l : List Str} {b : Nat} (h : ∀ x ∈ l, x.length ≤ b) (hl : l.length ≤ 40) (hb : b ≤ 1000) : (l.map (·.length)).sum + l.length * comma.length ≤ 16777216 := by
  have s := sum_le h
  have : b * l.length ≤ b * 40 := Nat.mul_le_mul_left _ hl
  rw [comma_len]
  omega
theorem join_ne {l : List Str} (hne : l ≠ []) (h : ∀ x ∈ l, 1 ≤ x.length) : 1 ≤ (Txt.join comma l).length := by
  cases l with
  | nil => exact absurd rfl hne
  | cons x l =>
    have hx := h x List.mem_cons_self
    have e : (Txt.join comma (x :: l)).cps.toList = TX.glue comma.cps.toList ((x :: l).map fun p => p.cps.toList) := by rw [TX.join_eq, TX.glue_str]
    have := (mem_glue (y := comma.cps.toList) (L := (x :: l).map fun p => p.cps.toList) (p := x.cps.toList) (List.mem_map.mpr ⟨x, List.mem_cons_self, rfl⟩)).length_le
    rw [len_codes, e]
    rw [len_codes] at hx
    omega
theorem join_nil : Txt.join comma [] = "" := by decide +kernel
def spShowSpans : Sp := fun vs H Q _ => ∃ (t : Addr) (as : List Addr) (sps : List Spn), vs = [.ref t] ∧ SpansAt H t as sps ∧ sps.length ≤ 40 ∧ (∀ s ∈ sps, okSp s) ∧ ∀ H', Same H H' → Q (.str (spansT sps)) H'
def spShowWords : Sp := fun vs H Q _ => ∃ (b : Bool) (t : Addr) (ws : List Str), vs = [.bl b, .ref t] ∧ H t = some (.tup (ws.map V.str)) ∧ ws.length ≤ 40 ∧ (∀ x ∈ ws, isW x) ∧ Q (.str (wordsT b ws)) H
def spShowSet : Sp := fun vs H Q _ => ∃ (a : Addr) (S : CSet), vs = [.ref a] ∧ SetAt H a S ∧ okS S ∧ ∀ H', Same H H' → Q (.str (setT S)) H'
section
variable {P : Program} {w : World} {K : PySem.W.Frag} {mg : Str → Option Value} {base : Heap} {f g1 g2 CN : Addr} {fd d1 d2 : FuncData}
theorem ok_showspans (B : Blt mg) (F : Fun K "show_spans" "show_spans" sShowSpans f fd) (G : FnOk P w K mg base CX0 2 g1 d1 ["span"] spShowSpan) (bG : Binds K d1 ["span"] []) (kG : PySem.W.keepIn K (.ref g1) = true) (mG : mg "show_span" = some (.ref g1)) :
    FnOk P w K mg base CX0 3 f fd ["spans"] spShowSpans := by
  refine F.ok scShowSpans (fun vs H Q E h => ?_) (fun cdv A outer s H vs Q E hr h => ?_)
  · obtain ⟨t, as, sps, rfl, _⟩ := h
    rfl
  obtain ⟨t, as, sps, rfl, ha, hl40, hok, q⟩ := h
  refine ⟨_, pss_cons (ps_if (pt_cmpR op_eq (pe_callB call_len_seq rfl B.len PySem.boot_len (pa_cons (pv 0) pa_nil)) pe_int (nomark _)) (pss_one (ps_ret pe_str)) pss_nil)
    (pss_one (ps_ret (pe_bm PySem.F.plainAttrs_str PySem.F.slot_str_join PySem.F.type_str_join mt_join pe_str
      (pa_cons (pe_lcomp (N' := ["span"]) (src := [none]) rfl (CompSc.ofB (by kernel_rfl)) (pi_tup (pv 0)) (fun cl C s H fp => pgl (i := 0)) (fun cl C s H fp => pifs_nil)
        (fun cl C s H fp => pe_call G hr glc mG kG bG .nil pass0 (pa_cons (pvl 0) pa_nil))) pa_nil)))), ?_⟩
  have hlen : (as.map V.ref).length = sps.length := by rw [List.length_map, ha.len]
  refine ⟨_, rfl, t, _, rfl, .inr (SqT.of ha.tup), rfl, _, rfl, ?_⟩
  refine ite2 (fun c => ?_) (fun c => ?_)
  · have e := of_decide_eq_true c
    have e1 : sps = [] := by
      injection e with e
      exact List.eq_nil_of_length_eq_zero (by omega)
    have e3 : spansT sps = "-" := by unfold spansT; rw [if_pos e1]
    have := q H (Same.refl H)
    rw [e3] at this
    exact this
  have hne : sps ≠ [] := fun e => c (by rw [hlen, e]; exact decide_eq_true rfl)
  have e3 : spansT sps = Txt.join comma (sps.map spanT) := by unfold spansT; rw [if_neg hne]
  rw [e3] at q
  refine ⟨rfl, _, rfl, t, rfl, ⟨_, SqT.of ha.tup⟩, fun D hD => ?_⟩
  refine comp_tup (xs := as.map V.ref) (fun i σ ys H' => (∃ o, σ = [o]) ∧ ys = ((sps.take i).map spanT).map V.str ∧ H' D = some (.lst ys) ∧ Same H H')
    ⟨⟨none, rfl⟩, rfl, upd_same, same_new hD _⟩ ?_ ?_ ?_ ?_ ?_
  · rintro i σ ys H' _ ⟨_, rfl, h, _⟩
    exact ⟨h, by rw [List.length_map, List.length_map, List.length_take]; exact Nat.min_le_left _ _⟩
  · rintro i σ ys H' _ ⟨_, _, _, sm⟩
    exact SqT.of (sm _ _ ha.tup)
  · rw [hlen]; exact Nat.le_trans hl40 (by decide)
  · rintro i v σ ys H' hv ⟨⟨o, rfl⟩, rfl, h, sm⟩
    rw [List.getElem?_map] at hv
    cases e : as[i]? with
    | none => rw [e] at hv; cases hv
    | some a =>
      rw [e] at hv
      have hv' : V.ref a = v := Option.some.inj hv
      subst hv'
      have hi : i < sps.length := by rw [← ha.len]; exact (List.getElem?_eq_some_iff.mp e).1
      have er : sps[i]? = some sps[i] := List.getElem?_eq_getElem hi
      refine ⟨_, rfl, a, sps[i], rfl, sm _ _ (ha.at_ i a _ e er), (hok _ (List.getElem_mem hi)).2, h, ⟨_, rfl⟩, ?_, upd_same, fun b u eb => ?_⟩
      · rw [List.take_add_one, er, List.map_append, List.map_append]; rfl
      · by_cases hb : b = D
        · subst hb
          exact absurd eb (by rw [hD]; simp)
        · rw [upd_ne hb]; exact sm _ _ eb
  · rintro σ ys H' ⟨_, rfl, h, sm⟩
    rw [hlen, List.take_of_length_le (Nat.le_refl _)] at h
    refine ⟨comma, D, sps.map spanT, rfl, rfl, SqL.of h, join_room (b := 202) (fun x hx => ?_) (by rw [List.length_map]; exact hl40) (by decide), q H' sm⟩
    obtain ⟨s, hs, rfl⟩ := List.mem_map.mp hx
    exact spanT_len (hok s hs).2
theorem ok_showwords (F : Fun K "show_words" "show_words" sShowWords f fd) : FnOk P w K mg base CX0 1 f fd ["just_these", "words"] spShowWords := by
  refine F.ok scShowWords (fun vs H Q E h => ?_) (fun cdv A outer s H vs Q E hr h => ?_)
  · obtain ⟨b, t, ws, rfl, _⟩ := h
    rfl
  obtain ⟨b, t, ws, rfl, ht, hl, hw, q⟩ := h
  refine ⟨_, pss_cons (ps_set (i := 2) scShowWords.nd rfl (Or.inl rfl) (pe_bm PySem.F.plainAttrs_str PySem.F.slot_str_join PySem.F.type_str_join mt_joinT pe_str (pa_cons (pv 1) pa_nil)))
    (pss_cons (ps_if (pt_val (pv 0)) (pss_one (ps_ret (pe_ifExp (pt_truth (pv 2) (fun _ => rfl)) (pv 2) pe_str))) pss_nil)
    (pss_one (ps_ret (pe_ifExp (pt_truth (pv 2) (fun _ => rfl)) (pe_fstr (pj_cons pe_str (pj_cons (pe_fv (pv 2)) pj_nil))) pe_str)))), ?_⟩
  have hlen : (Txt.join comma ws).length ≤ 400 := Nat.le_trans (join_len (b := 8) (fun x hx => (hw x hx).2.1) hl) (by decide)
  have sz : ∀ n : Nat, n ≤ 500 → n ≤ sizeLine := fun n hn => Nat.le_trans hn (by decide)
  have tru : ((((Txt.join comma ws).length : Nat) : Int) != 0) = !decide (ws = []) := by
    by_cases e : ws = []
    · rw [e, join_nil]; decide +kernel
    · have := join_ne e fun x hx => (hw x hx).1
      rw [decide_eq_false e]
      simp
      intro z
      rw [z] at this
      exact absurd this (by decide +kernel)
  refine ⟨rfl, _, rfl, comma, t, ws, rfl, rfl, SqT.of ht, join_room (b := 8) (fun x hx => (hw x hx).2.1) hl (by decide), ?_⟩
  refine ⟨_, rfl, b, rfl, ?_⟩
  unfold wordsT at q
  cases b with
  | true =>
    rw [if_pos rfl] at q
    refine iteT ⟨_, rfl, _, ⟨sz _ (by omega), rfl⟩, ?_⟩
    rw [tru]
    by_cases e : ws = []
    · rw [if_pos e] at q
      rw [decide_eq_true e]
      exact iteF q
    · rw [if_neg e] at q
      rw [decide_eq_false e]
      exact iteT ⟨_, rfl, q⟩
  | false =>
    rw [if_neg Bool.false_ne_true] at q
    refine iteF ⟨_, rfl, _, ⟨sz _ (by omega), rfl⟩, ?_⟩
    rw [tru]
    by_cases e : ws = []
    · rw [if_pos e] at q
      rw [decide_eq_true e]
      exact iteF q
    · rw [if_neg e] at q
      rw [decide_eq_false e]
      have l2 : ("*-" : Str).length = 2 := by decide +kernel
      refine iteT ⟨_, rfl, ?_, _, rfl, _, rfl, sz _ (by omega), _, rfl, ?_, ?_, ?_⟩
      · rw [empty_cat, l2]; exact sz _ (by omega)
      · rw [empty_cat, cat_len, l2]; exact sz _ (by omega)
      · rw [empty_cat, cat_len, l2]; exact sz _ (by omega)
      · rw [empty_cat]; exact q
theorem ok_showset (F : Fun K "show_set" "show_set" sShowSet f fd) (G : FnOk P w K mg base CX0 3 g1 d1 ["spans"] spShowSpans) (bG : Binds K d1 ["spans"] []) (kG : PySem.W.keepIn K (.ref g1) = true) (mG : mg "show_spans" = some (.ref g1))
    (G2 : FnOk P w K mg base CX0 3 g2 d2 ["just_these", "words"] spShowWords) (b2 : Binds K d2 ["just_these", "words"] []) (k2 : PySem.W.keepIn K (.ref g2) = true) (m2 : mg "show_words" = some (.ref g2)) :
    FnOk P w K mg base CX0 4 f fd ["told"] spShowSet := by
  refine F.ok scShowSet (fun vs H Q E h => ?_) (fun cdv A outer s H vs Q E hr h => ?_)
  · obtain ⟨a, S, rfl, _⟩ := h
    rfl
  obtain ⟨a, S, rfl, ha, ho, q⟩ := h
  refine ⟨_, pss_cons (ps_if (pt_cmpR op_eq (pe_ixt (pv 0) pe_int (fun _ _ => rfl)) pe_str (nomark _)) (pss_one (ps_ret (pe_fstr (pj_cons pe_str (pj_cons (pe_fv (pe_call G hr rfl mG kG bG .nil pass0 (pa_cons (pe_ixt (pv 0) pe_int (fun _ _ => rfl)) pa_nil))) pj_nil))))) pss_nil)
    (pss_one (ps_ret (pe_fstr (pj_cons pe_str (pj_cons (pe_fv (pe_call G2 hr rfl m2 k2 b2 .nil pass0 (pa_cons (pe_ixt (pv 0) pe_int (fun _ _ => rfl)) (pa_cons (pe_ixt (pv 0) pe_int (fun _ _ => rfl)) pa_nil)))) pj_nil))))), ?_⟩
  have sz : ∀ n : Nat, n ≤ 10000 → n ≤ sizeLine := fun n hn => Nat.le_trans hn (by decide)
  cases S with
  | num sps =>
    obtain ⟨t, as, h1, h2⟩ := ha
    have hl : (spansT sps).length ≤ 9000 := by
      unfold spansT
      by_cases e : sps = []
      · rw [if_pos e]; decide +kernel
      · rw [if_neg e]
        refine Nat.le_trans (join_len (b := 202) (l := sps.map spanT) (fun x hx => ?_) (by rw [List.length_map]; exact ho.1)) (by decide)
        obtain ⟨s, hs, rfl⟩ := List.mem_map.mp hx
        exact spanT_len (ho.2.2 s hs).2
    have l2 : ("n:" : Str).length = 2 := by decide +kernel
    refine ⟨_, rfl, a, _, _, _, rfl, rfl, SqT.of h1, rfl, rfl, _, rfl, ?_⟩
    refine ite2 (fun _ => ?_) (fun c => absurd (decide_eq_true rfl) c)
    refine ⟨_, rfl, ?_, _, rfl, a, _, _, _, rfl, rfl, SqT.of h1, rfl, t, as, sps, rfl, h2, ho.1, ho.2.2, fun H' s' => ⟨_, rfl, sz _ (by omega), _, rfl, ?_, ?_, ?_⟩⟩
    · rw [empty_cat, l2]; exact sz _ (by omega)
    · rw [empty_cat, cat_len, l2]; exact sz _ (by omega)
    · rw [empty_cat, cat_len, l2]; exact sz _ (by omega)
    · rw [empty_cat]; exact q H' s'
  | wrd b ws =>
    obtain ⟨t, h1, h2⟩ := ha
    have hj : (Txt.join comma ws).length ≤ 400 := Nat.le_trans (join_len (b := 8) (fun x hx => (ho.2.2 x hx).2.1) ho.1) (by decide)
    have ls : ("*-" : Str).length = 2 := by decide +kernel
    have hl : (wordsT b ws).length ≤ 500 := by
      have e1 : ("-" : Str).length ≤ 500 := by decide +kernel
      have e2 : ("*" : Str).length ≤ 500 := by decide +kernel
      unfold wordsT
      split
      · split
        · exact e1
        · omega
      · split
        · exact e2
        · rw [cat_len, ls]; omega
    have l2 : ("w:" : Str).length = 2 := by decide +kernel
    refine ⟨_, rfl, a, _, _, _, rfl, rfl, SqT.of h1, rfl, rfl, _, rfl, ?_⟩
    refine ite2 (fun c => absurd (of_decide_eq_true c) (by decide +kernel)) (fun _ => ?_)
    refine ⟨_, rfl, ?_, _, rfl, a, _, _, _, rfl, rfl, SqT.of h1, rfl, _, rfl, a, _, _, _, rfl, rfl, SqT.of h1, rfl, b, t, ws, rfl, h2, ho.1, ho.2.2, _, rfl, sz _ (by omega), _, rfl, ?_, ?_, ?_⟩
    · rw [empty_cat, l2]; exact sz _ (by omega)
    · rw [empty_cat, cat_len, l2]; exact sz _ (by omega)
    · rw [empty_cat, cat_len, l2]; exact sz _ (by omega)
    · rw [empty_cat]; exact q H (Same.refl H)
end
end My
set_option maxHeartbeats 4000000
namespace L2
open PySem PySem.Spec PyProof.Rows
section
variable {X : Cx} {a b : Expr} {rest : List Expr} {ta tb : TE} {pos : Pos}
def tOrS (ta tb : TE) : TE := fun σ H Q => ta σ H fun x H1 => ∃ y, x = .str y ∧ y.length ≤ sizeLine ∧ if ((y.length : Int) != 0) = true then Q (.str y) H1 else tb σ H1 Q
theorem pe_orS (ha : PE X a ta) (hb : PE X (.BoolOp .Or (b :: rest) pos) tb) : PE X (.BoolOp .Or (a :: b :: rest) pos) (tOrS ta tb) := by
  intro pins s σ H Q I h
  refine BoolOp_or (thn (ha pins s σ H _ I h) fun v s1 ⟨x, H1, I1, r1, y, e, hy, q1⟩ => ?_)
  subst e
  obtain ⟨tk, rfl⟩ := r1
  refine PySem.P.truthy_str (by rw [sizeLine_eq] at hy; omega) ?_
  cases c : ((y.length : Int) != 0) with
  | false =>
    rw [c, if_neg Bool.false_ne_true] at q1
    rw [if_neg Bool.false_ne_true]
    exact hb pins _ σ H1 Q (I1.tok _) q1
  | true =>
    rw [c, if_pos rfl] at q1
    rw [if_pos rfl]
    exact ⟨.str y, H1, I1.tok _, ⟨_, rfl⟩, q1⟩
theorem op_neT0 (hu : X.A.units < cLine) : OpR X (compareOp .NotEq) (fun x y H Q => ∃ a b xs, x = .ref a ∧ y = .ref b ∧ SqT X.K H a xs ∧ SqT X.K H b [] ∧ Q (.bl (!decide (xs = []))) H) := by
  intro pins s σ H x y v u Q I rx ry h
  obtain ⟨a, b, xs, rfl, rfl, ha, hb, q⟩ := h
  cases rx; cases ry
  obtain ⟨its, r1, p1, _⟩ := I.tuple ha
  obtain ⟨its', r2, p2, _⟩ := I.tuple hb
  cases r2
  refine SeqAt.RcNeAt.tuples (e := fun _ => true) p1 p2 hu (fun j h1 h2 => absurd h2 (by simp)) _ _ _ _ ?_
  refine ⟨.bl (!decide (xs = [])), H, I, ?_, q⟩
  show _ = Value.bool _
  cases r1 with
  | nil => rfl
  | cons _ _ => simp
end
end L2
set_option maxHeartbeats 4000000
namespace My
open PySem L2 CT CS
theorem cat_empty (x : Str) : x ++ ("" : Str) = x := by
  refine TX.str_ext ?_
  show (x.cps ++ ("" : Str).cps).toList = x.cps.toList
  rw [Array.toList_append, none_eq]
  simp
theorem nil_cat (x : Str) : ("" : Str) ++ x = x := by
  refine TX.str_ext ?_
  show (("" : Str).cps ++ x.cps).toList = x.cps.toList
  rw [Array.toList_append, none_eq]
  simp
def spSpanText : Sp := fun vs H Q _ => ∃ s : Spn, vs = [eV s.1, eV s.2] ∧ (∀ n, s.1 = some n ∨ s.2 = some n → inB n) ∧ ∀ H', Same H H' → Q (.str (spanT s)) H'
section
variable {P : Program} {w : World} {K : PySem.W.Frag} {mg : Str → Option Value} {base : Heap} {f g1 g2 CN : Addr} {fd d1 d2 : FuncData}
theorem ok_spantext (B2 : Blt2 mg) (F : Fun K "_law_span_text" "_law_span_text" sSpanText f fd) : FnOk P w K mg base CX0 1 f fd ["_law_low", "_law_high"] spSpanText := by
  refine F.ok scSpanText (fun vs H Q E h => ?_) (fun cdv A outer s H vs Q E hr h => ?_)
  · obtain ⟨s, rfl, _⟩ := h
    rfl
  obtain ⟨⟨l, h⟩, rfl, hb, q⟩ := h
  refine ⟨_, pss_cons (ps_if (pt_cmpR op_isN (pv 0) pe_non (nomark _)) (pss_one (ps_ret (pe_op op_add_str pe_str (pe_ix (r := rIxL K) ix_list (pe_lst (pa_cons pe_str (pa_cons (pe_callTy (call_str_int.or call_str_non) rfl B2.str PyProof.Rows.boot_str (pa_cons (pv 1) pa_nil)) pa_nil))) (pe_callTy call_int1 rfl B2.int PyProof.Rows.boot_int (pa_cons (pe_cmpR op_notN (pv 1) pe_non (nomark _)) pa_nil)) (fun _ _ => rfl))))) pss_nil)
    (pss_cons (ps_if (pt_cmpR op_isN (pv 1) pe_non (nomark _)) (pss_one (ps_ret (pe_op op_add_str (pe_callTy call_str_int rfl B2.str PyProof.Rows.boot_str (pa_cons (pv 0) pa_nil)) pe_str))) pss_nil)
    (pss_cons (ps_if (pt_cmpR op_eq (pv 0) (pv 1) (nomark _)) (pss_one (ps_ret (pe_callTy call_str_int rfl B2.str PyProof.Rows.boot_str (pa_cons (pv 0) pa_nil)))) pss_nil)
    (pss_one (ps_ret (pe_op op_add_str (pe_op op_add_str (pe_callTy call_str_int rfl B2.str PyProof.Rows.boot_str (pa_cons (pv 0) pa_nil)) pe_str) (pe_callTy call_str_int rfl B2.str PyProof.Rows.boot_str (pa_cons (pv 1) pa_nil))))))), ?_⟩
  have hl : (endT l).length ≤ 100 := endT_len fun n e => hb n (.inl e)
  have hh : (endT h).length ≤ 100 := endT_len fun n e => hb n (.inr e)
  have sz : ∀ n : Nat, n ≤ 300 → n ≤ sizeLine := fun n hn => Nat.le_trans hn (by decide)
  have dl : (".." : Str).length = 2 := dots_len
  refine ⟨_, rfl, rfl, _, rfl, ?_⟩
  rw [eV_non']
  cases l with
  | none =>
    cases h with
    | none =>
      refine iteT ⟨_, rfl, .inr ⟨rfl, (by show 2 ≤ sizeLine; decide), fun D hD => ⟨_, rfl, rfl, .inr ⟨_, rfl, D, _, 0, _, rfl, rfl, SqL.of upd_same, rfl, _, _, rfl, rfl, ?_, ?_⟩⟩⟩⟩
      · exact sz _ (by rw [dl]; decide +kernel)
      · have := q _ (same_new hD (.lst [.str "", .str "None"]))
        have e : spanT (none, none) = (".." : Str) ++ ("" : Str) := by
          show endT none ++ dots ++ endT none = _
          show ("" : Str) ++ dots ++ ("" : Str) = _
          rw [nil_cat]; rfl
        rw [e] at this
        exact this
    | some h =>
      refine iteT ⟨_, rfl, .inl ⟨h, rfl, log60 (hb h (.inr rfl)), (by show 2 ≤ sizeLine; decide), fun D hD => ⟨_, rfl, rfl, .inr ⟨_, rfl, D, _, 1, _, rfl, rfl, SqL.of upd_same, rfl, _, _, rfl, rfl, ?_, ?_⟩⟩⟩⟩
      · have hh' : (txC (.num h)).length ≤ 100 := hh
        exact sz _ (show (".." : Str).length + (txC (.num h)).length ≤ 300 by rw [dl]; omega)
      · have := q _ (same_new hD (.lst [.str "", .str (txC (.num h))]))
        have e : spanT (none, some h) = (".." : Str) ++ txC (.num h) := by
          show endT none ++ dots ++ endT (some h) = _
          show ("" : Str) ++ dots ++ txC (.num h) = _
          rw [nil_cat]; rfl
        rw [e] at this
        exact this
  | some l =>
    refine iteF ⟨_, rfl, rfl, _, rfl, ?_⟩
    rw [eV_non']
    cases h with
    | none =>
      refine iteT ⟨_, rfl, l, rfl, log60 (hb l (.inl rfl)), _, _, rfl, rfl, ?_, ?_⟩
      · have hl' : (txC (.num l)).length ≤ 100 := hl
        exact sz _ (show (txC (.num l)).length + (".." : Str).length ≤ 300 by rw [dl]; omega)
      · have := q H (Same.refl H)
        have e : spanT (some l, none) = txC (.num l) ++ (".." : Str) := by
          show endT (some l) ++ dots ++ endT none = _
          show txC (.num l) ++ dots ++ ("" : Str) = _
          rw [cat_empty]; rfl
        rw [e] at this
        exact this
    | some h =>
      refine iteF ⟨_, rfl, _, rfl, rfl, _, rfl, ?_⟩
      have q' := q H (Same.refl H)
      by_cases e : l = h
      · subst e
        rw [decide_eq_true rfl]
        refine iteT ⟨_, rfl, l, rfl, log60 (hb l (.inl rfl)), ?_⟩
        have es : spanT (some l, some l) = txC (.num l) := if_pos rfl
        rw [es] at q'
        exact q'
      · rw [decide_eq_false (fun z => e (by injection z))]
        have es : spanT (some l, some h) = txC (.num l) ++ dots ++ txC (.num h) := if_neg e
        rw [es] at q'
        have hl' : (txC (.num l)).length ≤ 100 := hl
        have hh' : (txC (.num h)).length ≤ 100 := hh
        refine iteF ⟨_, rfl, l, rfl, log60 (hb l (.inl rfl)), _, _, rfl, rfl, ?_, _, rfl, h, rfl, log60 (hb h (.inr rfl)), _, _, rfl, rfl, ?_, q'⟩
        · exact sz _ (show (txC (.num l)).length + (".." : Str).length ≤ 300 by rw [dl]; omega)
        · exact sz _ (show (txC (.num l) ++ (".." : Str)).length + (txC (.num h)).length ≤ 300 by rw [cat_len, dl]; omega)
end
end My
set_option maxHeartbeats 4000000
namespace My
open PySem L2 CT CS
def spText : Sp := fun vs H Q _ => ∃ (a : Addr) (S : CSet), vs = [.ref a] ∧ SetAt H a S ∧ okS S ∧ ∀ H', Same H H' → Q (.str (setT S)) H'
theorem tru_join {ws : List Str} (hw : ∀ x ∈ ws, 1 ≤ x.length) : ((((Txt.join comma ws).length : Nat) : Int) != 0) = !decide (ws = []) := by
  by_cases e : ws = []
  · rw [e, join_nil]; decide +kernel
  · have := join_ne e hw
    rw [decide_eq_false e]
    simp
    intro z
    rw [z] at this
    exact absurd this (by decide +kernel)
theorem endT_pos {n : Int} (h : inB n) : 1 ≤ (txC (.num n)).length := by
  have := (numB_iff.mp (numB_num n)).1
  rcases Nat.eq_zero_or_pos (txC (.num n)).length with z | z
  · exfalso
    apply this
    rw [none_eq]
    refine TX.str_ext ?_
    have h2 := remM_len (txC (.num n))
    rw [z, len_codes] at h2
    exact List.eq_nil_of_length_eq_zero (by omega)
  · exact z
theorem spanT_pos {s : Spn} (h : ∀ n, s.1 = some n ∨ s.2 = some n → inB n) : 1 ≤ (spanT s).length := by
  obtain ⟨l, hh⟩ := s
  have g : 1 ≤ (endT l ++ dots ++ endT hh).length := by rw [cat_len, cat_len, dots_len]; omega
  cases l with
  | none => cases hh <;> exact g
  | some l =>
    cases hh with
    | none => exact g
    | some hh =>
      show 1 ≤ (if l = hh then txC (.num l) else txC (.num l) ++ dots ++ txC (.num hh)).length
      by_cases e : l = hh
      · rw [if_pos e]; exact endT_pos (h l (.inl rfl))
      · rw [if_neg e]; exact g
section
variable {P : Program} {w : World} {K : PySem.W.Frag} {mg : Str → Option Value} {base : Heap} {f g1 g2 CN : Addr} {fd d1 d2 : FuncData}
theorem ok_text (B2 : Blt2 mg) (F : Fun K "_law_set_text" "_law_set_text" sText f fd) (G : FnOk P w K mg base CX0 1 g1 d1 ["_law_low", "_law_high"] spSpanText) (bG : Binds K d1 ["_law_low", "_law_high"] []) (kG : PySem.W.keepIn K (.ref g1) = true) (mG : mg "_law_span_text" = some (.ref g1)) :
    FnOk P w K mg base CX0 2 f fd ["_law_tale"] spText := by
  refine F.ok scText (fun vs H Q E h => ?_) (fun cdv A outer s H vs Q E hr h => ?_)
  · obtain ⟨a, S, rfl, _⟩ := h
    rfl
  obtain ⟨a, S, rfl, ha, ho, q⟩ := h
  have hu0 : (A.deeper (PyProof.Rows.envOfC "_law_set_text" (defScope sText) s.heap.objs.size f cdv)).units < cLine := by have := hr.units; omega
  refine ⟨_, pss_cons (ps_if (pt_cmpR op_eq (pe_ixt (pv 0) pe_int (fun _ _ => rfl)) pe_str (nomark _))
      (pss_cons (ps_setComp (i := 1) (N' := ["_law_low", "_law_high"]) (src := [none, none]) scText.nd rfl (Or.inl rfl) rfl rfl (CompSc.ofB (by kernel_rfl)) (pi_tup (pe_ixt (pv 0) pe_int (fun _ _ => rfl)))
        (g := gTup K 2 (gCons (gName 0) (gCons (gName 1) gNil))) (fun cl C s H fp => pg_tup rfl (pgs_cons (pgl (i := 0)) (pgs_cons (pgl (i := 1)) pgs_nil))) (fun cl C s H fp => pifs_nil)
        (fun cl C s H fp => pe_call G hr glc mG kG bG .nil pass0 (pa_cons (pvl 0) (pa_cons (pvl 1) pa_nil))))
      (pss_one (ps_ret (pe_op op_add_str pe_str (pe_orS (pe_bm PySem.F.plainAttrs_str PySem.F.slot_str_join PySem.F.type_str_join mt_join pe_str (pa_cons (pv 1) pa_nil)) (pe_one pe_str)))))) pss_nil)
    (pss_cons (ps_if (pt_val (pe_ixt (pv 0) pe_int (fun _ _ => rfl))) (pss_one (ps_ret (pe_op op_add_str pe_str (pe_orS (pe_bm PySem.F.plainAttrs_str PySem.F.slot_str_join PySem.F.type_str_join mt_joinT pe_str (pa_cons (pe_ixt (pv 0) pe_int (fun _ _ => rfl)) pa_nil)) (pe_one pe_str))))) pss_nil)
    (pss_one (ps_ret (pe_op op_add_str (pe_op op_add_str pe_str (pe_ix (r := rIxL K) ix_list (pe_lst (pa_cons pe_str (pa_cons pe_str pa_nil))) (pe_callTy call_int1 rfl B2.int PyProof.Rows.boot_int (pa_cons (pe_cmpR (op_neT0 hu0) (pe_ixt (pv 0) pe_int (fun _ _ => rfl)) (pe_tup pa_nil) (nomark _)) pa_nil)) (fun _ _ => rfl)))
      (pe_bm PySem.F.plainAttrs_str PySem.F.slot_str_join PySem.F.type_str_join mt_joinT pe_str (pa_cons (pe_ixt (pv 0) pe_int (fun _ _ => rfl)) pa_nil)))))), ?_⟩
  have sz : ∀ n : Nat, n ≤ 10000 → n ≤ sizeLine := fun n hn => Nat.le_trans hn (by decide)
  cases S with
  | num sps =>
    obtain ⟨t, as, h1, h2⟩ := ha
    have hlen : (as.map V.ref).length = sps.length := by rw [List.length_map, h2.len]
    refine ⟨_, rfl, a, _, _, _, rfl, rfl, SqT.of h1, rfl, rfl, _, rfl, ?_⟩
    refine ite2 (fun _ => ?_) (fun c => absurd (decide_eq_true rfl) c)
    refine ⟨_, rfl, a, _, _, _, rfl, rfl, SqT.of h1, rfl, t, rfl, ⟨_, SqT.of h2.tup⟩, fun D hD => ?_⟩
    refine comp_tup (xs := as.map V.ref) (fun i σ ys H' => (∃ o o', σ = [o, o']) ∧ ys = ((sps.take i).map spanT).map V.str ∧ H' D = some (.lst ys) ∧ Same H H')
      ⟨⟨none, none, rfl⟩, rfl, upd_same, same_new hD _⟩ ?_ ?_ ?_ ?_ ?_
    · rintro i σ ys H' _ ⟨_, rfl, h, _⟩
      exact ⟨h, by rw [List.length_map, List.length_map, List.length_take]; exact Nat.min_le_left _ _⟩
    · rintro i σ ys H' _ ⟨_, _, _, sm⟩
      exact SqT.of (sm _ _ h2.tup)
    · rw [hlen]; exact Nat.le_trans ho.1 (by decide)
    · rintro i v σ ys H' hv ⟨⟨o, o', rfl⟩, rfl, h, sm⟩
      rw [List.getElem?_map] at hv
      cases e : as[i]? with
      | none => rw [e] at hv; cases hv
      | some b =>
        rw [e] at hv
        have hv' : V.ref b = v := Option.some.inj hv
        subst hv'
        have hi : i < sps.length := by rw [← h2.len]; exact (List.getElem?_eq_some_iff.mp e).1
        have er : sps[i]? = some sps[i] := List.getElem?_eq_getElem hi
        refine ⟨b, _, rfl, SqT.of (sm _ _ (h2.at_ i b _ e er)), rfl, _, _, rfl, _, _, rfl, rfl, ?_⟩
        refine ⟨_, rfl, _, rfl, sps[i], rfl, (ho.2.2 _ (List.getElem_mem hi)).2, fun H2 s2 => ⟨s2 _ _ h, ⟨_, _, rfl⟩, ?_, upd_same, fun c u eb => ?_⟩⟩
        · rw [List.take_add_one, er, List.map_append, List.map_append]; rfl
        · by_cases hb : c = D
          · subst hb
            exact absurd eb (by rw [hD]; simp)
          · rw [upd_ne hb]; exact s2 _ _ (sm _ _ eb)
    · rintro σ ys H' ⟨_, rfl, h, sm⟩
      rw [hlen, List.take_of_length_le (Nat.le_refl _)] at h
      have hp : ∀ x ∈ sps.map spanT, x.length ≤ 202 := fun x hx => by
        obtain ⟨s, hs, rfl⟩ := List.mem_map.mp hx
        exact spanT_len (ho.2.2 s hs).2
      have hq : ∀ x ∈ sps.map spanT, 1 ≤ x.length := fun x hx => by
        obtain ⟨s, hs, rfl⟩ := List.mem_map.mp hx
        exact spanT_pos (ho.2.2 s hs).2
      have h40 : (sps.map spanT).length ≤ 40 := by rw [List.length_map]; exact ho.1
      have hj := join_len hp h40
      have l2 : ("n:" : Str).length = 2 := by decide +kernel
      have l1 : ("-" : Str).length = 1 := by decide +kernel
      refine ⟨rfl, _, rfl, comma, D, sps.map spanT, rfl, rfl, SqL.of h, join_room hp h40 (by decide), _, rfl, sz _ (by omega), ?_⟩
      rw [tru_join hq]
      have q' : Q (.str (("n:" : Str) ++ spansT sps)) H' := q H' sm
      unfold spansT at q'
      by_cases e : sps = []
      · rw [if_pos e] at q'
        rw [e]
        exact iteF ⟨_, _, rfl, rfl, sz _ (by rw [l2, l1]; decide), q'⟩
      · rw [if_neg e] at q'
        rw [decide_eq_false (fun z => e (List.map_eq_nil_iff.mp z))]
        exact iteT ⟨_, _, rfl, rfl, sz _ (by rw [l2]; omega), q'⟩
  | wrd b ws =>
    obtain ⟨t, h1, h2⟩ := ha
    have hp : ∀ x ∈ ws, x.length ≤ 8 := fun x hx => (ho.2.2 x hx).2.1
    have hq : ∀ x ∈ ws, 1 ≤ x.length := fun x hx => (ho.2.2 x hx).1
    have hj := join_len hp ho.1
    have l2 : ("w:" : Str).length = 2 := by decide +kernel
    have l3 : ("w:*" : Str).length = 3 := by decide +kernel
    have l1 : ("-" : Str).length = 1 := by decide +kernel
    have l0 : ("" : Str).length = 0 := by decide +kernel
    refine ⟨_, rfl, a, _, _, _, rfl, rfl, SqT.of h1, rfl, rfl, _, rfl, ?_⟩
    refine ite2 (fun c => absurd (of_decide_eq_true c) (by decide +kernel)) (fun _ => ?_)
    refine ⟨_, rfl, a, _, _, _, rfl, rfl, SqT.of h1, rfl, b, rfl, ?_⟩
    cases b with
    | true =>
      refine iteT ⟨rfl, _, rfl, a, _, _, _, rfl, rfl, SqT.of h1, rfl, comma, t, ws, rfl, rfl, SqT.of h2, join_room hp ho.1 (by decide), _, rfl, sz _ (by omega), ?_⟩
      rw [tru_join hq]
      have q' : Q (.str (("w:" : Str) ++ wordsT true ws)) H := q H (Same.refl H)
      unfold wordsT at q'
      rw [if_pos rfl] at q'
      by_cases e : ws = []
      · rw [if_pos e] at q'
        rw [decide_eq_true e]
        exact iteF ⟨_, _, rfl, rfl, sz _ (by rw [l2, l1]; decide), q'⟩
      · rw [if_neg e] at q'
        rw [decide_eq_false e]
        exact iteT ⟨_, _, rfl, rfl, sz _ (by rw [l2]; omega), q'⟩
    | false =>
      refine iteF ⟨(by show 2 ≤ sizeLine; decide), fun D hD => ?_⟩
      have s1 := same_new hD (.lst [.str "", .str "-"])
      refine ⟨_, rfl, a, _, _, _, rfl, rfl, SqT.of (s1 _ _ h1), rfl, Nat.zero_le _, fun t0 ht0 => ?_⟩
      have s2 := same_new ht0 (.tup [])
      have pickv : ∃ v : Str, atI [V.str "", V.str "-"] (if (!decide (ws.map V.str = [])) = true then 1 else 0) = some (.str v) ∧ v.length ≤ 1 ∧ ("w:*" : Str) ++ v ++ Txt.join comma ws = ("w:" : Str) ++ wordsT false ws := by
        unfold wordsT
        rw [if_neg Bool.false_ne_true]
        by_cases e : ws = []
        · rw [e, if_pos rfl]
          refine ⟨"", rfl, by rw [l0]; decide, ?_⟩
          rw [join_nil, cat_empty, cat_empty]
          decide +kernel
        · rw [if_neg e, decide_eq_false (fun z => e (List.map_eq_nil_iff.mp z))]
          refine ⟨"-", rfl, by rw [l1]; decide, ?_⟩
          refine TX.str_ext ?_
          show (("w:*" : Str).cps ++ ("-" : Str).cps ++ (Txt.join comma ws).cps).toList = (("w:" : Str).cps ++ (("*-" : Str).cps ++ (Txt.join comma ws).cps)).toList
          rw [← Array.append_assoc]
          rfl
      obtain ⟨v, hv, vl, ev⟩ := pickv
      have q' : Q (.str (("w:" : Str) ++ wordsT false ws)) _ := q _ (s1.trans s2)
      rw [← ev] at q'
      refine ⟨t, t0, _, rfl, rfl, SqT.of (s2 _ _ (s1 _ _ h2)), SqT.of upd_same, .inr ⟨_, rfl, D, _, _, .str v, rfl, rfl, SqL.of (s2 _ _ upd_same), hv, _, _, rfl, rfl, sz _ (by rw [l3]; omega), ?_⟩⟩
      exact ⟨rfl, _, rfl, a, _, _, _, rfl, rfl, SqT.of (s2 _ _ (s1 _ _ h1)), rfl, comma, t, ws, rfl, rfl, SqT.of (s2 _ _ (s1 _ _ h2)), join_room hp ho.1 (by decide), _, _, rfl, rfl, sz _ (by rw [cat_len, l3]; omega), q'⟩
end
end My
set_option maxHeartbeats 4000000
namespace My
open PySem L2 CT CS
def readE (x : Str) : Option (Option Int) := if x = "" then some none else if numB x = true then some (some (valN x)) else none
def hasDots (x : Str) : Bool := !(Builtin.Str.occurrences x dots 0 x.length 1).isEmpty
def bad (l h : Option Int) : Bool := match l, h with
  | some l, some h => decide (h ≤ l)
  | _, _ => false
def readSp (x : Str) : Option Spn := if hasDots x = false then (if numB x = true then some (some (valN x), some (valN x)) else none) else
  match readE (Txt.partition x dots).1 with
  | none => none
  | some l => match readE (Txt.partition x dots).2.2 with
    | none => none
    | some h => if bad l h = true then none else some (l, h)
structure SpOk (x : Str) : Prop where
  self : NumOk x
  fst : NumOk (Txt.partition x dots).1
  snd : NumOk (Txt.partition x dots).2.2
  l1 : (Txt.partition x dots).1.length ≤ 1000000
  l2 : (Txt.partition x dots).2.2.length ≤ 1000000
def spReadEndX (CN : Addr) : Sp := fun vs H Q E => ∃ x, vs = [.str x] ∧ x.length ≤ 1000000 ∧ NumOk x ∧ (∀ e, readE x = some e → ∀ H', Same H H' → Q (eV e) H') ∧ (readE x = none → Exc CN H E)
def spReadSpanX (CN : Addr) : Sp := fun vs H Q E => ∃ x, vs = [.str x] ∧ x.length ≤ 1000000 ∧ SpOk x ∧ (∀ s, readSp x = some s → ∀ a H', Same H H' → H a = none → H' a = some (.tup [eV s.1, eV s.2]) → Q (.ref a) H') ∧ (readSp x = none → Exc CN H E)
section
variable {P : Program} {w : World} {K : PySem.W.Frag} {mg : Str → Option Value} {base : Heap} {f g1 g2 CN : Addr} {fd d1 d2 : FuncData}
theorem ok_readend (F : Fun K "read_end" "read_end" sReadEnd f fd) (G : FnOk P w K mg base (CXF P w) 2 g1 d1 ["text"] (spReadNumX CN)) (bG : Binds K d1 ["text"] []) (kG : PySem.W.keepIn K (.ref g1) = true) (mG : mg "read_number" = some (.ref g1)) :
    FnOk P w K mg base (CXF P w) 3 f fd ["text"] (spReadEndX CN) := by
  refine F.okX scReadEnd (fun vs H Q E h => ?_) (fun cdv A outer s H vs Q E hr h => ?_)
  · obtain ⟨n, rfl, _⟩ := h
    rfl
  obtain ⟨x, rfl, hx, hn, q1, q2⟩ := h
  refine ⟨_, pss_one (ps_ret (pe_ifExp (pt_cmpR op_eq (pv 0) pe_str (nomark _)) pe_non (pe_call G hr rfl mG kG bG .nil passX (pa_cons (pv 0) pa_nil)))), ?_⟩
  refine ⟨_, rfl, rfl, _, rfl, ?_⟩
  by_cases e : x = ""
  · rw [decide_eq_true (congrArg V.str e)]
    exact iteT (q1 none (by unfold readE; rw [if_pos e]) H (Same.refl H))
  · rw [decide_eq_false (fun z => e (by injection z))]
    refine iteF ⟨_, rfl, x, rfl, hx, hn, fun e2 H' s' => q1 (some (valN x)) (by unfold readE; rw [if_neg e, if_pos e2]) H' s', fun e2 a H' s' ha => q2 (by unfold readE; rw [if_neg e, e2, if_neg Bool.false_ne_true]) a H' s' ha⟩
theorem ok_readspan (C : ClsN K mg CN) (F : Fun K "read_span" "read_span" sReadSpan f fd) (G : FnOk P w K mg base (CXF P w) 3 g1 d1 ["text"] (spReadNumX CN)) (bG : Binds K d1 ["text"] []) (kG : PySem.W.keepIn K (.ref g1) = true) (mG : mg "read_number" = some (.ref g1))
    (G2 : FnOk P w K mg base (CXF P w) 3 g2 d2 ["text"] (spReadEndX CN)) (b2 : Binds K d2 ["text"] []) (k2 : PySem.W.keepIn K (.ref g2) = true) (m2 : mg "read_end" = some (.ref g2)) :
    FnOk P w K mg base (CXF P w) 4 f fd ["text"] (spReadSpanX CN) := by
  refine F.okX scReadSpan (fun vs H Q E h => ?_) (fun cdv A outer s H vs Q E hr h => ?_)
  · obtain ⟨n, rfl, _⟩ := h
    rfl
  obtain ⟨x, rfl, hx, hn, q1, q2⟩ := h
  refine ⟨_, pss_cons (ps_if (pt_cmpR op_notIn_str pe_str (pv 0) rfl) (pss_cons (ps_set (i := 1) scReadSpan.nd rfl (Or.inl rfl) (pe_call G hr rfl mG kG bG .nil passX (pa_cons (pv 0) pa_nil))) (pss_one (ps_ret (pe_tup (pa_cons (pv 1) (pa_cons (pv 1) pa_nil)))))) pss_nil)
    (pss_cons (ps_asg (pe_bm PySem.F.plainAttrs_str PySem.F.slot_str_partition PySem.F.type_str_partition mt_part (pv 0) (pa_cons pe_str pa_nil)) (pg_tup rfl (pgs_cons (pg_name (i := 2) scReadSpan.nd rfl (Or.inl rfl)) (pgs_cons (pg_name (i := 3) scReadSpan.nd rfl (Or.inl rfl)) (pgs_cons (pg_name (i := 4) scReadSpan.nd rfl (Or.inl rfl)) pgs_nil)))))
    (pss_cons (ps_par (i := 5) (j := 6) rfl scReadSpan.nd rfl rfl (by decide) rfl rfl (pa_cons (pe_call G2 hr rfl m2 k2 b2 .nil passX (pa_cons (pv 2) pa_nil)) (pa_cons (pe_call G2 hr rfl m2 k2 b2 .nil passX (pa_cons (pv 4) pa_nil)) pa_nil)) rfl)
    (pss_cons (ps_if (PW.pt (pw_and (pt_cmpR op_notN (pv 5) pe_non (nomark _)) (pw_and (pt_cmpR op_notN (pv 6) pe_non (nomark _)) (pw_and1 (pt_cmpR op_ge (pv 5) (pv 6) (nomark _)))))) (pss_one (ps_raise rfl C.ex rfl C.mN (pa_cons pe_str pa_nil))) pss_nil)
    (pss_one (ps_ret (pe_tup (pa_cons (pv 5) (pa_cons (pv 6) pa_nil)))))))), ?_⟩
  have hu : hasDots x = !(Builtin.Str.occurrences x dots 0 x.length 1).isEmpty := rfl
  refine ⟨_, rfl, _, _, rfl, rfl, _, rfl, ?_⟩
  cases hd : hasDots x with
  | false =>
    have hd' : (!(Builtin.Str.occurrences x (".." : Str) 0 x.length 1).isEmpty) = false := hd
    rw [hd']
    have rN : numB x = false → readSp x = none := fun e => by unfold readSp; rw [if_pos hd, e, if_neg Bool.false_ne_true]
    have rS : numB x = true → readSp x = some (some (valN x), some (valN x)) := fun e => by unfold readSp; rw [if_pos hd, if_pos e]
    refine iteT ⟨_, rfl, x, rfl, hx, hn.self, fun e H1 s1 => ?_, fun e a H1 s1 ha => q2 (rN e) a H1 s1 ha⟩
    exact ⟨_, rfl, _, rfl, (by show 2 ≤ sizeLine; decide), fun a ha => q1 _ (rS e) a _ (s1.trans (same_new ha _)) (s1.free ha) upd_same⟩
  | true =>
    have hd' : (!(Builtin.Str.occurrences x (".." : Str) 0 x.length 1).isEmpty) = true := hd
    rw [hd']
    have nd : ¬ hasDots x = false := by rw [hd]; decide
    refine iteF ⟨_, rfl, rfl, x, dots, rfl, rfl, by decide +kernel, big hx, fun p hp => ?_⟩
    have s1 := same_new hp (.tup [.str (Txt.partition x dots).1, .str (Txt.partition x dots).2.1, .str (Txt.partition x dots).2.2])
    refine ⟨p, _, rfl, SqT.of upd_same, rfl, _, _, rfl, _, _, rfl, _, _, rfl, rfl, ?_⟩
    refine ⟨_, rfl, _, rfl, hn.l1, hn.fst, fun l el H2 s2 => ⟨_, rfl, _, rfl, hn.l2, hn.snd, fun h eh H3 s3 => ⟨_, _, rfl, ?_⟩, fun eh a H3 s3 ha => ?_⟩, fun el a H2 s2 ha => ?_⟩
    · have S3 := s1.trans (s2.trans s3)
      have rB : bad l h = true → readSp x = none := fun e => by unfold readSp; rw [if_neg nd, el]; simp only; rw [eh]; simp only; rw [if_pos e]
      have rG : bad l h = false → readSp x = some (l, h) := fun e => by unfold readSp; rw [if_neg nd, el]; simp only; rw [eh]; simp only; rw [e, if_neg Bool.false_ne_true]
      refine ⟨_, rfl, rfl, _, rfl, ?_⟩
      cases l with
      | none => exact iteF (iteF ⟨_, rfl, _, rfl, (by show 2 ≤ sizeLine; decide), fun a ha => q1 _ (rG rfl) a _ (S3.trans (same_new ha _)) (S3.free ha) upd_same⟩)
      | some l =>
        refine iteT ⟨_, rfl, rfl, _, rfl, ?_⟩
        cases h with
        | none => exact iteF (iteF ⟨_, rfl, _, rfl, (by show 2 ≤ sizeLine; decide), fun a ha => q1 _ (rG rfl) a _ (S3.trans (same_new ha _)) (S3.free ha) upd_same⟩)
        | some h =>
          refine iteT ⟨_, rfl, _, rfl, _, _, rfl, rfl, _, rfl, ?_⟩
          cases e : decide (h ≤ l) with
          | true => exact iteT ⟨(by show 1 ≤ sizeLine; decide), fun a ha => q2 (rB e) a _ (S3.trans (same_new ha _)) upd_same⟩
          | false => exact iteF ⟨_, rfl, _, rfl, (by show 2 ≤ sizeLine; decide), fun a ha => q1 _ (rG e) a _ (S3.trans (same_new ha _)) (S3.free ha) upd_same⟩
    · refine q2 ?_ a H3 (s1.trans (s2.trans s3)) ha
      unfold readSp; rw [if_neg nd, el]; simp only; rw [eh]
    · refine q2 ?_ a H2 (s1.trans s2) ha
      unfold readSp; rw [if_neg nd, el]
end
end My
set_option maxHeartbeats 4000000
namespace My
open PySem L2 CT CS
def behindB (s e : Spn) : Bool := match e.2, s.1 with
  | some h, some l => decide (h + 1 < l)
  | _, _ => false
def apart (sps : List Spn) : Bool := (List.range (sps.length - 1)).all fun j => behindB (sps.getD (j + 1) (none, none)) (sps.getD j (none, none))
def readSps (x : Str) : Option (List Spn) := if x = "-" then some [] else match allSome ((Txt.split x comma).map readSp) with
  | some sps => if apart sps = true then some sps else none
  | none => none
def PsOk (x : Str) : Prop := ∀ p ∈ Txt.split x comma, SpOk p
def spLies : Sp := fun vs H Q _ => ∃ (a b : Addr) (s e : Spn), vs = [.ref a, .ref b] ∧ H a = some (.tup [eV s.1, eV s.2]) ∧ H b = some (.tup [eV e.1, eV e.2]) ∧ Q (.bl (behindB s e)) H
def spReadSpansX (CN : Addr) : Sp := fun vs H Q E => ∃ x, vs = [.str x] ∧ x.length ≤ 1000000 ∧ PsOk x ∧ (∀ sps, readSps x = some sps → ∀ t as H', Same H H' → SpansAt H' t as sps → Q (.ref t) H') ∧ (readSps x = none → Exc CN H E)
theorem map_take_snoc {α β : Type} {l : List α} {f : α → Option β} {i : Nat} {as : List β} {x : α} {b : β} (h : (l.take i).map f = as.map some) (hx : l[i]? = some x) (hb : f x = some b) : (l.take (i + 1)).map f = (as ++ [b]).map some := by
  rw [List.take_add_one, hx, List.map_append, h, List.map_append]
  show _ = as.map some ++ [some b]
  rw [← hb]; rfl
theorem none_of {α β : Type} {l : List α} {f : α → Option β} {i : Nat} {x : α} (hx : l[i]? = some x) (hb : f x = none) : allSome (l.map f) = none :=
  allSome_none.mpr (List.mem_map.mpr ⟨x, List.mem_of_getElem? hx, hb⟩)
section
variable {X : Cx} {N' : List Str} {sc : Scope} {cl : List (Str × Addr)} {C : Addr} {s : Shared} {H : Hp} {fp : List Addr} {E : XK}
theorem glcX {x : Str} (hv : sc.names.lookup x = some .globalImplicit := by rfl) : Gl ((compCx X N' sc cl C s H fp).xs E) x := glc (X := X) (N' := N') (s := s) (H := H) (fp := fp) (cl := cl) (C := C) hv
theorem pglX {i : Nat} {x : Str} {pos : Pos} (hn : N'.Nodup := by decide +kernel) (hN : N'[i]? = some x := by rfl) (hv : sc.names.lookup x = some .local := by rfl) : PG ((compCx X N' sc cl C s H fp).xs E) (.Name x pos) (gName i) := PG.nox (pgl (X := X) (cl := cl) (C := C) (s := s) (H := H) (fp := fp) (N' := N') hn hN hv)
theorem pvlX (i : Nat) {x : Str} {pos : Pos} (hN : N'[i]? = some x := by rfl) (hv : sc.names.lookup x = some .local := by rfl) (hd : (x == ("__debug__" : Str)) = false := by decide) (hcd : (x == ("__classdict__" : Str)) = false := by decide) : PE ((compCx X N' sc cl C s H fp).xs E) (.Name x pos) (tVar i) := PE.nox (pvl (X := X) (cl := cl) (C := C) (s := s) (H := H) (fp := fp) (N' := N') i hN hv hd hcd)
end
section
variable {P : Program} {w : World} {K : PySem.W.Frag} {mg : Str → Option Value} {base : Heap} {f g1 g2 CN : Addr} {fd d1 d2 : FuncData}
theorem ok_lies (F : Fun K "lies_behind" "lies_behind" sLiesBehind f fd) : FnOk P w K mg base CX0 1 f fd ["span", "earlier"] spLies := by
  refine F.ok scLiesBehind (fun vs H Q E h => ?_) (fun cdv A outer s H vs Q E hr h => ?_)
  · obtain ⟨a, b, s, e, rfl, _⟩ := h
    rfl
  obtain ⟨a, b, ⟨l, h⟩, ⟨l', h'⟩, rfl, ha, hb, q⟩ := h
  refine ⟨_, pss_cons (ps_if (PW.pt (pw_or (pt_cmpR op_isN (pe_ixt (pv 1) pe_int (fun _ _ => rfl)) pe_non (nomark _)) (pw_or1 (pt_cmpR op_isN (pe_ixt (pv 0) pe_int (fun _ _ => rfl)) pe_non (nomark _))))) (pss_one (ps_ret pe_bl)) pss_nil)
    (pss_one (ps_ret (pe_cmpR op_lt (pe_op op_add (pe_ixt (pv 1) pe_int (fun _ _ => rfl)) pe_int) (pe_ixt (pv 0) pe_int (fun _ _ => rfl)) (nomark _)))), ?_⟩
  refine ⟨_, rfl, b, _, _, _, rfl, rfl, SqT.of hb, rfl, rfl, _, rfl, ?_⟩
  rw [eV_non']
  cases h' with
  | none => exact iteT (iteT q)
  | some h' =>
    refine iteF ⟨_, rfl, a, _, _, _, rfl, rfl, SqT.of ha, rfl, rfl, _, rfl, ?_⟩
    rw [eV_non']
    cases l with
    | none => exact iteT q
    | some l => exact iteF ⟨_, rfl, b, _, _, _, rfl, rfl, SqT.of hb, rfl, _, _, rfl, rfl, _, rfl, a, _, _, _, rfl, rfl, SqT.of ha, rfl, _, _, rfl, rfl, q⟩
end
end My
set_option maxHeartbeats 4000000
namespace My
open PySem L2 CT CS
theorem pair_snoc' {α : Type} {as : List Addr} {ys : List α} {R R' : Addr → α → Prop} {a : Addr} {y : α} (hl : as.length = ys.length) (h : ∀ (j : Nat) b q, as[j]? = some b → ys[j]? = some q → R b q) (k : ∀ b q, b ∈ as → R b q → R' b q) (ha : R' a y) :
    ∀ (j : Nat) b q, (as ++ [a])[j]? = some b → (ys ++ [y])[j]? = some q → R' b q := by
  intro j b q e1 e2
  by_cases hj : j < as.length
  · rw [List.getElem?_append_left hj] at e1
    rw [List.getElem?_append_left (by omega)] at e2
    exact k b q (List.mem_of_getElem? e1) (h j b q e1 e2)
  · rw [List.getElem?_append_right (by omega)] at e1 e2
    rw [← hl] at e2
    have e3 : j - as.length = 0 := by
      cases q' : j - as.length with
      | zero => rfl
      | succ n => rw [q'] at e1; cases e1
    rw [e3] at e1 e2
    have e4 : a = b := Option.some.inj e1
    have e5 : y = q := Option.some.inj e2
    rw [← e4, ← e5]
    exact ha
section
variable {P : Program} {w : World} {K : PySem.W.Frag} {mg : Str → Option Value} {base : Heap} {f g1 g2 CN : Addr} {fd d1 d2 : FuncData}
theorem ok_readspans (B : Blt mg) (C : ClsN K mg CN) (F : Fun K "read_spans" "read_spans" sReadSpans f fd) (G : FnOk P w K mg base (CXF P w) 4 g1 d1 ["text"] (spReadSpanX CN)) (bG : Binds K d1 ["text"] []) (kG : PySem.W.keepIn K (.ref g1) = true) (mG : mg "read_span" = some (.ref g1))
    (G2 : FnOk P w K mg base CX0 4 g2 d2 ["span", "earlier"] spLies) (b2 : Binds K d2 ["span", "earlier"] []) (k2 : PySem.W.keepIn K (.ref g2) = true) (m2 : mg "lies_behind" = some (.ref g2)) :
    FnOk P w K mg base (CXF P w) 5 f fd ["text"] (spReadSpansX CN) := by
  refine F.okX scReadSpans (fun vs H Q E h => ?_) (fun cdv A outer s H vs Q E hr h => ?_)
  · obtain ⟨r, rfl, _⟩ := h
    rfl
  obtain ⟨x, rfl, hx, hn, q1, q2⟩ := h
  refine ⟨_, pss_cons (ps_if (pt_cmpR op_eq (pv 0) pe_str (nomark _)) (pss_one (ps_ret (pe_tup pa_nil))) pss_nil)
    (pss_cons (ps_setCompX (i := 1) (N' := ["part"]) (src := [none]) scReadSpans.nd rfl (Or.inl rfl) rfl rfl top_of (CompSc.ofB (by kernel_rfl))
      (pi_list (pe_bm PySem.F.plainAttrs_str PySem.F.slot_str_split PySem.F.type_str_split mt_split (pv 0) (pa_cons pe_str pa_nil))) (fun cl C s H fp => pglX (i := 0)) (fun cl C s H fp => PIfs.nox pifs_nil)
      (fun cl C s H fp => pe_call G hr glcX mG kG bG .nil passX (pa_cons (pvlX 0) pa_nil)))
    (pss_cons (ps_for (xs_own top_of) rfl (pi_range2 rfl B.range (pa_cons pe_int (pa_cons (pe_callB call_len_seq rfl B.len PySem.boot_len (pa_cons (pv 1) pa_nil)) pa_nil))) (pg_name (i := 2) scReadSpans.nd rfl (Or.inl rfl))
      (pss_one (ps_if (pt_not (pt_val (pe_call G2 hr rfl m2 k2 b2 .nil pass0 (pa_cons (pe_ix (r := rIxL K) ix_list (pv 1) (pv 2) (fun _ _ => rfl)) (pa_cons (pe_ix (r := rIxL K) ix_list (pv 1) (pe_op op_sub (pv 2) pe_int) (fun _ _ => rfl)) pa_nil)))))
        (pss_one (ps_raise rfl C.ex rfl C.mN (pa_cons pe_str pa_nil))) pss_nil)))
    (pss_one (ps_ret (pe_callTy call_tuple_of rfl B.tuple PyProof.Rows.boot_tuple (pa_cons (pv 1) pa_nil)))))), ?_⟩
  refine ⟨_, rfl, rfl, _, rfl, ?_⟩
  by_cases c : x = "-"
  · rw [decide_eq_true (congrArg V.str c)]
    refine iteT ⟨Nat.zero_le _, fun t ht => q1 [] (by unfold readSps; rw [if_pos c]) t [] _ (same_new ht _) ⟨upd_same, rfl, fun i a s e => by cases e⟩⟩
  rw [decide_eq_false (fun z => c (by injection z))]
  have rN : allSome ((Txt.split x comma).map readSp) = none → readSps x = none := fun z => by unfold readSps; rw [if_neg c, z]
  have rS : ∀ sps, allSome ((Txt.split x comma).map readSp) = some sps → readSps x = if apart sps = true then some sps else none := fun sps z => by unfold readSps; rw [if_neg c, z]
  refine iteF ⟨_, rfl, rfl, _, _, rfl, rfl, by decide +kernel, hx, fun p hp => ?_⟩
  refine ⟨p, rfl, ⟨_, SqL.of upd_same⟩, fun D hD => ?_⟩
  have s1 := same_new hp (.lst ((Txt.split x comma).map V.str))
  have nDp : p ≠ D := fun e => by subst e; rw [upd_same] at hD; cases hD
  have hD0 : H D = none := s1.free hD
  refine comp_list (xs := (Txt.split x comma).map V.str) (fun i σ ys H' => (∃ o, σ = [o]) ∧ (∃ (as : List Addr) (sps : List Spn), ((Txt.split x comma).take i).map readSp = sps.map some ∧ ys = as.map V.ref ∧ as.length = sps.length ∧ sps.length ≤ i ∧ D ∉ as ∧ ∀ (j : Nat) b (s : Spn), as[j]? = some b → sps[j]? = some s → H' b = some (.tup [eV s.1, eV s.2])) ∧ H' D = some (.lst ys) ∧ Same H H' ∧ H' p = some (.lst ((Txt.split x comma).map V.str)))
    ⟨⟨none, rfl⟩, ⟨[], [], rfl, rfl, rfl, Nat.le_refl _, by simp, fun j b q e _ => by cases e⟩, upd_same, s1.trans (same_new hD _), same_new hD _ _ _ upd_same⟩ ?_ ?_ ?_ ?_ ?_
  · rintro i σ ys H' _ ⟨_, ⟨as, sps, _, rfl, hl, hl2, _⟩, h, _⟩
    exact ⟨h, by rw [List.length_map]; omega⟩
  · rintro i σ ys H' _ ⟨_, _, _, _, h⟩
    exact SqL.of h
  · rw [List.length_map]; exact parts_few hx
  · rintro i v σ ys H' hv ⟨⟨o, rfl⟩, ⟨as, sps, hrs, rfl, hl, hl2, nD, hat⟩, h, sm, hp'⟩
    rw [List.getElem?_map] at hv
    cases e : (Txt.split x comma)[i]? with
    | none => rw [e] at hv; cases hv
    | some pt =>
      rw [e] at hv
      have hv' : V.str pt = v := Option.some.inj hv
      subst hv'
      have pin := List.mem_of_getElem? e
      refine ⟨_, rfl, pt, rfl, part_len pin hx, hn pt pin, fun r hc a H2 s2 hna ha => ⟨s2 _ _ h, ⟨_, rfl⟩, ⟨as ++ [a], sps ++ [r], map_take_snoc hrs e hc, by rw [List.map_append]; rfl, by rw [List.length_append, List.length_append, hl]; rfl, by rw [List.length_append]; exact Nat.add_le_add_right hl2 1, ?_, ?_⟩, upd_same, fun b u eb => ?_, ?_⟩, fun hc a H2 s2 ha => ?_⟩
      · have nDa : D ≠ a := ne_of_none h hna
        simp only [List.mem_append, List.mem_singleton, not_or]
        exact ⟨nD, nDa⟩
      · have nDa : a ≠ D := (ne_of_none h hna).symm
        refine pair_snoc' (R := fun b (s : Spn) => H' b = some (.tup [eV s.1, eV s.2])) (R' := fun b (s : Spn) => upd H2 D _ b = some (.tup [eV s.1, eV s.2])) hl hat (fun b s hb eb => ?_) (by rw [upd_ne nDa]; exact ha)
        rw [upd_ne (show b ≠ D from fun z => nD (by rw [← z]; exact hb))]
        exact s2 _ _ eb
      · by_cases hb : b = D
        · subst hb
          exact absurd eb (by rw [hD0]; simp)
        · rw [upd_ne hb]; exact s2 _ _ (sm _ _ eb)
      · rw [upd_ne nDp]; exact s2 _ _ hp'
      · exact q2 (rN (none_of e hc)) a H2 (sm.trans s2) ha
  rintro σ0 ys0 H3 ⟨_, ⟨as, sps, hrs, rfl, hl, _, nD, hat⟩, h3, sm3, _⟩
  rw [List.length_map, List.take_of_length_le (Nat.le_refl _)] at hrs
  have ea := rS sps (allSome_some.mpr hrs)
  have hrl : sps.length = (Txt.split x comma).length := by
    have := congrArg List.length hrs
    rw [List.length_map, List.length_map] at this
    exact this.symm
  have hpos : 0 < sps.length := by rw [hrl]; exact PyProof.Rows.split_pos x comma
  have hle : sps.length ≤ 1000002 := by
    rw [hrl]
    have := PyProof.Rows.split_le x comma
    omega
  have hlm : (as.map V.ref).length = sps.length := by rw [List.length_map, hl]
  refine ⟨_, rfl, D, _, rfl, .inl (SqL.of h3), _, _, rfl, ⟨?_, ?_, ?_, ?_⟩, ?_⟩
  · decide
  · decide
  · have e : ((2 : Int) ^ 62) = 4611686018427387904 := by decide
    rw [e]; omega
  · have e : ((2 : Int) ^ 62) = 4611686018427387904 := by decide
    rw [e, hlm]; omega
  have en : ((((as.map V.ref).length : Nat) : Int) - 1).toNat = sps.length - 1 := by rw [hlm]; omega
  refine for_range (n := ((((as.map V.ref).length : Nat) : Int) - 1).toNat) (fun i σ H' => (∃ o, σ = [some (.str x), some (.ref D), o]) ∧ H' = H3 ∧ ∀ j, j < i → behindB (sps.getD (j + 1) (none, none)) (sps.getD j (none, none)) = true) ⟨⟨none, rfl⟩, rfl, fun j hj => absurd hj (Nat.not_lt_zero _)⟩ ?_ ?_
  · rintro i σ H' hi ⟨⟨o, rfl⟩, rfl, hall⟩
    rw [en] at hi
    have i1 : i + 1 < sps.length := by omega
    have ea1 : as[i + 1]? = some as[i + 1] := List.getElem?_eq_getElem (by omega)
    have ea0 : as[i]? = some as[i] := List.getElem?_eq_getElem (by omega)
    have es1 : sps[i + 1]? = some sps[i + 1] := List.getElem?_eq_getElem i1
    have es0 : sps[i]? = some sps[i] := List.getElem?_eq_getElem (by omega)
    have at1 : atI (as.map V.ref) (1 + (i : Int)) = some (.ref as[i + 1]) := by
      have := atI_nat (xs := as.map V.ref) (j := i + 1) (v := .ref as[i + 1]) (by rw [List.getElem?_map, ea1]; rfl)
      rw [show (((i + 1 : Nat)) : Int) = 1 + (i : Int) by omega] at this
      exact this
    have at0 : atI (as.map V.ref) (1 + (i : Int) - 1) = some (.ref as[i]) := by
      have := atI_nat (xs := as.map V.ref) (j := i) (v := .ref as[i]) (by rw [List.getElem?_map, ea0]; rfl)
      rw [show ((i : Nat) : Int) = 1 + (i : Int) - 1 by omega] at this
      exact this
    refine ⟨_, rfl, _, rfl, D, _, _, _, rfl, rfl, SqL.of h3, at1, _, rfl, _, rfl, _, _, rfl, rfl, D, _, _, _, rfl, rfl, SqL.of h3, at0, as[i + 1], as[i], sps[i + 1], sps[i], rfl, hat _ _ _ ea1 es1, hat _ _ _ ea0 es0, _, rfl, ?_⟩
    have eg1 : sps.getD (i + 1) (none, none) = sps[i + 1] := by rw [List.getD_eq_getElem?_getD, es1]; rfl
    have eg0 : sps.getD i (none, none) = sps[i] := by rw [List.getD_eq_getElem?_getD, es0]; rfl
    cases e : behindB sps[i + 1] sps[i] with
    | true =>
      refine iteF ⟨⟨_, rfl⟩, rfl, fun j hj => ?_⟩
      by_cases z : j < i
      · exact hall j z
      · have : j = i := by omega
        subst this
        rw [eg1, eg0]; exact e
    | false =>
      have na : apart sps = false := by
        cases z : apart sps with
        | false => rfl
        | true =>
          unfold apart at z
          have := List.all_eq_true.mp z i (List.mem_range.mpr (by omega))
          rw [eg1, eg0, e] at this
          cases this
      rw [na, if_neg Bool.false_ne_true] at ea
      exact iteT ⟨(by show 1 ≤ sizeLine; decide), fun a ha => q2 ea a _ (sm3.trans (same_new ha _)) upd_same⟩
  · rintro σ H' ⟨⟨o, rfl⟩, rfl, hall⟩
    rw [en] at hall
    have ap : apart sps = true := by
      unfold apart
      exact List.all_eq_true.mpr fun j hj => hall j (List.mem_range.mp hj)
    rw [ap, if_pos rfl] at ea
    refine ⟨_, rfl, D, _, rfl, .inl ⟨SqL.of h3, fun t ht => q1 sps ea t as _ (sm3.trans (same_new ht _)) ⟨upd_same, hl, fun i a s e1 e2 => same_new ht _ _ _ (hat i a s e1 e2)⟩⟩⟩
end
end My
set_option maxHeartbeats 4000000
namespace L2
open PySem PySem.Spec PyProof.Rows
theorem range_alike {xs ys : List Str} (hl : xs.length = ys.length) : (List.range xs.length).all (fun j => decide (xs[j]? = ys[j]?)) = decide (xs = ys) := by
  by_cases e : xs = ys
  · subst e
    rw [decide_eq_true rfl, List.all_eq_true]
    intro j _
    exact decide_eq_true rfl
  · rw [decide_eq_false e]
    rw [List.all_eq_false]
    refine Classical.byContradiction fun h => e (List.ext_getElem? fun j => ?_)
    by_cases hj : j < xs.length
    · refine Classical.byContradiction fun z => h ⟨j, List.mem_range.mpr hj, ?_⟩
      rw [decide_eq_false z]
      decide
    · rw [List.getElem?_eq_none (by omega), List.getElem?_eq_none (by omega)]
section
variable {X : Cx}
theorem op_neStr (hu : X.A.units + 1 < cLine) : OpR X (compareOp .NotEq) (fun x y H Q => ∃ (a b : Addr) (xs ys : List Str), x = .ref a ∧ y = .ref b ∧ SqL X.K H a (xs.map V.str) ∧ SqL X.K H b (ys.map V.str) ∧ Q (.bl (!decide (xs = ys))) H) := by
  intro pins s σ H x y v u Q I rx ry h
  obtain ⟨a, b, xs, ys, rfl, rfl, ha, hb, q⟩ := h
  cases rx; cases ry
  obtain ⟨its, r1, p1, _⟩ := I.list ha
  obtain ⟨its', r2, p2, _⟩ := I.list hb
  have l1 : its.length = xs.length := by rw [← r1.length, List.length_map]
  have l2 : its'.length = ys.length := by rw [← r2.length, List.length_map]
  by_cases hl : xs.length = ys.length
  · refine SeqAt.RcNeAt.lists (e := fun j => decide (xs[j]? = ys[j]?)) p1.isList p2.isList (by simp [l1, l2, hl]) (by omega) (fun j h1 h2 => ?_) _ _ _ _ ?_
    · obtain ⟨x, e1, rx⟩ := vals_at r1 h1
      obtain ⟨y, e2, ry⟩ := vals_at r2 h2
      rw [List.getElem?_map] at e1 e2
      cases f1 : xs[j]? with
      | none => rw [f1] at e1; cases e1
      | some x0 =>
        cases f2 : ys[j]? with
        | none => rw [f2] at e2; cases e2
        | some y0 =>
          rw [f1] at e1
          rw [f2] at e2
          have z1 : V.str x0 = x := Option.some.inj e1
          have z2 : V.str y0 = y := Option.some.inj e2
          subst z1 z2
          have z := eqAt_V (A := X.A.in1) (s := s) rx ry rfl rfl
          have e : eqV (V.str x0) (V.str y0) = decide ((some x0 : Option Str) = some y0) := by
            show (x0 == y0) = _
            by_cases w : x0 = y0
            · rw [w]; simp
            · simp [w]
          rw [e] at z
          exact z
    · refine ⟨.bl (!decide (xs = ys)), H, I, ?_, q⟩
      show _ = Value.bool _
      rw [← range_alike hl]
      simp [l1]
  · have ne : xs ≠ ys := fun z => hl (by rw [z])
    rw [decide_eq_false ne] at q
    exact SeqAt.RcNeAt.lists_lengths p1.isList p2.isList (by simp [l1, l2, hl]) (by omega) _ _ _ _ ⟨.bl true, H, I, rfl, q⟩
end
end L2
namespace L2
open PySem PySem.Spec PyProof.Rows
section
variable {X : Cx}
end
end L2
set_option maxHeartbeats 4000000
namespace My
open PySem L2 CT CS
theorem rising_eq : ∀ {as bs : List Str}, as.Pairwise ltS → bs.Pairwise ltS → (∀ x, x ∈ as ↔ x ∈ bs) → as = bs
  | [], [], _, _, _ => rfl
  | [], b :: bs, _, _, h => absurd ((h b).mpr List.mem_cons_self) (by simp)
  | a :: as, [], _, _, h => absurd ((h a).mp List.mem_cons_self) (by simp)
  | a :: as, b :: bs, ha, hb, h => by
    have pa := List.pairwise_cons.mp ha
    have pb := List.pairwise_cons.mp hb
    have tr : ∀ {x y : Str}, ltS x y → ltS y x → False := fun {x y} h1 h2 => List.lt_irrefl _ (List.lt_trans h1 h2)
    have e : a = b := by
      rcases List.mem_cons.mp ((h a).mp List.mem_cons_self) with z | z
      · exact z
      · rcases List.mem_cons.mp ((h b).mpr List.mem_cons_self) with w | w
        · exact w.symm
        · exact (tr (pa.1 b w) (pb.1 a z)).elim
    subst e
    refine congrArg (a :: ·) (rising_eq pa.2 pb.2 fun x => ⟨fun hx => ?_, fun hx => ?_⟩)
    · rcases List.mem_cons.mp ((h x).mp (List.mem_cons_of_mem _ hx)) with z | z
      · subst z; exact (ltS_irrefl (pa.1 _ hx)).elim
      · exact z
    · rcases List.mem_cons.mp ((h x).mpr (List.mem_cons_of_mem _ hx)) with z | z
      · subst z; exact (ltS_irrefl (pb.1 _ hx)).elim
      · exact z
theorem sorted_strs2 {ns : List Str} {ys : List V} (h : SortedOf (ns.map V.str) ys) : ∃ ms : List Str, ys = ms.map V.str ∧ ms.Pairwise ltS ∧ ∀ n, n ∈ ms ↔ n ∈ ns := by
  rcases h with ⟨ss, ms, e1, e2, h1, h2⟩ | ⟨ns', ms, e1, e2, h1, h2⟩
  · cases ns with
    | nil =>
      cases ss with
      | nil =>
        cases ms with
        | nil => exact ⟨[], e2, .nil, fun n => Iff.rfl⟩
        | cons m ms => exact absurd ((h2 m).mp List.mem_cons_self) (by simp)
      | cons s ss => cases e1
    | cons n ns =>
      cases ss with
      | nil => cases e1
      | cons s ss => cases e1
  · have e : ns = ns' := (List.map_inj_right fun _ _ w => by injection w).mp e1
    subst e
    exact ⟨ms, e2, h1, h2⟩
end My
set_option maxHeartbeats 4000000
namespace My
open PySem L2 CT CS
def Listed (ps : List Str) : Prop := (∀ p ∈ ps, wordB p = true) ∧ ps.Pairwise ltS
def spReadListedX (CN : Addr) : Sp := fun vs H Q E => ∃ x, vs = [.str x] ∧ x.length ≤ 1000000 ∧ (Txt.split x comma).length < 64 ∧ (Listed (Txt.split x comma) → ∀ t H', Same H H' → H' t = some (.tup ((Txt.split x comma).map V.str)) → Q (.ref t) H') ∧ (¬ Listed (Txt.split x comma) → Exc CN H E)
section
variable {P : Program} {w : World} {K : PySem.W.Frag} {mg : Str → Option Value} {base : Heap} {f g1 g2 CN : Addr} {fd d1 d2 : FuncData}
theorem ok_readlisted (B : Blt mg) (B2 : Blt2 mg) (C : ClsN K mg CN) (F : Fun K "read_listed" "read_listed" sReadListed f fd) (G : FnOk P w K mg base (CXF P w) 4 g1 d1 ["text"] (spReadWordX CN)) (bG : Binds K d1 ["text"] []) (kG : PySem.W.keepIn K (.ref g1) = true) (mG : mg "read_word" = some (.ref g1)) :
    FnOk P w K mg base (CXF P w) 5 f fd ["text"] (spReadListedX CN) := by
  refine F.okX scReadListed (fun vs H Q E h => ?_) (fun cdv A outer s H vs Q E hr h => ?_)
  · obtain ⟨r, rfl, _⟩ := h
    rfl
  obtain ⟨x, rfl, hx, h64, q1, q2⟩ := h
  have hu : (A.deeper (PyProof.Rows.envOfC "read_listed" (defScope sReadListed) s.heap.objs.size f cdv)).units + 1 < cLine := by have := hr.units; omega
  refine ⟨_, pss_cons (ps_setCompX (i := 1) (N' := ["part"]) (src := [none]) scReadListed.nd rfl (Or.inl rfl) rfl rfl top_of (CompSc.ofB (by kernel_rfl))
      (pi_list (pe_bm PySem.F.plainAttrs_str PySem.F.slot_str_split PySem.F.type_str_split mt_split (pv 0) (pa_cons pe_str pa_nil))) (fun cl C s H fp => pglX (i := 0)) (fun cl C s H fp => PIfs.nox pifs_nil)
      (fun cl C s H fp => pe_call G hr glcX mG kG bG .nil passX (pa_cons (pvlX 0) pa_nil)))
    (pss_cons (ps_if (pt_cmpR (op_neStr hu) (pv 1) (pe_sortset rfl rfl B2.sorted rfl B2.set (pv 1)) (nomark _)) (pss_one (ps_raise rfl C.ex rfl C.mN (pa_cons pe_str pa_nil))) pss_nil)
    (pss_one (ps_ret (pe_callTy call_tuple_of rfl B.tuple PyProof.Rows.boot_tuple (pa_cons (pv 1) pa_nil))))), ?_⟩
  refine ⟨_, rfl, rfl, _, _, rfl, rfl, by decide +kernel, hx, fun p hp => ?_⟩
  refine ⟨p, rfl, ⟨_, SqL.of upd_same⟩, fun D hD => ?_⟩
  have s1 := same_new hp (.lst ((Txt.split x comma).map V.str))
  have nDp : p ≠ D := fun e => by subst e; rw [upd_same] at hD; cases hD
  have hD0 : H D = none := s1.free hD
  refine comp_list (xs := (Txt.split x comma).map V.str) (fun i σ ys H' => (∃ o, σ = [o]) ∧ ys = ((Txt.split x comma).take i).map V.str ∧ (∀ p ∈ (Txt.split x comma).take i, wordB p = true) ∧ H' D = some (.lst ys) ∧ Same H H' ∧ H' p = some (.lst ((Txt.split x comma).map V.str)))
    ⟨⟨none, rfl⟩, rfl, by simp, upd_same, s1.trans (same_new hD _), same_new hD _ _ _ upd_same⟩ ?_ ?_ ?_ ?_ ?_
  · rintro i σ ys H' _ ⟨_, rfl, _, h, _⟩
    exact ⟨h, by rw [List.length_map, List.length_take]; exact Nat.min_le_left _ _⟩
  · rintro i σ ys H' _ ⟨_, _, _, _, _, h⟩
    exact SqL.of h
  · rw [List.length_map]; exact parts_few hx
  · rintro i v σ ys H' hv ⟨⟨o, rfl⟩, rfl, hw, h, sm, hp'⟩
    rw [List.getElem?_map] at hv
    cases e : (Txt.split x comma)[i]? with
    | none => rw [e] at hv; cases hv
    | some pt =>
      rw [e] at hv
      have hv' : V.str pt = v := Option.some.inj hv
      subst hv'
      have pin := List.mem_of_getElem? e
      refine ⟨_, rfl, pt, rfl, part_len pin hx, fun hc H2 s2 => ⟨s2 _ _ h, ⟨_, rfl⟩, ?_, ?_, upd_same, fun b u eb => ?_, ?_⟩, fun hc a H2 s2 ha => ?_⟩
      · rw [List.take_add_one, e, List.map_append]; rfl
      · intro y hy
        rw [List.take_add_one, e] at hy
        rcases List.mem_append.mp hy with z | z
        · exact hw y z
        · have : y = pt := by simpa using z
          rw [this]; exact hc
      · by_cases hb : b = D
        · subst hb
          exact absurd eb (by rw [hD0]; simp)
        · rw [upd_ne hb]; exact s2 _ _ (sm _ _ eb)
      · rw [upd_ne nDp]; exact s2 _ _ hp'
      · refine q2 (fun z => ?_) a H2 (sm.trans s2) ha
        rw [z.1 pt pin] at hc
        cases hc
  rintro σ0 ys0 H3 ⟨_, rfl, hw, h3, sm3, _⟩
  rw [List.length_map, List.take_of_length_le (Nat.le_refl _)] at h3 hw
  refine ⟨_, rfl, _, rfl, D, _, rfl, .inl (SqL.of h3), by rw [List.length_map]; exact h64, .inr ⟨_, rfl⟩, fun SA ys hSA hso => ?_⟩
  obtain ⟨ms, rfl, hms, hmem⟩ := sorted_strs2 hso
  have s4 := same_new hSA (.lst (ms.map V.str))
  refine ⟨D, SA, Txt.split x comma, ms, rfl, rfl, SqL.of (s4 _ _ h3), SqL.of upd_same, _, rfl, ?_⟩
  by_cases e : Txt.split x comma = ms
  · rw [decide_eq_true e]
    have L : Listed (Txt.split x comma) := ⟨hw, by rw [e]; exact hms⟩
    refine iteF ⟨_, rfl, D, _, rfl, .inl ⟨SqL.of (s4 _ _ h3), fun t ht => q1 L t _ (sm3.trans (s4.trans (same_new ht _))) upd_same⟩⟩
  · rw [decide_eq_false e]
    have L : ¬ Listed (Txt.split x comma) := fun z => e (rising_eq z.2 hms fun n => (hmem n).symm)
    exact iteT ⟨(by show 1 ≤ sizeLine; decide), fun a ha => q2 L a _ (sm3.trans (s4.trans (same_new ha _))) upd_same⟩
end
end My
set_option maxHeartbeats 4000000
namespace My
open PySem L2 CT CS
def cut2 (x : Str) : Str := Txt.slice x (some 2) none
open Classical in
noncomputable def readL (b : Bool) (x : Str) : Option CSet := if Listed (Txt.split x comma) then some (.wrd b (Txt.split x comma)) else none
noncomputable def readW (x : Str) : Option CSet := if x = "-" then some (.wrd true []) else if x = "*" then some (.wrd false []) else if Txt.startswith x "*-" = true then readL false (cut2 x) else readL true x
noncomputable def readS (x : Str) : Option CSet := if Txt.startswith x "n:" = true then (readSps (cut2 x)).map .num else if Txt.startswith x "w:" = true then readW (cut2 x) else none
structure WOk (x : Str) : Prop where
  all : (Txt.split x comma).length < 64
  but : (Txt.split (cut2 x) comma).length < 64
structure SetOk (x : Str) : Prop where
  len : x.length ≤ 1000000
  num : PsOk (cut2 x)
  wrd : WOk (cut2 x)
def spReadWordsX (CN : Addr) : Sp := fun vs H Q E => ∃ x, vs = [.str x] ∧ x.length ≤ 1000000 ∧ WOk x ∧ (∀ S, readW x = some S → ∀ a H', Same H H' → SetAt H' a S → Q (.ref a) H') ∧ (readW x = none → Exc CN H E)
def spReadSetX (K : PySem.W.Frag) (CN : Addr) : Sp := fun vs H Q E => (∃ x, vs = [.str x] ∧ SetOk x ∧ (∀ S, readS x = some S → ∀ a H', Same H H' → SetAt H' a S → Q (.ref a) H') ∧ (readS x = none → Exc CN H E)) ∨ ∃ v, vs = [v] ∧ NoTx K H v ∧ Exc CN H E
theorem cut2_len (x : Str) : (cut2 x).length ≤ x.length := Txt.slice_le _ _ _
section
variable {P : Program} {w : World} {K : PySem.W.Frag} {mg : Str → Option Value} {base : Heap} {f g1 g2 CN : Addr} {fd d1 d2 : FuncData}
theorem ok_readwords (F : Fun K "read_words" "read_words" sReadWords f fd) (G : FnOk P w K mg base (CXF P w) 5 g1 d1 ["text"] (spReadListedX CN)) (bG : Binds K d1 ["text"] []) (kG : PySem.W.keepIn K (.ref g1) = true) (mG : mg "read_listed" = some (.ref g1)) :
    FnOk P w K mg base (CXF P w) 6 f fd ["text"] (spReadWordsX CN) := by
  refine F.okX scReadWords (fun vs H Q E h => ?_) (fun cdv A outer s H vs Q E hr h => ?_)
  · obtain ⟨r, rfl, _⟩ := h
    rfl
  obtain ⟨x, rfl, hx, ho, q1, q2⟩ := h
  refine ⟨_, pss_cons (ps_if (pt_cmpR op_eq (pv 0) pe_str (nomark _)) (pss_one (ps_ret (pe_tup (pa_cons pe_str (pa_cons pe_bl (pa_cons (pe_tup pa_nil) pa_nil)))))) pss_nil)
    (pss_cons (ps_if (pt_cmpR op_eq (pv 0) pe_str (nomark _)) (pss_one (ps_ret (pe_tup (pa_cons pe_str (pa_cons pe_bl (pa_cons (pe_tup pa_nil) pa_nil)))))) pss_nil)
    (pss_cons (ps_if (pt_val (pe_bm PySem.F.plainAttrs_str PySem.F.slot_str_startswith PySem.F.type_str_startswith mt_starts (pv 0) (pa_cons pe_str pa_nil))) (pss_one (ps_ret (pe_tup (pa_cons pe_str (pa_cons pe_bl (pa_cons (pe_call G hr rfl mG kG bG .nil passX (pa_cons (pe_slice sl_str (pv 0) (po_some pe_int) po_none) pa_nil)) pa_nil)))))) pss_nil)
    (pss_one (ps_ret (pe_tup (pa_cons pe_str (pa_cons pe_bl (pa_cons (pe_call G hr rfl mG kG bG .nil passX (pa_cons (pv 0) pa_nil)) pa_nil)))))))), ?_⟩
  have z3 : 3 ≤ sizeLine := by decide
  refine ⟨_, rfl, rfl, _, rfl, ?_⟩
  by_cases c1 : x = "-"
  · rw [decide_eq_true (congrArg V.str c1)]
    refine iteT ⟨Nat.zero_le _, fun t ht => ⟨z3, fun a ha => q1 (.wrd true []) (by unfold readW; rw [if_pos c1]) a _ ((same_new ht _).trans (same_new ha _)) ⟨t, upd_same, same_new ha _ _ _ upd_same⟩⟩⟩
  rw [decide_eq_false (fun z => c1 (by injection z))]
  refine iteF ⟨_, rfl, rfl, _, rfl, ?_⟩
  by_cases c2 : x = "*"
  · rw [decide_eq_true (congrArg V.str c2)]
    refine iteT ⟨Nat.zero_le _, fun t ht => ⟨z3, fun a ha => q1 (.wrd false []) (by unfold readW; rw [if_neg c1, if_pos c2]) a _ ((same_new ht _).trans (same_new ha _)) ⟨t, upd_same, same_new ha _ _ _ upd_same⟩⟩⟩
  rw [decide_eq_false (fun z => c2 (by injection z))]
  refine iteF ⟨_, rfl, rfl, x, _, rfl, rfl, _, rfl, ?_⟩
  cases c3 : Txt.startswith x "*-" with
  | true =>
    have r : readW x = readL false (cut2 x) := by unfold readW; rw [if_neg c1, if_neg c2, if_pos c3]
    refine iteT ⟨_, rfl, _, rfl, x, rfl, big hx, cut2 x, rfl, Nat.le_trans (cut2_len x) hx, ho.but, fun L t H1 s1 ht => ⟨z3, fun a ha => ?_⟩, fun L a H1 s1 ha => ?_⟩
    · exact q1 _ (r.trans (if_pos L)) a _ (s1.trans (same_new ha _)) ⟨t, upd_same, same_new ha _ _ _ ht⟩
    · exact q2 (r.trans (if_neg L)) a H1 s1 ha
  | false =>
    have r : readW x = readL true x := by unfold readW; rw [if_neg c1, if_neg c2, c3, if_neg Bool.false_ne_true]
    refine iteF ⟨_, rfl, x, rfl, hx, ho.all, fun L t H1 s1 ht => ⟨z3, fun a ha => ?_⟩, fun L a H1 s1 ha => ?_⟩
    · exact q1 _ (r.trans (if_pos L)) a _ (s1.trans (same_new ha _)) ⟨t, upd_same, same_new ha _ _ _ ht⟩
    · exact q2 (r.trans (if_neg L)) a H1 s1 ha
theorem ok_readset (B : Blt mg) (B2 : Blt2 mg) (C : ClsN K mg CN) (F : Fun K "read_set" "read_set" sReadSet f fd) (G : FnOk P w K mg base (CXF P w) 6 g1 d1 ["text"] (spReadSpansX CN)) (bG : Binds K d1 ["text"] []) (kG : PySem.W.keepIn K (.ref g1) = true) (mG : mg "read_spans" = some (.ref g1))
    (G2 : FnOk P w K mg base (CXF P w) 6 g2 d2 ["text"] (spReadWordsX CN)) (b2 : Binds K d2 ["text"] []) (k2 : PySem.W.keepIn K (.ref g2) = true) (m2 : mg "read_words" = some (.ref g2)) :
    FnOk P w K mg base (CXF P w) 7 f fd ["text"] (spReadSetX K CN) := by
  refine F.okX scReadSet (fun vs H Q E h => ?_) (fun cdv A outer s H vs Q E hr h => ?_)
  · rcases h with ⟨r, rfl, _⟩ | ⟨v, rfl, _⟩ <;> rfl
  refine ⟨_, pss_cons (ps_if (pt_not (pt_val (pe_callB call_isinst rfl B.isinstance PyProof.Rows.boot_isinstance (pa_cons (pv 0) (pa_cons (pe_bty (n := "str") rfl B2.str PyProof.Rows.boot_str) pa_nil))))) (pss_one (ps_raise rfl C.ex rfl C.mN (pa_cons pe_str pa_nil))) pss_nil)
    (pss_cons (ps_if (pt_val (pe_bm PySem.F.plainAttrs_str PySem.F.slot_str_startswith PySem.F.type_str_startswith mt_starts (pv 0) (pa_cons pe_str pa_nil))) (pss_one (ps_ret (pe_tup (pa_cons pe_str (pa_cons (pe_call G hr rfl mG kG bG .nil passX (pa_cons (pe_slice sl_str (pv 0) (po_some pe_int) po_none) pa_nil)) pa_nil))))) pss_nil)
    (pss_cons (ps_if (pt_val (pe_bm PySem.F.plainAttrs_str PySem.F.slot_str_startswith PySem.F.type_str_startswith mt_starts (pv 0) (pa_cons pe_str pa_nil))) (pss_one (ps_ret (pe_call G2 hr rfl m2 k2 b2 .nil passX (pa_cons (pe_slice sl_str (pv 0) (po_some pe_int) po_none) pa_nil)))) pss_nil)
    (pss_one (ps_raise rfl C.ex rfl C.mN (pa_cons pe_str pa_nil))))), ?_⟩
  rcases h with ⟨x, rfl, ho, q1, q2⟩ | ⟨v, rfl, ⟨t, ty, kt⟩, q2⟩
  rotate_left
  · refine ⟨_, rfl, _, _, _, _, _, rfl, rfl, .inl ty, kt, false, rfl, ?_⟩
    exact iteT ⟨(by show 1 ≤ sizeLine; decide), fun a ha => q2 a _ (same_new ha _) upd_same⟩
  refine ⟨_, rfl, _, _, _, _, _, rfl, rfl, .inl (.str _), kit_same (by decide), true, rfl, iteF ?_⟩
  refine ⟨_, rfl, rfl, x, _, rfl, rfl, _, rfl, ?_⟩
  have l2 := Nat.le_trans (cut2_len x) ho.len
  cases c1 : Txt.startswith x "n:" with
  | true =>
    have r : readS x = (readSps (cut2 x)).map .num := by unfold readS; rw [if_pos c1]
    refine iteT ⟨_, rfl, _, rfl, x, rfl, big ho.len, cut2 x, rfl, l2, ho.num, fun sps e t as H1 s1 hs => ⟨(by show 2 ≤ sizeLine; decide), fun a ha => ?_⟩, fun e a H1 s1 ha => ?_⟩
    · exact q1 (.num sps) (by rw [r, e]; rfl) a _ (s1.trans (same_new ha _)) ⟨t, as, upd_same, hs.same (same_new ha _)⟩
    · exact q2 (by rw [r, e]; rfl) a H1 s1 ha
  | false =>
    refine iteF ⟨_, rfl, rfl, x, _, rfl, rfl, _, rfl, ?_⟩
    cases c2 : Txt.startswith x "w:" with
    | true =>
      have r : readS x = readW (cut2 x) := by unfold readS; rw [c1, if_neg Bool.false_ne_true, if_pos c2]
      exact iteT ⟨_, rfl, _, rfl, x, rfl, big ho.len, cut2 x, rfl, l2, ho.wrd, fun S e a H1 s1 hs => q1 S (r.trans e) a H1 s1 hs, fun e a H1 s1 ha => q2 (r.trans e) a H1 s1 ha⟩
    | false =>
      have r : readS x = none := by unfold readS; rw [c1, if_neg Bool.false_ne_true, c2, if_neg Bool.false_ne_true]
      exact iteF ⟨(by show 1 ≤ sizeLine; decide), fun a ha => q2 r a _ (same_new ha _) upd_same⟩
end
end My
namespace L2
open PySem PySem.Spec PyProof.Rows
section
variable {X : Cx} {pins : List (Addr × Obj)} {σ : List (Option V)} {H H' : Hp} {s : Shared} {h' : Heap}
theorem Inv.turnedNew {t' : Nat} {fp : List Addr} {T : Addr} {xs : List V} (I : Inv X pins σ H s) (hf : ∀ b ∈ fp, FpOk X pins H b) (k : ∀ b o, b ∉ fp → s.heap.get? b = some o → h'.get? b = some o) (hT : s.heap.objs.size ≤ T)
    (new : ObjOk X.prog X.w (upd H T (.tup xs)) h' T (.tup xs)) : Inv X pins σ (upd H T (.tup xs)) { s with heap := h', toks := t' } := by
  have nT : H T = none := I.hok.fresh hT
  have nit : ∀ b u, H b = some u → b ∉ fp := fun b u e z => by rw [(hf b z).1] at e; cases e
  have nbT : ∀ b o, s.heap.get? b = some o → b ≠ T := fun b o e z => by
    have := Heap.lt_size e
    rw [z] at this
    exact absurd (Nat.lt_of_lt_of_le this hT) (Nat.lt_irrefl _)
  refine I.step (g' := s.gens) (d' := s.drawn) (ch := fp) (fun b hb => ?_) (fun b o _ _ hc e _ => k b o hc e) (fun b o _ _ hc e _ => ⟨o.slots, k b o hc e⟩) (fun b o hc e n => by rw [upd_ne (nbT b o e)]; exact n)
    (fun b o hc e => ⟨o, k b o hc e⟩) (fun b ys e => by rw [upd_ne (ne_of_none e nT)]; exact e) (fun b o u e => by rw [upd_ne (ne_of_none e nT)]; exact e) (fun b ps e => ⟨#[], by rw [upd_ne (ne_of_none e nT), e]; simp⟩) (fun m hm => ?_) (fun b u e => ?_) I.bare
  · obtain ⟨f0, f1, f2, f3, f4, f5⟩ := hf b hb
    exact ⟨f3, f1, f4, f5⟩
  · obtain ⟨o, es, ep, ho, r⟩ := hm
    exact ⟨o, es, ep, k _ o (fun z => (hf _ z).2.1 rfl) ho, r⟩
  · by_cases hb : b = T
    · subst hb; rw [upd_same] at e; cases e; exact new
    · rw [upd_ne hb] at e
      refine (I.hok b u e).stay (fun c v hc q => k c v ?_ q) (fun c q => by rw [upd_ne (ne_of_none q nT)]; exact q) fun c ys q => by rw [upd_ne (ne_of_none q nT)]; exact q
      rcases hc with z | z
      · rw [z]; exact nit b u e
      · exact nit c _ z
theorem Inv.turnedMany {t' : Nat} {fp : List Addr} (I : Inv X pins σ H s) (hf : ∀ b ∈ fp, FpOk X pins H b) (k : ∀ b o, b ∉ fp → s.heap.get? b = some o → h'.get? b = some o) : Inv X pins σ H { s with heap := h', toks := t' } := by
  have nit : ∀ b u, H b = some u → b ∉ fp := fun b u e z => by rw [(hf b z).1] at e; cases e
  refine I.step (g' := s.gens) (d' := s.drawn) (ch := fp) (fun b hb => ?_) (fun b o _ _ hc e _ => k b o hc e) (fun b o _ _ hc e _ => ⟨o.slots, k b o hc e⟩) (fun b o hc e n => n)
    (fun b o hc e => ⟨o, k b o hc e⟩) (fun b ys e => e) (fun b o u e => e) (fun b ps e => ⟨#[], by rw [e]; simp⟩) (fun m hm => ?_) (fun b u e => ?_) I.bare
  · obtain ⟨f0, f1, f2, f3, f4, f5⟩ := hf b hb
    exact ⟨f3, f1, f4, f5⟩
  · obtain ⟨o, es, ep, ho, r⟩ := hm
    exact ⟨o, es, ep, k _ o (fun z => (hf _ z).2.1 rfl) ho, r⟩
  · refine (I.hok b u e).stay (fun c v hc q => k c v ?_ q) (fun _ q => q) fun _ _ q => q
    rcases hc with z | z
    · rw [z]; exact nit b u e
    · exact nit c _ z
end
end L2
namespace L2
open PySem PySem.Spec PyProof.Rows
section
variable {X : Cx}
end
end L2
namespace L2
open PySem PySem.Spec PyProof.Rows
inductive D where
  | int (i : Int) | str (x : Str) | non | bl (b : Bool) | tup (ds : List D) | lst (ds : List D)
deriving Inhabited
mutual
def DAt (K : PySem.W.Frag) (H : Hp) : D → V → Prop
  | .int i, v => v = .int i
  | .str x, v => v = .str x
  | .non, v => v = .non
  | .bl b, v => v = .bl b
  | .tup ds, v => ∃ a vs, v = .ref a ∧ SqT K H a vs ∧ DsAt K H ds vs
  | .lst ds, v => ∃ a vs, v = .ref a ∧ H a = some (.lst vs) ∧ DsAt K H ds vs
def DsAt (K : PySem.W.Frag) (H : Hp) : List D → List V → Prop
  | [], vs => vs = []
  | d :: ds, vs => ∃ v r, vs = v :: r ∧ DAt K H d v ∧ DsAt K H ds r
end
mutual
def D.depth : D → Nat
  | .tup ds => 1 + depths ds
  | .lst ds => 1 + depths ds
  | _ => 0
def depths : List D → Nat
  | [] => 0
  | d :: ds => max d.depth (depths ds)
end
def bI (b : Bool) : Int := if b then 1 else 0
mutual
def eqD : D → D → Bool
  | .int i, .int j => i == j
  | .int i, .bl b => i == bI b
  | .bl b, .int j => bI b == j
  | .bl b, .bl c => b == c
  | .str x, .str y => x == y
  | .non, .non => true
  | .tup ds, .tup es => eqDs ds es
  | .lst ds, .lst es => eqDs ds es
  | _, _ => false
def eqDs : List D → List D → Bool
  | [], [] => true
  | d :: ds, e :: es => eqD d e && eqDs ds es
  | _, _ => false
end
mutual
theorem eqD_self : ∀ d : D, eqD d d = true
  | .int i => by simp [eqD]
  | .str x => by simp [eqD]
  | .non => by simp [eqD]
  | .bl b => by simp [eqD]
  | .tup ds => by rw [eqD]; exact eqDs_self ds
  | .lst ds => by rw [eqD]; exact eqDs_self ds
theorem eqDs_self : ∀ ds : List D, eqDs ds ds = true
  | [] => by simp [eqDs]
  | d :: ds => by rw [eqDs, eqD_self d, eqDs_self ds]; rfl
end
section
variable {K : PySem.W.Frag} {H : Hp}
theorem DsAt.length : ∀ {ds : List D} {vs : List V}, DsAt K H ds vs → ds.length = vs.length
  | [], vs, h => by rw [DsAt] at h; rw [h]; rfl
  | d :: ds, vs, h => by
    rw [DsAt] at h
    obtain ⟨v, r, rfl, _, h⟩ := h
    rw [List.length_cons, List.length_cons, DsAt.length h]
theorem DsAt.get : ∀ {ds : List D} {vs : List V} {i : Nat} {v : V}, DsAt K H ds vs → vs[i]? = some v → ∃ d, ds[i]? = some d ∧ DAt K H d v
  | [], vs, i, v, h, e => by rw [DsAt] at h; rw [h] at e; cases e
  | d :: ds, vs, i, v, h, e => by
    rw [DsAt] at h
    obtain ⟨u, r, rfl, h1, h2⟩ := h
    cases i with
    | zero => cases e; exact ⟨d, rfl, h1⟩
    | succ i => obtain ⟨d', e1, e2⟩ := DsAt.get (i := i) h2 e; exact ⟨d', e1, e2⟩
theorem DsAt.of : ∀ {ds : List D} {vs : List V}, ds.length = vs.length → (∀ (i : Nat) d v, ds[i]? = some d → vs[i]? = some v → DAt K H d v) → DsAt K H ds vs
  | [], [], _, _ => by rw [DsAt]
  | [], v :: vs, h, _ => by cases h
  | d :: ds, [], h, _ => by cases h
  | d :: ds, v :: vs, h, k => by
    rw [DsAt]
    exact ⟨v, vs, rfl, k 0 d v rfl rfl, DsAt.of (by simpa using h) fun i d v e1 e2 => k (i + 1) d v e1 e2⟩
theorem DsAt.cons {d : D} {v : V} {ds : List D} {vs : List V} (h1 : DAt K H d v) (h2 : DsAt K H ds vs) : DsAt K H (d :: ds) (v :: vs) := by rw [DsAt]; exact ⟨v, vs, rfl, h1, h2⟩
theorem DsAt.nil : DsAt K H [] [] := by rw [DsAt]
mutual
theorem DAt.mono {H' : Hp} (s : ∀ a xs, SqT K H a xs → SqT K H' a xs) (t : ∀ a xs, H a = some (.lst xs) → H' a = some (.lst xs)) : ∀ {d : D} {v : V}, DAt K H d v → DAt K H' d v
  | .int _, v, h => by rw [DAt] at h ⊢; exact h
  | .str _, v, h => by rw [DAt] at h ⊢; exact h
  | .non, v, h => by rw [DAt] at h ⊢; exact h
  | .bl _, v, h => by rw [DAt] at h ⊢; exact h
  | .tup ds, v, h => by
    rw [DAt] at h ⊢
    obtain ⟨a, vs, e, q, h⟩ := h
    exact ⟨a, vs, e, s a vs q, DsAt.mono s t h⟩
  | .lst ds, v, h => by
    rw [DAt] at h ⊢
    obtain ⟨a, vs, e, q, h⟩ := h
    exact ⟨a, vs, e, t a vs q, DsAt.mono s t h⟩
theorem DsAt.mono {H' : Hp} (s : ∀ a xs, SqT K H a xs → SqT K H' a xs) (t : ∀ a xs, H a = some (.lst xs) → H' a = some (.lst xs)) : ∀ {ds : List D} {vs : List V}, DsAt K H ds vs → DsAt K H' ds vs
  | [], vs, h => by rw [DsAt] at h ⊢; exact h
  | d :: ds, vs, h => by
    rw [DsAt] at h ⊢
    obtain ⟨u, r, e, h1, h2⟩ := h
    exact ⟨u, r, e, DAt.mono s t h1, DsAt.mono s t h2⟩
end
end
theorem eqDs_len : ∀ {ds es : List D}, ds.length ≠ es.length → eqDs ds es = false
  | [], [], h => absurd rfl h
  | [], _ :: _, _ => by rw [eqDs]; all_goals simp
  | _ :: _, [], _ => by rw [eqDs]; all_goals simp
  | d :: ds, e :: es, h => by rw [eqDs, eqDs_len (by simpa using h), Bool.and_false]
theorem eqDs_all : ∀ {ds es : List D}, ds.length = es.length → (List.range ds.length).all (fun j => eqD (ds.getD j .non) (es.getD j .non)) = eqDs ds es
  | [], [], _ => by rw [eqDs]; rfl
  | d :: ds, e :: es, h => by
    rw [eqDs, List.length_cons, List.range_succ_eq_map, List.all_cons, List.all_map, ← eqDs_all (by simpa using h)]
    rfl
  | [], _ :: _, h => by cases h
  | _ :: _, [], h => by cases h
theorem eqDs_min {ds es : List D} : ((List.range (min ds.length es.length)).all (fun j => eqD (ds.getD j .non) (es.getD j .non)) && ds.length == es.length) = eqDs ds es := by
  by_cases h : ds.length = es.length
  · rw [← eqDs_all h, h, Nat.min_self]; simp
  · rw [eqDs_len h, beq_eq_false_iff_ne.mpr h, Bool.and_false]
theorem depths_mem : ∀ {ds : List D} {i : Nat} {d : D}, ds[i]? = some d → d.depth ≤ depths ds
  | [], i, d, e => by cases e
  | d' :: ds, 0, d, e => by cases e; rw [depths]; exact Nat.le_max_left _ _
  | d' :: ds, i + 1, d, e => by rw [depths]; exact Nat.le_trans (depths_mem (i := i) (by simpa using e)) (Nat.le_max_right _ _)
section
variable {X : Cx} {pins : List (Addr × Obj)} {σ : St} {H : Hp} {s : Shared}
theorem getD_of {ds : List D} {j : Nat} {d : D} (h : ds[j]? = some d) : ds.getD j .non = d := by rw [List.getD_eq_getElem?_getD, h]; rfl
def both (A : Around) (s : Shared) (u v : Value) (b : Bool) : Prop := SeqAt.EqAt A s u v b ∧ SeqAt.RcAt A s u v b ∧ SeqAt.RcNeAt A s u v (!b)
def seqs : D → D → Bool
  | .tup _, .tup _ => true
  | .lst _, .lst _ => true
  | _, _ => false
theorem both_mixed (I : Inv X pins σ H s) {A : Around} (hu : A.units < cLine) : ∀ {d e : D} {x y : V} {u v : Value}, seqs d e = false → DAt X.K H d x → DAt X.K H e y → RelV x u → RelV y v → both A s u v (eqD d e)
  | .int i, .int j, x, y, u, v, hs, h1, h2, r1, r2 => by
    rw [DAt] at h1; subst h1; obtain ⟨t, rfl⟩ := r1
    rw [DAt] at h2; subst h2; obtain ⟨w, rfl⟩ := r2
    rw [eqD]
    exact ⟨.int_int i t j w, .int_int i t j w, .int_int i t j w⟩
  | .int i, .str j, x, y, u, v, hs, h1, h2, r1, r2 => by
    rw [DAt] at h1; subst h1; obtain ⟨t, rfl⟩ := r1
    rw [DAt] at h2; subst h2; obtain ⟨w, rfl⟩ := r2
    rw [show eqD (.int i) (.str j) = false by simp [eqD]]
    exact ⟨.int_str i t j w, .int_str i t j w, .int_str i t j w⟩
  | .int i, .non, x, y, u, v, hs, h1, h2, r1, r2 => by
    rw [DAt] at h1; subst h1; obtain ⟨t, rfl⟩ := r1
    rw [DAt] at h2; subst h2; cases r2
    rw [show eqD (.int i) (.non) = false by simp [eqD]]
    exact ⟨.int_none i t , .int_none i t , .int_none i t ⟩
  | .int i, .bl j, x, y, u, v, hs, h1, h2, r1, r2 => by
    rw [DAt] at h1; subst h1; obtain ⟨t, rfl⟩ := r1
    rw [DAt] at h2; subst h2; cases r2
    rw [eqD]
    exact ⟨.int_bool i t j, .int_bool i t j, .int_bool i t j⟩
  | .int i, .tup j, x, y, u, v, hs, h1, h2, r1, r2 => by
    rw [DAt] at h1; subst h1; obtain ⟨t, rfl⟩ := r1
    rw [DAt] at h2; obtain ⟨aw, vsw, rfl, q2, _⟩ := h2; cases r2; obtain ⟨itsw, rrw, pw, _⟩ := I.tuple q2
    rw [show eqD (.int i) (.tup j) = false by simp [eqD]]
    exact ⟨.int_tuple i t pw hu, .int_tuple i t pw hu, .int_tuple i t pw hu⟩
  | .int i, .lst j, x, y, u, v, hs, h1, h2, r1, r2 => by
    rw [DAt] at h1; subst h1; obtain ⟨t, rfl⟩ := r1
    rw [DAt] at h2; obtain ⟨aw, vsw, rfl, q2, _⟩ := h2; cases r2; obtain ⟨itsw, rrw, ppw, _⟩ := I.list (SqL.of q2); have pw := ppw.isList
    rw [show eqD (.int i) (.lst j) = false by simp [eqD]]
    exact ⟨.int_list i t pw hu, .int_list i t pw hu, .int_list i t pw hu⟩
  | .str i, .int j, x, y, u, v, hs, h1, h2, r1, r2 => by
    rw [DAt] at h1; subst h1; obtain ⟨t, rfl⟩ := r1
    rw [DAt] at h2; subst h2; obtain ⟨w, rfl⟩ := r2
    rw [show eqD (.str i) (.int j) = false by simp [eqD]]
    exact ⟨.str_int i t j w, .str_int i t j w, .str_int i t j w⟩
  | .str i, .str j, x, y, u, v, hs, h1, h2, r1, r2 => by
    rw [DAt] at h1; subst h1; obtain ⟨t, rfl⟩ := r1
    rw [DAt] at h2; subst h2; obtain ⟨w, rfl⟩ := r2
    rw [eqD]
    exact ⟨.str_str i t j w, .str_str i t j w, .str_str i t j w⟩
  | .str i, .non, x, y, u, v, hs, h1, h2, r1, r2 => by
    rw [DAt] at h1; subst h1; obtain ⟨t, rfl⟩ := r1
    rw [DAt] at h2; subst h2; cases r2
    rw [show eqD (.str i) (.non) = false by simp [eqD]]
    exact ⟨.str_none i t , .str_none i t , .str_none i t ⟩
  | .str i, .bl j, x, y, u, v, hs, h1, h2, r1, r2 => by
    rw [DAt] at h1; subst h1; obtain ⟨t, rfl⟩ := r1
    rw [DAt] at h2; subst h2; cases r2
    rw [show eqD (.str i) (.bl j) = false by simp [eqD]]
    exact ⟨.str_bool i t j, .str_bool i t j, .str_bool i t j⟩
  | .str i, .tup j, x, y, u, v, hs, h1, h2, r1, r2 => by
    rw [DAt] at h1; subst h1; obtain ⟨t, rfl⟩ := r1
    rw [DAt] at h2; obtain ⟨aw, vsw, rfl, q2, _⟩ := h2; cases r2; obtain ⟨itsw, rrw, pw, _⟩ := I.tuple q2
    rw [show eqD (.str i) (.tup j) = false by simp [eqD]]
    exact ⟨.str_tuple i t pw hu, .str_tuple i t pw hu, .str_tuple i t pw hu⟩
  | .str i, .lst j, x, y, u, v, hs, h1, h2, r1, r2 => by
    rw [DAt] at h1; subst h1; obtain ⟨t, rfl⟩ := r1
    rw [DAt] at h2; obtain ⟨aw, vsw, rfl, q2, _⟩ := h2; cases r2; obtain ⟨itsw, rrw, ppw, _⟩ := I.list (SqL.of q2); have pw := ppw.isList
    rw [show eqD (.str i) (.lst j) = false by simp [eqD]]
    exact ⟨.str_list i t pw hu, .str_list i t pw hu, .str_list i t pw hu⟩
  | .non, .int j, x, y, u, v, hs, h1, h2, r1, r2 => by
    rw [DAt] at h1; subst h1; cases r1
    rw [DAt] at h2; subst h2; obtain ⟨w, rfl⟩ := r2
    rw [show eqD (.non) (.int j) = false by simp [eqD]]
    exact ⟨.none_int  j w, .none_int  j w, .none_int  j w⟩
  | .non, .str j, x, y, u, v, hs, h1, h2, r1, r2 => by
    rw [DAt] at h1; subst h1; cases r1
    rw [DAt] at h2; subst h2; obtain ⟨w, rfl⟩ := r2
    rw [show eqD (.non) (.str j) = false by simp [eqD]]
    exact ⟨.none_str  j w, .none_str  j w, .none_str  j w⟩
  | .non, .non, x, y, u, v, hs, h1, h2, r1, r2 => by
    rw [DAt] at h1; subst h1; cases r1
    rw [DAt] at h2; subst h2; cases r2
    rw [eqD]
    exact ⟨.same _, .none_none, .none_none⟩
  | .non, .bl j, x, y, u, v, hs, h1, h2, r1, r2 => by
    rw [DAt] at h1; subst h1; cases r1
    rw [DAt] at h2; subst h2; cases r2
    rw [show eqD (.non) (.bl j) = false by simp [eqD]]
    exact ⟨.none_bool  j, .none_bool  j, .none_bool  j⟩
  | .non, .tup j, x, y, u, v, hs, h1, h2, r1, r2 => by
    rw [DAt] at h1; subst h1; cases r1
    rw [DAt] at h2; obtain ⟨aw, vsw, rfl, q2, _⟩ := h2; cases r2; obtain ⟨itsw, rrw, pw, _⟩ := I.tuple q2
    rw [show eqD (.non) (.tup j) = false by simp [eqD]]
    exact ⟨.none_tuple  pw hu, .none_tuple  pw hu, .none_tuple  pw hu⟩
  | .non, .lst j, x, y, u, v, hs, h1, h2, r1, r2 => by
    rw [DAt] at h1; subst h1; cases r1
    rw [DAt] at h2; obtain ⟨aw, vsw, rfl, q2, _⟩ := h2; cases r2; obtain ⟨itsw, rrw, ppw, _⟩ := I.list (SqL.of q2); have pw := ppw.isList
    rw [show eqD (.non) (.lst j) = false by simp [eqD]]
    exact ⟨.none_list  pw hu, .none_list  pw hu, .none_list  pw hu⟩
  | .bl i, .int j, x, y, u, v, hs, h1, h2, r1, r2 => by
    rw [DAt] at h1; subst h1; cases r1
    rw [DAt] at h2; subst h2; obtain ⟨w, rfl⟩ := r2
    rw [eqD]
    exact ⟨.bool_int i j w, .bool_int i j w, .bool_int i j w⟩
  | .bl i, .str j, x, y, u, v, hs, h1, h2, r1, r2 => by
    rw [DAt] at h1; subst h1; cases r1
    rw [DAt] at h2; subst h2; obtain ⟨w, rfl⟩ := r2
    rw [show eqD (.bl i) (.str j) = false by simp [eqD]]
    exact ⟨.bool_str i j w, .bool_str i j w, .bool_str i j w⟩
  | .bl i, .non, x, y, u, v, hs, h1, h2, r1, r2 => by
    rw [DAt] at h1; subst h1; cases r1
    rw [DAt] at h2; subst h2; cases r2
    rw [show eqD (.bl i) (.non) = false by simp [eqD]]
    exact ⟨.bool_none i , .bool_none i , .bool_none i ⟩
  | .bl i, .bl j, x, y, u, v, hs, h1, h2, r1, r2 => by
    rw [DAt] at h1; subst h1; cases r1
    rw [DAt] at h2; subst h2; cases r2
    rw [eqD]
    exact ⟨.bool_bool i j, .bool_bool i j, .bool_bool i j⟩
  | .bl i, .tup j, x, y, u, v, hs, h1, h2, r1, r2 => by
    rw [DAt] at h1; subst h1; cases r1
    rw [DAt] at h2; obtain ⟨aw, vsw, rfl, q2, _⟩ := h2; cases r2; obtain ⟨itsw, rrw, pw, _⟩ := I.tuple q2
    rw [show eqD (.bl i) (.tup j) = false by simp [eqD]]
    exact ⟨.bool_tuple i pw hu, .bool_tuple i pw hu, .bool_tuple i pw hu⟩
  | .bl i, .lst j, x, y, u, v, hs, h1, h2, r1, r2 => by
    rw [DAt] at h1; subst h1; cases r1
    rw [DAt] at h2; obtain ⟨aw, vsw, rfl, q2, _⟩ := h2; cases r2; obtain ⟨itsw, rrw, ppw, _⟩ := I.list (SqL.of q2); have pw := ppw.isList
    rw [show eqD (.bl i) (.lst j) = false by simp [eqD]]
    exact ⟨.bool_list i pw hu, .bool_list i pw hu, .bool_list i pw hu⟩
  | .tup i, .int j, x, y, u, v, hs, h1, h2, r1, r2 => by
    rw [DAt] at h1; obtain ⟨a_t, vst, rfl, q1, _⟩ := h1; cases r1; obtain ⟨itst, rrt, pt, _⟩ := I.tuple q1
    rw [DAt] at h2; subst h2; obtain ⟨w, rfl⟩ := r2
    rw [show eqD (.tup i) (.int j) = false by simp [eqD]]
    exact ⟨.tuple_int j w pt hu, .tuple_int j w pt hu, .tuple_int j w pt hu⟩
  | .tup i, .str j, x, y, u, v, hs, h1, h2, r1, r2 => by
    rw [DAt] at h1; obtain ⟨a_t, vst, rfl, q1, _⟩ := h1; cases r1; obtain ⟨itst, rrt, pt, _⟩ := I.tuple q1
    rw [DAt] at h2; subst h2; obtain ⟨w, rfl⟩ := r2
    rw [show eqD (.tup i) (.str j) = false by simp [eqD]]
    exact ⟨.tuple_str j w pt hu, .tuple_str j w pt hu, .tuple_str j w pt hu⟩
  | .tup i, .non, x, y, u, v, hs, h1, h2, r1, r2 => by
    rw [DAt] at h1; obtain ⟨a_t, vst, rfl, q1, _⟩ := h1; cases r1; obtain ⟨itst, rrt, pt, _⟩ := I.tuple q1
    rw [DAt] at h2; subst h2; cases r2
    rw [show eqD (.tup i) (.non) = false by simp [eqD]]
    exact ⟨.tuple_none  pt hu, .tuple_none  pt hu, .tuple_none  pt hu⟩
  | .tup i, .bl j, x, y, u, v, hs, h1, h2, r1, r2 => by
    rw [DAt] at h1; obtain ⟨a_t, vst, rfl, q1, _⟩ := h1; cases r1; obtain ⟨itst, rrt, pt, _⟩ := I.tuple q1
    rw [DAt] at h2; subst h2; cases r2
    rw [show eqD (.tup i) (.bl j) = false by simp [eqD]]
    exact ⟨.tuple_bool j pt hu, .tuple_bool j pt hu, .tuple_bool j pt hu⟩
  | .tup ds, .tup es, x, y, u, v, hs, h1, h2, r1, r2 => by cases hs
  | .tup i, .lst j, x, y, u, v, hs, h1, h2, r1, r2 => by
    rw [DAt] at h1; obtain ⟨a_t, vst, rfl, q1, _⟩ := h1; cases r1; obtain ⟨itst, rrt, pt, _⟩ := I.tuple q1
    rw [DAt] at h2; obtain ⟨aw, vsw, rfl, q2, _⟩ := h2; cases r2; obtain ⟨itsw, rrw, ppw, _⟩ := I.list (SqL.of q2); have pw := ppw.isList
    rw [show eqD (.tup i) (.lst j) = false by simp [eqD]]
    exact ⟨.tuple_list pt pw hu, .tuple_list pt pw hu, .tuple_list pt pw hu⟩
  | .lst i, .int j, x, y, u, v, hs, h1, h2, r1, r2 => by
    rw [DAt] at h1; obtain ⟨a_t, vst, rfl, q1, _⟩ := h1; cases r1; obtain ⟨itst, rrt, ppt, _⟩ := I.list (SqL.of q1); have pt := ppt.isList
    rw [DAt] at h2; subst h2; obtain ⟨w, rfl⟩ := r2
    rw [show eqD (.lst i) (.int j) = false by simp [eqD]]
    exact ⟨.list_int j w pt hu, .list_int j w pt hu, .list_int j w pt hu⟩
  | .lst i, .str j, x, y, u, v, hs, h1, h2, r1, r2 => by
    rw [DAt] at h1; obtain ⟨a_t, vst, rfl, q1, _⟩ := h1; cases r1; obtain ⟨itst, rrt, ppt, _⟩ := I.list (SqL.of q1); have pt := ppt.isList
    rw [DAt] at h2; subst h2; obtain ⟨w, rfl⟩ := r2
    rw [show eqD (.lst i) (.str j) = false by simp [eqD]]
    exact ⟨.list_str j w pt hu, .list_str j w pt hu, .list_str j w pt hu⟩
  | .lst i, .non, x, y, u, v, hs, h1, h2, r1, r2 => by
    rw [DAt] at h1; obtain ⟨a_t, vst, rfl, q1, _⟩ := h1; cases r1; obtain ⟨itst, rrt, ppt, _⟩ := I.list (SqL.of q1); have pt := ppt.isList
    rw [DAt] at h2; subst h2; cases r2
    rw [show eqD (.lst i) (.non) = false by simp [eqD]]
    exact ⟨.list_none  pt hu, .list_none  pt hu, .list_none  pt hu⟩
  | .lst i, .bl j, x, y, u, v, hs, h1, h2, r1, r2 => by
    rw [DAt] at h1; obtain ⟨a_t, vst, rfl, q1, _⟩ := h1; cases r1; obtain ⟨itst, rrt, ppt, _⟩ := I.list (SqL.of q1); have pt := ppt.isList
    rw [DAt] at h2; subst h2; cases r2
    rw [show eqD (.lst i) (.bl j) = false by simp [eqD]]
    exact ⟨.list_bool j pt hu, .list_bool j pt hu, .list_bool j pt hu⟩
  | .lst i, .tup j, x, y, u, v, hs, h1, h2, r1, r2 => by
    rw [DAt] at h1; obtain ⟨a_t, vst, rfl, q1, _⟩ := h1; cases r1; obtain ⟨itst, rrt, ppt, _⟩ := I.list (SqL.of q1); have pt := ppt.isList
    rw [DAt] at h2; obtain ⟨aw, vsw, rfl, q2, _⟩ := h2; cases r2; obtain ⟨itsw, rrw, pw, _⟩ := I.tuple q2
    rw [show eqD (.lst i) (.tup j) = false by simp [eqD]]
    exact ⟨.list_tuple pt pw hu, .list_tuple pt pw hu, .list_tuple pt pw hu⟩
  | .lst ds, .lst es, x, y, u, v, hs, h1, h2, r1, r2 => by cases hs
theorem list_tup_ne (I : Inv X pins σ H s) {a : Addr} {xs ys : List V} (h : SqL X.K H a xs) (h' : SqT X.K H a ys) : False := by
  obtain ⟨_, _, p, _⟩ := I.list h
  obtain ⟨_, _, p', _⟩ := I.tuple h'
  exact SeqAt.ne_of_list_tuple p.isList p' rfl
mutual
theorem DAt.inj (I : Inv X pins σ H s) : ∀ {d e : D} {v : V}, DAt X.K H d v → DAt X.K H e v → d = e
  | .int i, .int j, v, h1, h2 => by
    rw [DAt] at h1; rw [DAt] at h2
    subst h1
    injection h2 with h2
    rw [h2]
  | .int i, .str j, v, h1, h2 => by
    rw [DAt] at h1; rw [DAt] at h2
    subst h1
    cases h2
  | .int i, .non, v, h1, h2 => by
    rw [DAt] at h1; rw [DAt] at h2
    subst h1
    cases h2
  | .int i, .bl j, v, h1, h2 => by
    rw [DAt] at h1; rw [DAt] at h2
    subst h1
    cases h2
  | .int i, .tup j, v, h1, h2 => by
    rw [DAt] at h1; rw [DAt] at h2
    obtain ⟨a, vs, rfl, q, g⟩ := h2
    cases h1
  | .int i, .lst j, v, h1, h2 => by
    rw [DAt] at h1; rw [DAt] at h2
    obtain ⟨a, vs, rfl, q, g⟩ := h2
    cases h1
  | .str i, .int j, v, h1, h2 => by
    rw [DAt] at h1; rw [DAt] at h2
    subst h1
    cases h2
  | .str i, .str j, v, h1, h2 => by
    rw [DAt] at h1; rw [DAt] at h2
    subst h1
    injection h2 with h2
    rw [h2]
  | .str i, .non, v, h1, h2 => by
    rw [DAt] at h1; rw [DAt] at h2
    subst h1
    cases h2
  | .str i, .bl j, v, h1, h2 => by
    rw [DAt] at h1; rw [DAt] at h2
    subst h1
    cases h2
  | .str i, .tup j, v, h1, h2 => by
    rw [DAt] at h1; rw [DAt] at h2
    obtain ⟨a, vs, rfl, q, g⟩ := h2
    cases h1
  | .str i, .lst j, v, h1, h2 => by
    rw [DAt] at h1; rw [DAt] at h2
    obtain ⟨a, vs, rfl, q, g⟩ := h2
    cases h1
  | .non, .int j, v, h1, h2 => by
    rw [DAt] at h1; rw [DAt] at h2
    subst h1
    cases h2
  | .non, .str j, v, h1, h2 => by
    rw [DAt] at h1; rw [DAt] at h2
    subst h1
    cases h2
  | .non, .non, v, h1, h2 => rfl
  | .non, .bl j, v, h1, h2 => by
    rw [DAt] at h1; rw [DAt] at h2
    subst h1
    cases h2
  | .non, .tup j, v, h1, h2 => by
    rw [DAt] at h1; rw [DAt] at h2
    obtain ⟨a, vs, rfl, q, g⟩ := h2
    cases h1
  | .non, .lst j, v, h1, h2 => by
    rw [DAt] at h1; rw [DAt] at h2
    obtain ⟨a, vs, rfl, q, g⟩ := h2
    cases h1
  | .bl i, .int j, v, h1, h2 => by
    rw [DAt] at h1; rw [DAt] at h2
    subst h1
    cases h2
  | .bl i, .str j, v, h1, h2 => by
    rw [DAt] at h1; rw [DAt] at h2
    subst h1
    cases h2
  | .bl i, .non, v, h1, h2 => by
    rw [DAt] at h1; rw [DAt] at h2
    subst h1
    cases h2
  | .bl i, .bl j, v, h1, h2 => by
    rw [DAt] at h1; rw [DAt] at h2
    subst h1
    injection h2 with h2
    rw [h2]
  | .bl i, .tup j, v, h1, h2 => by
    rw [DAt] at h1; rw [DAt] at h2
    obtain ⟨a, vs, rfl, q, g⟩ := h2
    cases h1
  | .bl i, .lst j, v, h1, h2 => by
    rw [DAt] at h1; rw [DAt] at h2
    obtain ⟨a, vs, rfl, q, g⟩ := h2
    cases h1
  | .tup i, .int j, v, h1, h2 => by
    rw [DAt] at h1; rw [DAt] at h2
    obtain ⟨a, vs, rfl, q, g⟩ := h1
    cases h2
  | .tup i, .str j, v, h1, h2 => by
    rw [DAt] at h1; rw [DAt] at h2
    obtain ⟨a, vs, rfl, q, g⟩ := h1
    cases h2
  | .tup i, .non, v, h1, h2 => by
    rw [DAt] at h1; rw [DAt] at h2
    obtain ⟨a, vs, rfl, q, g⟩ := h1
    cases h2
  | .tup i, .bl j, v, h1, h2 => by
    rw [DAt] at h1; rw [DAt] at h2
    obtain ⟨a, vs, rfl, q, g⟩ := h1
    cases h2
  | .tup i, .tup j, v, h1, h2 => by
    rw [DAt] at h1; rw [DAt] at h2
    obtain ⟨a, vs, rfl, q, g⟩ := h1
    obtain ⟨b, ws, e, q', g'⟩ := h2
    cases e
    rw [I.tuple_inj q' q] at g'
    rw [DsAt.inj I g g']
  | .tup i, .lst j, v, h1, h2 => by
    rw [DAt] at h1; rw [DAt] at h2
    obtain ⟨a, vs, rfl, q, g⟩ := h1
    obtain ⟨b, ws, e, q', g'⟩ := h2
    cases e
    exact (list_tup_ne I (SqL.of q') q).elim
  | .lst i, .int j, v, h1, h2 => by
    rw [DAt] at h1; rw [DAt] at h2
    obtain ⟨a, vs, rfl, q, g⟩ := h1
    cases h2
  | .lst i, .str j, v, h1, h2 => by
    rw [DAt] at h1; rw [DAt] at h2
    obtain ⟨a, vs, rfl, q, g⟩ := h1
    cases h2
  | .lst i, .non, v, h1, h2 => by
    rw [DAt] at h1; rw [DAt] at h2
    obtain ⟨a, vs, rfl, q, g⟩ := h1
    cases h2
  | .lst i, .bl j, v, h1, h2 => by
    rw [DAt] at h1; rw [DAt] at h2
    obtain ⟨a, vs, rfl, q, g⟩ := h1
    cases h2
  | .lst i, .tup j, v, h1, h2 => by
    rw [DAt] at h1; rw [DAt] at h2
    obtain ⟨a, vs, rfl, q, g⟩ := h1
    obtain ⟨b, ws, e, q', g'⟩ := h2
    cases e
    exact (list_tup_ne I (SqL.of q) q').elim
  | .lst i, .lst j, v, h1, h2 => by
    rw [DAt] at h1; rw [DAt] at h2
    obtain ⟨a, vs, rfl, q, g⟩ := h1
    obtain ⟨b, ws, e, q', g'⟩ := h2
    cases e
    rw [q] at q'
    cases q'
    rw [DsAt.inj I g g']
theorem DsAt.inj (I : Inv X pins σ H s) : ∀ {ds es : List D} {vs : List V}, DsAt X.K H ds vs → DsAt X.K H es vs → ds = es
  | [], [], vs, h1, h2 => rfl
  | [], e :: es, vs, h1, h2 => by
    rw [DsAt] at h1; rw [DsAt] at h2
    obtain ⟨v, r, rfl, _⟩ := h2
    cases h1
  | d :: ds, [], vs, h1, h2 => by
    rw [DsAt] at h1; rw [DsAt] at h2
    obtain ⟨v, r, rfl, _⟩ := h1
    cases h2
  | d :: ds, e :: es, vs, h1, h2 => by
    rw [DsAt] at h1; rw [DsAt] at h2
    obtain ⟨v, r, rfl, a1, a2⟩ := h1
    obtain ⟨v', r', z, b1, b2⟩ := h2
    injection z with z1 z2
    rw [← z1] at b1
    rw [← z2] at b2
    rw [DAt.inj I a1 b1, DsAt.inj I a2 b2]
end
theorem both_D (I : Inv X pins σ H s) : ∀ (n : Nat) {A : Around} {d e : D} {x y : V} {u v : Value}, d.depth ≤ n → A.units + n < cLine → DAt X.K H d x → DAt X.K H e y → RelV x u → RelV y v → both A s u v (eqD d e) := by
  intro n
  induction n with
  | zero =>
    intro A d e x y u v hd hu h1 h2 r1 r2
    refine both_mixed I (by omega) ?_ h1 h2 r1 r2
    cases d <;> cases e <;> first | rfl | (rw [D.depth] at hd; omega)
  | succ n ih =>
    intro A d e x y u v hd hu h1 h2 r1 r2
    cases hs : seqs d e with
    | false => exact both_mixed I (by omega) hs h1 h2 r1 r2
    | true =>
      have items : ∀ {ds es : List D} {vs ws : List V} {its its' : List Value}, 1 + depths ds ≤ n + 1 → DsAt X.K H ds vs → DsAt X.K H es ws → Vals vs its → Vals ws its' → ∀ j (h1 : j < its.toArray.size) (h2 : j < its'.toArray.size), SeqAt.EqAt A.in1 s its.toArray[j] its'.toArray[j] (eqD (ds.getD j .non) (es.getD j .non)) := by
        intro ds es vs ws its its' hdd g g' rv rw' j j1 j2
        obtain ⟨x, e1, rx⟩ := vals_at rv j1
        obtain ⟨y, e2, ry⟩ := vals_at rw' j2
        obtain ⟨d, ed, gd⟩ := g.get e1
        obtain ⟨e, ee, ge⟩ := g'.get e2
        rw [getD_of ed, getD_of ee]
        have := depths_mem ed
        exact (ih (by omega) (by show A.units + 1 + n < cLine; omega) gd ge rx ry).1
      cases d <;> cases e <;> first | cases hs | skip
      · rename_i ds es
        rw [D.depth] at hd
        have g1 := h1
        have g2 := h2
        rw [DAt] at h1; rw [DAt] at h2
        obtain ⟨a, vs, rfl, q, g⟩ := h1
        obtain ⟨b, ws, rfl, q', g'⟩ := h2
        cases r1; cases r2
        obtain ⟨its, rv, p, _⟩ := I.tuple q
        obtain ⟨its', rw', p', _⟩ := I.tuple q'
        have l1 : its.toArray.size = ds.length := by simp [← rv.length, g.length]
        have l2 : its'.toArray.size = es.length := by simp [← rw'.length, g'.length]
        have z1 := SeqAt.RcAt.tuples p p' (by omega) (items hd g g' rv rw')
        have z2 := SeqAt.RcNeAt.tuples p p' (by omega) (items hd g g' rv rw')
        rw [l1, l2, eqDs_min] at z1 z2
        rw [eqD]
        refine ⟨?_, z1, z2⟩
        by_cases hab : a = b
        · subst hab
          have e := DAt.inj I g1 g2
          injection e with e
          rw [e, eqDs_self]
          exact .same _
        · exact .of_refs hab z1
      · rename_i ds es
        rw [D.depth] at hd
        have g1 := h1
        have g2 := h2
        rw [DAt] at h1; rw [DAt] at h2
        obtain ⟨a, vs, rfl, q, g⟩ := h1
        obtain ⟨b, ws, rfl, q', g'⟩ := h2
        cases r1; cases r2
        obtain ⟨its, rv, p, _⟩ := I.list (SqL.of q)
        obtain ⟨its', rw', p', _⟩ := I.list (SqL.of q')
        have l1 : its.toArray.size = ds.length := by simp [← rv.length, g.length]
        have l2 : its'.toArray.size = es.length := by simp [← rw'.length, g'.length]
        have zz : SeqAt.RcAt A s (.ref a) (.ref b) (eqDs ds es) ∧ SeqAt.RcNeAt A s (.ref a) (.ref b) (!eqDs ds es) := by
          by_cases hl : ds.length = es.length
          · have z1 := SeqAt.RcAt.lists p.isList p'.isList (by rw [l1, l2, hl]) (by omega) (items hd g g' rv rw')
            have z2 := SeqAt.RcNeAt.lists p.isList p'.isList (by rw [l1, l2, hl]) (by omega) (items hd g g' rv rw')
            rw [l1, eqDs_all hl] at z1 z2
            exact ⟨z1, z2⟩
          · rw [eqDs_len hl]
            exact ⟨SeqAt.RcAt.lists_lengths p.isList p'.isList (by rw [l1, l2]; simpa using hl) (by omega), SeqAt.RcNeAt.lists_lengths p.isList p'.isList (by rw [l1, l2]; simpa using hl) (by omega)⟩
        rw [eqD]
        refine ⟨?_, zz.1, zz.2⟩
        by_cases hab : a = b
        · subst hab
          have e := DAt.inj I g1 g2
          injection e with e
          rw [e, eqDs_self]
          exact .same _
        · exact .of_refs hab zz.1
def rEqD (K : PySem.W.Frag) (A : Around) : R2 := fun x y H Q => ∃ d e, DAt K H d x ∧ DAt K H e y ∧ A.units + d.depth < cLine ∧ Q (.bl (eqD d e)) H
def rNeD (K : PySem.W.Frag) (A : Around) : R2 := fun x y H Q => ∃ d e, DAt K H d x ∧ DAt K H e y ∧ A.units + d.depth < cLine ∧ Q (.bl (!eqD d e)) H
theorem op_eqD : OpR X (compareOp .Eq) (rEqD X.K X.A) := by
  intro pins s σ H x y v u Q I rx ry h
  obtain ⟨d, e, h1, h2, hu, q⟩ := h
  exact (both_D I d.depth (Nat.le_refl _) hu h1 h2 rx ry).2.1 _ _ _ _ ⟨.bl _, H, I, rfl, q⟩
theorem op_neD : OpR X (compareOp .NotEq) (rNeD X.K X.A) := by
  intro pins s σ H x y v u Q I rx ry h
  obtain ⟨d, e, h1, h2, hu, q⟩ := h
  exact (both_D I d.depth (Nat.le_refl _) hu h1 h2 rx ry).2.2 _ _ _ _ ⟨.bl _, H, I, rfl, q⟩
end
section
variable {K : PySem.W.Frag} {H H' : Hp} {a : Addr}
theorem Same.seqT {xs : List V} (e : Same H H') (h : SqT K H a xs) : SqT K H' a xs := by
  rcases h with h | h
  · rcases h with h | ⟨o, h⟩
    · exact .inl (.inl (e _ _ h))
    · exact .inl (.inr ⟨o, e _ _ h⟩)
  · exact .inr h
theorem DAt.same (s : Same H H') {d : D} {v : V} (h : DAt K H d v) : DAt K H' d v := h.mono (fun _ _ q => s.seqT q) (fun _ _ q => s _ _ q)
theorem dat_non : DAt K H .non .non := by rw [DAt]
theorem dat_int (x : Int) : DAt K H (.int x) (.int x) := by rw [DAt]
theorem dat_str (x : Str) : DAt K H (.str x) (.str x) := by rw [DAt]
theorem dat_bl (x : Bool) : DAt K H (.bl x) (.bl x) := by rw [DAt]
theorem dat_tup {vs : List V} {ds : List D} (h : H a = some (.tup vs)) (g : DsAt K H ds vs) : DAt K H (.tup ds) (.ref a) := by rw [DAt]; exact ⟨a, vs, rfl, SqT.of h, g⟩
theorem dat_lst {vs : List V} {ds : List D} (h : H a = some (.lst vs)) (g : DsAt K H ds vs) : DAt K H (.lst ds) (.ref a) := by rw [DAt]; exact ⟨a, vs, rfl, h, g⟩
end
end L2
set_option maxHeartbeats 4000000
namespace My
open PySem L2 CT CS
theorem comma_codes : comma.cps.toList = [44] := by decide +kernel
theorem dots_codes : dots.cps.toList = [46, 46] := by decide +kernel
theorem split_comma {ps : List Str} (ne : ps ≠ []) (fr : ∀ p ∈ ps, 44 ∉ p.cps.toList) : Txt.split (Txt.join comma ps) comma = ps := by
  have eb : comma = ⟨#[44]⟩ := TX.str_ext (by rw [comma_codes])
  refine TX.split_join comma_codes (by decide +kernel) ne fr fun k e => ?_
  have z := (PySem.StrLaws.subAt_one (Txt.join comma ps) 44 k).mpr e
  rw [← eb] at z
  exact z
theorem cat_codes (x y : Str) : (x ++ y).cps.toList = x.cps.toList ++ y.cps.toList := by
  show (x.cps ++ y.cps).toList = _
  rw [Array.toList_append]
theorem num_codes {n : Int} : ∀ c ∈ (txC (.num n)).cps.toList, c = 45 ∨ (48 ≤ c ∧ c ≤ 57) := by
  intro c hc
  cases n with
  | ofNat m =>
    have e := codes_pos m
    rw [show (txC (.num (Int.ofNat m))).cps.toList = figs m from e] at hc
    exact .inr (figs_dig m c hc)
  | negSucc m =>
    rw [codes_neg m] at hc
    rcases List.mem_cons.mp hc with z | z
    · exact .inl z
    · exact .inr (figs_dig _ c z)
theorem endT_codes {e : Option Int} : ∀ c ∈ (endT e).cps.toList, c = 45 ∨ (48 ≤ c ∧ c ≤ 57) := by
  cases e with
  | none =>
    have : (endT none).cps.toList = [] := by decide +kernel
    rw [this]; intro c hc; cases hc
  | some n => exact num_codes
theorem spanT_eq (s : Spn) : (∃ n, s = (some n, some n) ∧ spanT s = txC (.num n)) ∨ ((∀ n, s ≠ (some n, some n)) ∧ spanT s = endT s.1 ++ dots ++ endT s.2) := by
  obtain ⟨l, h⟩ := s
  cases l with
  | none => exact .inr ⟨(fun n z => by cases z), rfl⟩
  | some l =>
    cases h with
    | none => exact .inr ⟨(fun n z => by cases z), rfl⟩
    | some h =>
      by_cases c : l = h
      · subst c
        exact .inl ⟨l, rfl, if_pos rfl⟩
      · exact .inr ⟨(fun n z => by cases z; exact c rfl), if_neg c⟩
theorem spanT_free (s : Spn) : 44 ∉ (spanT s).cps.toList := by
  intro z
  rcases spanT_eq s with ⟨n, _, e⟩ | ⟨_, e⟩
  · rw [e] at z
    have := num_codes _ z
    omega
  · rw [e, cat_codes, cat_codes, dots_codes] at z
    rcases List.mem_append.mp z with z | z
    · rcases List.mem_append.mp z with z | z
      · have := endT_codes _ z; omega
      · simp at z
    · have := endT_codes _ z; omega
theorem occ_dots {a b : Str} (ha : 46 ∉ a.cps.toList) (hb : 46 ∉ b.cps.toList) : ∃ r, Builtin.Str.occurrences (a ++ dots ++ b) dots 0 (a ++ dots ++ b).length 1 = a.length :: r := by
  have hc : (a ++ dots ++ b).cps.toList = a.cps.toList ++ [46, 46] ++ b.cps.toList := by rw [cat_codes, cat_codes, dots_codes]
  have hl : (a ++ dots ++ b).length = a.length + 2 + b.length := by rw [cat_len, cat_len, dots_len]
  have hf : (!(Builtin.Str.occurrences (a ++ dots ++ b) dots 0 (a ++ dots ++ b).length 1).isEmpty) = true := by
    rw [PySem.StrLaws.found_iff]
    refine ⟨a.length, by rw [dots_len, hl]; omega, ?_⟩
    rw [PySem.StrLaws.subAt_eq, dots_len, hc, dots_codes, len_codes a, List.append_assoc, List.drop_left' rfl]
    rfl
  have key : ∀ i ∈ Builtin.Str.occurrences (a ++ dots ++ b) dots 0 (a ++ dots ++ b).length 1, i = a.length := fun i hi => by
    obtain ⟨h1, h2⟩ := PySem.StrLaws.occ_spec _ _ _ _ _ i hi
    rw [PySem.StrLaws.subAt_eq, dots_len, hc, dots_codes] at h2
    have h2' : (List.drop i (a.cps.toList ++ [46, 46] ++ b.cps.toList)).take 2 = [46, 46] := eq_of_beq h2
    have g0 : (a.cps.toList ++ [46, 46] ++ b.cps.toList)[i]? = some 46 := by
      have := congrArg (fun l => l[0]?) h2'
      simpa [List.getElem?_take, List.getElem?_drop] using this
    have g1 : (a.cps.toList ++ [46, 46] ++ b.cps.toList)[i + 1]? = some 46 := by
      have := congrArg (fun l => l[1]?) h2'
      simpa [List.getElem?_take, List.getElem?_drop] using this
    rw [List.append_assoc] at g0 g1
    have n0 : ¬ i < a.cps.toList.length := fun z => by
      rw [List.getElem?_append_left z] at g0
      exact ha (List.mem_of_getElem? g0)
    rw [List.getElem?_append_right (by omega)] at g1
    have n1 : i + 1 - a.cps.toList.length < 2 := by
      apply Nat.lt_of_not_le
      intro z
      rw [List.getElem?_append_right (by simpa using z)] at g1
      exact hb (List.mem_of_getElem? g1)
    rw [len_codes a]; omega
  cases e : Builtin.Str.occurrences (a ++ dots ++ b) dots 0 (a ++ dots ++ b).length 1 with
  | nil => rw [e] at hf; cases hf
  | cons i r =>
    rw [e] at key
    have := key i (List.mem_cons_self ..)
    rw [this]
    exact ⟨r, rfl⟩
theorem part_dots {a b : Str} (ha : 46 ∉ a.cps.toList) (hb : 46 ∉ b.cps.toList) : hasDots (a ++ dots ++ b) = true ∧ (Txt.partition (a ++ dots ++ b) dots).1 = a ∧ (Txt.partition (a ++ dots ++ b) dots).2.2 = b := by
  obtain ⟨r, e⟩ := occ_dots ha hb
  have hc : (a ++ dots ++ b).cps.toList = a.cps.toList ++ [46, 46] ++ b.cps.toList := by rw [cat_codes, cat_codes, dots_codes]
  have hl : (a ++ dots ++ b).length = a.length + 2 + b.length := by rw [cat_len, cat_len, dots_len]
  refine ⟨by unfold hasDots; rw [e]; rfl, ?_, ?_⟩
  · unfold Txt.partition
    rw [e]
    refine TX.str_ext ?_
    show ((a ++ dots ++ b).cps.extract 0 a.length).toList = _
    rw [Array.toList_extract, hc, List.extract_eq_drop_take, List.drop_zero, len_codes a, List.append_assoc, Nat.sub_zero, List.take_left' rfl]
  · unfold Txt.partition
    rw [e]
    refine TX.str_ext ?_
    show ((a ++ dots ++ b).cps.extract (a.length + dots.length) (a ++ dots ++ b).length).toList = _
    rw [Array.toList_extract, hc, List.extract_eq_drop_take, hl, dots_len]
    have e2 : (a.cps.toList ++ [46, 46] ++ b.cps.toList).drop (a.length + 2) = b.cps.toList := List.drop_left' (by rw [List.length_append, len_codes a]; rfl)
    rw [e2]
    exact List.take_of_length_le (by rw [len_codes b]; omega)
theorem no_dots {a : Str} (ha : 46 ∉ a.cps.toList) : hasDots a = false := by
  cases h : hasDots a with
  | false => rfl
  | true =>
    unfold hasDots at h
    rw [PySem.StrLaws.found_iff] at h
    obtain ⟨i, h1, h2⟩ := h
    rw [PySem.StrLaws.subAt_eq, dots_len, dots_codes] at h2
    have h2' : (List.drop i a.cps.toList).take 2 = [46, 46] := eq_of_beq h2
    have g0 : a.cps.toList[i]? = some 46 := by
      have := congrArg (fun l => l[0]?) h2'
      simpa [List.getElem?_take, List.getElem?_drop] using this
    exact absurd (List.mem_of_getElem? g0) ha
theorem num_free46 (n : Int) : 46 ∉ (txC (.num n)).cps.toList := fun z => by have := num_codes _ z; omega
theorem end_free46 (e : Option Int) : 46 ∉ (endT e).cps.toList := fun z => by have := endT_codes _ z; omega
theorem valN_num {n : Int} (h : inB n) : valN (txC (.num n)) = n := by
  unfold valN
  rw [txC_reads (n := n) h]; rfl
theorem readE_end {e : Option Int} (h : ∀ n, e = some n → inB n) : readE (endT e) = some e := by
  unfold readE
  cases e with
  | none => rw [if_pos (by decide +kernel)]
  | some n =>
    have hb : numB (endT (some n)) = true := numB_num n
    have hne : endT (some n) ≠ "" := fun z => by
      have := endT_pos (h n rfl)
      rw [show txC (.num n) = "" from z] at this
      exact absurd this (by decide +kernel)
    rw [if_neg hne, if_pos hb]
    show some (some (valN (txC (.num n)))) = _
    rw [valN_num (h n rfl)]
theorem readSp_span {s : Spn} (ok : okSp s) : readSp (spanT s) = some s := by
  rcases spanT_eq s with ⟨n, rfl, e⟩ | ⟨hn, e⟩
  · have hb : inB n := ok.2 n (.inl rfl)
    unfold readSp
    rw [e, no_dots (num_free46 n), if_pos rfl, if_pos (numB_num n), valN_num hb]
  · obtain ⟨p1, p2, p3⟩ := part_dots (end_free46 s.1) (end_free46 s.2)
    unfold readSp
    rw [e, p1, if_neg (by decide), p2, p3, readE_end fun n z => ok.2 n (.inl z), readE_end fun n z => ok.2 n (.inr z)]
    show (if bad s.1 s.2 = true then none else some (s.1, s.2)) = some s
    rw [if_neg]
    intro z
    obtain ⟨l, h⟩ := s
    cases l with
    | none => cases z
    | some l =>
      cases h with
      | none => cases z
      | some h =>
        have z' : h ≤ l := of_decide_eq_true z
        have := ok.1 l h rfl rfl
        have : l = h := by omega
        subst this
        exact hn l rfl
end My
set_option maxHeartbeats 4000000
namespace My
open PySem L2 CT CS
def dE : Option Int → D
  | none => .non
  | some i => .int i
theorem dE_at {K : PySem.W.Frag} {H : Hp} (e : Option Int) : DAt K H (dE e) (eV e) := by
  cases e <;> (unfold dE; rw [DAt]; rfl)
theorem behind_iff {s e : Spn} : behindB s e = true ↔ ∃ h l, e.2 = some h ∧ s.1 = some l ∧ ¬ (l - h < 2) := by
  unfold behindB
  constructor
  · intro h
    split at h
    · rename_i a b q1 q2
      exact ⟨_, _, q1, q2, by have := of_decide_eq_true h; omega⟩
    · cases h
  · rintro ⟨h, l, q1, q2, q⟩
    rw [q1, q2]
    exact decide_eq_true (by omega)
theorem starts_two' {x t : Str} (lc : t.cps.toList.length = 2) : Txt.startswith x t = decide (Txt.slice x none (some 2) = t) := by
  have ls : t.length = 2 := (len_codes t).trans lc
  have e : (Txt.slice x none (some 2)).cps.toList = x.cps.toList.take 2 := slice_to x 2
  have key : Txt.slice x none (some 2) = t ↔ x.cps.toList.take 2 = t.cps.toList := by
    constructor
    · intro z; rw [← e, z]
    · intro z; exact TX.str_ext (e.trans z)
  unfold Txt.startswith
  rw [PySem.StrLaws.subAt_eq, ls, List.drop_zero]
  by_cases c : x.cps.toList.take 2 = t.cps.toList
  · have hl : 2 ≤ x.length := by
      have := congrArg List.length c
      rw [lc, List.length_take] at this
      rw [len_codes]; omega
    rw [decide_eq_true (key.mpr c), decide_eq_true (by omega), c]
    simp
  · rw [decide_eq_false (fun z => c (key.mp z))]
    have : (x.cps.toList.take 2 == t.cps.toList) = false := beq_eq_false_iff_ne.mpr c
    rw [this, Bool.and_false]
def com (x : Str) : Nat := x.cps.toList.count 44
theorem count_glue : ∀ {L : List (List Nat)}, L ≠ [] → (∀ p ∈ L, 44 ∉ p) → (TX.glue [44] L).count 44 + 1 = L.length
  | [], h, _ => absurd rfl h
  | [p], _, h => by
    have : p.count 44 = 0 := List.count_eq_zero.mpr (h p (List.mem_cons_self ..))
    show p.count 44 + 1 = 1
    rw [this]
  | p :: q :: r, _, h => by
    have ih := count_glue (L := q :: r) (by simp) fun z hz => h z (List.mem_cons_of_mem _ hz)
    have : p.count 44 = 0 := List.count_eq_zero.mpr (h p (List.mem_cons_self ..))
    show (p ++ [44] ++ TX.glue [44] (q :: r)).count 44 + 1 = _
    rw [List.count_append, List.count_append, this, List.length_cons, ← ih]
    have : List.count 44 [44] = 1 := by decide
    omega
theorem parts_com (x : Str) : (Txt.split x comma).length = com x + 1 := by
  have eb : comma = ⟨#[44]⟩ := TX.str_ext (by rw [comma_codes])
  have fr : ∀ p ∈ Txt.split x comma, 44 ∉ p.cps.toList := TX.split_freeG x comma 44 (by decide +kernel) (by decide +kernel) fun k e => by
    have z := (PySem.StrLaws.subAt_one x 44 k).mpr e
    rw [← eb] at z
    exact z
  have e := PySem.StrLaws.join_split x comma
  have e2 : x.cps.toList = TX.glue [44] ((Txt.split x comma).map fun p => p.cps.toList) := by rw [← comma_codes, ← TX.glue_str, e]
  have p1 := PyProof.Rows.split_pos x comma
  have := count_glue (L := (Txt.split x comma).map fun p => p.cps.toList) (fun z => by
    rw [List.map_eq_nil_iff] at z
    rw [z] at p1
    exact absurd p1 (by decide)) fun p hp => by
      obtain ⟨q, hq, rfl⟩ := List.mem_map.mp hp
      exact fr q hq
  unfold com
  rw [e2, this, List.length_map]
theorem com_cat (x y : Str) : com (x ++ y) = com x + com y := by
  unfold com
  rw [cat_codes, List.count_append]
theorem com_join {ps : List Str} (ne : ps ≠ []) (fr : ∀ p ∈ ps, 44 ∉ p.cps.toList) : com (Txt.join comma ps) + 1 = ps.length := by
  rw [← parts_com, split_comma ne fr]
theorem com_sub {x y : Str} (h : x.cps.toList <:+: y.cps.toList) : com x ≤ com y := h.sublist.count_le 44
theorem cut2_codes (x : Str) : (cut2 x).cps.toList = x.cps.toList.drop 2 := slice_from x 2
theorem cut2_com (x : Str) : com (cut2 x) ≤ com x := com_sub (by rw [cut2_codes]; exact (List.drop_suffix 2 _).isInfix)
theorem setok_of {x : Str} (hl : x.length ≤ 1000000) (hp : ∀ p ∈ Txt.split (cut2 x) comma, SpOk p) (hc : com x ≤ 60) : SetOk x :=
  ⟨hl, hp, ⟨by rw [parts_com]; have := cut2_com x; omega, by rw [parts_com]; have := cut2_com x; have := cut2_com (cut2 x); omega⟩⟩
theorem cut2_cat {t y : Str} (ht : t.cps.toList.length = 2) : cut2 (t ++ y) = y := by
  refine TX.str_ext ?_
  rw [cut2_codes, cat_codes, List.drop_left' ht]
theorem starts_cat {t y : Str} (ht : t.cps.toList.length = 2) : Txt.startswith (t ++ y) t = true := by
  rw [starts_two' ht]
  refine decide_eq_true (TX.str_ext ?_)
  have e : (Txt.slice (t ++ y) none (some 2)).cps.toList = (t ++ y).cps.toList.take 2 := slice_to _ 2
  rw [e, cat_codes, List.take_left' ht]
theorem two_n : ("n:" : Str).cps.toList.length = 2 := by decide +kernel
theorem two_w : ("w:" : Str).cps.toList.length = 2 := by decide +kernel
theorem two_s : ("*-" : Str).cps.toList.length = 2 := by decide +kernel
theorem n_of_w (y : Str) : Txt.startswith (("w:" : Str) ++ y) "n:" = false := by
  rw [starts_two' two_n]
  refine decide_eq_false fun z => ?_
  have e : (Txt.slice (("w:" : Str) ++ y) none (some 2)).cps.toList = (("w:" : Str) ++ y).cps.toList.take 2 := slice_to _ 2
  rw [z, cat_codes, List.take_left' two_w] at e
  exact absurd e (by decide +kernel)
theorem wrd_free {x : Str} (h : isW x) : 44 ∉ x.cps.toList := fun z => by have := h.2.2 44 z; omega
theorem join_head {w : Str} {ws : List Str} (h : isW w) : ∃ c r, (Txt.join comma (w :: ws)).cps.toList = c :: r ∧ 97 ≤ c ∧ c ≤ 122 := by
  rw [TX.join_eq, TX.glue_str, comma_codes]
  have hne : w.cps.toList ≠ [] := fun z => by have := h.1; rw [len_codes, z] at this; cases this
  cases e : w.cps.toList with
  | nil => exact absurd e hne
  | cons c r =>
    have hc := h.2.2 c (by rw [e]; exact List.mem_cons_self ..)
    cases ws with
    | nil => exact ⟨c, r, by rw [List.map_cons, List.map_nil]; exact e, hc⟩
    | cons w' ws => exact ⟨c, _, by rw [List.map_cons, List.map_cons]; show w.cps.toList ++ [44] ++ _ = _; rw [e]; rfl, hc⟩
theorem readL_join {b : Bool} {ws : List Str} (ne : ws ≠ []) (hp : ws.Pairwise ltS) (hw : ∀ x ∈ ws, isW x) : readL b (Txt.join comma ws) = some (.wrd b ws) := by
  unfold readL
  rw [split_comma ne fun p hp => wrd_free (hw p hp)]
  exact if_pos ⟨fun p hp => wordB_wrd (hw p hp), hp⟩
theorem readW_words {b : Bool} {ws : List Str} (hp : ws.Pairwise ltS) (hw : ∀ x ∈ ws, isW x) : readW (wordsT b ws) = some (.wrd b ws) := by
  unfold wordsT
  cases ws with
  | nil =>
    cases b with
    | true => rw [if_pos rfl, if_pos rfl]; unfold readW; rw [if_pos rfl]
    | false => rw [if_neg (by decide), if_pos rfl]; unfold readW; rw [if_neg (by decide +kernel), if_pos rfl]
  | cons w ws =>
    obtain ⟨c, r, e, hc⟩ := join_head (ws := ws) (hw w (List.mem_cons_self ..))
    cases b with
    | true =>
      rw [if_pos rfl, if_neg (by simp)]
      unfold readW
      rw [if_neg, if_neg, if_neg, readL_join (by simp) hp hw]
      · intro z
        rw [starts_two' two_s] at z
        have z' := of_decide_eq_true z
        have e2 : (Txt.slice (Txt.join comma (w :: ws)) none (some 2)).cps.toList = (Txt.join comma (w :: ws)).cps.toList.take 2 := slice_to _ 2
        rw [z', e] at e2
        have : ("*-" : Str).cps.toList = [42, 45] := by decide +kernel
        rw [this] at e2
        have : 42 = c := (List.cons.inj e2).1
        omega
      · intro z
        rw [z] at e
        have : ("*" : Str).cps.toList = [42] := by decide +kernel
        rw [this] at e
        have : 42 = c := (List.cons.inj e).1
        omega
      · intro z
        rw [z] at e
        have : ("-" : Str).cps.toList = [45] := by decide +kernel
        rw [this] at e
        have : 45 = c := (List.cons.inj e).1
        omega
    | false =>
      rw [if_neg (by decide), if_neg (by simp)]
      have ec : (("*-" : Str) ++ Txt.join comma (w :: ws)).cps.toList = 42 :: 45 :: c :: r := by
        rw [cat_codes, e]
        have : ("*-" : Str).cps.toList = [42, 45] := by decide +kernel
        rw [this]; rfl
      unfold readW
      rw [if_neg, if_neg, if_pos (starts_cat two_s), cut2_cat two_s, readL_join (by simp) hp hw]
      · intro z
        rw [z] at ec
        have : ("*" : Str).cps.toList = [42] := by decide +kernel
        rw [this] at ec
        simp at ec
      · intro z
        rw [z] at ec
        have : ("-" : Str).cps.toList = [45] := by decide +kernel
        rw [this] at ec
        simp at ec
theorem apart_of : ∀ {sps : List Spn}, sps.Pairwise relS → apart sps = true := fun {sps} h => by
  unfold apart
  refine List.all_eq_true.mpr fun j hj => ?_
  have hj' := List.mem_range.mp hj
  have i0 : j < sps.length := by omega
  have i1 : j + 1 < sps.length := by omega
  obtain ⟨a, b, e1, e2, lt⟩ := List.pairwise_iff_getElem.mp h j (j + 1) i0 i1 (by omega)
  have eg1 : sps.getD (j + 1) (none, none) = sps[j + 1] := by rw [List.getD_eq_getElem?_getD, List.getElem?_eq_getElem i1]; rfl
  have eg0 : sps.getD j (none, none) = sps[j] := by rw [List.getD_eq_getElem?_getD, List.getElem?_eq_getElem i0]; rfl
  rw [eg1, eg0]
  exact behind_iff.mpr ⟨a, b, e1, e2, by omega⟩
theorem readSps_spans {sps : List Spn} (hp : sps.Pairwise relS) (ho : ∀ s ∈ sps, okSp s) : readSps (spansT sps) = some sps := by
  unfold spansT
  by_cases ne : sps = []
  · rw [if_pos ne, ne]; unfold readSps; rw [if_pos rfl]
  rw [if_neg ne]
  have hs : Txt.split (Txt.join comma (sps.map spanT)) comma = sps.map spanT := split_comma (fun z => ne (List.map_eq_nil_iff.mp z)) fun p hp => by
    obtain ⟨s, _, rfl⟩ := List.mem_map.mp hp
    exact spanT_free s
  have ha : allSome ((sps.map spanT).map readSp) = some sps := by
    refine allSome_some.mpr ?_
    rw [List.map_map]
    exact List.map_congr_left fun s hs => readSp_span (ho s hs)
  unfold readSps
  rw [if_neg, hs, ha]
  · show (if apart sps = true then some sps else none) = some sps
    rw [if_pos (apart_of hp)]
  · intro z
    rw [z] at hs
    have e1 : Txt.split "-" comma = [("-" : Str)] := by decide +kernel
    rw [e1] at hs
    cases sps with
    | nil => exact ne rfl
    | cons s r =>
      rw [List.map_cons] at hs
      have : ("-" : Str) = spanT s := (List.cons.inj hs).1
      have r1 := readSp_span (ho s (List.mem_cons_self ..))
      rw [← this] at r1
      have r2 : readSp "-" = none := by
        unfold readSp
        rw [show hasDots "-" = false by decide +kernel, if_pos rfl, if_neg (by decide +kernel)]
      rw [r2] at r1; cases r1
theorem readS_set {S : CSet} (ok : okS S) : readS (setT S) = some S := by
  cases S with
  | num sps =>
    unfold readS setT
    rw [if_pos (starts_cat two_n), cut2_cat two_n, readSps_spans ok.2.1 ok.2.2]
    rfl
  | wrd b ws =>
    unfold readS setT
    rw [if_neg (by rw [n_of_w]; decide), if_pos (starts_cat two_w), cut2_cat two_w, readW_words ok.2.1 ok.2.2]
theorem set_len {S : CSet} (ok : okS S) : (setT S).length ≤ 9000 := by
  cases S with
  | num sps =>
    unfold setT spansT
    rw [cat_len, show ("n:" : Str).length = 2 by decide +kernel]
    by_cases ne : sps = []
    · rw [if_pos ne]; decide +kernel
    · rw [if_neg ne]
      have := join_len (l := sps.map spanT) (b := 202) (fun x hx => by
        obtain ⟨s, hs, rfl⟩ := List.mem_map.mp hx
        exact spanT_len (ok.2.2 s hs).2) (by rw [List.length_map]; exact ok.1)
      omega
  | wrd b ws =>
    unfold setT wordsT
    rw [cat_len, show ("w:" : Str).length = 2 by decide +kernel]
    by_cases ne : ws = []
    · rw [if_pos ne, if_pos ne]; cases b <;> decide +kernel
    · rw [if_neg ne, if_neg ne]
      have := join_len (l := ws) (b := 8) (fun x hx => (ok.2.2 x hx).2.1) ok.1
      cases b
      · rw [if_neg (by decide), cat_len, show ("*-" : Str).length = 2 by decide +kernel]; omega
      · rw [if_pos rfl]; omega
theorem numok_run {x : Str} (h : RunB 600 x) : NumOk x := fun hb => by
  obtain ⟨_, h2, _⟩ := numB_iff.mp hb
  have hd := fig_iff.mp h2
  have hi : (remM x).cps.toList <:+: x.cps.toList := by
    by_cases h : x.cps.toList[0]? = some 45
    · rw [remM_yes h]
      have e : (Txt.slice x (some 1) none).cps.toList = x.cps.toList.drop 1 := slice_from x 1
      rw [e]
      exact (List.drop_suffix 1 _).isInfix
    · rw [remM_no h]; exact List.infix_rfl
  have hlen : x.length ≤ (remM x).length + 1 := by
    by_cases h : x.cps.toList[0]? = some 45
    · rw [remM_yes h]
      have e : (Txt.slice x (some 1) none).cps.toList = x.cps.toList.drop 1 := slice_from x 1
      rw [len_codes (Txt.slice x (some 1) none), e, List.length_drop, len_codes]
      omega
    · rw [remM_no h]; exact Nat.le_succ _
  have := h _ hi hd
  rw [len_codes (remM x)] at hlen
  omega
theorem set_run {x : Str} (h : RunB 600 x) (hl : x.length ≤ 100000) (hc : com x ≤ 60) : SetOk x := by
  refine setok_of (by omega) (fun p hp => ?_) hc
  have hi : p.cps.toList <:+: x.cps.toList := (part_infix hp).trans (by rw [cut2_codes]; exact (List.drop_suffix 2 _).isInfix)
  have sub : ∀ {q : Str}, q.cps.toList <:+: p.cps.toList → NumOk q := fun {q} hq => numok_run (RunC.sub h (hq.trans hi))
  have hpl : p.length ≤ 100000 := Nat.le_trans (infix_len hi) hl
  obtain ⟨f1, f2, f3⟩ := PyProof.Rows.fact_partition p dots
  have ex : ∀ a b, (p.cps.extract a b).toList <:+: p.cps.toList := fun a b => by
    rw [Array.toList_extract, List.extract_eq_drop_take]
    exact (List.take_prefix _ _).isInfix.trans (List.drop_suffix _ _).isInfix
  refine ⟨sub List.infix_rfl, sub ?_, sub ?_, by omega, by omega⟩
  · unfold Txt.partition
    split
    · exact ex _ _
    · exact List.infix_rfl
  · unfold Txt.partition
    split
    · exact ex _ _
    · exact (List.nil_prefix).isInfix
end My
set_option maxHeartbeats 4000000
namespace L2
open PySem
def tTryN (K : PySem.W.Frag) (tb : TS) (E : XK) (Cc : Addr) (ts : TS) : TS := fun D σ H => tb D σ H ∧ ∀ (σ' : St) (C e : Addr) (od : Option Addr) (H' : Hp), σ'.length = σ.length → H' e = some (xO e C od) → E (.ref C) (some e) H' →
  PySem.W.exmOne K (.ref C) (.ref Cc) = some true ∧ ts D σ' H'
theorem ps_tryN {X : Cx} {E : XK} {L Cc : Addr} {x : Str} {body suite : List Stmt} {b0 : Stmt} {np hpos pos : Pos} {tb ts : TS} (tp : Top X L) (hg : Gl X x) (hm : X.mg x = some (.ref Cc))
    (hb : ∀ pins, PSs ((X.bear pins).xs E) body tb) (hs : ∀ e, PSs (X.inx e) (b0 :: suite) ts) (hdb : (x == ("__debug__" : Str)) = false := by decide) :
    PS X (.Try body [.ExceptHandler (some (.Name x np)) none (b0 :: suite) hpos] [] [] pos) (tTryN X.K tb E Cc ts) := by
  intro pins s σ H D I h
  obtain ⟨h1, h2⟩ := h
  have back : ∀ {f : Flow} {s1 : Shared}, SP ((X.bear pins).xs E) [] D f s1 → SP X pins D f s1 := fun {f s1} z => by
    cases f with
    | next => obtain ⟨σ', H', I', q⟩ := z; exact ⟨σ', H', I'.unwish.unbear, q⟩
    | brk => obtain ⟨σ', H', I', q⟩ := z; exact ⟨σ', H', I'.unwish.unbear, q⟩
    | cont => obtain ⟨σ', H', I', q⟩ := z; exact ⟨σ', H', I'.unwish.unbear, q⟩
    | ret u => obtain ⟨v, σ', H', I', r, q⟩ := z; exact ⟨v, σ', H', I'.unwish.unbear, r, q⟩
  refine wpAny_Try_except (wpAny_mono (hb pins [] s σ H D (I.bear.wish _) h1) (fun f s1 z => ?_) fun ev s1 hx => ?_)
  · cases f with
    | next => exact wpAny_execs_nil (back z)
    | brk => exact back (f := .brk) z
    | cont => exact back (f := .cont) z
    | ret u => exact back (f := .ret u) z
  obtain ⟨e, C, od, σ1, H1, rfl, I1, f1, hE⟩ := hx
  have tpb : Top (X.bear pins) L := ⟨tp.ex, tp.fr⟩
  have hlen : σ1.length = σ.length := by rw [I1.len]; exact I.len.symm
  obtain ⟨hm1, hts⟩ := h2 σ1 C e od H1 hlen f1.at_ hE
  refine note_go (X := X.bear pins) I1.ok.frames tpb tp.fr I1 f1 fun s2 T I2 f2 => ?_
  refine flight_go I2 f2 none fun s3 I3 f3 => ?_
  refine wpAny_handleBy_cons (codeAny_handlers_test ?_) (by intro z; cases z)
  have I3m : Inv (X.inx e) pins σ1 H1 s3 := I3.unbear.inx e
  refine ld_glob (X := X.inx e) I3m hg hm ?_ hdb
  obtain ⟨⟨fl, sl, ho4⟩, _⟩ := I3.hok e _ f3.at_
  have LT : PySem.W.Looks (model X.prog X.w) s3.heap (typeOf (.ref e)) (.ref C) := (PySem.W.Looks.ld ho4).andThen .now
  refine (PySem.W.exm_one I3m.kIn LT hm1).here ?_
  refine codeAny_handlers_suite ?_
  refine flight_go I3 f3 none fun s5 I5 f5 => ?_
  refine wpAny_mono (hs e pins s5 _ H1 _ (I5.unbear.inx e) hts) (fun f s7 z => ?_) fun _ _ z => False.elim z
  cases f with
  | next => obtain ⟨σ', H', I', q⟩ := z; exact ⟨σ', H', I'.outx I.ok, q⟩
  | brk => obtain ⟨σ', H', I', q⟩ := z; exact ⟨σ', H', I'.outx I.ok, q⟩
  | cont => obtain ⟨σ', H', I', q⟩ := z; exact ⟨σ', H', I'.outx I.ok, q⟩
  | ret u => obtain ⟨v, σ', H', I', r, q⟩ := z; exact ⟨v, σ', H', I'.outx I.ok, r, q⟩
end L2
set_option maxHeartbeats 4000000
namespace My
open PySem L2 CT CS
structure Kit (K : PySem.W.Frag) : Prop where
  kn : PySem.W.kitOne K (.type "NoneType") (.type "str") = some false
  is_ : PySem.W.kitOne K (.type "int") (.type "str") = some false
  kl : PySem.W.kitOne K (.type "list") (.type "str") = some false
  kt : PySem.W.kitOne K (.type "tuple") (.type "str") = some false
  ib : PySem.W.kitOne K (.type "int") (.type "bool") = some false
  si : PySem.W.kitOne K (.type "str") (.type "int") = some false
def isCl (v : V) : Prop := (∃ n, v = .int n) ∨ ∃ x, v = .str x
def isI : V → Bool
  | .int _ => true
  | _ => false
def spIsNumber : Sp := fun vs H Q _ => ∃ v, vs = [v] ∧ isCl v ∧ Q (.bl (isI v)) H
def spInSpan : Sp := fun vs H Q _ => ∃ a s n, vs = [.ref a, .int n] ∧ H a = some (.tup [eV s.1, eV s.2]) ∧ Q (.bl (inSp s n)) H
def spHas : Sp := fun vs H Q _ => ∃ a S v, vs = [.ref a, v] ∧ SetAt H a S ∧ okS S ∧ isCl v ∧ ∀ H', Same H H' → Q (.bl (hasV S v)) H'
theorem eV_non {o : Option Int} : decide (eV o = .non) = o.isNone := by cases o <;> simp [eV]
theorem inV_str {x : Str} {ws : List Str} : inV (.str x) (ws.map V.str) = decide (x ∈ ws) := by
  unfold inV
  rw [List.any_map, Bool.eq_iff_iff, List.any_eq_true, decide_eq_true_eq]
  constructor
  · rintro ⟨y, hy, e⟩
    have : y = x := by simpa [eqV] using e
    rw [← this]
    exact hy
  · exact fun h => ⟨x, h, by simp [eqV]⟩
theorem flat_str (ws : List Str) : (ws.map V.str).all flatV = true := by
  rw [List.all_eq_true]
  intro v hv
  obtain ⟨x, _, rfl⟩ := List.mem_map.mp hv
  rfl
theorem same_put {H H1 : Hp} {D : Addr} {o : HO} (hD : H D = none) (s : Same H H1) : Same H (upd H1 D o) := fun b u eb => by
  by_cases hb : b = D
  · subst hb
    exact absurd eb (by rw [hD]; simp)
  · rw [upd_ne hb]; exact s _ _ eb
theorem take_snocG {α β : Type} {l : List α} {i : Nat} {c : α} (h : l[i]? = some c) (p : α → β) : (l.take (i + 1)).map p = (l.take i).map p ++ [p c] := by
  rw [List.take_add_one, h, List.map_append]
  rfl
theorem mem_take_succ {α : Type} {L : List α} {i : Nat} {x : α} (e : L[i]? = some x) {p : α → Prop} (h : ∀ y ∈ L.take i, p y) (hx : p x) : ∀ y ∈ L.take (i + 1), p y := by
  intro y hy
  rw [List.take_add_one, e] at hy
  rcases List.mem_append.mp hy with z | z
  · exact h y z
  · have : y = x := by simpa using z
    rw [this]; exact hx
theorem rd_inspan {l h : Option Int} {n : Int} {i j k : Nat} {σ : St} {H : Hp} {Q : Bool → Hp → Prop} (e1 : σ[i]? = some (some (eV l))) (e2 : σ[j]? = some (some (eV h))) (e3 : σ[k]? = some (some (.int n))) (q : Q (inSp (l, h) n) H) :
    tAnd (tOr (tTest (tOp (fun x y H Q => y = .non ∧ Q (.bl (decide (x = .non))) H) (tVar i) (tC .non))) (tTest (tOp (rI0 fun i j => .bl (decide (i ≤ j))) (tVar i) (tVar k))))
      (tOr (tTest (tOp (fun x y H Q => y = .non ∧ Q (.bl (decide (x = .non))) H) (tVar j) (tC .non))) (tTest (tOp (rI0 fun i j => .bl (decide (i ≤ j))) (tVar k) (tVar j)))) σ H Q := by
  have second : ∀ c : Bool, (c = true → inSp (l, h) n = h.all fun h => decide (n ≤ h)) → (c = false → inSp (l, h) n = false) → if c = true then
      tOr (tTest (tOp (fun x y H Q => y = .non ∧ Q (.bl (decide (x = .non))) H) (tVar j) (tC .non))) (tTest (tOp (rI0 fun i j => .bl (decide (i ≤ j))) (tVar k) (tVar j))) σ H Q else Q false H := fun c h1 h2 => by
    cases c with
    | false => rw [h2 rfl] at q; exact iteF q
    | true =>
      rw [h1 rfl] at q
      refine iteT ⟨_, e2, rfl, _, rfl, ?_⟩
      rw [eV_non]
      cases h with
      | none => exact iteT q
      | some h => exact iteF ⟨_, e3, _, e2, _, _, rfl, rfl, _, rfl, q⟩
  refine ⟨_, e1, rfl, _, rfl, ?_⟩
  rw [eV_non]
  cases l with
  | none => exact iteT (second true (fun _ => by simp [inSp]) (fun z => by cases z))
  | some l => exact iteF ⟨_, e1, _, e3, _, _, rfl, rfl, _, rfl, second _ (fun z => by unfold inSp; simp only [Option.all_some, z, Bool.true_and]) (fun z => by unfold inSp; simp only [Option.all_some, z, Bool.false_and])⟩
theorem spans_at {H : Hp} {t : Addr} {as : List Addr} {sps : List Spn} (h : SpansAt H t as sps) {i : Nat} {x : V} (hx : (as.map V.ref)[i]? = some x) : ∃ (b : Addr) (s : Spn), x = .ref b ∧ sps[i]? = some s ∧ H b = some (.tup [eV s.1, eV s.2]) := by
  rw [List.getElem?_map] at hx
  cases e : as[i]? with
  | none => rw [e] at hx; cases hx
  | some b =>
    rw [e] at hx
    have hx' : V.ref b = x := Option.some.inj hx
    subst hx'
    have hi : i < sps.length := by rw [← h.len]; exact (List.getElem?_eq_some_iff.mp e).1
    have er : sps[i]? = some sps[i] := List.getElem?_eq_getElem hi
    exact ⟨b, sps[i], rfl, er, h.at_ i b _ e er⟩
section
variable {P : Program} {w : World} {K : PySem.W.Frag} {mg : Str → Option Value} {base : Heap} {f g1 g2 : Addr} {fd d1 d2 : FuncData}
theorem ok_isnumber (B : Blt mg) (B2 : Blt2 mg) (Kt : Kit K) (F : Fun K "is_number" "is_number" sIsNumber f fd) : FnOk P w K mg base CX0 1 f fd ["cell"] spIsNumber := by
  refine F.ok scIsNumber (fun vs H Q E h => ?_) (fun cdv A outer s H vs Q E hr h => ?_)
  · obtain ⟨x, rfl, _⟩ := h
    rfl
  obtain ⟨x, rfl, hx, q⟩ := h
  refine ⟨_, pss_one (ps_ret (pe_and (pe_callB call_isinst rfl B.isinstance PyProof.Rows.boot_isinstance (pa_cons (pv 0) (pa_cons (pe_bty (n := "int") rfl B2.int PyProof.Rows.boot_int) pa_nil)))
    (pe_one (pe_not (pe_callB call_isinst rfl B.isinstance PyProof.Rows.boot_isinstance (pa_cons (pv 0) (pa_cons (pe_bty (n := "bool") rfl B2.bool (by decide +kernel)) pa_nil))))))), ?_⟩
  rcases hx with ⟨n, rfl⟩ | ⟨y, rfl⟩
  · refine ⟨_, rfl, _, _, _, _, _, rfl, rfl, .inl (.int n), kit_same (by decide), true, rfl, ?_⟩
    refine iteT ?_
    exact ⟨_, rfl, _, _, _, _, _, rfl, rfl, .inl (.int n), Kt.ib, false, rfl, q⟩
  · refine ⟨_, rfl, _, _, _, _, _, rfl, rfl, .inl (.str y), Kt.si, false, rfl, ?_⟩
    exact iteF q
theorem ok_inspan (F : Fun K "in_span" "in_span" sInSpan f fd) : FnOk P w K mg base CX0 1 f fd ["span", "number"] spInSpan := by
  refine F.ok scInSpan (fun vs H Q E h => ?_) (fun cdv A outer s H vs Q E hr h => ?_)
  · obtain ⟨a, sp, n, rfl, _⟩ := h
    rfl
  obtain ⟨a, ⟨l, h⟩, n, rfl, ha, q⟩ := h
  refine ⟨_, pss_cons (ps_asg (pv 0) (pg_tup rfl (pgs_cons (pg_name (i := 2) scInSpan.nd rfl (Or.inl rfl)) (pgs_cons (pg_name (i := 3) scInSpan.nd rfl (Or.inl rfl)) pgs_nil))))
    (pss_one (ps_ret (pe_and (pe_or (pe_cmpR op_isN (pv 2) pe_non (nomark _)) (pe_one (pe_cmpR op_le (pv 2) (pv 1) (nomark _)))) (pe_one (pe_or (pe_cmpR op_isN (pv 3) pe_non (nomark _)) (pe_one (pe_cmpR op_le (pv 1) (pv 3) (nomark _)))))))), ?_⟩
  refine ⟨_, rfl, a, _, rfl, SqT.of ha, rfl, _, _, rfl, _, _, rfl, rfl, ?_⟩
  have second : ∀ c : Bool, (c = true → inSp (l, h) n = h.all fun h => decide (n ≤ h)) → (c = false → inSp (l, h) n = false) → ∃ c', V.bl c = .bl c' ∧ if c' = true then
      tOrV (tOp (fun x y H Q => y = .non ∧ Q (.bl (decide (x = .non))) H) (tVar 3) (tC .non)) (tOp (rI0 fun i j => .bl (decide (i ≤ j))) (tVar 1) (tVar 3)) [some (.ref a), some (.int n), some (eV l), some (eV h)] H Q else Q (.bl false) H := fun c h1 h2 => by
    refine ⟨c, rfl, ?_⟩
    cases c with
    | false => rw [h2 rfl] at q; exact iteF q
    | true =>
      rw [h1 rfl] at q
      refine iteT ⟨_, rfl, rfl, _, rfl, ?_⟩
      rw [eV_non]
      cases h with
      | none => exact iteT q
      | some h => exact iteF ⟨_, rfl, _, rfl, _, _, rfl, rfl, q⟩
  refine ⟨_, rfl, rfl, _, rfl, ?_⟩
  have q' := q
  rw [eV_non]
  cases l with
  | none => exact iteT (second true (fun _ => by simp [inSp]) (fun z => by cases z))
  | some l => exact iteF ⟨_, rfl, _, rfl, _, _, rfl, rfl, second _ (fun z => by unfold inSp; simp only [Option.all_some, z, Bool.true_and]) (fun z => by unfold inSp; simp only [Option.all_some, z, Bool.false_and])⟩
theorem ok_has (B : Blt mg) (B2 : Blt2 mg) (Kt : Kit K) (F : Fun K "has" "has" sHas f fd)
    (G1 : FnOk P w K mg base CX0 1 g1 d1 ["cell"] spIsNumber) (b1 : Binds K d1 ["cell"] []) (k1 : PySem.W.keepIn K (.ref g1) = true) (m1 : mg "is_number" = some (.ref g1))
    (G2 : FnOk P w K mg base CX0 1 g2 d2 ["span", "number"] spInSpan) (b2 : Binds K d2 ["span", "number"] []) (k2 : PySem.W.keepIn K (.ref g2) = true) (m2 : mg "in_span" = some (.ref g2)) :
    FnOk P w K mg base CX0 2 f fd ["told", "cell"] spHas := by
  refine F.ok scHas (fun vs H Q E h => ?_) (fun cdv A outer s H vs Q E hr h => ?_)
  · obtain ⟨a, S, v, rfl, _⟩ := h
    rfl
  obtain ⟨a, S, v, rfl, ha, ho, hv, q⟩ := h
  refine ⟨_, pss_cons (ps_if (pt_cmpR op_eq (pe_ixt (pv 0) pe_int (fun _ _ => rfl)) pe_str (nomark _)) (pss_one (ps_ret (pe_and (pe_call G1 hr rfl m1 k1 b1 .nil pass0 (pa_cons (pv 1) pa_nil))
      (pe_one (pe_callB (call_anyL rfl) rfl B2.any PyProof.Rows.boot_any (pa_cons (pe_lcomp (N' := ["span", "cell"]) (src := [none, some 1]) rfl (CompSc.ofB (by kernel_rfl)) (pi_tup (pe_ixt (pv 0) pe_int (fun _ _ => rfl))) (fun cl C s H fp => pgl (i := 0)) (fun cl C s H fp => pifs_nil)
        (fun cl C s H fp => pe_call G2 hr glc m2 k2 b2 .nil pass0 (pa_cons (pvl 0) (pa_cons (pvf 1) pa_nil)))) pa_nil)))))) pss_nil)
    (pss_one (ps_ret (pe_and (pe_callB call_isinst rfl B.isinstance PyProof.Rows.boot_isinstance (pa_cons (pv 1) (pa_cons (pe_bty (n := "str") rfl B2.str PyProof.Rows.boot_str) pa_nil)))
      (pe_one (pe_cmpR op_eq (pe_cmpR op_in_seq (pv 1) (pe_ixt (pv 0) pe_int (fun _ _ => rfl)) rfl) (pe_ixt (pv 0) pe_int (fun _ _ => rfl)) (nomark _)))))), ?_⟩
  cases S with
  | num sps =>
    obtain ⟨t, as, h1, h2⟩ := ha
    refine ⟨_, rfl, a, _, _, _, rfl, rfl, SqT.of h1, rfl, rfl, _, rfl, ?_⟩
    refine ite2 (fun _ => ?_) (fun c => absurd (decide_eq_true rfl) c)
    refine ⟨_, rfl, v, rfl, hv, _, rfl, ?_⟩
    rcases hv with ⟨n, rfl⟩ | ⟨y, rfl⟩
    · refine iteT ⟨_, rfl, a, _, _, _, rfl, rfl, SqT.of h1, rfl, t, rfl, ⟨_, SqT.of h2.tup⟩, fun D hD => ?_⟩
      have hl : (as.map V.ref).length = sps.length := by rw [List.length_map, h2.len]
      refine comp_tup (xs := as.map V.ref) (fun i σ ys H' => (∃ o, σ = [o, some (.int n)]) ∧ ys = ((sps.take i).map fun s => inSp s n).map V.bl ∧ H' D = some (.lst ys) ∧ Same H H') ⟨⟨none, rfl⟩, rfl, upd_same, same_new hD _⟩ ?_ ?_ ?_ ?_ ?_
      · rintro i σ ys H' _ ⟨_, rfl, h, _⟩
        refine ⟨h, ?_⟩
        rw [List.length_map, List.length_map, List.length_take]
        exact Nat.min_le_left _ _
      · rintro i σ ys H' _ ⟨_, _, _, sm⟩
        exact SqT.of (sm _ _ h2.tup)
      · rw [hl]; exact Nat.le_trans ho.1 (by decide)
      · rintro i x σ ys H' hx ⟨⟨o, rfl⟩, rfl, h, sm⟩
        rw [List.getElem?_map] at hx
        cases e : as[i]? with
        | none => rw [e] at hx; cases hx
        | some b =>
          rw [e] at hx
          have hx' : V.ref b = x := Option.some.inj hx
          subst hx'
          have hi : i < sps.length := by rw [← h2.len]; exact (List.getElem?_eq_some_iff.mp e).1
          have er : sps[i]? = some sps[i] := List.getElem?_eq_getElem hi
          refine ⟨_, rfl, _, rfl, b, sps[i], n, rfl, sm _ _ (h2.at_ i b _ e er), h, ⟨_, rfl⟩, ?_, upd_same, same_put hD sm⟩
          rw [take_snocG er, List.map_append]
          rfl
      · rintro σ ys H' ⟨_, rfl, h, sm⟩
        refine ⟨D, _, rfl, SqL.of h, ?_⟩
        have e : ((sps.take (as.map V.ref).length).map fun s => inSp s n).any id = hasV (.num sps) (.int n) := by
          rw [hl, List.take_of_length_le (Nat.le_refl _), List.any_map]
          rfl
        rw [e]
        exact q H' sm
    · exact iteF (q H (Same.refl H))
  | wrd b ws =>
    obtain ⟨t, h1, h2⟩ := ha
    refine ⟨_, rfl, a, _, _, _, rfl, rfl, SqT.of h1, rfl, rfl, _, rfl, ?_⟩
    refine ite2 (fun c => absurd (of_decide_eq_true c) (by decide +kernel)) (fun _ => ?_)
    rcases hv with ⟨n, rfl⟩ | ⟨y, rfl⟩
    · refine ⟨_, rfl, _, _, _, _, _, rfl, rfl, .inl (.int n), Kt.is_, false, rfl, ?_⟩
      exact iteF (q H (Same.refl H))
    · refine ⟨_, rfl, _, _, _, _, _, rfl, rfl, .inl (.str y), kit_same (by decide), true, rfl, ?_⟩
      refine iteT ⟨_, rfl, _, rfl, a, _, _, _, rfl, rfl, SqT.of h1, rfl, t, _, rfl, .inr (SqT.of h2), rfl, flat_str ws, _, rfl, a, _, _, _, rfl, rfl, SqT.of h1, rfl, rfl, ?_⟩
      show Q (.bl (decide (V.bl (inV (.str y) (ws.map V.str)) = V.bl b))) H
      have e : decide (V.bl (inV (.str y) (ws.map V.str)) = V.bl b) = hasV (.wrd b ws) (.str y) := by
        rw [dec_bl, inV_str]
        rfl
      rw [e]
      exact q H (Same.refl H)
theorem ok_lhas (B : Blt mg) (B2 : Blt2 mg) (Kt : Kit K) (F : Fun K "_law_has" "_law_has" sLHas f fd) : FnOk P w K mg base CX0 1 f fd ["_law_tale", "_law_cell_here"] spHas := by
  refine F.ok scLHas (fun vs H Q E h => ?_) (fun cdv A outer s H vs Q E hr h => ?_)
  · obtain ⟨a, S, v, rfl, _⟩ := h
    rfl
  obtain ⟨a, S, v, rfl, ha, ho, hv, q⟩ := h
  refine ⟨_, pss_cons (ps_if (pt_cmpR op_eq (pe_ixt (pv 0) pe_int (fun _ _ => rfl)) pe_str (nomark _)) (pss_one (ps_ret (pe_and (pe_callB call_isinst rfl B.isinstance PyProof.Rows.boot_isinstance (pa_cons (pv 1) (pa_cons (pe_bty (n := "str") rfl B2.str PyProof.Rows.boot_str) pa_nil)))
      (pe_one (pe_cmpR op_eq (pe_cmpR op_in_seq (pv 1) (pe_ixt (pv 0) pe_int (fun _ _ => rfl)) rfl) (pe_ixt (pv 0) pe_int (fun _ _ => rfl)) (nomark _)))))) pss_nil)
    (pss_cons (ps_if (pt_val (pe_callB call_isinst rfl B.isinstance PyProof.Rows.boot_isinstance (pa_cons (pv 1) (pa_cons (pe_bty (n := "str") rfl B2.str PyProof.Rows.boot_str) pa_nil)))) (pss_one (ps_ret pe_bl)) pss_nil)
    (pss_cons (ps_for PassesOwn.never rfl (pi_tup (pe_ixt (pv 0) pe_int (fun _ _ => rfl))) (pg_tup rfl (pgs_cons (pg_name (i := 2) scLHas.nd rfl (Or.inl rfl)) (pgs_cons (pg_name (i := 3) scLHas.nd rfl (Or.inl rfl)) pgs_nil)))
      (pss_one (ps_if (PW.pt (pw_and (PW.pt (pw_or (pt_cmpR op_isN (pv 2) pe_non (nomark _)) (pw_or1 (pt_cmpR op_le (pv 2) (pv 1) (nomark _))))) (pw_and1 (PW.pt (pw_or (pt_cmpR op_isN (pv 3) pe_non (nomark _)) (pw_or1 (pt_cmpR op_le (pv 1) (pv 3) (nomark _)))))))) (pss_one (ps_ret pe_bl)) pss_nil)))
    (pss_one (ps_ret pe_bl)))), ?_⟩
  cases S with
  | num sps =>
    obtain ⟨t, as, h1, h2⟩ := ha
    refine ⟨_, rfl, a, _, _, _, rfl, rfl, SqT.of h1, rfl, rfl, _, rfl, ?_⟩
    refine ite2 (fun c => absurd (of_decide_eq_true c) (by decide +kernel)) (fun _ => ?_)
    rcases hv with ⟨n, rfl⟩ | ⟨y, rfl⟩
    · refine ⟨_, rfl, _, _, _, _, _, rfl, rfl, .inl (.int n), Kt.is_, false, rfl, ?_⟩
      refine iteF ⟨_, rfl, a, _, _, _, rfl, rfl, SqT.of h1, rfl, t, rfl, ⟨_, SqT.of h2.tup⟩, ?_⟩
      refine for_tup (xs := as.map V.ref) (fun i σ H' => (∃ o o', σ = [some (.ref a), some (.int n), o, o']) ∧ H' = H ∧ ∀ s ∈ sps.take i, inSp s n = false) ⟨⟨none, none, rfl⟩, rfl, by simp⟩ ?_ ?_ ?_
      · rintro i σ H' _ ⟨_, rfl, _⟩
        exact SqT.of h2.tup
      · rintro i x σ H' hx ⟨⟨o, o', rfl⟩, rfl, hall⟩
        obtain ⟨b, ⟨l, h⟩, rfl, er, hb⟩ := spans_at h2 hx
        refine ⟨b, _, rfl, SqT.of hb, rfl, _, _, rfl, _, _, rfl, rfl, ?_⟩
        refine rd_inspan (l := l) (h := h) (n := n) rfl rfl rfl ?_
        refine ite2 (fun c => ?_) (fun c => ?_)
        · have e : hasV (.num sps) (.int n) = true := List.any_eq_true.mpr ⟨(l, h), List.mem_of_getElem? er, c⟩
          show Q (.bl true) H'
          rw [← e]
          exact q H' (Same.refl H')
        · exact ⟨⟨_, _, rfl⟩, rfl, mem_take_succ er hall (Bool.eq_false_iff.mpr c)⟩
      · rintro σ H' ⟨_, rfl, hall⟩
        have hl : (as.map V.ref).length = sps.length := by rw [List.length_map, h2.len]
        rw [hl, List.take_of_length_le (Nat.le_refl _)] at hall
        have e : hasV (.num sps) (.int n) = false := List.any_eq_false.mpr fun s hs => by rw [hall s hs]; decide
        show Q (.bl false) H'
        rw [← e]
        exact q H' (Same.refl H')
    · refine ⟨_, rfl, _, _, _, _, _, rfl, rfl, .inl (.str y), kit_same (by decide), true, rfl, ?_⟩
      exact iteT (q H (Same.refl H))
  | wrd b ws =>
    obtain ⟨t, h1, h2⟩ := ha
    refine ⟨_, rfl, a, _, _, _, rfl, rfl, SqT.of h1, rfl, rfl, _, rfl, ?_⟩
    refine ite2 (fun _ => ?_) (fun c => absurd (decide_eq_true rfl) c)
    rcases hv with ⟨n, rfl⟩ | ⟨y, rfl⟩
    · refine ⟨_, rfl, _, _, _, _, _, rfl, rfl, .inl (.int n), Kt.is_, false, rfl, ?_⟩
      exact iteF (q H (Same.refl H))
    · refine ⟨_, rfl, _, _, _, _, _, rfl, rfl, .inl (.str y), kit_same (by decide), true, rfl, ?_⟩
      refine iteT ⟨_, rfl, _, rfl, a, _, _, _, rfl, rfl, SqT.of h1, rfl, t, _, rfl, .inr (SqT.of h2), rfl, flat_str ws, _, rfl, a, _, _, _, rfl, rfl, SqT.of h1, rfl, rfl, ?_⟩
      show Q (.bl (decide (V.bl (inV (.str y) (ws.map V.str)) = V.bl b))) H
      have e : decide (V.bl (inV (.str y) (ws.map V.str)) = V.bl b) = hasV (.wrd b ws) (.str y) := by
        rw [dec_bl, inV_str]
        rfl
      rw [e]
      exact q H (Same.refl H)
end
end My
set_option maxHeartbeats 4000000
namespace L2
open PySem PySem.Spec PyProof.Rows
section
variable {prog : Program} {w : World} {A : Around} {E : Value → Shared → Prop} {s : Shared}
theorem nextOf_tup {it t : Addr} {i : Nat} {items : Array Value} {x : Value} {Q : Value → Shared → Prop} (hit : s.heap.IsTupleIter it t i) (ht : s.heap.IsTuple t items) (hx : items[i]? = some x)
    (hQ : ∀ h', h'.IsTupleIter it t (i + 1) → Heap.SameBut it s.heap h' → Q x { s with heap := h' }) : wpAny (model prog w) A (Builtin.SmallTypes.nextOf (.ref it)) Q E s := by
  obtain ⟨o, ho, hc, hd⟩ := id hit
  obtain ⟨ol, hol, _, nl, hdl⟩ := ht
  unfold Builtin.SmallTypes.nextOf
  refine wpAny_bind (wpAny_callSpecial?_slot (name := Str.ofString "__next__") hit.typeIs F.slot_tuple_iterator_next (wpAny_call_entry F.slot_tuple_iterator_next hit.typeIs F.entry_tuple_iterator_next ?_ (F.args_tuple_iterator_next_1 _)))
  show wpAny _ _ (field (.ref it) 0 >>= _) _ _ s
  refine wpAny_bind (wpAny_field ho hd (x := .ref t) rfl ?_)
  show wpAny _ _ (if (Value.ref t == Value.none) = true then _ else _) _ _ s
  rw [if_neg (show ¬ ((Value.ref t == Value.none) = true) from Bool.false_ne_true)]
  show wpAny _ _ (field (.ref it) 1 >>= _) _ _ s
  refine wpAny_bind (wpAny_field ho hd (x := .int i 0) rfl ?_)
  show wpAny _ _ (seqItems? (.ref t) >>= _) _ _ s
  refine wpAny_bind (wpAny_seqItems hol hdl ?_)
  simp only [Int.toNat_natCast, hx]
  refine wpAny_bind (wpAny_setField ho hd (by simp) (wpAny_pure ⟨x, rfl, wpAny_pure (hQ _ ?_ (Heap.SameBut.update ..))⟩))
  exact ⟨_, Heap.get?_update_self _ ho (Obj.isFreed_of_fields (Obj.data_mapFields hd _)), (Obj.cls_mapFields ..).trans hc, by rw [Obj.data_mapFields hd]; simp [rawInt]⟩
theorem zipT_item {z TI TO i1 i2 l1 l2 : Addr} {k : Nat} {xs ys : Array Value} {x y a b : Value} {Q : Value → Shared → Prop} (D : ZipApart z TI TO i1 i2 l1 l2)
    (hz : IsZip s.heap z TI TO .none) (hTI : IsPair s.heap TI (.ref i1) (.ref i2)) (hTO : IsPair s.heap TO a b)
    (h1 : s.heap.IsListIter i1 l1 k) (h2 : s.heap.IsTupleIter i2 l2 k) (hl1 : s.heap.IsList l1 xs) (hl2 : s.heap.IsTuple l2 ys) (hx : xs[k]? = some x) (hy : ys[k]? = some y)
    (hQ : ∀ h', IsZip h' z TI TO (rawInt s.heap.objs.size) → IsPair h' TO x y → h'.IsListIter i1 l1 (k + 1) → h'.IsTupleIter i2 l2 (k + 1) → IsPair h' s.heap.objs.size x y → h'.objs.size = s.heap.objs.size + 1 →
      (∀ c o, c ≠ z → c ≠ TO → c ≠ i1 → c ≠ i2 → s.heap.get? c = some o → h'.get? c = some o) → Q (.ref s.heap.objs.size) { s with heap := h' }) :
    wpAny (model prog w) A (Builtin.«zip.__next__» ⟨[.ref z], []⟩) (fun fin s' => ∃ v, fin = .done (.ret v) ∧ Q v s') E s := by
  show wpAny _ _ (field (.ref z) 2 >>= _) _ _ _
  refine wpAny_bind (wpAny_field hz rfl (x := .bool false) rfl ?_)
  show wpAny _ _ (field (.ref z) 3 >>= _) _ _ _
  refine wpAny_bind (wpAny_field hz rfl (x := .ref TI) rfl ?_)
  refine wpAny_bind (wpAny_seqItems hTI rfl ?_)
  show wpAny _ _ (Builtin.SmallTypes.ownedTupleIsFree (.ref z) >>= _) _ _ _
  refine wpAny_bind ?_
  unfold Builtin.SmallTypes.ownedTupleIsFree
  refine wpAny_bind (wpAny_field hz rfl (x := .none) rfl (wpAny_pure ?_))
  simp only [if_true]
  refine wpAny_bind (wpAny_rule ?_)
  refine wpAny_bind (wpAny_field hz rfl (x := .ref TO) rfl ?_)
  refine wpAny_bind (wpAny_setField_rec hz (by simp) fun g1 z1 s1 => ?_)
  replace z1 : IsZip g1 z TI TO .ellipsis := z1
  refine wpAny_bind ?_
  simp only [List.zipIdx_cons, List.zipIdx_nil, List.forIn_cons, List.forIn_nil]
  refine wpAny_bind (wpAny_bind (wpAny_onRaise ?_))
  show wpAny _ _ (Builtin.SmallTypes.nextOf (.ref i1) >>= _) _ _ _
  refine wpAny_bind (wpAny_nextOf_list_item (h1.extBut s1.extBut D.i1z) (hl1.extBut s1.extBut D.l1z) hx fun g2 a2 s2 => wpAny_pure ?_)
  have p2 : IsPair g2 TO a b := s2.extBut _ _ D.TOi1 (s1.extBut _ _ D.TOz hTO)
  refine wpAny_bind (wpAny_seqItems p2 rfl (wpAny_bind (wpAny_updateSeq_pair p2 fun g3 p3 s3 => wpAny_bind (wpAny_letGo (wpAny_pure ?_)))))
  replace p3 : IsPair g3 TO x b := p3
  refine wpAny_bind (wpAny_bind (wpAny_onRaise ?_))
  show wpAny _ _ (Builtin.SmallTypes.nextOf (.ref i2) >>= _) _ _ _
  refine wpAny_bind (nextOf_tup (((h2.extBut s1.extBut D.i2z).extBut s2.extBut D.i12.symm).extBut s3.extBut D.TOi2.symm) (((hl2.extBut s1.extBut D.l2z).extBut s2.extBut D.l2i1).extBut s3.extBut D.l2TO) hy fun g4 a4 s4 => wpAny_pure ?_)
  have p4 : IsPair g4 TO x b := s4.extBut _ _ D.TOi2 p3
  refine wpAny_bind (wpAny_seqItems p4 rfl (wpAny_bind (wpAny_updateSeq_pair p4 fun g5 p5 s5 => wpAny_bind (wpAny_letGo (wpAny_pure (wpAny_pure ?_))))))
  replace p5 : IsPair g5 TO x y := p5
  refine wpAny_bind (wpAny_seqItems p5 rfl (wpAny_bind (wpAny_newTuple ?_)))
  have hsz : g5.objs.size = s.heap.objs.size := by rw [s5.1, s4.1, s3.1, s2.1, s1.1]
  have z5 : IsZip g5 z TI TO .ellipsis := s5.extBut _ _ D.TOz.symm (s4.extBut _ _ D.i2z.symm (s3.extBut _ _ D.TOz.symm (s2.extBut _ _ D.i1z.symm z1)))
  have k5 : ∀ c o, c ≠ z → c ≠ TO → c ≠ i1 → c ≠ i2 → s.heap.get? c = some o → g5.get? c = some o := fun c o c1 c2 c3 c4 e => s5.extBut _ _ c2 (s4.extBut _ _ c4 (s3.extBut _ _ c2 (s2.extBut _ _ c3 (s1.extBut _ _ c1 e))))
  have b1 : g5.IsListIter i1 l1 (k + 1) := ((a2.extBut s3.extBut D.TOi1.symm).extBut s4.extBut D.i12).extBut s5.extBut D.TOi1.symm
  have b2 : g5.IsTupleIter i2 l2 (k + 1) := a4.extBut s5.extBut D.TOi2.symm
  have zlt : z < g5.objs.size := Heap.lt_size z5
  show wpAny _ _ (Builtin.SmallTypes.ownedTupleHandOut (.ref z) (.ref g5.objs.size) >>= _) _ _ _
  refine wpAny_bind ?_
  unfold Builtin.SmallTypes.ownedTupleHandOut
  have z6 : IsZip (g5.push { cls := .type "tuple", data := .seq #[x, y] }) z TI TO .ellipsis := Heap.get?_push_of_some _ z5
  refine wpAny_bind (wpAny_setField_rec z6 (by simp) fun g7 z7 s7 => ?_)
  replace z7 : IsZip g7 z TI TO (rawInt g5.objs.size) := z7
  refine wpAny_setField_rec z7 (by simp) fun g8 z8 s8 => ?_
  replace z8 : IsZip g8 z TI TO (rawInt g5.objs.size) := z8
  have up : ∀ c o, c ≠ z → g5.get? c = some o → g8.get? c = some o := fun c o c1 e => s8.extBut _ _ c1 (s7.extBut _ _ c1 (Heap.get?_push_of_some _ e))
  have t8 : IsPair g8 g5.objs.size x y := s8.extBut _ _ (Nat.ne_of_gt zlt) (s7.extBut _ _ (Nat.ne_of_gt zlt) (Heap.get?_push_size _ rfl))
  have n8 : g8.objs.size = g5.objs.size + 1 := by rw [s8.1, s7.1, Heap.size_push]
  rw [hsz] at z8 t8 n8
  refine wpAny_pure ⟨_, rfl, ?_⟩
  show Q (.ref g5.objs.size) _
  rw [hsz]
  exact hQ g8 z8 (up _ _ D.TOz p5) (b1.at fun o e => up _ o D.i1z e) (b2.at fun o e => up _ o D.i2z e) t8 n8 fun c o c1 c2 c3 c4 e => up c o c1 (k5 c o c1 c2 c3 c4 e)
theorem zipT_end {z TI TO i1 i2 l1 l2 : Addr} {k : Nat} {xs : Array Value} {Q : Fin → Shared → Prop} (hh : A.handled = none) (D : ZipApart z TI TO i1 i2 l1 l2)
    (hz : IsZip s.heap z TI TO .none) (hTI : IsPair s.heap TI (.ref i1) (.ref i2)) (h1 : s.heap.IsListIter i1 l1 k) (hl1 : s.heap.IsList l1 xs) (hx : xs[k]? = none)
    (hE : ∀ h' e, (∀ c o, c ≠ z → c ≠ i1 → s.heap.get? c = some o → h'.get? c = some o) → (∃ o, h'.get? e = some o ∧ o.cls = .type "StopIteration") → E (.ref e) { s with heap := h' }) :
    wpAny (model prog w) A (Builtin.«zip.__next__» ⟨[.ref z], []⟩) Q E s := by
  show wpAny _ _ (field (.ref z) 2 >>= _) _ _ _
  refine wpAny_bind (wpAny_field hz rfl (x := .bool false) rfl ?_)
  show wpAny _ _ (field (.ref z) 3 >>= _) _ _ _
  refine wpAny_bind (wpAny_field hz rfl (x := .ref TI) rfl ?_)
  refine wpAny_bind (wpAny_seqItems hTI rfl ?_)
  show wpAny _ _ (Builtin.SmallTypes.ownedTupleIsFree (.ref z) >>= _) _ _ _
  refine wpAny_bind ?_
  unfold Builtin.SmallTypes.ownedTupleIsFree
  refine wpAny_bind (wpAny_field hz rfl (x := .none) rfl (wpAny_pure ?_))
  simp only [if_true]
  refine wpAny_bind (wpAny_rule ?_)
  refine wpAny_bind (wpAny_field hz rfl (x := .ref TO) rfl ?_)
  refine wpAny_bind (wpAny_setField_rec hz (by simp) fun g1 z1 s1 => ?_)
  replace z1 : IsZip g1 z TI TO .ellipsis := z1
  refine wpAny_bind ?_
  simp only [List.zipIdx_cons, List.zipIdx_nil, List.forIn_cons, List.forIn_nil]
  refine wpAny_bind (wpAny_bind (wpAny_onRaise ?_))
  show wpAny _ _ (Builtin.SmallTypes.nextOf (.ref i1) >>= _) _ _ _
  refine wpAny_bind (wpAny_nextOf_list_end hh (h1.extBut s1.extBut D.i1z) (hl1.extBut s1.extBut D.l1z) hx fun g2 e s2 he => ?_)
  obtain ⟨oe, hoe, hce⟩ := he
  have z2 : IsZip g2 z TI TO .ellipsis := s2 _ _ D.i1z.symm z1
  have ez : e ≠ z := fun x => by subst x; rw [z2] at hoe; cases hoe; simp at hce
  exact wpAny_setField_rec z2 (by simp) fun g3 _ s3 => hE g3 e (fun c o c1 c3 x => s3.extBut _ _ c1 (s2 _ _ c3 (s1.extBut _ _ c1 x))) ⟨oe, s3.extBut _ _ ez hoe, hce⟩
theorem next_zipT_item {z TI TO i1 i2 l1 l2 : Addr} {k : Nat} {xs ys : Array Value} {x y a b : Value} {Q : Option Value → Shared → Prop} (D : ZipApart z TI TO i1 i2 l1 l2)
    (hz : IsZip s.heap z TI TO .none) (hTI : IsPair s.heap TI (.ref i1) (.ref i2)) (hTO : IsPair s.heap TO a b)
    (h1 : s.heap.IsListIter i1 l1 k) (h2 : s.heap.IsTupleIter i2 l2 k) (hl1 : s.heap.IsList l1 xs) (hl2 : s.heap.IsTuple l2 ys) (hx : xs[k]? = some x) (hy : ys[k]? = some y)
    (hQ : ∀ h', IsZip h' z TI TO (rawInt s.heap.objs.size) → IsPair h' TO x y → h'.IsListIter i1 l1 (k + 1) → h'.IsTupleIter i2 l2 (k + 1) → IsPair h' s.heap.objs.size x y → h'.objs.size = s.heap.objs.size + 1 →
      (∀ c o, c ≠ z → c ≠ TO → c ≠ i1 → c ≠ i2 → s.heap.get? c = some o → h'.get? c = some o) → Q (some (.ref s.heap.objs.size)) { s with heap := h' }) :
    wpAny (model prog w) A (pyNext (.ref z)) Q E s := by
  have hT : s.TypeIs (.ref z) "zip" := ⟨_, hz, rfl⟩
  unfold pyNext
  exact wpAny_bind (wpAny_attempt (wpAny_callSpecial?_slot (name := Str.ofString "__next__") hT F.slot_zip_next
    (wpAny_call_entry F.slot_zip_next hT F.entry_zip_next (zipT_item D hz hTI hTO h1 h2 hl1 hl2 hx hy fun h' a1 a2 a3 a4 a5 a6 a7 => wpAny_pure (hQ h' a1 a2 a3 a4 a5 a6 a7)) (F.args_zip_next_1 _))))
theorem next_zipT_end {z TI TO i1 i2 l1 l2 : Addr} {k : Nat} {xs : Array Value} {Q : Option Value → Shared → Prop} (hh : A.handled = none) (D : ZipApart z TI TO i1 i2 l1 l2)
    (hz : IsZip s.heap z TI TO .none) (hTI : IsPair s.heap TI (.ref i1) (.ref i2)) (h1 : s.heap.IsListIter i1 l1 k) (hl1 : s.heap.IsList l1 xs) (hx : xs[k]? = none)
    (hQ : ∀ h', (∀ c o, c ≠ z → c ≠ i1 → s.heap.get? c = some o → h'.get? c = some o) → Q none { s with heap := h' }) : wpAny (model prog w) A (pyNext (.ref z)) Q E s := by
  have hT : s.TypeIs (.ref z) "zip" := ⟨_, hz, rfl⟩
  unfold pyNext
  refine wpAny_bind (wpAny_attempt (wpAny_callSpecial?_slot (name := Str.ofString "__next__") hT F.slot_zip_next
    (wpAny_call_entry F.slot_zip_next hT F.entry_zip_next (zipT_end hh D hz hTI h1 hl1 hx fun h' e hk he => ?_) (F.args_zip_next_1 _))))
  obtain ⟨o, ho, hc⟩ := he
  exact wpAny_bind (wpAny_isInstance (T := "StopIteration") (b := true) ⟨o, ho, hc⟩ isSubtype_stop (wpAny_pure (hQ _ hk)))
abbrev zT1 (h : Heap) (l1 : Addr) : Heap := h.push { cls := .type "list_iterator", data := .fields #[.ref l1, .int 0 0] }
abbrev zT2 (h : Heap) (l1 l2 : Addr) : Heap := (zT1 h l1).push { cls := .type "tuple_iterator", data := .fields #[.ref l2, .int 0 0] }
abbrev zT3 (h : Heap) (l1 l2 : Addr) : Heap := (zT2 h l1 l2).push { cls := .type "tuple", data := .seq #[.ref h.objs.size, .ref (zT1 h l1).objs.size] }
abbrev zT4 (h : Heap) (l1 l2 : Addr) : Heap := (zT3 h l1 l2).push { cls := .type "tuple", data := .seq #[.none, .none] }
abbrev zT5 (h : Heap) (l1 l2 : Addr) : Heap := (zT4 h l1 l2).push { cls := .type "zip", data := .fields #[.none, .bool false, .bool false, .ref (zT2 h l1 l2).objs.size, .ref (zT3 h l1 l2).objs.size] }
theorem meets_zipT (l1 l2 : Addr) (xs ys : Array Value) : Meets (Builtin.«zip.__new__» ⟨[.type "zip", .ref l1, .ref l2], []⟩) (fun _ R s => s.heap.IsList l1 xs ∧ s.heap.IsTuple l2 ys ∧ R (.ok (.ret (.ref (zT4 s.heap l1 l2).objs.size))) { s with heap := zT5 s.heap l1 l2 }) :=
  .of_wp fun prog w A R s h => by
    obtain ⟨hp, g, d, tk, os⟩ := s; obtain ⟨hl1, hl2, h⟩ := h
    have hsub := sub_zip
    have hL1 : Heap.IsList (Shared.heap ⟨hp, g, d, tk, os⟩) l1 xs := hl1
    have hL2 : Heap.IsTuple (Shared.heap ⟨hp.push { cls := .type "list_iterator", data := .fields #[.ref l1, .int 0 0] }, g, d, tk, os⟩) l2 ys := Heap.IsTuple.push hl2 _
    wp_walk using wpAny_pyIter_list hL1, wpAny_pyIter_tuple hL2
    exact ⟨_, rfl, h⟩
theorem call_zipT {l1 l2 : Addr} {xs ys : Array Value} {Q : Value → Shared → Prop} (hl1 : s.heap.IsList l1 xs) (hl2 : s.heap.IsTuple l2 ys)
    (h : ∀ h', IsZip h' (s.heap.objs.size + 4) (s.heap.objs.size + 2) (s.heap.objs.size + 3) .none → IsPair h' (s.heap.objs.size + 2) (.ref s.heap.objs.size) (.ref (s.heap.objs.size + 1)) →
      IsPair h' (s.heap.objs.size + 3) .none .none → h'.IsListIter s.heap.objs.size l1 0 → h'.IsTupleIter (s.heap.objs.size + 1) l2 0 → h'.objs.size = s.heap.objs.size + 5 →
      (∀ c o, s.heap.get? c = some o → h'.get? c = some o) → Q (.ref (s.heap.objs.size + 4)) { s with heap := h' }) :
    wpAny (model prog w) A (call (.type "zip") [.ref l1, .ref l2]) Q E s := by
  refine callType_new F.called_zip (by decide) (F.typeCall_zip_2 _ _) (F.newCall_zip_2 _ _) (fun obj => F.args_object_init_3 obj _ _) F.entry_zip_new (meets_zipT l1 l2 xs ys) ⟨hl1, hl2, ?_⟩
  have z1 : (zT1 s.heap l1).objs.size = s.heap.objs.size + 1 := Heap.size_push ..
  have z2 : (zT2 s.heap l1 l2).objs.size = s.heap.objs.size + 2 := by rw [Heap.size_push, z1]
  have z3 : (zT3 s.heap l1 l2).objs.size = s.heap.objs.size + 3 := by rw [Heap.size_push, z2]
  have z4 : (zT4 s.heap l1 l2).objs.size = s.heap.objs.size + 4 := by rw [Heap.size_push, z3]
  have z5 : (zT5 s.heap l1 l2).objs.size = s.heap.objs.size + 5 := by rw [Heap.size_push, z4]
  have g5 : (zT5 s.heap l1 l2).get? (zT4 s.heap l1 l2).objs.size = some _ := Heap.get?_push_size _ rfl
  have g4 : (zT5 s.heap l1 l2).get? (zT3 s.heap l1 l2).objs.size = some _ := Heap.get?_push_of_some _ (Heap.get?_push_size _ rfl)
  have g3 : (zT5 s.heap l1 l2).get? (zT2 s.heap l1 l2).objs.size = some _ := Heap.get?_push_of_some _ (Heap.get?_push_of_some _ (Heap.get?_push_size _ rfl))
  have g2 : (zT5 s.heap l1 l2).get? (zT1 s.heap l1).objs.size = some _ := Heap.get?_push_of_some _ (Heap.get?_push_of_some _ (Heap.get?_push_of_some _ (Heap.get?_push_size _ rfl)))
  have g1 : (zT5 s.heap l1 l2).get? s.heap.objs.size = some _ := Heap.get?_push_of_some _ (Heap.get?_push_of_some _ (Heap.get?_push_of_some _ (Heap.get?_push_of_some _ (Heap.get?_push_size _ rfl))))
  show _ ∧ _
  rw [z2, z3, z4] at g5
  rw [z1, z2] at g3
  rw [z3] at g4
  rw [z1] at g2
  rw [z4]
  exact ⟨⟨_, g5, rfl⟩, h _ g5 g3 g4 ⟨_, g1, rfl, rfl⟩ ⟨_, g2, rfl, rfl⟩ z5 fun c o x => Heap.get?_push_of_some _ (Heap.get?_push_of_some _ (Heap.get?_push_of_some _ (Heap.get?_push_of_some _ (Heap.get?_push_of_some _ x))))⟩
end
def Itzt (K : PySem.W.Frag) (a b : Addr) : It :=
  ⟨fun i H => ∃ xs ys x y, SqL K H a xs ∧ SqT K H b ys ∧ xs[i]? = some x ∧ ys[i]? = some y,
   fun i H v H' => ∃ T x y, v = .ref T ∧ H T = none ∧ H' = upd H T (.tup [x, y]) ∧ (∀ xs, SqL K H a xs → xs[i]? = some x) ∧ ∀ ys, SqT K H b ys → ys[i]? = some y,
   fun i H => ∃ xs, SqL K H a xs ∧ xs.length ≤ i⟩
theorem turn_zipT {P : Program} {w : World} {K : PySem.W.Frag} {es : List Expr} {x1 : Nat} {pos : Pos} (a b z TI TO i1 i2 : Addr) (D : ZipApart z TI TO i1 i2 a b) :
    Turn P w K (.Tuple es x1 pos) (Itzt K a b) [z, TI, TO, i1, i2] z (fun i h => IsZip h z TI TO .none ∧ IsPair h TI (.ref i1) (.ref i2) ∧ (∃ u v, IsPair h TO u v) ∧ h.IsListIter i1 a i ∧ h.IsTupleIter i2 b i) where
  mem := by simp
  obj := fun i h st c hc => by
    obtain ⟨h1, h2, ⟨u, v, h3⟩, ⟨o4, e4, c4, d4⟩, ⟨o5, e5, c5, d5⟩⟩ := st
    simp only [List.mem_cons, List.not_mem_nil, or_false] at hc
    rcases hc with rfl | rfl | rfl | rfl | rfl
    · exact ⟨_, h1, fun v z => by cases (show Data.fields _ = Data.cell v from z)⟩
    · exact ⟨_, h2, fun v z => by cases (show Data.seq _ _ = Data.cell v from z)⟩
    · exact ⟨_, h3, fun v z => by cases (show Data.seq _ _ = Data.cell v from z)⟩
    · exact ⟨o4, e4, fun v z => by rw [d4] at z; cases z⟩
    · exact ⟨o5, e5, fun v z => by rw [d5] at z; cases z⟩
  keep := fun i h h' st k => by
    obtain ⟨h1, h2, ⟨u, v, h3⟩, h4, h5⟩ := st
    exact ⟨k z (by simp) _ h1, k TI (by simp) _ h2, ⟨u, v, k TO (by simp) _ h3⟩, h4.at fun o e => k i1 (by simp) o e, h5.at fun o e => k i2 (by simp) o e⟩
  item := by
    intro X hP hw hK hc i pins s σ H E I hf st hg
    subst hP hw hK
    obtain ⟨xs, ys, x, y, hq1, hq2, hx, hy⟩ := hg
    obtain ⟨its, rv, p, hz⟩ := I.list hq1
    obtain ⟨its2, rv2, p2, hz2⟩ := I.tuple hq2
    obtain ⟨u, hu, ru⟩ := rv.get hx
    obtain ⟨u2, hu2, ru2⟩ := rv2.get hy
    obtain ⟨h1, h2, ⟨v1, v2, h3⟩, h4, h5⟩ := st
    refine next_zipT_item D h1 h2 h3 h4 h5 p.isList p2 (x := u) (y := u2) (by simpa using hu) (by simpa using hu2) fun h' g1 g2 g3 g4 g5 hsz g6 => ⟨_, rfl, ?_⟩
    refine wpAny_letOwnedTupleGo_zip (show IsZip h' z TI TO (rawInt s.heap.objs.size) from g1) fun h'' f1 fs => ?_
    have zlt : z < s.heap.objs.size := Heap.lt_size h1
    have tne : s.heap.objs.size ≠ z := Nat.ne_of_gt zlt
    have kk : ∀ c o, c ∉ [z, TI, TO, i1, i2] → s.heap.get? c = some o → h''.get? c = some o := fun c o hc e => by
      simp only [List.mem_cons, List.not_mem_nil, or_false, not_or] at hc
      exact fs.extBut _ _ hc.1 (g6 c o hc.1 hc.2.2.1 hc.2.2.2.1 hc.2.2.2.2 e)
    have pT : IsPair h'' s.heap.objs.size u u2 := fs.extBut _ _ tne g5
    have I1 : Inv X pins σ (upd H s.heap.objs.size (.tup [x, y])) { s with heap := h'', toks := s.toks } := I.turnedNew hf kk (Nat.le_refl _) ⟨by show 2 ≤ sizeLine; decide, [u, u2], .cons ru (.cons ru2 .nil), ⟨_, pT, rfl, _, rfl⟩⟩
    have TIlt : TI < s.heap.objs.size := Heap.lt_size h2
    refine ⟨.ref s.heap.objs.size, _, I1, rfl, ⟨_, x, y, rfl, I.hok.fresh (Nat.le_refl _), rfl, fun ys hy' => by rw [I.list_inj hy' hq1]; exact hx, fun ys hy' => by rw [I.tuple_inj hy' hq2]; exact hy⟩, ⟨f1, ?_, ⟨u, u2, fs.extBut _ _ D.TOz g2⟩, g3.extBut fs.extBut D.i1z, g4.extBut fs.extBut D.i2z⟩, fun c hc => ?_⟩
    · exact fs.extBut _ _ D.TIz (g6 TI _ D.TIz D.TITO D.TIi1 D.TIi2 h2)
    · have hn := (hf c hc).1
      have : c ≠ s.heap.objs.size := by
        have lt : c < s.heap.objs.size := by
          simp only [List.mem_cons, List.not_mem_nil, or_false] at hc
          obtain ⟨o4, e4, _⟩ := h4
          obtain ⟨o5, e5, _⟩ := h5
          rcases hc with rfl | rfl | rfl | rfl | rfl
          · exact zlt
          · exact TIlt
          · exact Heap.lt_size h3
          · exact Heap.lt_size e4
          · exact Heap.lt_size e5
        exact Nat.ne_of_lt lt
      rw [upd_ne this]; exact hn
  done := by
    intro X hP hw hK hc i pins s σ H E I hf st hg
    subst hP hw hK
    obtain ⟨xs, hq1, hend⟩ := hg
    obtain ⟨its, rv, p, hz⟩ := I.list hq1
    obtain ⟨h1, h2, ⟨v1, v2, h3⟩, h4, h5⟩ := st
    have hl := rv.length
    refine next_zipT_end (I.ok.hd hc) D h1 h2 h4 p.isList (by simp; omega) fun h' g6 => ⟨rfl, I.turnedMany (t' := s.toks) hf fun c o hc e => ?_⟩
    simp only [List.mem_cons, List.not_mem_nil, or_false, not_or] at hc
    exact g6 c o hc.1 hc.2.2.2.1 e
  self := fun _ _ _ _ _ st h => wpAny_pyIter_zip st.1 h
section
variable {X : Cx}
def iZipT (K : PySem.W.Frag) (ta : TA) : TI := fun σ H R => ta σ H fun vs H1 => ∃ a b, vs = [.ref a, .ref b] ∧ (∃ xs, SqL K H1 a xs) ∧ (∃ ys, SqT K H1 b ys) ∧ R (Itzt K a b) H1
theorem pi_zipT {es : List Expr} {x1 : Nat} {tpos : Pos} {a b : Expr} {ta : TA} {p pos : Pos} (hg : Gl X "zip") (hm : X.mg "zip" = none) (ha : PA X [a, b] ta) (hs : starEach [a, b] X.env = [(false, eval a X.env), (false, eval b X.env)] := by rfl) (hs2 : starEach [b] X.env = [(false, eval b X.env)] := by rfl) :
    PI X (.Tuple es x1 tpos) (.Call (.Name "zip" p) [a, b] [] pos) (iZipT X.K ta) := by
  intro pins s σ H R I h
  refine Call_ (ld_blt I hg hm (by decide +kernel : bootBuiltins "zip" = some (.type "zip")) (PyProof.Rows.callWith_type1 (thn (ha pos pins s σ H _ I h) fun us s1 ⟨vs, H1, I1, r1, q1⟩ => ?_) (by rw [hs, hs2]) (by rw [hs2]; rfl)))
  obtain ⟨l1, l2, e, ⟨xs, hq1⟩, ⟨ys, hq2⟩, q⟩ := q1
  subst e
  cases r1 with
  | cons r rr =>
    cases rr with
    | cons r' rr =>
      cases rr
      cases r
      cases r'
      obtain ⟨its, rv, p1, hz⟩ := I1.list hq1
      obtain ⟨its2, rv2, p2, hz2⟩ := I1.tuple hq2
      have a1 : l1 < s1.heap.objs.size := by obtain ⟨_, e, _⟩ := p1.isList; exact Heap.lt_size e
      have a2 : l2 < s1.heap.objs.size := by obtain ⟨_, e, _⟩ := p2; exact Heap.lt_size e
      refine call_zipT p1.isList p2 fun h' hz hTI hTO hi1 hi2 hsz hk => ?_
      refine wpAny_pyIter_zip (show IsZip h' _ _ _ _ from hz) ?_
      refine ⟨_, [s1.heap.objs.size + 4, s1.heap.objs.size + 2, s1.heap.objs.size + 3, s1.heap.objs.size, s1.heap.objs.size + 1], _, _, H1, rfl, I1.kept (t' := s1.toks) hk, turn_zipT _ _ _ _ _ _ _ (zipApart_new a1 a2), ⟨hz, hTI, ⟨_, _, hTO⟩, hi1, hi2⟩, fun c hc => ?_, q⟩
      simp only [List.mem_cons, List.not_mem_nil, or_false] at hc
      have hle : s1.heap.objs.size ≤ c := by rcases hc with rfl | rfl | rfl | rfl | rfl <;> first | exact Nat.le_refl _ | exact Nat.le_add_right _ _
      exact I1.fpOk hle (I1.hok.fresh hle)
end
theorem comp_zipT {K : PySem.W.Frag} {a b D : Addr} {xs ys : List V} {g : TG} {tc : TT} {te : TE} {Q : VK} {σ0 : St} {H0 : Hp} (Pv : Nat → St → List V → Hp → Prop) (h0 : Pv 0 σ0 [] H0) (hD : ∀ i σ zs H, i ≤ xs.length → Pv i σ zs H → H D = some (.lst zs) ∧ zs.length ≤ i)
    (hl : ∀ i σ zs H, i ≤ xs.length → Pv i σ zs H → SqL K H a xs ∧ SqT K H b ys) (hxy : xs.length = ys.length) (hz : xs.length ≤ sizeLine)
    (hs : ∀ i x y σ zs H T, xs[i]? = some x → ys[i]? = some y → Pv i σ zs H → H T = none → g (.ref T) σ (upd H T (.tup [x, y])) fun σ2 H2 => tc σ2 H2 fun b H3 => if b = true then te σ2 H3 fun v H4 => H4 D = some (.lst zs) ∧ Pv (i + 1) σ2 (zs ++ [v]) (upd H4 D (.lst (zs ++ [v]))) else Pv (i + 1) σ2 zs H3)
    (hd : ∀ σ zs H, Pv xs.length σ zs H → Q (.ref D) H) : ∃ W : Nat → Nat → St → List V → Hp → Prop, (∃ m, W 0 m σ0 [] H0) ∧ compW (Itzt K a b) g tc te D Q W := by
  refine ⟨fun i m σ zs H => m = xs.length - i ∧ i ≤ xs.length ∧ Pv i σ zs H, ⟨xs.length, by simp, Nat.zero_le _, h0⟩, ?_⟩
  rintro i m σ zs H ⟨rfl, hi, p⟩
  obtain ⟨q1, q2⟩ := hl i σ zs H hi p
  refine ⟨(hD i σ zs H hi p).1, ?_⟩
  by_cases hlt : i < xs.length
  · have l2 : i < ys.length := by omega
    refine .inr ⟨⟨xs, ys, xs[i], ys[i], q1, q2, by simp [hlt], by simp [l2]⟩, Nat.lt_of_le_of_lt (hD i σ zs H hi p).2 (Nat.lt_of_lt_of_le hlt hz), Pv (i + 1), fun σ' ys' H' p' => ⟨xs.length - (i + 1), by omega, rfl, hlt, p'⟩, fun v H' y => ?_⟩
    obtain ⟨T, x, y, rfl, hT, rfl, hx, hy⟩ := y
    exact hs i x y σ zs H T (hx xs q1) (hy ys q2) p hT
  · have e : i = xs.length := by omega
    subst e
    exact .inl ⟨⟨xs, q1, Nat.le_refl _⟩, hd σ zs H p⟩
end L2
set_option maxHeartbeats 4000000
namespace My
open PySem L2 CT CS
def dS : CSet → D
  | .num sps => .tup [.str "n", .tup (sps.map fun s => .tup [dE s.1, dE s.2])]
  | .wrd b ws => .tup [.str "w", .bl b, .tup (ws.map D.str)]
theorem dat_set {K : PySem.W.Frag} {H : Hp} {a : Addr} {S : CSet} (h : SetAt H a S) : DAt K H (dS S) (.ref a) := by
  cases S with
  | num sps =>
    obtain ⟨t, as, ha, hs⟩ := h
    refine dat_tup ha (DsAt.cons (dat_str _) (DsAt.cons (dat_tup hs.tup (DsAt.of (by rw [List.length_map, List.length_map, hs.len]) fun i d v e1 e2 => ?_)) DsAt.nil))
    rw [List.getElem?_map] at e1 e2
    cases q1 : sps[i]? with
    | none => rw [q1] at e1; cases e1
    | some s =>
      cases q2 : as[i]? with
      | none => rw [q2] at e2; cases e2
      | some b =>
        rw [q1] at e1
        rw [q2] at e2
        cases e1
        cases e2
        exact dat_tup (hs.at_ i b s q2 q1) (DsAt.cons (dE_at _) (DsAt.cons (dE_at _) DsAt.nil))
  | wrd b ws =>
    obtain ⟨t, ha, ht⟩ := h
    refine dat_tup ha (DsAt.cons (dat_str _) (DsAt.cons (dat_bl _) (DsAt.cons (dat_tup ht (DsAt.of (by rw [List.length_map, List.length_map]) fun i d v e1 e2 => ?_)) DsAt.nil)))
    rw [List.getElem?_map] at e1 e2
    cases q1 : ws[i]? with
    | none => rw [q1] at e1; cases e1
    | some x =>
      rw [q1] at e1 e2
      cases e1
      cases e2
      exact dat_str x
theorem depth_flat {α : Type} {f : α → D} {n : Nat} (h : ∀ a, (f a).depth ≤ n) : ∀ l : List α, depths (l.map f) ≤ n
  | [] => Nat.zero_le _
  | a :: l => by rw [List.map_cons, depths]; have := h a; have := depth_flat h l; omega
theorem dE_depth (e : Option Int) : (dE e).depth = 0 := by cases e <;> simp [dE, D.depth]
theorem dS_depth (S : CSet) : (dS S).depth ≤ 3 := by
  cases S with
  | num sps =>
    have := depth_flat (f := fun s : Spn => D.tup [dE s.1, dE s.2]) (n := 1) (fun s => by simp [D.depth, depths, dE_depth]) sps
    simp only [dS, D.depth, depths]; omega
  | wrd b ws =>
    have := depth_flat (f := D.str) (n := 0) (fun s => by simp [D.depth]) ws
    simp only [dS, D.depth, depths]; omega
structure SetsAt (H : Hp) (as : List Addr) (Ss : List CSet) : Prop where
  len : as.length = Ss.length
  at_ : ∀ (i : Nat) a S, as[i]? = some a → Ss[i]? = some S → SetAt H a S
theorem SetsAt.keep {H H' : Hp} {as : List Addr} {Ss : List CSet} (k : ∀ a xs, H a = some (.tup xs) → H' a = some (.tup xs)) (h : SetsAt H as Ss) : SetsAt H' as Ss := ⟨h.len, fun i a S e1 e2 => (h.at_ i a S e1 e2).keep k⟩
theorem SetsAt.same {H H' : Hp} {as : List Addr} {Ss : List CSet} (s : Same H H') (h : SetsAt H as Ss) : SetsAt H' as Ss := h.keep fun _ _ e => s _ _ e
theorem SetsAt.snoc {H : Hp} {as : List Addr} {Ss : List CSet} {a : Addr} {S : CSet} (h : SetsAt H as Ss) (ha : SetAt H a S) : SetsAt H (as ++ [a]) (Ss ++ [S]) :=
  ⟨by rw [List.length_append, List.length_append, h.len]; rfl, pair_snoc' h.len (R := fun a S => SetAt H a S) (R' := fun a S => SetAt H a S) h.at_ (fun _ _ _ z => z) ha⟩
theorem SetsAt.get {H : Hp} {as : List Addr} {Ss : List CSet} (h : SetsAt H as Ss) {i : Nat} {v : V} (hv : (as.map V.ref)[i]? = some v) : ∃ a S, v = .ref a ∧ Ss[i]? = some S ∧ as[i]? = some a ∧ SetAt H a S := by
  rw [List.getElem?_map] at hv
  cases e : as[i]? with
  | none => rw [e] at hv; cases hv
  | some a =>
    rw [e] at hv
    cases hv
    have hi : i < Ss.length := by rw [← h.len]; exact (List.getElem?_eq_some_iff.mp e).1
    have er : Ss[i]? = some Ss[i] := List.getElem?_eq_getElem hi
    exact ⟨a, _, rfl, er, rfl, h.at_ i a _ e er⟩
structure KAt (H : Hp) (l : Addr) (as : List Addr) (Ss : List CSet) : Prop where
  lst : H l = some (.lst (as.map V.ref))
  sets : SetsAt H as Ss
theorem KAt.same {H H' : Hp} {l : Addr} {as : List Addr} {Ss : List CSet} (s : Same H H') (h : KAt H l as Ss) : KAt H' l as Ss := ⟨s _ _ h.lst, h.sets.same s⟩
theorem SetsAt.grow {p : Addr} {H H' : Hp} {as : List Addr} {Ss : List CSet} (hP : PotAt H p) (g : Grow p H H') (h : SetsAt H as Ss) : SetsAt H' as Ss := ⟨h.len, fun i a S e1 e2 => (h.at_ i a S e1 e2).grow hP g⟩
theorem KAt.grow {p : Addr} {H H' : Hp} {l : Addr} {as : List Addr} {Ss : List CSet} (hP : PotAt H p) (n : l ≠ p) (g : Grow p H H') (h : KAt H l as Ss) : KAt H' l as Ss := ⟨g.keep _ _ n h.lst, h.sets.grow hP g⟩
def sortS : CSet → Str
  | .num _ => "n"
  | .wrd _ _ => "w"
theorem set_hd {H : Hp} {a : Addr} {S : CSet} (h : SetAt H a S) : ∃ xs, H a = some (.tup (V.str (sortS S) :: xs)) := by
  cases S with
  | num sps => obtain ⟨t, as, h1, _⟩ := h; exact ⟨_, h1⟩
  | wrd b ws => obtain ⟨t, h1, _⟩ := h; exact ⟨_, h1⟩
def blank : Str := " "
def kindT (Ss : List CSet) : Str := Txt.join blank (Ss.map setT)
theorem dat_kind {K : PySem.W.Frag} {H : Hp} {l : Addr} {as : List Addr} {Ss : List CSet} (h : KAt H l as Ss) : DAt K H (.lst (Ss.map dS)) (.ref l) := by
  refine dat_lst h.lst (DsAt.of (by rw [List.length_map, List.length_map, h.sets.len]) fun i d v e1 e2 => ?_)
  obtain ⟨a, S, rfl, e3, _, hS⟩ := h.sets.get e2
  rw [List.getElem?_map, e3] at e1
  cases e1
  exact dat_set hS
theorem kind_depth (Ss : List CSet) : (D.lst (Ss.map dS)).depth ≤ 4 := by
  have := depth_flat (f := dS) (n := 3) dS_depth Ss
  simp only [D.depth]; omega
noncomputable def readK (x : Str) : Option (List CSet) := if 6 < (Txt.split x blank).length then none else allSome ((Txt.split x blank).map readS)
structure KOk (x : Str) : Prop where
  len : x.length ≤ 1000000
  parts : ∀ p ∈ Txt.split x blank, SetOk p
def spHead : Sp := fun vs H Q _ => ∃ l as Ss, vs = [.ref l] ∧ KAt H l as Ss ∧ Ss.length ≤ 6 ∧ ∀ t H', Same H H' → H' t = some (.tup (Ss.map fun S => V.str (sortS S))) → Q (.ref t) H'
def spShowKind : Sp := fun vs H Q _ => ∃ l as Ss, vs = [.ref l] ∧ KAt H l as Ss ∧ Ss.length ≤ 6 ∧ (∀ S ∈ Ss, okS S) ∧ ∀ H', Same H H' → Q (.str (kindT Ss)) H'
def spReadKindX (K : PySem.W.Frag) (CN : Addr) : Sp := fun vs H Q E => (∃ x, vs = [.str x] ∧ KOk x ∧ (∀ Ss, readK x = some Ss → ∀ l as H', Same H H' → H l = none → KAt H' l as Ss → Q (.ref l) H') ∧ (readK x = none → Exc CN H E)) ∨ ∃ v, vs = [v] ∧ NoTx K H v ∧ Exc CN H E
def isOfV (Ss : List CSet) (vs : List V) : Bool := decide (vs.length = Ss.length) && (List.range Ss.length).all fun i => hasV (Ss.getD i (.num [])) (vs.getD i .non)
def spIsOf : Sp := fun vs H Q _ => ∃ l as Ss t cs, vs = [.ref l, .ref t] ∧ KAt H l as Ss ∧ Ss.length ≤ 6 ∧ (∀ S ∈ Ss, okS S) ∧ H t = some (.tup cs) ∧ (∀ c ∈ cs, isCl c) ∧ cs.length ≤ 8 ∧ ∀ H', Same H H' → Q (.bl (isOfV Ss cs)) H'
theorem take_bl {Ss : List CSet} {vs : List V} {i : Nat} : (((List.range (i + 1)).map fun j => hasV (Ss.getD j (.num [])) (vs.getD j .non)).map V.bl) = ((List.range i).map fun j => hasV (Ss.getD j (.num [])) (vs.getD j .non)).map V.bl ++ [V.bl (hasV (Ss.getD i (.num [])) (vs.getD i .non))] := by
  rw [List.range_succ, List.map_append, List.map_append]; rfl
section
variable {P : Program} {w : World} {K : PySem.W.Frag} {mg : Str → Option Value} {base : Heap} {f g1 g2 CN : Addr} {fd d1 d2 : FuncData}
theorem ok_headof (B : Blt mg) (F : Fun K "head_of" "head_of" sHeadOf f fd) : FnOk P w K mg base CX0 1 f fd ["kind"] spHead := by
  refine F.ok scHeadOf (fun vs H Q E h => ?_) (fun cdv A outer s H vs Q E hr h => ?_)
  · obtain ⟨l, as, Ss, rfl, _⟩ := h
    rfl
  obtain ⟨l, as, Ss, rfl, ha, h6, q⟩ := h
  refine ⟨_, pss_one (ps_ret (pe_callTy call_tuple_of rfl B.tuple PyProof.Rows.boot_tuple (pa_cons (pe_lcomp (N' := ["told"]) (src := [none]) rfl (CompSc.ofB (by kernel_rfl)) (pi_list (pv 0)) (fun cl C s H fp => pgl (i := 0)) (fun cl C s H fp => pifs_nil)
      (fun cl C s H fp => pe_ix (r := rIxT K) ix_tup (pvl 0) pe_int (fun _ _ => rfl))) pa_nil))), ?_⟩
  have hlen : (as.map V.ref).length = Ss.length := by rw [List.length_map, ha.sets.len]
  refine ⟨_, rfl, l, rfl, ⟨_, SqL.of ha.lst⟩, fun D hD => ?_⟩
  refine comp_list (xs := as.map V.ref) (fun i σ ys H' => (∃ o, σ = [o]) ∧ ys = (Ss.take i).map (fun S => V.str (sortS S)) ∧ H' D = some (.lst ys) ∧ Same H H')
    ⟨⟨none, rfl⟩, rfl, upd_same, same_new hD _⟩ ?_ ?_ ?_ ?_ ?_
  · rintro i σ ys H' _ ⟨_, rfl, h, _⟩
    exact ⟨h, by rw [List.length_map, List.length_take]; exact Nat.min_le_left _ _⟩
  · rintro i σ ys H' _ ⟨_, _, _, sm⟩
    exact SqL.of (sm _ _ ha.lst)
  · rw [hlen]; exact Nat.le_trans h6 (by decide)
  · rintro i v σ ys H' hv ⟨⟨o, rfl⟩, rfl, h, sm⟩
    obtain ⟨a, S, rfl, e3, e4, hS⟩ := ha.sets.get hv
    obtain ⟨xs, hx⟩ := set_hd hS
    refine ⟨_, rfl, a, _, _, _, rfl, rfl, SqT.of (sm _ _ hx), atI_nat (j := 0) rfl, h, ⟨_, rfl⟩, ?_, upd_same, same_put hD sm⟩
    rw [List.take_add_one, e3, List.map_append]; rfl
  · rintro σ ys H' ⟨_, rfl, h, sm⟩
    rw [hlen, List.take_of_length_le (Nat.le_refl _)] at h
    exact ⟨D, _, rfl, .inl ⟨SqL.of h, fun t ht => q t _ (sm.trans (same_new ht _)) upd_same⟩⟩
theorem ok_showkind (F : Fun K "show_kind" "show_kind" sShowKind f fd) (G : FnOk P w K mg base CX0 4 g1 d1 ["told"] spShowSet) (bG : Binds K d1 ["told"] []) (kG : PySem.W.keepIn K (.ref g1) = true) (mG : mg "show_set" = some (.ref g1)) :
    FnOk P w K mg base CX0 5 f fd ["kind"] spShowKind := by
  refine F.ok scShowKind (fun vs H Q E h => ?_) (fun cdv A outer s H vs Q E hr h => ?_)
  · obtain ⟨l, as, Ss, rfl, _⟩ := h
    rfl
  obtain ⟨l, as, Ss, rfl, ha, h6, hok, q⟩ := h
  refine ⟨_, pss_one (ps_ret (pe_bm PySem.F.plainAttrs_str PySem.F.slot_str_join PySem.F.type_str_join mt_join pe_str
      (pa_cons (pe_lcomp (N' := ["told"]) (src := [none]) rfl (CompSc.ofB (by kernel_rfl)) (pi_list (pv 0)) (fun cl C s H fp => pgl (i := 0)) (fun cl C s H fp => pifs_nil)
        (fun cl C s H fp => pe_call G hr glc mG kG bG .nil pass0 (pa_cons (pvl 0) pa_nil))) pa_nil))), ?_⟩
  have hlen : (as.map V.ref).length = Ss.length := by rw [List.length_map, ha.sets.len]
  refine ⟨rfl, _, rfl, l, rfl, ⟨_, SqL.of ha.lst⟩, fun D hD => ?_⟩
  refine comp_list (xs := as.map V.ref) (fun i σ ys H' => (∃ o, σ = [o]) ∧ ys = ((Ss.take i).map setT).map V.str ∧ H' D = some (.lst ys) ∧ Same H H')
    ⟨⟨none, rfl⟩, rfl, upd_same, same_new hD _⟩ ?_ ?_ ?_ ?_ ?_
  · rintro i σ ys H' _ ⟨_, rfl, h, _⟩
    exact ⟨h, by rw [List.length_map, List.length_map, List.length_take]; exact Nat.min_le_left _ _⟩
  · rintro i σ ys H' _ ⟨_, _, _, sm⟩
    exact SqL.of (sm _ _ ha.lst)
  · rw [hlen]; exact Nat.le_trans h6 (by decide)
  · rintro i v σ ys H' hv ⟨⟨o, rfl⟩, rfl, h, sm⟩
    obtain ⟨a, S, rfl, e3, e4, hS⟩ := ha.sets.get hv
    refine ⟨_, rfl, a, S, rfl, hS.same sm, hok S (List.mem_of_getElem? e3), fun H2 s2 => ⟨s2 _ _ h, ⟨_, rfl⟩, ?_, upd_same, same_put hD (sm.trans s2)⟩⟩
    rw [List.take_add_one, e3, List.map_append, List.map_append]; rfl
  · rintro σ ys H' ⟨_, rfl, h, sm⟩
    rw [hlen, List.take_of_length_le (Nat.le_refl _)] at h
    refine ⟨blank, D, Ss.map setT, rfl, rfl, SqL.of h, ?_, q H' sm⟩
    have h1 := sum_le (l := Ss.map setT) (b := 9000) fun x hx => by
      obtain ⟨S, hS, rfl⟩ := List.mem_map.mp hx
      exact set_len (hok S hS)
    have h2 : blank.length = 1 := by decide +kernel
    rw [List.length_map] at h1 ⊢
    rw [h2]; omega
theorem ok_isof (B : Blt mg) (B2 : Blt2 mg) (hZ : mg "zip" = none) (F : Fun K "is_of" "is_of" sIsOf f fd) (G : FnOk P w K mg base CX0 2 g1 d1 ["told", "cell"] spHas) (bG : Binds K d1 ["told", "cell"] []) (kG : PySem.W.keepIn K (.ref g1) = true) (mG : mg "has" = some (.ref g1)) :
    FnOk P w K mg base CX0 3 f fd ["kind", "row"] spIsOf := by
  refine F.ok scIsOf (fun vs H Q E h => ?_) (fun cdv A outer s H vs Q E hr h => ?_)
  · obtain ⟨l, as, Ss, t, cs, rfl, _⟩ := h
    rfl
  obtain ⟨l, as, Ss, t, cs, rfl, ha, h6, hok, ht, hc, h8, q⟩ := h
  refine ⟨_, pss_one (ps_ret (pe_and (pe_cmpR op_eq (pe_callB call_len_seq rfl B.len PySem.boot_len (pa_cons (pv 1) pa_nil)) (pe_callB call_len_seq rfl B.len PySem.boot_len (pa_cons (pv 0) pa_nil)) (nomark _))
      (pe_one (pe_callB (call_allL rfl) rfl B2.all PyProof.Rows.boot_all (pa_cons (pe_lcomp (N' := ["told", "cell"]) (src := [none, none]) rfl (CompSc.ofB (by kernel_rfl)) (pi_zipT rfl hZ (pa_cons (pv 0) (pa_cons (pv 1) pa_nil)))
        (g := gTup K 2 (gCons (gName 0) (gCons (gName 1) gNil))) (fun cl C s H fp => pg_tup rfl (pgs_cons (pgl (i := 0)) (pgs_cons (pgl (i := 1)) pgs_nil))) (fun cl C s H fp => pifs_nil)
        (fun cl C s H fp => pe_call G hr glc mG kG bG .nil pass0 (pa_cons (pvl 0) (pa_cons (pvl 1) pa_nil)))) pa_nil))))), ?_⟩
  have hlen : (as.map V.ref).length = Ss.length := by rw [List.length_map, ha.sets.len]
  refine ⟨_, rfl, t, _, rfl, .inr (SqT.of ht), _, rfl, l, _, rfl, .inl (SqL.of ha.lst), rfl, _, rfl, ?_⟩
  rw [hlen]
  by_cases e : cs.length = Ss.length
  rotate_left
  · rw [decide_eq_false (fun z => e (by injection z with z; omega))]
    refine iteF ?_
    have : isOfV Ss cs = false := by unfold isOfV; rw [decide_eq_false e]; rfl
    rw [← this]
    exact q H (Same.refl H)
  rw [decide_eq_true (by rw [e])]
  refine iteT ⟨_, rfl, _, rfl, l, t, rfl, ⟨_, SqL.of ha.lst⟩, ⟨_, SqT.of ht⟩, fun D hD => ?_⟩
  refine comp_zipT (xs := as.map V.ref) (ys := cs) (fun i σ ys H' => (∃ o o', σ = [o, o']) ∧ ys = ((List.range i).map fun j => hasV (Ss.getD j (.num [])) (cs.getD j .non)).map V.bl ∧ H' D = some (.lst ys) ∧ Same H H')
    ⟨⟨none, none, rfl⟩, rfl, upd_same, same_new hD _⟩ ?_ ?_ (by rw [hlen, e]) ?_ ?_ ?_
  · rintro i σ ys H' _ ⟨_, rfl, h, _⟩
    exact ⟨h, by rw [List.length_map, List.length_map, List.length_range]; exact Nat.le_refl _⟩
  · rintro i σ ys H' _ ⟨_, _, _, sm⟩
    exact ⟨SqL.of (sm _ _ ha.lst), SqT.of (sm _ _ ht)⟩
  · rw [hlen]; exact Nat.le_trans h6 (by decide)
  · rintro i x y σ zs H' T hx hy ⟨⟨o, o', rfl⟩, rfl, h, sm⟩ hT
    obtain ⟨a, S, rfl, e3, e4, hS⟩ := ha.sets.get hx
    have sT := same_new hT (.tup [.ref a, y])
    refine ⟨T, _, rfl, SqT.of upd_same, rfl, _, _, rfl, _, _, rfl, rfl, ?_⟩
    refine ⟨_, rfl, _, rfl, a, S, y, rfl, hS.same (sm.trans sT), hok S (List.mem_of_getElem? e3), hc y (List.mem_of_getElem? hy), fun H2 s2 => ⟨s2 _ _ (sT _ _ h), ⟨_, _, rfl⟩, ?_, upd_same, same_put hD (sm.trans (sT.trans s2))⟩⟩
    rw [take_bl]
    rw [List.getD_eq_getElem?_getD, List.getD_eq_getElem?_getD, e3, hy]; rfl
  · rintro σ ys H' ⟨_, rfl, h, sm⟩
    refine ⟨D, _, rfl, SqL.of h, ?_⟩
    have : isOfV Ss cs = ((List.range (as.map V.ref).length).map fun j => hasV (Ss.getD j (.num [])) (cs.getD j .non)).all id := by
      unfold isOfV
      rw [decide_eq_true e, Bool.true_and, hlen, List.all_map]; rfl
    rw [← this]
    exact q H' sm
theorem ok_readkind (B : Blt mg) (B2 : Blt2 mg) (W : Wid mg) (C : ClsN K mg CN) (F : Fun K "read_kind" "read_kind" sReadKind f fd) (G : FnOk P w K mg base (CXF P w) 7 g1 d1 ["text"] (spReadSetX K CN)) (bG : Binds K d1 ["text"] []) (kG : PySem.W.keepIn K (.ref g1) = true) (mG : mg "read_set" = some (.ref g1)) :
    FnOk P w K mg base (CXF P w) 8 f fd ["text"] (spReadKindX K CN) := by
  refine F.okX scReadKind (fun vs H Q E h => ?_) (fun cdv A outer s H vs Q E hr h => ?_)
  · rcases h with ⟨r, rfl, _⟩ | ⟨v, rfl, _⟩ <;> rfl
  obtain ⟨tw, mw⟩ := W.wr
  refine ⟨_, pss_cons (ps_if (pt_not (pt_val (pe_callB call_isinst rfl B.isinstance PyProof.Rows.boot_isinstance (pa_cons (pv 0) (pa_cons (pe_bty (n := "str") rfl B2.str PyProof.Rows.boot_str) pa_nil))))) (pss_one (ps_raise rfl C.ex rfl C.mN (pa_cons pe_str pa_nil))) pss_nil)
    (pss_cons (ps_set (i := 1) scReadKind.nd rfl (Or.inl rfl) (pe_bm PySem.F.plainAttrs_str PySem.F.slot_str_split PySem.F.type_str_split mt_split (pv 0) (pa_cons pe_str pa_nil)))
    (pss_cons (ps_if (pt_cmpR op_gt (pe_callB call_len_seq rfl B.len PySem.boot_len (pa_cons (pv 1) pa_nil)) (pe_glob (v := .int 6) rfl mw ⟨tw, rfl⟩) (nomark _)) (pss_one (ps_raise rfl C.ex rfl C.mN (pa_cons pe_str pa_nil))) pss_nil)
    (pss_one (ps_ret (pe_lcompX (N' := ["part"]) (src := [none]) rfl top_of (CompSc.ofB (by kernel_rfl)) (pi_list (pv 1)) (fun cl C s H fp => pglX (i := 0)) (fun cl C s H fp => PIfs.nox pifs_nil)
      (fun cl C s H fp => pe_call G hr glcX mG kG bG .nil passX (pa_cons (pvlX 0) pa_nil))))))), ?_⟩
  rcases h with ⟨x, rfl, ho, q1, q2⟩ | ⟨v, rfl, ⟨t, ty, kt⟩, q2⟩
  rotate_left
  · refine ⟨_, rfl, _, _, _, _, _, rfl, rfl, .inl ty, kt, false, rfl, ?_⟩
    exact iteT ⟨(by show 1 ≤ sizeLine; decide), fun a ha => q2 a _ (same_new ha _) upd_same⟩
  refine ⟨_, rfl, _, _, _, _, _, rfl, rfl, .inl (.str _), kit_same (by decide), true, rfl, iteF ?_⟩
  refine ⟨_, rfl, rfl, _, _, rfl, rfl, by decide +kernel, ho.len, fun p hp => ?_⟩
  have s1 := same_new hp (.lst ((Txt.split x blank).map V.str))
  refine ⟨_, rfl, p, _, rfl, .inl (SqL.of upd_same), _, _, rfl, rfl, _, rfl, ?_⟩
  refine ite2 (fun c => ?_) (fun c => ?_)
  · have c' : (6 : Int) < (((Txt.split x blank).map V.str).length : Nat) := of_decide_eq_true c
    rw [List.length_map] at c'
    have hn : readK x = none := by unfold readK; rw [if_pos (by omega)]
    exact ⟨(by show 1 ≤ sizeLine; decide), fun a ha => q2 hn a _ (s1.trans (same_new ha _)) upd_same⟩
  have c' : ¬ 6 < (Txt.split x blank).length := fun z => c (decide_eq_true (by rw [List.length_map]; show (6 : Int) < ((Txt.split x blank).length : Nat); omega))
  have hr0 : readK x = allSome ((Txt.split x blank).map readS) := by unfold readK; rw [if_neg c']
  refine ⟨_, rfl, p, rfl, ⟨_, SqL.of upd_same⟩, fun D hD => ?_⟩
  have nDp : p ≠ D := fun e => by subst e; rw [upd_same] at hD; cases hD
  have hD0 : H D = none := s1.free hD
  refine comp_list (xs := (Txt.split x blank).map V.str) (fun i σ ys H' => (∃ o, σ = [o]) ∧ (∃ as Ss, ys = as.map V.ref ∧ SetsAt H' as Ss ∧ as.length = i ∧ ((Txt.split x blank).take i).map readS = Ss.map some) ∧ H' D = some (.lst ys) ∧ Same H H' ∧ H' p = some (.lst ((Txt.split x blank).map V.str)))
    ⟨⟨none, rfl⟩, ⟨[], [], rfl, ⟨rfl, fun i a S e => by cases e⟩, rfl, rfl⟩, upd_same, s1.trans (same_new hD _), same_new hD _ _ _ upd_same⟩ ?_ ?_ ?_ ?_ ?_
  · rintro i σ ys H' _ ⟨_, ⟨as, Ss, rfl, _, rfl, _⟩, h, _⟩
    exact ⟨h, by rw [List.length_map]; exact Nat.le_refl _⟩
  · rintro i σ ys H' _ ⟨_, _, _, _, h⟩
    exact SqL.of h
  · rw [List.length_map]; exact parts_few ho.len
  · rintro i v σ ys H' hv ⟨⟨o, rfl⟩, ⟨as, Ss, rfl, hS, rfl, hm⟩, h, sm, hp'⟩
    rw [List.getElem?_map] at hv
    cases e : (Txt.split x blank)[as.length]? with
    | none => rw [e] at hv; cases hv
    | some pt =>
      rw [e] at hv
      have hv' : V.str pt = v := Option.some.inj hv
      subst hv'
      have pin := List.mem_of_getElem? e
      refine ⟨_, rfl, .inl ⟨pt, rfl, ho.parts pt pin, fun S hs a H2 s2 ha => ⟨s2 _ _ h, ⟨_, rfl⟩, ⟨as ++ [a], Ss ++ [S], ?_, ?_, by rw [List.length_append]; rfl, map_take_snoc hm e hs⟩, upd_same, same_put hD0 (sm.trans s2), ?_⟩, fun hn a H2 s2 ha => ?_⟩⟩
      · rw [List.map_append]; rfl
      · refine ((hS.same s2).snoc ha).keep fun b xs eb => ?_
        by_cases hb : b = D
        · subst hb; rw [s2 _ _ h] at eb; cases eb
        · rw [upd_ne hb]; exact eb
      · rw [upd_ne nDp]; exact s2 _ _ hp'
      · exact q2 (hr0.trans (none_of e hn)) a H2 (sm.trans s2) ha
  · rintro σ ys H' ⟨_, ⟨as, Ss, rfl, hS, hl, hm⟩, h, sm, _⟩
    rw [List.length_map] at hl hm
    rw [List.take_of_length_le (Nat.le_refl _)] at hm
    exact q1 Ss (hr0.trans (allSome_some.mpr hm)) D as H' sm hD0 ⟨h, hS⟩
end
end My
set_option maxHeartbeats 4000000
namespace My
open PySem L2 CT CS
structure ClsT (K : PySem.W.Frag) (mg : Str → Option Value) (CN PE : Addr) : Prop where
  xc : XCls K CN
  em : PySem.W.exmOne K (.ref CN) (.ref CN) = some true
  kp : PySem.W.kitOne K (.ref CN) (.ref PE) = some true
  kv : PySem.W.kitOne K (.ref CN) (.type "ValueError") = some true
  mP : mg "PipeError" = some (.ref PE)
  mV : mg "ValueError" = none
def spTold (K : PySem.W.Frag) : Sp := fun vs H Q _ => (∃ x, vs = [.str x] ∧ KOk x ∧ (∀ Ss, readK x = some Ss → ∀ l as H', Same H H' → H l = none → KAt H' l as Ss → Q (.ref l) H') ∧ (readK x = none → ∀ H', Same H H' → Q .non H')) ∨
  ∃ v, vs = [v] ∧ NoTx K H v ∧ ∀ H', Same H H' → Q .non H'
def spKindIn : Sp := fun vs H Q _ => ∃ x, vs = [.str x] ∧ KOk x ∧ (∀ Ss, readK x = some Ss → ∀ l as H', Same H H' → KAt H' l as Ss → Q (.ref l) H') ∧ (readK x = none → ∀ H', Same H H' → Q .non H')
theorem three {α : Type} {l : List α} (h : l.length = 3) : ∃ a b c, l = [a, b, c] := match l, h with | [a, b, c], _ => ⟨a, b, c, rfl⟩
def rInst (K : PySem.W.Frag) : List V → Hp → VK → Prop := fun xs H Q => ∃ x cv t c b, xs = [x, cv] ∧ clV cv c ∧ (TyOf K H x t ∨ ∃ a C, x = .ref a ∧ t = .ref C ∧ XAt K H a C) ∧ PySem.W.kitOne K t c = some b ∧ Q (.bl b) H
theorem call_isK {X : Cx} {K : PySem.W.Frag} (e : X.K = K) : CallR X (.builtin "isinstance") (rInst K) := by subst e; exact call_isinst
section
variable {P : Program} {w : World} {K : PySem.W.Frag} {mg : Str → Option Value} {base : Heap} {f g1 g2 CN PE : Addr} {fd d1 d2 : FuncData}
theorem ok_told (B : Blt mg) (C : ClsN K mg CN) (T : ClsT K mg CN PE) (F : Fun K "_law_told" "_law_told" sTold f fd) (G : FnOk P w K mg base (CXF P w) 8 g1 d1 ["text"] (spReadKindX K CN)) (bG : Binds K d1 ["text"] []) (kG : PySem.W.keepIn K (.ref g1) = true) (mG : mg "read_kind" = some (.ref g1)) :
    FnOk P w K mg base CX0 9 f fd ["_law_text"] (spTold K) := by
  refine F.ok scTold (fun vs H Q E h => ?_) (fun cdv A outer s H vs Q E hr h => ?_)
  · rcases h with ⟨x, rfl, _⟩ | ⟨v, rfl, _⟩ <;> rfl
  refine ⟨_, pss_cons (ps_try (E := fun Cv oa H' => Cv = .ref CN ∧ (∃ a, oa = some a ∧ H' a = some (xO a CN none)) ∧ Same H H' ∧ ∀ H2, Same H' H2 → Q .non H2) (i := 2) (L := s.heap.objs.size) ⟨⟨_, _, rfl, rfl⟩, rfl⟩ scTold.nd rfl rfl rfl C.mN
      (fun pins => pss_one (ps_set (i := 1) scTold.nd rfl (Or.inl rfl) (pe_call G hr rfl mG kG bG .nil passX (pa_cons (pv 0) pa_nil))))
      (fun e => pss_cons (ps_if (PW.pt (pw_or (pt_not (pt_val (pe_callB (call_isK (K := K) rfl) rfl B.isinstance PyProof.Rows.boot_isinstance (pa_cons (pv 2) (pa_cons (pe_cls rfl T.mP) pa_nil))))) (pw_or1 (pt_not (pt_val (pe_callB (call_isK (K := K) rfl) rfl B.isinstance PyProof.Rows.boot_isinstance (pa_cons (pv 2) (pa_cons (pe_bty (n := "ValueError") rfl T.mV (by decide +kernel)) pa_nil)))))))) (pss_one (ps_ret pe_str)) pss_nil)
        (pss_one (ps_ret pe_non))))
    (pss_one (ps_ret (pv 1))), ?_⟩
  refine ⟨?_, ?_⟩
  · rcases h with ⟨x, rfl, ho, q1, q2⟩ | ⟨v, rfl, ty, q2⟩
    · exact ⟨_, rfl, .inl ⟨x, rfl, ho, fun S hr l as H1 s1 hn hR => ⟨_, rfl, q1 S hr l as H1 s1 hn hR⟩, fun hr a H1 s1 ha => ⟨rfl, ⟨a, rfl, ha⟩, s1, fun H2 s2 => q2 hr H2 (s1.trans s2)⟩⟩⟩
    · exact ⟨_, rfl, .inr ⟨v, rfl, ty, fun a H1 s1 ha => ⟨rfl, ⟨a, rfl, ha⟩, s1, fun H2 s2 => q2 H2 (s1.trans s2)⟩⟩⟩
  · rintro σ' C' e od H1 hl he ⟨e1, ⟨a', ea, ha⟩, s1, q⟩
    cases e1
    cases ea
    refine ⟨T.em, ?_⟩
    have hl3 : σ'.length = 3 := by rcases h with ⟨x, rfl, _⟩ | ⟨v, rfl, _⟩ <;> exact hl
    obtain ⟨a, b, c, rfl⟩ := three hl3
    have hx : XAt K H1 e CN := ⟨T.xc, .inl ha⟩
    refine ⟨_, rfl, _, _, _, _, _, rfl, rfl, .inr ⟨e, _, rfl, rfl, hx⟩, T.kp, true, rfl, ?_⟩
    refine iteF ⟨_, rfl, _, _, _, _, _, rfl, rfl, .inr ⟨e, _, rfl, rfl, hx⟩, T.kv, true, rfl, iteF ?_⟩
    exact q H1 (Same.refl _)
theorem ok_kindin (B : Blt mg) (C : ClsN K mg CN) (T : ClsT K mg CN PE) (F : Fun K "_law_kind_in" "_law_kind_in" sKindIn f fd) (G : FnOk P w K mg base (CXF P w) 7 g1 d1 ["text"] (spReadSetX K CN)) (bG : Binds K d1 ["text"] []) (kG : PySem.W.keepIn K (.ref g1) = true) (mG : mg "read_set" = some (.ref g1)) :
    FnOk P w K mg base CX0 8 f fd ["_law_text"] spKindIn := by
  refine F.ok scKindIn (fun vs H Q E h => ?_) (fun cdv A outer s H vs Q E hr h => ?_)
  · obtain ⟨x, rfl, _⟩ := h
    rfl
  obtain ⟨x, rfl, ho, q1, q2⟩ := h
  refine ⟨_, pss_cons (ps_set (i := 1) scKindIn.nd rfl (Or.inl rfl) (pe_bm PySem.F.plainAttrs_str PySem.F.slot_str_split PySem.F.type_str_split mt_split (pv 0) (pa_cons pe_str pa_nil)))
    (pss_cons (ps_if (pt_cmpR op_gt (pe_callB call_len_seq rfl B.len PySem.boot_len (pa_cons (pv 1) pa_nil)) pe_int (nomark _)) (pss_one (ps_ret pe_non)) pss_nil)
    (pss_cons (ps_tryN (E := fun Cv oa H' => Cv = .ref CN ∧ (∃ a, oa = some a ∧ H' a = some (xO a CN none)) ∧ ∀ H2, Same H' H2 → Q .non H2) (L := s.heap.objs.size) ⟨⟨_, _, rfl, rfl⟩, rfl⟩ rfl C.mN
      (fun pins => pss_one (ps_setCompX (i := 2) (wi := iList K (tVar 1)) (N' := ["_law_part"]) (src := [none]) (L := s.heap.objs.size) scKindIn.nd rfl (Or.inl rfl) rfl rfl ⟨⟨_, _, rfl, rfl⟩, rfl⟩ (CompSc.ofB (by kernel_rfl))
        (pi_list (pv 1)) (fun cl C s H fp => pglX (i := 0)) (fun cl C s H fp => PIfs.nox pifs_nil) (fun cl C s H fp => pe_call G hr glcX mG kG bG .nil passX (pa_cons (pvlX 0) pa_nil))))
      (fun e => pss_one (ps_set (i := 2) scKindIn.nd rfl (Or.inl rfl) pe_non)))
    (pss_one (ps_ret (pv 2))))), ?_⟩
  refine ⟨_, rfl, rfl, _, _, rfl, rfl, by decide +kernel, ho.len, fun p hp => ?_⟩
  have s1 := same_new hp (.lst ((Txt.split x blank).map V.str))
  refine ⟨_, rfl, p, _, rfl, .inl (SqL.of upd_same), _, _, rfl, rfl, _, rfl, ?_⟩
  refine ite2 (fun c => ?_) (fun c => ?_)
  · have c' : (6 : Int) < (((Txt.split x blank).map V.str).length : Nat) := of_decide_eq_true c
    rw [List.length_map] at c'
    have hn : readK x = none := by unfold readK; rw [if_pos (by omega)]
    exact q2 hn _ s1
  have c' : ¬ 6 < (Txt.split x blank).length := fun z => c (decide_eq_true (by rw [List.length_map]; show (6 : Int) < ((Txt.split x blank).length : Nat); omega))
  have hr0 : readK x = allSome ((Txt.split x blank).map readS) := by unfold readK; rw [if_neg c']
  refine ⟨?_, ?_⟩
  · refine ⟨_, rfl, p, rfl, ⟨_, SqL.of upd_same⟩, fun D hD => ?_⟩
    have nDp : p ≠ D := fun e => by subst e; rw [upd_same] at hD; cases hD
    have hD0 : H D = none := s1.free hD
    refine comp_list (xs := (Txt.split x blank).map V.str) (fun i σ ys H' => (∃ o, σ = [o]) ∧ (∃ as Ss, ys = as.map V.ref ∧ SetsAt H' as Ss ∧ as.length = i ∧ ((Txt.split x blank).take i).map readS = Ss.map some) ∧ H' D = some (.lst ys) ∧ Same H H' ∧ H' p = some (.lst ((Txt.split x blank).map V.str)))
      ⟨⟨none, rfl⟩, ⟨[], [], rfl, ⟨rfl, fun i a S e => by cases e⟩, rfl, rfl⟩, upd_same, s1.trans (same_new hD _), same_new hD _ _ _ upd_same⟩ ?_ ?_ ?_ ?_ ?_
    · rintro i σ ys H' _ ⟨_, ⟨as, Ss, rfl, _, rfl, _⟩, h, _⟩
      exact ⟨h, by rw [List.length_map]; exact Nat.le_refl _⟩
    · rintro i σ ys H' _ ⟨_, _, _, _, h⟩
      exact SqL.of h
    · rw [List.length_map]; exact parts_few ho.len
    · rintro i v σ ys H' hv ⟨⟨o, rfl⟩, ⟨as, Ss, rfl, hS, rfl, hm⟩, h, sm, hp'⟩
      rw [List.getElem?_map] at hv
      cases e : (Txt.split x blank)[as.length]? with
      | none => rw [e] at hv; cases hv
      | some pt =>
        rw [e] at hv
        have hv' : V.str pt = v := Option.some.inj hv
        subst hv'
        have pin := List.mem_of_getElem? e
        refine ⟨_, rfl, .inl ⟨pt, rfl, ho.parts pt pin, fun S hs a H2 s2 ha => ⟨s2 _ _ h, ⟨_, rfl⟩, ⟨as ++ [a], Ss ++ [S], ?_, ?_, by rw [List.length_append]; rfl, map_take_snoc hm e hs⟩, upd_same, same_put hD0 (sm.trans s2), ?_⟩, fun hn a H2 s2 ha => ?_⟩⟩
        · rw [List.map_append]; rfl
        · refine ((hS.same s2).snoc ha).keep fun b xs eb => ?_
          by_cases hb : b = D
          · subst hb; rw [s2 _ _ h] at eb; cases eb
          · rw [upd_ne hb]; exact eb
        · rw [upd_ne nDp]; exact s2 _ _ hp'
        · exact ⟨rfl, ⟨a, rfl, ha⟩, fun H3 s3 => q2 (hr0.trans (none_of e hn)) H3 (sm.trans (s2.trans s3))⟩
    · rintro σ ys H' ⟨_, ⟨as, Ss, rfl, hS, hl, hm⟩, h, sm, _⟩
      rw [List.length_map] at hl hm
      rw [List.take_of_length_le (Nat.le_refl _)] at hm
      exact ⟨_, rfl, q1 Ss (hr0.trans (allSome_some.mpr hm)) D as H' sm ⟨h, hS⟩⟩
  · rintro σ' C' e od H1 hl he ⟨e1, ⟨a', ea, ha⟩, q⟩
    cases e1
    cases ea
    have hl3 : σ'.length = 3 := hl
    obtain ⟨a, b, c, rfl⟩ := three hl3
    exact ⟨T.em, _, rfl, q H1 (Same.refl _)⟩
theorem ok_lisof (B : Blt mg) (F : Fun K "_law_is_of" "_law_is_of" sLIsOf f fd) (G : FnOk P w K mg base CX0 2 g1 d1 ["_law_tale", "_law_cell_here"] spHas) (bG : Binds K d1 ["_law_tale", "_law_cell_here"] []) (kG : PySem.W.keepIn K (.ref g1) = true) (mG : mg "_law_has" = some (.ref g1)) :
    FnOk P w K mg base CX0 3 f fd ["_law_kind", "_law_row_here"] spIsOf := by
  refine F.ok scLIsOf (fun vs H Q E h => ?_) (fun cdv A outer s H vs Q E hr h => ?_)
  · obtain ⟨l, as, Ss, t, cs, rfl, _⟩ := h
    rfl
  obtain ⟨l, as, Ss, t, cs, rfl, ha, h6, hok, ht, hc, h8, q⟩ := h
  have hu : (A.deeper (PyProof.Rows.envOfC "_law_is_of" (defScope sLIsOf) s.heap.objs.size f cdv)).units + 1 < cLine := by have := hr.units; omega
  refine ⟨_, pss_cons (ps_if (pt_cmpR op_ne (pe_callB call_len_seq rfl B.len PySem.boot_len (pa_cons (pv 1) pa_nil)) (pe_callB call_len_seq rfl B.len PySem.boot_len (pa_cons (pv 0) pa_nil)) (nomark _)) (pss_one (ps_ret pe_bl)) pss_nil)
    (pss_one (ps_ret (pe_cmpR op_eqD (pe_lcomp (N' := ["_law_k", "_law_kind", "_law_row_here"]) (src := [none, some 0, some 1]) rfl (CompSc.ofB (by kernel_rfl)) (pi_range1 rfl B.range (pa_cons (pe_callB call_len_seq rfl B.len PySem.boot_len (pa_cons (pv 1) pa_nil)) pa_nil)) (fun cl C s H fp => pgl (i := 0))
      (fun cl C s H fp => pifs_one (pt_not (pt_val (pe_call G hr glc mG kG bG .nil pass0 (pa_cons (pe_ix (r := rIxL K) ix_list (pvf 1) (pvl 0) (fun _ _ => rfl)) (pa_cons (pe_ix (r := rIxT K) ix_tup (pvf 2) (pvl 0) (fun _ _ => rfl)) pa_nil))))))
      (fun cl C s H fp => pvl 0)) (pe_lst pa_nil) (nomark _)))), ?_⟩
  have hlen : (as.map V.ref).length = Ss.length := by rw [List.length_map, ha.sets.len]
  refine ⟨_, rfl, t, _, rfl, .inr (SqT.of ht), _, rfl, l, _, rfl, .inl (SqL.of ha.lst), rfl, _, rfl, ?_⟩
  rw [hlen]
  by_cases e : cs.length = Ss.length
  rotate_left
  · rw [decide_eq_false (fun z => e (by injection z with z; omega))]
    refine iteT ?_
    have : isOfV Ss cs = false := by unfold isOfV; rw [decide_eq_false e]; rfl
    show Q (.bl false) H
    rw [← this]
    exact q H (Same.refl H)
  rw [decide_eq_true (by rw [e])]
  refine iteF ⟨_, rfl, t, _, rfl, .inr (SqT.of ht), _, rfl, ?_, ?_, fun Dd hD => ?_⟩
  · have z : ((2 : Int) ^ 62) = 4611686018427387904 := by decide
    rw [z]; omega
  · have z : ((2 : Int) ^ 62) = 4611686018427387904 := by decide
    rw [z]; omega
  refine comp_range (n := cs.length) (fun i σ ys H' => (∃ o, σ = [o, some (.ref l), some (.ref t)]) ∧ ys = ((List.range i).filter fun j => !hasV (Ss.getD j (.num [])) (cs.getD j .non)).map (fun j : Nat => V.int (0 + (j : Int))) ∧ H' Dd = some (.lst ys) ∧ Same H H')
    ⟨⟨none, rfl⟩, rfl, upd_same, same_new hD _⟩ ?_ ?_ ?_ ?_
  · rintro i σ ys H' _ ⟨_, rfl, h, _⟩
    refine ⟨h, ?_⟩
    rw [List.length_map]
    exact Nat.le_trans (List.length_filter_le _ _) (by rw [List.length_range]; exact Nat.le_refl _)
  · exact Nat.le_trans h8 (by decide)
  · rintro i σ ys H' hi ⟨⟨o, rfl⟩, rfl, h, sm⟩
    have hi2 : i < (as.map V.ref).length := by omega
    obtain ⟨a, S, e2, e3, e4, hS⟩ := ha.sets.get (List.getElem?_eq_getElem hi2)
    have hv : (as.map V.ref)[i]? = some (.ref a) := by rw [List.getElem?_eq_getElem hi2, e2]
    have hy : cs[i]? = some cs[i] := List.getElem?_eq_getElem hi
    have i1 : atI (as.map V.ref) (0 + (i : Int)) = some (.ref a) := by rw [Int.zero_add]; exact atI_nat hv
    have i2 : atI cs (0 + (i : Int)) = some cs[i] := by rw [Int.zero_add]; exact atI_nat hy
    refine ⟨_, rfl, _, rfl, l, _, _, _, rfl, rfl, SqL.of (sm _ _ ha.lst), i1, _, rfl, _, rfl, t, _, _, _, rfl, rfl, SqT.of (sm _ _ ht), i2, ?_⟩
    refine ⟨a, S, cs[i], rfl, hS.same sm, hok S (List.mem_of_getElem? e3), hc _ (List.getElem_mem hi), fun H2 s2 => ⟨_, rfl, ?_⟩⟩
    have ed : (hasV (Ss.getD i (.num [])) (cs.getD i .non)) = hasV S cs[i] := by rw [List.getD_eq_getElem?_getD, List.getD_eq_getElem?_getD, e3, hy]; rfl
    have er : (List.range (i + 1)).filter (fun j => !hasV (Ss.getD j (.num [])) (cs.getD j .non)) = (List.range i).filter (fun j => !hasV (Ss.getD j (.num [])) (cs.getD j .non)) ++ (if hasV S cs[i] = true then [] else [i]) := by
      rw [List.range_succ, List.filter_append]
      congr 1
      rw [List.filter_cons, ed]
      cases hasV S cs[i] <;> rfl
    rw [er]
    cases hv : hasV S cs[i] with
    | true =>
      refine iteF ⟨⟨_, rfl⟩, ?_, s2 _ _ h, sm.trans s2⟩
      rw [if_pos rfl, List.append_nil]
    | false =>
      refine iteT ⟨_, rfl, s2 _ _ h, ⟨_, rfl⟩, ?_, upd_same, same_put hD (sm.trans s2)⟩
      rw [if_neg (by decide), List.map_append]; rfl
  · rintro σ ys H' ⟨_, rfl, h, sm⟩
    refine ⟨Nat.zero_le _, fun z hz => ?_⟩
    have sz := same_new hz (.lst [])
    refine ⟨.lst (((List.range cs.length).filter fun j => !hasV (Ss.getD j (.num [])) (cs.getD j .non)).map fun j : Nat => D.int (0 + (j : Int))), .lst [], dat_lst (sz _ _ h) (DsAt.of (by rw [List.length_map, List.length_map]) fun i d v e1 e2 => ?_), dat_lst upd_same DsAt.nil, ?_, ?_⟩
    · rw [List.getElem?_map] at e1 e2
      cases q1 : ((List.range cs.length).filter fun j => !hasV (Ss.getD j (.num [])) (cs.getD j .non))[i]? with
      | none => rw [q1] at e1; cases e1
      | some j =>
        rw [q1] at e1 e2
        cases e1
        cases e2
        exact dat_int _
    · have := depth_flat (f := fun j : Nat => D.int (0 + (j : Int))) (n := 0) (fun s => by simp [D.depth]) ((List.range cs.length).filter fun j => !hasV (Ss.getD j (.num [])) (cs.getD j .non))
      refine Nat.lt_of_le_of_lt (Nat.add_le_add_left ?_ _) hu
      simp only [D.depth]; omega
    · have ev : eqD (.lst (((List.range cs.length).filter fun j => !hasV (Ss.getD j (.num [])) (cs.getD j .non)).map fun j : Nat => D.int (0 + (j : Int)))) (.lst []) = isOfV Ss cs := by
        unfold isOfV
        rw [decide_eq_true e, Bool.true_and, ← e]
        cases q1 : (List.range cs.length).filter fun j => !hasV (Ss.getD j (.num [])) (cs.getD j .non) with
        | nil =>
          have : (List.range cs.length).all (fun i => hasV (Ss.getD i (.num [])) (cs.getD i .non)) = true := by
            rw [List.all_eq_true]
            intro j hj
            have := List.filter_eq_nil_iff.mp q1 j hj
            simpa using this
          rw [this]; simp [eqD, eqDs]
        | cons j r =>
          have hj : j ∈ (List.range cs.length).filter fun j => !hasV (Ss.getD j (.num [])) (cs.getD j .non) := by rw [q1]; exact List.mem_cons_self ..
          have hm := List.mem_filter.mp hj
          have : (List.range cs.length).all (fun i => hasV (Ss.getD i (.num [])) (cs.getD i .non)) = false := by
            rw [List.all_eq_false]
            exact ⟨j, hm.1, by simpa using hm.2⟩
          rw [this]; simp [eqD, eqDs]
      rw [ev]
      exact q _ (sm.trans sz)
end
end My
set_option maxHeartbeats 4000000
namespace My
open PySem L2 CT CS
theorem cond_go {c : TT} {σ : St} {H : Hp} {Q : Bool → Hp → Prop} (b : Bool) (q : ∀ H1, Same H H1 → Q b H1) (h : ∀ Q' : Bool → Hp → Prop, (∀ H1, Same H H1 → Q' b H1) → c σ H Q') : c σ H Q := h Q q
theorem gName_go {i : Nat} {v : V} {σ : St} {H : Hp} {k : St → Hp → Prop} (h : k (σ.set i (some v)) H) : gName i v σ H k := h
theorem if_go {c : TT} {a b t2 : TS} {D : Ends} {σ : St} {H : Hp} (h : c σ H fun k H1 => if k = true then a { D with nx := t2 D } σ H1 else b { D with nx := t2 D } σ H1) : tSeq (tIfS c a b) t2 D σ H := h
theorem next_go {D : Ends} {σ : St} {H : Hp} (h : D.nx σ H) : tNext D σ H := h
def spCellr : Sp := fun vs H Q _ => ∃ (p a : Addr) (S : CSet), vs = [.ref p, .ref a] ∧ PotAt H p ∧ SetAt H a S ∧ okS S ∧ ∀ v H', Grow p H H' → isCl v → Q v H'
def hasSp : CSet → Bool
  | .num sps => !decide (sps = [])
  | .wrd _ _ => false
def hasWd : CSet → Bool
  | .num _ => false
  | .wrd b ws => b && !decide (ws = [])
def isNum : CSet → Bool
  | .num _ => true
  | .wrd _ _ => false
theorem pick_int {α : Type} {xs : List α} {d : Int} (h0 : 0 ≤ d) (h1 : d < (xs.length : Nat)) : ∃ x, x ∈ xs ∧ atI xs d = some x ∧ xs[d.toNat]? = some x := by
  have hl : d.toNat < xs.length := by omega
  refine ⟨xs[d.toNat], List.getElem_mem hl, ?_, List.getElem?_eq_getElem hl⟩
  have := atI_nat (xs := xs) (j := d.toNat) (List.getElem?_eq_getElem hl)
  rw [show ((d.toNat : Nat) : Int) = d by omega] at this
  exact this
section
variable {P : Program} {w : World} {K : PySem.W.Frag} {mg : Str → Option Value} {base : Heap} {f g1 g2 g3 : Addr} {fd d1 d2 d3 : FuncData}
theorem ok_cellr (B : Blt mg) (F : Fun K "_law_cell" "_law_cell" sCellr f fd) (G : FnOk P w K mg base CX0 3 g1 d1 ["_law_pot_here", "_law_many"] spDraw) (bG : Binds K d1 ["_law_pot_here", "_law_many"] []) (kG : PySem.W.keepIn K (.ref g1) = true) (mG : mg "_law_draw" = some (.ref g1))
    (G2 : FnOk P w K mg base CX0 3 g2 d2 ["_law_pot_here"] spNumber) (b2 : Binds K d2 ["_law_pot_here"] []) (k2 : PySem.W.keepIn K (.ref g2) = true) (m2 : mg "_law_number" = some (.ref g2))
    (G3 : FnOk P w K mg base CX0 3 g3 d3 ["_law_pot_here"] spWord) (b3 : Binds K d3 ["_law_pot_here"] []) (k3 : PySem.W.keepIn K (.ref g3) = true) (m3 : mg "_law_word" = some (.ref g3)) :
    FnOk P w K mg base CX0 4 f fd ["_law_pot_here", "_law_tale"] spCellr := by
  refine F.ok scCellr (fun vs H Q E h => ?_) (fun cdv A outer s H vs Q E hr h => ?_)
  · obtain ⟨p, a, S, rfl, _⟩ := h
    rfl
  obtain ⟨p, a, S, rfl, hP, hS, hok, q⟩ := h
  have hu0 : (A.deeper (PyProof.Rows.envOfC "_law_cell" (defScope sCellr) s.heap.objs.size f cdv)).units < cLine := by have := hr.units; omega
  refine ⟨_, pss_cons (ps_set (i := 2) scCellr.nd rfl (Or.inl rfl) (pe_call G hr rfl mG kG bG .nil pass0 (pa_cons (pv 0) (pa_cons pe_int pa_nil))))
    (pss_cons (ps_if (PW.pt (pw_and (pt_cmpR op_gt (pv 2) pe_int (nomark _)) (pw_and (pt_cmpR op_eq (pe_ixt (pv 1) pe_int (fun _ _ => rfl)) pe_str (nomark _)) (pw_and1 (pt_cmpR (op_neT0 hu0) (pe_ixt (pv 1) pe_int (fun _ _ => rfl)) (pe_tup pa_nil) (nomark _))))))
      (pss_cons (ps_asg (pe_ixt (pe_ixt (pv 1) pe_int (fun _ _ => rfl)) (pe_call G hr rfl mG kG bG .nil pass0 (pa_cons (pv 0) (pa_cons (pe_callB call_len_seq rfl B.len PySem.boot_len (pa_cons (pe_ixt (pv 1) pe_int (fun _ _ => rfl)) pa_nil)) pa_nil))) (fun _ _ => rfl)) (pg_tup rfl (pgs_cons (pg_name (i := 3) scCellr.nd rfl (Or.inl rfl)) (pgs_cons (pg_name (i := 4) scCellr.nd rfl (Or.inl rfl)) pgs_nil))))
      (pss_one (ps_ret (pe_ix (r := rIxL K) ix_list (pe_op op_cat (pe_lcomp (N' := ["_law_end"]) (src := [none]) rfl (CompSc.ofB (by kernel_rfl)) (pi_tup (pe_tup (pa_cons (pv 3) (pa_cons (pv 4) pa_nil)))) (fun cl C s H fp => pgl (i := 0)) (fun cl C s H fp => pifs_one (pt_cmpR op_notN (pvl 0) pe_non (nomark _))) (fun cl C s H fp => pvl 0))
        (pe_lst (pa_cons (pe_call G2 hr rfl m2 k2 b2 .nil pass0 (pa_cons (pv 0) pa_nil)) pa_nil))) pe_int (fun _ _ => rfl))))) pss_nil)
    (pss_cons (ps_if (PW.pt (pw_and (pt_cmpR op_gt (pv 2) pe_int (nomark _)) (pw_and (pt_cmpR op_eq (pe_ixt (pv 1) pe_int (fun _ _ => rfl)) pe_str (nomark _)) (pw_and (pt_val (pe_ixt (pv 1) pe_int (fun _ _ => rfl))) (pw_and1 (pt_cmpR (op_neT0 hu0) (pe_ixt (pv 1) pe_int (fun _ _ => rfl)) (pe_tup pa_nil) (nomark _)))))))
      (pss_one (ps_ret (pe_ixt (pe_ixt (pv 1) pe_int (fun _ _ => rfl)) (pe_call G hr rfl mG kG bG .nil pass0 (pa_cons (pv 0) (pa_cons (pe_callB call_len_seq rfl B.len PySem.boot_len (pa_cons (pe_ixt (pv 1) pe_int (fun _ _ => rfl)) pa_nil)) pa_nil))) (fun _ _ => rfl)))) pss_nil)
    (pss_cons (ps_if (PW.pt (pw_and (pt_cmpR op_eq (pe_ixt (pv 1) pe_int (fun _ _ => rfl)) pe_str (nomark _)) (pw_and1 (pt_cmpR op_lt (pv 2) pe_int (nomark _))))) (pss_one (ps_ret (pe_call G2 hr rfl m2 k2 b2 .nil pass0 (pa_cons (pv 0) pa_nil)))) pss_nil)
    (pss_one (ps_ret (pe_call G3 hr rfl m3 k3 b3 .nil pass0 (pa_cons (pv 0) pa_nil))))))), ?_⟩
  refine ⟨_, rfl, p, _, rfl, hP, by decide, by decide, fun w1 H1 g1 a1 b1 => ?_⟩
  have hS1 := hS.grow hP g1
  refine gName_go ?_
  dsimp only
  refine if_go (cond_go (decide (0 < w1) && hasSp S) (fun H2 s2 => ?_) (fun Q' q' => ?_))
  rotate_left
  · refine ⟨_, rfl, _, _, rfl, rfl, _, rfl, ?_⟩
    by_cases hw : (0 : Int) < w1
    rotate_left
    · have e1 : decide ((0 : Int) < w1) = false := decide_eq_false hw
      rw [e1] at q' ⊢
      exact iteF (q' H1 (Same.refl _))
    rw [decide_eq_true hw] at q' ⊢
    refine iteT ?_
    cases S with
    | num sps =>
      obtain ⟨t, as, h1, h2⟩ := hS1
      refine ⟨_, rfl, a, _, _, _, rfl, rfl, SqT.of h1, rfl, rfl, _, rfl, ?_⟩
      refine ite2 (fun _ => ?_) (fun c => absurd (decide_eq_true rfl) c)
      refine ⟨_, rfl, a, _, _, _, rfl, rfl, SqT.of h1, rfl, Nat.zero_le _, fun z hz => ?_⟩
      have sz := same_new hz (.tup [])
      refine ⟨t, z, _, rfl, rfl, SqT.of (sz _ _ h2.tup), SqT.of upd_same, _, rfl, ?_⟩
      have e : (!decide (as.map V.ref = [])) = (true && hasSp (.num sps)) := by
        show _ = !decide (sps = [])
        have : as.map V.ref = [] ↔ sps = [] := by
          rw [List.map_eq_nil_iff, ← List.length_eq_zero_iff, h2.len, List.length_eq_zero_iff]
        rw [decide_eq_decide.mpr this]
      rw [e]
      exact q' _ sz
    | wrd b ws =>
      obtain ⟨t, h1, h2⟩ := hS1
      refine ⟨_, rfl, a, _, _, _, rfl, rfl, SqT.of h1, rfl, rfl, _, rfl, ?_⟩
      refine ite2 (fun c => absurd (of_decide_eq_true c) (by decide +kernel)) (fun _ => ?_)
      exact q' H1 (Same.refl _)
  have hS2 := hS1.same s2
  have g2 : Grow p H H2 := g1.trans (Grow.same g1.pot s2)
  cases hb : decide (0 < w1) && hasSp S with
  | true =>
    refine iteT ?_
    have hb' := (Bool.and_eq_true_iff.mp hb).2
    cases S with
    | wrd b ws => cases hb'
    | num sps =>
      obtain ⟨t, as, h1, h2⟩ := hS2
      have hne : sps ≠ [] := fun z => by rw [z] at hb'; cases hb'
      have hlen : (as.map V.ref).length = sps.length := by rw [List.length_map, h2.len]
      have hpos : 0 < sps.length := List.length_pos_iff.mpr hne
      refine ⟨_, rfl, a, _, _, _, rfl, rfl, SqT.of h1, rfl, _, rfl, _, rfl, a, _, _, _, rfl, rfl, SqT.of h1, rfl, t, _, rfl, .inr (SqT.of h2.tup), p, _, rfl, g2.pot, by rw [hlen]; omega, log_le (by rw [hlen]; omega) (by rw [hlen]; have := hok.1; omega), fun d H3 g3 a3 b3 => ?_⟩
      obtain ⟨v, hv, e1, e2⟩ := pick_int a3 b3
      obtain ⟨b, sp, rfl, _, hbt⟩ := spans_at h2 e2
      have nP : ∀ {c : Addr} {xs : List V}, H2 c = some (.tup xs) → c ≠ p := fun {c xs} e z => by
        obtain ⟨_, _, q3, _⟩ := g2.pot
        rw [z, q3] at e
        cases e
      refine ⟨t, _, _, _, rfl, rfl, SqT.of (g3.keep _ _ (nP h2.tup) h2.tup), e1, b, _, rfl, SqT.of (g3.keep _ _ (nP hbt) hbt), rfl, _, _, rfl, _, _, rfl, rfl, ?_⟩
      have G3' := g2.trans g3
      refine ⟨_, rfl, _, rfl, (by show 2 ≤ sizeLine; decide), fun T hT => ?_⟩
      refine ⟨T, rfl, ⟨_, SqT.of upd_same⟩, fun D hD => ?_⟩
      have sT := same_new hT (.tup [eV sp.1, eV sp.2])
      have nTD : T ≠ D := fun z => by rw [← z, upd_same] at hD; cases hD
      have gT := G3'.new (o := .tup [eV sp.1, eV sp.2]) hT
      have nD : D ≠ p := gT.ne hD
      refine comp_tup (xs := [eV sp.1, eV sp.2]) (fun i σ ys H' => (∃ o, σ = [o]) ∧ ys.length ≤ i ∧ (∀ y ∈ ys, isCl y) ∧ H' D = some (.lst ys) ∧ H' T = some (.tup [eV sp.1, eV sp.2]) ∧ Grow p H H')
        ⟨⟨none, rfl⟩, Nat.le_refl _, by simp, upd_same, same_new hD _ _ _ upd_same, gT.new hD⟩ ?_ ?_ (by show 2 ≤ sizeLine; decide) ?_ ?_
      · rintro i σ ys H' _ ⟨_, hl, _, h, _⟩
        exact ⟨h, hl⟩
      · rintro i σ ys H' _ ⟨_, _, _, _, h, _⟩
        exact SqT.of h
      · rintro i x σ ys H' hx ⟨⟨o, rfl⟩, hl, hcl, h, hT', g'⟩
        have hx' : ∃ e : Option Int, x = eV e := by
          match i, hx with
          | 0, hx => exact ⟨sp.1, (Option.some.inj hx).symm⟩
          | 1, hx => exact ⟨sp.2, (Option.some.inj hx).symm⟩
        obtain ⟨e, rfl⟩ := hx'
        refine ⟨_, rfl, rfl, _, rfl, ?_⟩
        cases e with
        | none => exact ite2 (fun z => absurd z (by decide)) fun _ => ⟨⟨_, rfl⟩, Nat.le_succ_of_le hl, hcl, h, hT', g'⟩
        | some n =>
          refine ite2 (fun _ => ?_) fun z => absurd (show (!decide (V.int n = V.non)) = true by simp) z
          refine ⟨_, rfl, h, ⟨_, rfl⟩, by rw [List.length_append]; exact Nat.add_le_add_right hl 1, fun y hy => ?_, upd_same, ?_, gT.put hD nD g'⟩
          · rcases List.mem_append.mp hy with z | z
            · exact hcl y z
            · rw [List.mem_singleton.mp z]; exact .inl ⟨n, rfl⟩
          · rw [upd_ne nTD]; exact hT'
      · rintro σ ys H' ⟨_, hl, hcl, h, _, g'⟩
        refine ⟨_, rfl, p, rfl, g'.pot, fun n H4 g4 n1 n2 => ⟨(by show 1 ≤ sizeLine; decide), fun L hL => ?_⟩⟩
        have sL := same_new hL (.lst [.int n])
        have hl2 : ys.length ≤ 2 := hl
        refine ⟨D, L, ys, [.int n], rfl, rfl, sL _ _ (g4.keep _ _ nD h), upd_same, Nat.le_trans (show ys.length + 1 ≤ 3 by omega) (by decide), fun M hM => ?_⟩
        have gf := (((g'.trans g4).new (o := .lst [.int n]) hL).new (o := .lst (ys ++ [.int n])) hM)
        cases ys with
        | nil => exact ⟨M, _, _, _, rfl, rfl, SqL.of upd_same, atI_nat (j := 0) rfl, q _ _ gf (.inl ⟨n, rfl⟩)⟩
        | cons y r => exact ⟨M, _, _, _, rfl, rfl, SqL.of upd_same, atI_nat (j := 0) rfl, q _ _ gf (hcl y (List.mem_cons_self ..))⟩
  | false =>
    refine iteF (next_go ?_)
    dsimp only
    refine if_go (cond_go (decide (0 < w1) && hasWd S) (fun H3 s3 => ?_) (fun Q' q' => ?_))
    rotate_left
    · refine ⟨_, rfl, _, _, rfl, rfl, _, rfl, ?_⟩
      by_cases hw : (0 : Int) < w1
      rotate_left
      · have e1 : decide ((0 : Int) < w1) = false := decide_eq_false hw
        rw [e1] at q' ⊢
        exact iteF (q' H2 (Same.refl _))
      rw [decide_eq_true hw] at q' ⊢
      refine iteT ?_
      cases S with
      | num sps =>
        obtain ⟨t, as, h1, h2⟩ := hS2
        refine ⟨_, rfl, a, _, _, _, rfl, rfl, SqT.of h1, rfl, rfl, _, rfl, ?_⟩
        refine ite2 (fun c => absurd (of_decide_eq_true c) (by decide +kernel)) (fun _ => ?_)
        exact q' H2 (Same.refl _)
      | wrd b ws =>
        obtain ⟨t, h1, h2⟩ := hS2
        refine ⟨_, rfl, a, _, _, _, rfl, rfl, SqT.of h1, rfl, rfl, _, rfl, ?_⟩
        refine ite2 (fun _ => ?_) (fun c => absurd (decide_eq_true rfl) c)
        refine ⟨_, rfl, a, _, _, _, rfl, rfl, SqT.of h1, rfl, b, rfl, ?_⟩
        cases b with
        | false => exact iteF (q' H2 (Same.refl _))
        | true =>
          refine iteT ⟨_, rfl, a, _, _, _, rfl, rfl, SqT.of h1, rfl, Nat.zero_le _, fun z hz => ?_⟩
          have sz := same_new hz (.tup [])
          refine ⟨t, z, _, rfl, rfl, SqT.of (sz _ _ h2), SqT.of upd_same, _, rfl, ?_⟩
          have e : (!decide (ws.map V.str = [])) = (true && hasWd (.wrd true ws)) := by
            show _ = (true && !decide (ws = []))
            rw [Bool.true_and, decide_eq_decide.mpr List.map_eq_nil_iff]
          rw [e]
          exact q' _ sz
    have hS3 := hS2.same s3
    have g3 : Grow p H H3 := g2.trans (Grow.same g2.pot s3)
    cases hb2 : decide (0 < w1) && hasWd S with
    | true =>
      refine iteT ?_
      have hb' := (Bool.and_eq_true_iff.mp hb2).2
      cases S with
      | num sps => cases hb'
      | wrd b ws =>
        obtain ⟨t, h1, h2⟩ := hS3
        have hne : ws ≠ [] := fun z => by rw [z] at hb'; cases b <;> cases hb'
        have hlen : (ws.map V.str).length = ws.length := List.length_map _
        have hpos : 0 < ws.length := List.length_pos_iff.mpr hne
        refine ⟨_, rfl, a, _, _, _, rfl, rfl, SqT.of h1, rfl, _, rfl, _, rfl, a, _, _, _, rfl, rfl, SqT.of h1, rfl, t, _, rfl, .inr (SqT.of h2), p, _, rfl, g3.pot, by rw [hlen]; omega, log_le (by rw [hlen]; omega) (by rw [hlen]; have := hok.1; omega), fun d H4 g4 a4 b4 => ?_⟩
        obtain ⟨v, hv, e1, e2⟩ := pick_int a4 b4
        have np : t ≠ p := fun z => by
          obtain ⟨_, _, q3, _⟩ := g3.pot
          rw [z, q3] at h2
          cases h2
        refine ⟨t, _, _, _, rfl, rfl, SqT.of (g4.keep _ _ np h2), e1, q _ _ (g3.trans g4) ?_⟩
        obtain ⟨x, _, rfl⟩ := List.mem_map.mp hv
        exact .inr ⟨x, rfl⟩
    | false =>
      refine iteF (next_go ?_)
      dsimp only
      refine if_go (cond_go (isNum S && decide (w1 < 3)) (fun H4 s4 => ?_) (fun Q' q' => ?_))
      rotate_left
      · cases S with
        | num sps =>
          obtain ⟨t, as, h1, h2⟩ := hS3
          refine ⟨_, rfl, a, _, _, _, rfl, rfl, SqT.of h1, rfl, rfl, _, rfl, ?_⟩
          refine ite2 (fun _ => ?_) (fun c => absurd (decide_eq_true rfl) c)
          exact ⟨_, rfl, _, _, rfl, rfl, _, rfl, q' H3 (Same.refl _)⟩
        | wrd b ws =>
          obtain ⟨t, h1, h2⟩ := hS3
          refine ⟨_, rfl, a, _, _, _, rfl, rfl, SqT.of h1, rfl, rfl, _, rfl, ?_⟩
          refine ite2 (fun c => absurd (of_decide_eq_true c) (by decide +kernel)) (fun _ => ?_)
          exact q' H3 (Same.refl _)
      have g4 : Grow p H H4 := g3.trans (Grow.same g3.pot s4)
      cases isNum S && decide (w1 < 3) with
      | true => exact iteT ⟨_, rfl, p, rfl, g4.pot, fun n H5 g5 n1 n2 => q _ _ (g4.trans g5) (.inl ⟨n, rfl⟩)⟩
      | false => exact iteF ⟨_, rfl, p, rfl, g4.pot, fun x H5 g5 n1 => q _ _ (g4.trans g5) (.inr ⟨x, rfl⟩)⟩
end
end My
set_option maxHeartbeats 4000000
namespace My
open PySem L2 CT CS
def spRow : Sp := fun vs H Q _ => ∃ (p l : Addr) (as : List Addr) (Ss : List CSet), vs = [.ref p, .ref l] ∧ PotAt H p ∧ l ≠ p ∧ KAt H l as Ss ∧ Ss.length ≤ 6 ∧ (∀ S ∈ Ss, okS S) ∧ ∀ t cs H', Grow p H H' → H' t = some (.tup cs) → (∀ c ∈ cs, isCl c) → cs.length ≤ 8 → Q (.ref t) H'
section
variable {P : Program} {w : World} {K : PySem.W.Frag} {mg : Str → Option Value} {base : Heap} {f g1 g2 g3 : Addr} {fd d1 d2 d3 : FuncData}
theorem ok_row (B : Blt mg) (F : Fun K "_law_row" "_law_row" sRow f fd) (G : FnOk P w K mg base CX0 4 g1 d1 ["_law_pot_here", "_law_many"] spDraw) (bG : Binds K d1 ["_law_pot_here", "_law_many"] []) (kG : PySem.W.keepIn K (.ref g1) = true) (mG : mg "_law_draw" = some (.ref g1))
    (G2 : FnOk P w K mg base CX0 4 g2 d2 ["_law_pot_here"] spNumber) (b2 : Binds K d2 ["_law_pot_here"] []) (k2 : PySem.W.keepIn K (.ref g2) = true) (m2 : mg "_law_number" = some (.ref g2))
    (G3 : FnOk P w K mg base CX0 4 g3 d3 ["_law_pot_here", "_law_tale"] spCellr) (b3 : Binds K d3 ["_law_pot_here", "_law_tale"] []) (k3 : PySem.W.keepIn K (.ref g3) = true) (m3 : mg "_law_cell" = some (.ref g3)) :
    FnOk P w K mg base CX0 5 f fd ["_law_pot_here", "_law_kind"] spRow := by
  refine F.ok scRow (fun vs H Q E h => ?_) (fun cdv A outer s H vs Q E hr h => ?_)
  · obtain ⟨p, l, as, Ss, rfl, _⟩ := h
    rfl
  obtain ⟨p, l, as, Ss, rfl, hP, nl, hK, h6, hok, q⟩ := h
  refine ⟨_, pss_cons (ps_setComp (i := 2) (N' := ["_law_tale", "_law_pot_here"]) (src := [none, some 0]) scRow.nd rfl (Or.inl rfl) rfl rfl (CompSc.ofB (by kernel_rfl)) (pi_list (pv 1)) (fun cl C s H fp => pgl (i := 0)) (fun cl C s H fp => pifs_nil)
      (fun cl C s H fp => pe_call G3 hr glc m3 k3 b3 .nil pass0 (pa_cons (pvf 1) (pa_cons (pvl 0) pa_nil))))
    (pss_cons (ps_set (i := 3) scRow.nd rfl (Or.inl rfl) (pe_call G hr rfl mG kG bG .nil pass0 (pa_cons (pv 0) (pa_cons pe_int pa_nil))))
    (pss_cons (ps_if (PW.pt (pw_and (pt_cmpR op_eq (pv 3) pe_int (nomark _)) (pw_and1 (pt_cmpR op_gt (pe_callB call_len_seq rfl B.len PySem.boot_len (pa_cons (pv 2) pa_nil)) pe_int (nomark _)))))
      (pss_one (ps_expr (pe_bm0 PySem.F.plainAttrs_list PySem.F.slot_list_pop PySem.F.type_list_pop mt_pop (pv 2)))) pss_nil)
    (pss_cons (ps_if (PW.pt (pw_and (pt_cmpR op_eq (pv 3) pe_int (nomark _)) (pw_and1 (pt_cmpR op_lt (pe_callB call_len_seq rfl B.len PySem.boot_len (pa_cons (pv 2) pa_nil)) pe_int (nomark _)))))
      (pss_one (ps_expr (pe_bm PySem.F.plainAttrs_list PySem.F.slot_list_append PySem.F.type_list_append mt_append (pv 2) (pa_cons (pe_call G2 hr rfl m2 k2 b2 .nil pass0 (pa_cons (pv 0) pa_nil)) pa_nil)))) pss_nil)
    (pss_one (ps_ret (pe_callTy call_tuple_of rfl B.tuple PyProof.Rows.boot_tuple (pa_cons (pv 2) pa_nil))))))), ?_⟩
  have hlen : (as.map V.ref).length = Ss.length := by rw [List.length_map, hK.sets.len]
  have g0 : Grow p H H := Grow.same hP (Same.refl H)
  refine ⟨_, rfl, l, rfl, ⟨_, SqL.of hK.lst⟩, fun D hD => ?_⟩
  have nD : D ≠ p := g0.ne hD
  refine comp_list (xs := as.map V.ref) (fun i σ ys H' => (∃ o, σ = [o, some (.ref p)]) ∧ ys.length = i ∧ (∀ y ∈ ys, isCl y) ∧ H' D = some (.lst ys) ∧ Grow p H H') ⟨⟨none, rfl⟩, rfl, by simp, upd_same, g0.new hD⟩ ?_ ?_ ?_ ?_ ?_
  · rintro i σ ys H' _ ⟨_, rfl, _, h, _⟩
    exact ⟨h, Nat.le_refl _⟩
  · rintro i σ ys H' _ ⟨_, _, _, _, g⟩
    exact SqL.of (hK.grow hP nl g).lst
  · rw [hlen]; exact Nat.le_trans h6 (by decide)
  · rintro i v σ ys H' hv ⟨⟨o, rfl⟩, hl, hcl, h, g⟩
    obtain ⟨a, S, rfl, e3, e4, hS⟩ := (hK.grow hP nl g).sets.get hv
    refine ⟨_, rfl, _, rfl, p, a, S, rfl, g.pot, hS, hok S (List.mem_of_getElem? e3), fun c H2 g2 hc => ⟨g2.keep D _ nD h, ⟨_, rfl⟩, by rw [List.length_append, hl]; rfl, fun y hy => ?_, upd_same, g0.put hD nD (g.trans g2)⟩⟩
    rcases List.mem_append.mp hy with z | z
    · exact hcl y z
    · rw [List.mem_singleton.mp z]; exact hc
  rintro σ0 ys H1 ⟨_, hl, hcl, h1, g1⟩
  rw [hlen] at hl
  have hl6 : ys.length ≤ 6 := by omega
  clear hl
  refine ⟨_, rfl, p, _, rfl, g1.pot, by decide, by decide, fun w1 H2 g2 a2 b2 => ?_⟩
  have h2 := g2.keep D _ nD h1
  have G2 := g1.trans g2
  refine gName_go ?_
  dsimp only
  have fin : ∀ (ys : List V) (H' : Hp), H' D = some (.lst ys) → ys.length ≤ 8 → (∀ y ∈ ys, isCl y) → Grow p H H' → ∀ D' : Ends, D'.rt = Q → tRet (tCB (fun xs H Q => ∃ p ys, xs = [.ref p] ∧ ((SqL K H p ys ∧ ∀ l, H l = none → Q (.ref l) (upd H l (.tup ys))) ∨ (SqT K H p ys ∧ Q (.ref p) H))) (tCons (tVar 2) tNil)) D' [some (.ref p), some (.ref l), some (.ref D), some (.int w1)] H' := fun ys H' h hl hc g D' eD => by
    refine ⟨_, rfl, D, _, rfl, .inl ⟨SqL.of h, fun t ht => ?_⟩⟩
    rw [eD]
    exact q t ys _ (g.new ht) upd_same hc hl
  have second : ∀ (ys : List V) (H' : Hp), H' D = some (.lst ys) → ys.length ≤ 6 → (∀ y ∈ ys, isCl y) → Grow p H H' → ∀ D' : Ends, D'.rt = Q → tSeq (tIfS (tAnd (tTest (tOp rEq (tVar 3) (tC (.int 1)))) (tTest (tOp (rI0 fun i j => .bl (decide (i < j))) (tCB (fun xs H Q => ∃ p ys, xs = [.ref p] ∧ (SqL K H p ys ∨ SqT K H p ys) ∧ Q (.int ys.length) H) (tCons (tVar 2) tNil)) (tC (.int 6)))))
      (tDrop (tBM K "list" rAppend (tVar 2) (tCons (tCall spNumber [] E0 (tCons (tVar 0) tNil)) tNil))) tNext) (tRet (tCB (fun xs H Q => ∃ p ys, xs = [.ref p] ∧ ((SqL K H p ys ∧ ∀ l, H l = none → Q (.ref l) (upd H l (.tup ys))) ∨ (SqT K H p ys ∧ Q (.ref p) H))) (tCons (tVar 2) tNil))) D' [some (.ref p), some (.ref l), some (.ref D), some (.int w1)] H' := fun ys H' h hl hc g D' eD => by
    refine if_go (cond_go (decide (w1 = 1) && decide (((ys.length : Nat) : Int) < 6)) (fun H3 s3 => ?_) (fun Q' q' => ?_))
    rotate_left
    · refine ⟨_, rfl, rfl, _, rfl, ?_⟩
      by_cases e : w1 = 1
      · rw [decide_eq_true e] at q'
        refine ite2 (fun _ => ?_) (fun c => absurd (decide_eq_true (by rw [e])) c)
        exact ⟨_, rfl, D, _, rfl, .inl (SqL.of h), _, _, rfl, rfl, _, rfl, q' H' (Same.refl _)⟩
      · rw [decide_eq_false e] at q'
        refine ite2 (fun c => absurd (of_decide_eq_true c) (fun z => e (by injection z))) (fun _ => ?_)
        exact q' H' (Same.refl _)
    have h3 := s3 _ _ h
    have g3 : Grow p H H3 := g.trans (Grow.same g.pot s3)
    cases decide (w1 = 1) && decide (((ys.length : Nat) : Int) < 6) with
    | false => exact iteF (next_go (fin ys H3 h3 (by omega) hc g3 _ eD))
    | true =>
      refine iteT ⟨_, rfl, .inl ⟨rfl, _, SqL.of h3⟩, _, rfl, p, rfl, g3.pot, fun n H4 g4 n1 n2 => ?_⟩
      refine ⟨D, _, _, rfl, rfl, g4.keep D _ nD h3, Nat.lt_of_le_of_lt hl (by decide), ?_⟩
      refine fin (ys ++ [.int n]) _ upd_same (by rw [List.length_append]; show ys.length + 1 ≤ 8; omega) (fun y hy => ?_) (g0.put hD nD (g3.trans g4)) _ eD
      rcases List.mem_append.mp hy with z | z
      · exact hc y z
      · rw [List.mem_singleton.mp z]; exact .inl ⟨n, rfl⟩
  refine if_go (cond_go (decide (w1 = 0) && decide ((1 : Int) < ((ys.length : Nat) : Int))) (fun H3 s3 => ?_) (fun Q' q' => ?_))
  rotate_left
  · refine ⟨_, rfl, rfl, _, rfl, ?_⟩
    by_cases e : w1 = 0
    · rw [decide_eq_true e] at q'
      refine ite2 (fun _ => ?_) (fun c => absurd (decide_eq_true (by rw [e])) c)
      exact ⟨_, rfl, D, _, rfl, .inl (SqL.of h2), _, _, rfl, rfl, _, rfl, q' H2 (Same.refl _)⟩
    · rw [decide_eq_false e] at q'
      refine ite2 (fun c => absurd (of_decide_eq_true c) (fun z => e (by injection z))) (fun _ => ?_)
      exact q' H2 (Same.refl _)
  have h3 := s3 _ _ h2
  have g3 : Grow p H H3 := G2.trans (Grow.same G2.pot s3)
  cases hb : decide (w1 = 0) && decide ((1 : Int) < ((ys.length : Nat) : Int)) with
  | false => exact iteF (next_go (second ys H3 h3 hl6 hcl g3 _ rfl))
  | true =>
    have hb' := of_decide_eq_true (Bool.and_eq_true_iff.mp hb).2
    have hy : ys[ys.length - 1]? = some ys[ys.length - 1] := List.getElem?_eq_getElem (by omega)
    refine iteT ⟨_, rfl, .inl ⟨rfl, _, SqL.of h3⟩, D, _, _, rfl, rfl, h3, hy, ?_⟩
    exact second ys.dropLast _ upd_same (by rw [List.length_dropLast]; omega) (fun y hy => hcl y (List.dropLast_subset _ hy)) (g0.put hD nD g3) _ rfl
end
end My
set_option maxHeartbeats 4000000
namespace My
open PySem L2 CT CS
def noDig (c : Nat) : Prop := c < 48 ∨ 57 < c
theorem run_short {n : Nat} {cs : List Nat} (h : cs.length ≤ n) : RunC n cs := fun l hl _ => Nat.le_trans hl.length_le h
theorem run_mid {n c : Nat} {a b : List Nat} (hc : noDig c) (ha : RunC n a) (hb : RunC n b) : RunC n (a ++ c :: b) := by
  intro l hl hd
  obtain ⟨s, t, e⟩ := hl
  rw [List.append_assoc] at e
  rcases List.append_eq_append_iff.mp e with ⟨u, h1, h2⟩ | ⟨u, h1, h2⟩
  · -- a = s ++ u, l ++ t = u ++ c :: b
    rcases List.append_eq_append_iff.mp h2 with ⟨v, h3, h4⟩ | ⟨v, h3, h4⟩
    · -- u = l ++ v
      refine ha l ⟨s, v, ?_⟩ hd
      rw [h1, h3, List.append_assoc]
    · -- l = u ++ v, c :: b = v ++ t
      cases v with
      | nil =>
        refine ha l ⟨s, [], ?_⟩ hd
        rw [h3, h1]; simp
      | cons d v =>
        have : d = c := by injection h4 with q1 _; exact q1.symm
        subst this
        have hm := hd d (by rw [h3]; simp)
        rcases hc with q | q <;> omega
  · -- s = a ++ u, c :: b = u ++ l ++ t
    cases u with
    | nil =>
      cases l with
      | nil => exact Nat.zero_le _
      | cons d l =>
        have : d = c := by injection h2 with q1 _; exact q1.symm
        subst this
        have hm := hd d (List.mem_cons_self ..)
        rcases hc with q | q <;> omega
    | cons d u =>
      refine hb l ⟨u, t, ?_⟩ hd
      injection h2 with _ q2
      rw [q2, List.append_assoc]; rfl
theorem run_cons {n c : Nat} {b : List Nat} (hc : noDig c) (hb : RunC n b) : RunC n (c :: b) := run_mid (a := []) hc (run_short (Nat.zero_le _)) hb
theorem run_glue {n c : Nat} (hc : noDig c) : ∀ {L : List (List Nat)}, (∀ p ∈ L, RunC n p) → RunC n (TX.glue [c] L)
  | [], _ => run_short (Nat.zero_le _)
  | [p], h => h p (List.mem_cons_self ..)
  | p :: q :: r, h => by
    have ih := run_glue hc (L := q :: r) fun z hz => h z (List.mem_cons_of_mem _ hz)
    show RunC n (p ++ [c] ++ TX.glue [c] (q :: r))
    rw [List.append_assoc]
    exact run_mid hc (h p (List.mem_cons_self ..)) ih
theorem join_codes (y : Str) (ps : List Str) : (Txt.join y ps).cps.toList = TX.glue y.cps.toList (ps.map fun p => p.cps.toList) := by rw [TX.join_eq, TX.glue_str]
theorem blank_codes : blank.cps.toList = [32] := by decide +kernel
theorem set_runs {S : CSet} (ok : okS S) : RunB 600 (setT S) := by
  have jn : ∀ {l : List Str}, (∀ x ∈ l, x.length ≤ 600) → RunC 600 (Txt.join comma l).cps.toList := fun {l} h => by
    rw [join_codes, comma_codes]
    refine run_glue (.inl (by decide)) fun p hp => ?_
    obtain ⟨x, hx, rfl⟩ := List.mem_map.mp hp
    exact run_short (by rw [← len_codes]; exact h x hx)
  cases S with
  | num sps =>
    show RunC 600 (setT (.num sps)).cps.toList
    unfold setT
    rw [cat_codes, show ("n:" : Str).cps.toList = [110, 58] by decide +kernel]
    refine run_cons (.inr (by decide)) (run_cons (.inr (by decide)) ?_)
    unfold spansT
    by_cases ne : sps = []
    · rw [if_pos ne]; exact run_short (by decide +kernel)
    · rw [if_neg ne]
      refine jn fun x hx => ?_
      obtain ⟨s, hs, rfl⟩ := List.mem_map.mp hx
      exact Nat.le_trans (spanT_len (ok.2.2 s hs).2) (by decide)
  | wrd b ws =>
    show RunC 600 (setT (.wrd b ws)).cps.toList
    unfold setT
    rw [cat_codes, show ("w:" : Str).cps.toList = [119, 58] by decide +kernel]
    refine run_cons (.inr (by decide)) (run_cons (.inr (by decide)) ?_)
    unfold wordsT
    have hj := jn (l := ws) fun x hx => Nat.le_trans (ok.2.2 x hx).2.1 (by decide)
    by_cases ne : ws = []
    · rw [if_pos ne, if_pos ne]; cases b <;> exact run_short (by decide +kernel)
    · rw [if_neg ne, if_neg ne]
      cases b
      · rw [if_neg (by decide), cat_codes, show ("*-" : Str).cps.toList = [42, 45] by decide +kernel]
        exact run_cons (.inl (by decide)) (run_cons (.inl (by decide)) hj)
      · rw [if_pos rfl]; exact hj
theorem set_com5 {S : CSet} (ok : okS S) : com (setT S) ≤ szS S := by
  cases S with
  | num sps =>
    unfold setT spansT
    rw [com_cat, show com "n:" = 0 by decide +kernel]
    by_cases ne : sps = []
    · rw [if_pos ne]; exact Nat.le_trans (by decide +kernel : _ ≤ 0) (Nat.zero_le _)
    · rw [if_neg ne]
      have := com_join (ps := sps.map spanT) (fun z => ne (List.map_eq_nil_iff.mp z)) fun p hp => by
        obtain ⟨s, _, rfl⟩ := List.mem_map.mp hp
        exact spanT_free s
      rw [List.length_map] at this
      show _ ≤ sps.length
      omega
  | wrd b ws =>
    unfold setT wordsT
    rw [com_cat, show com "w:" = 0 by decide +kernel]
    by_cases ne : ws = []
    · rw [if_pos ne, if_pos ne]; cases b <;> exact Nat.le_trans (by decide +kernel : _ ≤ 0) (Nat.zero_le _)
    · rw [if_neg ne, if_neg ne]
      have := com_join (ps := ws) ne fun p hp => wrd_free (ok.2.2 p hp)
      show _ ≤ ws.length
      cases b
      · rw [if_neg (by decide), com_cat, show com "*-" = 0 by decide +kernel]; omega
      · rw [if_pos rfl]; omega
theorem glue_mem {y : List Nat} {c : Nat} : ∀ {L : List (List Nat)}, c ∈ TX.glue y L → c ∈ y ∨ ∃ p ∈ L, c ∈ p
  | [], h => by cases h
  | [p], h => .inr ⟨p, List.mem_cons_self .., h⟩
  | p :: q :: r, h => by
    have h' : c ∈ p ++ y ++ TX.glue y (q :: r) := h
    rcases List.mem_append.mp h' with z | z
    · rcases List.mem_append.mp z with z | z
      · exact .inr ⟨p, List.mem_cons_self .., z⟩
      · exact .inl z
    · rcases glue_mem z with z | ⟨p', h1, h2⟩
      · exact .inl z
      · exact .inr ⟨p', List.mem_cons_of_mem _ h1, h2⟩
theorem span_signs (s : Spn) : ∀ c ∈ (spanT s).cps.toList, c = 45 ∨ c = 46 ∨ (48 ≤ c ∧ c ≤ 57) := by
  intro c z
  rcases spanT_eq s with ⟨n, _, e⟩ | ⟨_, e⟩
  · rw [e] at z
    have := num_codes _ z
    omega
  · rw [e, cat_codes, cat_codes, dots_codes] at z
    rcases List.mem_append.mp z with z | z
    · rcases List.mem_append.mp z with z | z
      · have := endT_codes _ z; omega
      · have : c = 46 := by simpa using z
        omega
    · have := endT_codes _ z; omega
theorem rest_signs {S : CSet} (ok : okS S) : ∀ c ∈ (cut2 (setT S)).cps.toList, c ≠ 32 ∧ c ≠ 58 := by
  have jn : ∀ {l : List Str}, (∀ x ∈ l, ∀ c ∈ x.cps.toList, c ≠ 32 ∧ c ≠ 58) → ∀ c ∈ (Txt.join comma l).cps.toList, c ≠ 32 ∧ c ≠ 58 := fun {l} h c hc => by
    rw [join_codes, comma_codes] at hc
    rcases glue_mem hc with z | ⟨p, hp, z⟩
    · have : c = 44 := by simpa using z
      omega
    · obtain ⟨x, hx, rfl⟩ := List.mem_map.mp hp
      exact h x hx c z
  have cst : ∀ {x : Str}, x = "-" ∨ x = "*" → ∀ c ∈ x.cps.toList, c ≠ 32 ∧ c ≠ 58 := fun {x} h c hc => by
    rcases h with rfl | rfl
    · rw [show ("-" : Str).cps.toList = [45] by decide +kernel] at hc
      have : c = 45 := by simpa using hc
      omega
    · rw [show ("*" : Str).cps.toList = [42] by decide +kernel] at hc
      have : c = 42 := by simpa using hc
      omega
  intro c hc
  cases S with
  | num sps =>
    unfold setT at hc
    rw [cut2_cat two_n] at hc
    unfold spansT at hc
    by_cases ne : sps = []
    · rw [if_pos ne] at hc; exact cst (.inl rfl) c hc
    · rw [if_neg ne] at hc
      refine jn (fun x hx c z => ?_) c hc
      obtain ⟨s, hs, rfl⟩ := List.mem_map.mp hx
      have := span_signs s c z
      omega
  | wrd b ws =>
    unfold setT at hc
    rw [cut2_cat two_w] at hc
    unfold wordsT at hc
    have hj := jn (l := ws) fun x hx c z => by have := (ok.2.2 x hx).2.2 c z; omega
    by_cases ne : ws = []
    · rw [if_pos ne, if_pos ne] at hc
      cases b
      · exact cst (.inr rfl) c hc
      · exact cst (.inl rfl) c hc
    · rw [if_neg ne, if_neg ne] at hc
      cases b
      · rw [if_neg (by decide), cat_codes, show ("*-" : Str).cps.toList = [42, 45] by decide +kernel] at hc
        rcases List.mem_append.mp hc with z | z
        · have : c = 42 ∨ c = 45 := by simpa using z
          omega
        · exact hj c z
      · rw [if_pos rfl] at hc; exact hj c hc
theorem set_split (S : CSet) : ∃ h, (h = 110 ∨ h = 119) ∧ (setT S).cps.toList = h :: 58 :: (cut2 (setT S)).cps.toList := by
  cases S with
  | num sps =>
    refine ⟨110, .inl rfl, ?_⟩
    unfold setT
    rw [cut2_cat two_n, cat_codes, show ("n:" : Str).cps.toList = [110, 58] by decide +kernel]; rfl
  | wrd b ws =>
    refine ⟨119, .inr rfl, ?_⟩
    unfold setT
    rw [cut2_cat two_w, cat_codes, show ("w:" : Str).cps.toList = [119, 58] by decide +kernel]; rfl
theorem set_free {S : CSet} (ok : okS S) : 32 ∉ (setT S).cps.toList := fun z => by
  obtain ⟨h, hh, e⟩ := set_split S
  rw [e] at z
  rcases List.mem_cons.mp z with z | z
  · omega
  · rcases List.mem_cons.mp z with z | z
    · omega
    · exact (rest_signs ok _ z).1 rfl
theorem split_blank {ps : List Str} (ne : ps ≠ []) (fr : ∀ p ∈ ps, 32 ∉ p.cps.toList) : Txt.split (Txt.join blank ps) blank = ps := by
  have eb : blank = ⟨#[32]⟩ := TX.str_ext (by rw [blank_codes])
  refine TX.split_join blank_codes (by decide +kernel) ne fr fun k e => ?_
  have z := (PySem.StrLaws.subAt_one (Txt.join blank ps) 32 k).mpr e
  rw [← eb] at z
  exact z
theorem kok_of {y : Str} (h : RunB 600 y) (hl : y.length ≤ 100000) (hc : com y ≤ 60) : KOk y :=
  ⟨by omega, fun p hp => set_run (RunC.sub h (part_infix hp)) (part_len hp hl) (Nat.le_trans (com_sub (part_infix hp)) hc)⟩
theorem com_glue {c : Nat} (hc : c ≠ 44) : ∀ {L : List (List Nat)}, (TX.glue [c] L).count 44 = (L.map fun p => p.count 44).sum
  | [] => rfl
  | [p] => by simp [TX.glue]
  | p :: q :: r => by
    have ih := com_glue hc (L := q :: r)
    show (p ++ [c] ++ TX.glue [c] (q :: r)).count 44 = _
    rw [List.count_append, List.count_append, ih, List.map_cons (l := q :: r), List.sum_cons]
    have : List.count 44 [c] = 0 := List.count_eq_zero.mpr (by simpa using fun z => hc z.symm)
    omega
theorem len_glue {c d : Nat} : ∀ {L : List (List Nat)}, (TX.glue [c] L).length = (TX.glue [d] L).length
  | [] => rfl
  | [p] => rfl
  | p :: q :: r => by
    have ih := len_glue (c := c) (d := d) (L := q :: r)
    show (p ++ [c] ++ TX.glue [c] (q :: r)).length = (p ++ [d] ++ TX.glue [d] (q :: r)).length
    simp only [List.length_append, ih]; rfl
theorem com_joinB {ps : List Str} : com (Txt.join blank ps) = (ps.map com).sum := by
  unfold com
  rw [join_codes, blank_codes, com_glue (by decide), List.map_map]; rfl
theorem sum_le5 {α : Type} {f : α → Nat} {n : Nat} : ∀ {l : List α}, (∀ x ∈ l, f x ≤ n) → (l.map f).sum ≤ n * l.length
  | [], _ => Nat.zero_le _
  | a :: l, h => by
    have := sum_le5 (l := l) fun x hx => h x (List.mem_cons_of_mem _ hx)
    have := h a (List.mem_cons_self ..)
    rw [List.map_cons, List.sum_cons, List.length_cons, Nat.mul_add, Nat.mul_one]; omega
structure GoodK (Ss : List CSet) : Prop where
  ne : Ss ≠ []
  few : Ss.length ≤ 6
  ok : ∀ S ∈ Ss, okS S
  sz : ∀ S ∈ Ss, szS S ≤ 5
theorem kind_run {ps : List Str} {Ss : List CSet} (g : GoodK Ss) (h : ∀ p ∈ ps, ∃ S ∈ Ss, p = setT S) : RunB 600 (Txt.join blank ps) := by
  show RunC 600 (Txt.join blank ps).cps.toList
  rw [join_codes, blank_codes]
  refine run_glue (.inl (by decide)) fun q hq => ?_
  obtain ⟨p, hp, rfl⟩ := List.mem_map.mp hq
  obtain ⟨S, hS, rfl⟩ := h p hp
  exact set_runs (g.ok S hS)
theorem kind_com {ps : List Str} {Ss : List CSet} (g : GoodK Ss) (h : ∀ p ∈ ps, ∃ S ∈ Ss, p = setT S) (hl : ps.length ≤ 6) : com (Txt.join blank ps) ≤ 30 := by
  rw [com_joinB]
  have := sum_le5 (l := ps) (f := com) (n := 5) fun p hp => by
    obtain ⟨S, hS, rfl⟩ := h p hp
    exact Nat.le_trans (set_com5 (g.ok S hS)) (g.sz S hS)
  omega
theorem kind_len {ps : List Str} {Ss : List CSet} (g : GoodK Ss) (h : ∀ p ∈ ps, ∃ S ∈ Ss, p = setT S) (hl : ps.length ≤ 6) : (Txt.join blank ps).length ≤ 54006 := by
  rw [TX.join_eq]
  have zz := PySem.StrLaws.join_length_le blank ps
  have := sum_le (l := ps) (b := 9000) fun p hp => by
    obtain ⟨S, hS, rfl⟩ := h p hp
    exact set_len (g.ok S hS)
  rw [show blank.length = 1 by decide +kernel, Nat.mul_one] at zz
  omega
theorem kind_parts (Ss : List CSet) : ∀ p ∈ Ss.map setT, ∃ S ∈ Ss, p = setT S := fun p hp => by
  obtain ⟨S, hS, rfl⟩ := List.mem_map.mp hp
  exact ⟨S, hS, rfl⟩
theorem kind_split {Ss : List CSet} (g : GoodK Ss) : Txt.split (kindT Ss) blank = Ss.map setT :=
  split_blank (fun z => g.ne (List.map_eq_nil_iff.mp z)) fun p hp => by
    obtain ⟨S, hS, rfl⟩ := kind_parts Ss p hp
    exact set_free (g.ok S hS)
theorem kind_ok {Ss : List CSet} (g : GoodK Ss) : KOk (kindT Ss) :=
  kok_of (kind_run g (kind_parts Ss)) (Nat.le_trans (kind_len g (kind_parts Ss) (by rw [List.length_map]; exact g.few)) (by decide)) (Nat.le_trans (kind_com g (kind_parts Ss) (by rw [List.length_map]; exact g.few)) (by decide))
theorem readK_kind {Ss : List CSet} (g : GoodK Ss) : readK (kindT Ss) = some Ss := by
  unfold readK
  rw [kind_split g, List.length_map, if_neg (by have := g.few; omega), List.map_map]
  refine allSome_some.mpr (List.map_congr_left fun S hS => ?_)
  exact readS_set (g.ok S hS)
end My
set_option maxHeartbeats 4000000
namespace My
open PySem L2 CT CS
theorem slice_len (x : Str) (l u : Option Int) : (Txt.slice x l u).length ≤ x.length := Txt.slice_le _ _ _
def moved (ps : List Str) (k : Nat) (q : Str) : List Str := ps.dropLast.take k ++ q :: ps.dropLast.drop k
theorem moved_perm {ps : List Str} {k : Nat} {q : Str} (h : ps[ps.length - 1]? = some q) : (moved ps k q).Perm ps := by
  have ne : ps ≠ [] := fun z => by rw [z] at h; cases h
  have e : ps = ps.dropLast ++ [q] := by
    have h1 : ps.getLast ne = q := by
      rw [List.getLast_eq_getElem]
      rw [List.getElem?_eq_getElem (by have := List.length_pos_iff.mpr ne; omega)] at h
      exact Option.some.inj h
    have := List.dropLast_concat_getLast ne
    rw [h1] at this
    exact this.symm
  unfold moved
  refine List.perm_middle.trans ?_
  rw [List.take_append_drop]
  conv => rhs; rw [e]
  exact (List.perm_append_singleton q ps.dropLast).symm
def spSpoilt : Sp := fun vs H Q _ => ∃ (p : Addr) (Ss : List CSet), vs = [.ref p, .str (kindT Ss)] ∧ PotAt H p ∧ GoodK Ss ∧ ∀ y H', Grow p H H' → KOk y → Q (.str y) H'
theorem pick_sgn (y : Str) (d : Int) (h0 : 0 ≤ d) (h1 : d < (y.length : Int)) : ∃ c, atI y.cps.toList d = some c := by
  have hl : d.toNat < y.cps.toList.length := by rw [← len_codes]; omega
  refine ⟨y.cps.toList[d.toNat], ?_⟩
  have := atI_nat (xs := y.cps.toList) (j := d.toNat) (List.getElem?_eq_getElem hl)
  rw [show ((d.toNat : Nat) : Int) = d by omega] at this
  exact this
section
variable {P : Program} {w : World} {K : PySem.W.Frag} {mg : Str → Option Value} {base : Heap} {f g1 g2 g3 CN : Addr} {fd d1 d2 d3 : FuncData}
theorem ok_spoilt (B : Blt mg) (B2 : Blt2 mg) (F : Fun K "_law_spoilt" "_law_spoilt" sSpoilt f fd) (G : FnOk P w K mg base CX0 2 g1 d1 ["_law_pot_here", "_law_many"] spDraw) (bG : Binds K d1 ["_law_pot_here", "_law_many"] []) (kG : PySem.W.keepIn K (.ref g1) = true) (mG : mg "_law_draw" = some (.ref g1))
    (G3 : FnOk P w K mg base CX0 2 g3 d3 ["_law_text"] spLongest) (b3 : Binds K d3 ["_law_text"] []) (k3 : PySem.W.keepIn K (.ref g3) = true) (m3 : mg "_law_longest" = some (.ref g3)) :
    FnOk P w K mg base CX0 3 f fd ["_law_pot_here", "_law_text"] spSpoilt := by
  refine F.ok scSpoilt (fun vs H Q E h => ?_) (fun cdv A outer s H vs Q E hr h => ?_)
  · obtain ⟨p, Ss, rfl, _⟩ := h
    rfl
  obtain ⟨p, Ss, rfl, hP, good, q⟩ := h
  refine ⟨_, pss_cons (ps_set (i := 2) scSpoilt.nd rfl (Or.inl rfl) pe_str)
    (pss_cons (ps_set (i := 3) scSpoilt.nd rfl (Or.inl rfl) (pe_ix (r := rIxL K) ix_list (pe_lst (pa_cons (pe_ix (r := rIxS) ix_str (pv 2) (pe_call G hr rfl mG kG bG .nil pass0 (pa_cons (pv 0) (pa_cons (pe_callB call_len_str rfl B.len PySem.boot_len (pa_cons (pv 2) pa_nil)) pa_nil))) (fun _ _ => rfl))
        (pa_cons (pe_ix (r := rIxS) ix_str pe_str (pe_call G hr rfl mG kG bG .nil pass0 (pa_cons (pv 0) (pa_cons pe_int pa_nil))) (fun _ _ => rfl)) pa_nil))) (pe_call G hr rfl mG kG bG .nil pass0 (pa_cons (pv 0) (pa_cons pe_int pa_nil))) (fun _ _ => rfl)))
    (pss_cons (ps_set (i := 4) scSpoilt.nd rfl (Or.inl rfl) (pe_call G hr rfl mG kG bG .nil pass0 (pa_cons (pv 0) (pa_cons (pe_op op_add (pe_callB call_len_str rfl B.len PySem.boot_len (pa_cons (pv 1) pa_nil)) pe_int) pa_nil))))
    (pss_cons (ps_set (i := 5) scSpoilt.nd rfl (Or.inl rfl) (pe_call G hr rfl mG kG bG .nil pass0 (pa_cons (pv 0) (pa_cons pe_int pa_nil))))
    (pss_cons (ps_if (pt_cmpR op_eq (pv 5) pe_int (nomark _))
      (pss_cons (ps_set (i := 6) scSpoilt.nd rfl (Or.inl rfl) (pe_bm PySem.F.plainAttrs_str PySem.F.slot_str_split PySem.F.type_str_split mt_split (pv 1) (pa_cons pe_str pa_nil)))
      (pss_cons (ps_expr (pe_bm PySem.F.plainAttrs_list PySem.F.slot_list_insert PySem.F.type_list_insert mt_insert (pv 6) (pa_cons (pe_op op_mod (pv 4) (pe_callB call_len_seq rfl B.len PySem.boot_len (pa_cons (pv 6) pa_nil)))
        (pa_cons (pe_bm0 PySem.F.plainAttrs_list PySem.F.slot_list_pop PySem.F.type_list_pop mt_pop (pv 6)) pa_nil))))
      (pss_one (ps_ret (pe_bm PySem.F.plainAttrs_str PySem.F.slot_str_join PySem.F.type_str_join mt_join pe_str (pa_cons (pv 6) pa_nil)))))) pss_nil)
    (pss_cons (ps_set (i := 7) scSpoilt.nd rfl (Or.inl rfl) (pe_op op_add_str (pe_op op_add_str (pe_slice sl_str (pv 1) po_none (po_some (pv 4))) (pe_ix (r := rIxL K) ix_list (pe_lst (pa_cons (pv 3) (pa_cons pe_str (pa_cons (pv 3) pa_nil)))) (pv 5) (fun _ _ => rfl)))
        (pe_slice sl_str (pv 1) (po_some (pe_op op_add (pv 4) (pe_ix (r := rIxL K) ix_list (pe_lst (pa_cons pe_int (pa_cons pe_int (pa_cons pe_int pa_nil)))) (pv 5) (fun _ _ => rfl)))) po_none)))
    (pss_one (ps_ret (pe_ix (r := rIxL K) ix_list (pe_lst (pa_cons (pv 7) (pa_cons (pv 1) pa_nil))) (pe_callTy call_int1 rfl B2.int PyProof.Rows.boot_int (pa_cons (pe_cmpR op_gt (pe_call G3 hr rfl m3 k3 b3 .nil pass0 (pa_cons (pv 7) pa_nil)) pe_int (nomark _)) pa_nil)) (fun _ _ => rfl)))))))))
    , ?_⟩
  have hx0 := kind_len good (kind_parts Ss) (by rw [List.length_map]; exact good.few)
  have hc0 := kind_com good (kind_parts Ss) (by rw [List.length_map]; exact good.few)
  have hsp := kind_split good
  have hkok := kind_ok good
  have hx0' : (kindT Ss).length ≤ 54006 := hx0
  have hc0' : com (kindT Ss) ≤ 30 := hc0
  generalize hxe : kindT Ss = x at *
  have hz : x.length ≤ sizeLine := Nat.le_trans hx0' (by decide)
  refine ⟨_, rfl, _, rfl, _, rfl, _, rfl, (by decide +kernel), p, _, rfl, hP, (by decide +kernel), (by decide +kernel), fun e1 H1 g1 a1 b1 => ?_⟩
  obtain ⟨c1, hc1⟩ := pick_sgn _ e1 a1 b1
  refine ⟨_, e1, c1, rfl, rfl, (by decide +kernel), hc1, _, rfl, p, _, rfl, g1.pot, by decide, by decide, fun e2 H2 g2 a2 b2 => ?_⟩
  obtain ⟨c2, hc2⟩ := pick_sgn "nw:,.-*09abc " e2 a2 (by rw [show ("nw:,.-*09abc " : Str).length = 13 by decide +kernel]; exact b2)
  refine ⟨_, e2, c2, rfl, rfl, (by decide +kernel), hc2, (by show 2 ≤ sizeLine; decide), fun D hD => ?_⟩
  have gg2 := (g1.trans g2).new (o := .lst [.str (sgn c1), .str (sgn c2)]) hD
  have nD : D ≠ p := (g1.trans g2).ne hD
  refine ⟨_, rfl, p, _, rfl, gg2.pot, by decide, by decide, fun e3 H3 g3 a3 b3 => ?_⟩
  have hsg : ∃ c, atI [V.str (sgn c1), V.str (sgn c2)] e3 = some (.str (sgn c)) := by
    have he : e3 = 0 ∨ e3 = 1 := by omega
    rcases he with z | z <;> rw [z]
    · exact ⟨c1, rfl⟩
    · exact ⟨c2, rfl⟩
  obtain ⟨c, hc⟩ := hsg
  refine ⟨D, _, _, _, rfl, rfl, SqL.of (g3.keep D _ nD upd_same), hc, ?_⟩
  have gg3 := gg2.trans g3
  refine ⟨_, rfl, _, rfl, x, rfl, hz, _, _, rfl, rfl, p, _, rfl, gg3.pot, by omega, log_le (by omega) (by omega), fun at_ H4 g4 a4 b4 => ?_⟩
  refine ⟨_, rfl, p, _, rfl, g4.pot, by decide, by decide, fun way H5 g5 a5 b5 => ⟨_, rfl, rfl, _, rfl, ?_⟩⟩
  have gg := (gg3.trans g4).trans g5
  have hsl : ∀ l u, (Txt.slice x l u).length ≤ x.length := slice_len x
  obtain ⟨n, rfl⟩ : ∃ n : Nat, at_ = n := ⟨at_.toNat, by omega⟩
  refine ite2 (fun cc => ?_) (fun cc => ?_)
  · refine ⟨_, rfl, rfl, x, blank, rfl, rfl, by decide +kernel, by omega, fun L hL => ?_⟩
    have nL : L ≠ p := gg.ne hL
    have g6 := gg.new (o := .lst ((Txt.split x blank).map V.str)) hL
    rw [hsp] at g6 ⊢
    have psS := kind_parts Ss
    have hl6 : (Ss.map setT).length ≤ 6 := by rw [List.length_map]; exact good.few
    have hpos : 0 < (Ss.map setT).length := by rw [List.length_map]; exact List.length_pos_iff.mpr good.ne
    generalize Ss.map setT = ps at *
    have hlm : (ps.map V.str).length = ps.length := List.length_map _
    have hp0 : (0 : Int) < ((ps.map V.str).length : Int) := by rw [hlm]; omega
    have hk0 := Int.emod_nonneg (n : Int) (show ((ps.map V.str).length : Int) ≠ 0 by omega)
    have hk1 := Int.emod_lt_of_pos (n : Int) hp0
    have hq : ps[ps.length - 1]? = some ps[ps.length - 1] := List.getElem?_eq_getElem (by omega)
    generalize ps[ps.length - 1] = pt at hq
    have hq' : (ps.map V.str)[(ps.map V.str).length - 1]? = some (.str pt) := by rw [hlm, List.getElem?_map, hq]; rfl
    refine ⟨_, rfl, .inl ⟨rfl, _, SqL.of upd_same⟩, _, rfl, _, rfl, L, _, rfl, .inl (SqL.of upd_same), _, _, rfl, rfl, hp0, _, rfl, .inl ⟨rfl, _, SqL.of upd_same⟩, L, _, _, rfl, rfl, upd_same, hq', ?_⟩
    refine ⟨L, _, _, _, rfl, rfl, upd_same, hk0, by omega, ?_, ?_⟩
    · rw [List.length_dropLast, hlm]
      exact Nat.lt_of_le_of_lt (Nat.sub_le _ _) (Nat.lt_of_le_of_lt hl6 (by decide))
    · generalize ((n : Int) % ((ps.map V.str).length : Int)).toNat = k
      have el : (ps.map V.str).dropLast.take k ++ V.str pt :: (ps.map V.str).dropLast.drop k = (moved ps k pt).map V.str := by
        unfold moved
        rw [List.map_append, List.map_cons, List.map_take, List.map_drop, List.map_dropLast]
      rw [el]
      have pm := moved_perm (k := k) hq
      have ml : (moved ps k pt).length = ps.length := pm.length_eq
      have mS : ∀ q ∈ moved ps k pt, ∃ S ∈ Ss, q = setT S := fun q hq => psS q (pm.mem_iff.mp hq)
      refine ⟨rfl, _, rfl, blank, L, moved ps k pt, rfl, rfl, SqL.of upd_same, ?_, ?_⟩
      · have h1 := sum_le (l := moved ps k pt) (b := 9000) fun q hq => by
          obtain ⟨S, hS, rfl⟩ := mS q hq
          exact set_len (good.ok S hS)
        rw [show blank.length = 1 by decide +kernel, ml] at *
        omega
      · refine q _ _ (gg.put hL nL (gg.put hL nL g6)) (kok_of (kind_run good mS) (Nat.le_trans (kind_len good mS (by omega)) (by decide)) (Nat.le_trans (kind_com good mS (by omega)) (by decide)))
  · have hw : way = 0 ∨ way = 1 ∨ way = 2 := by
      have : way ≠ 3 := fun z => cc (by rw [z]; exact decide_eq_true rfl)
      omega
    refine ⟨_, rfl, _, rfl, _, rfl, x, rfl, hz, _, rfl, _, rfl, (by show 3 ≤ sizeLine; decide), fun D1 hD1 => ?_⟩
    have g6 := gg.new (o := .lst [.str (sgn c), .str "", .str (sgn c)]) hD1
    have pick1 : ∃ m : Str, atI [V.str (sgn c), V.str "", V.str (sgn c)] way = some (.str m) ∧ m.length ≤ 1 := by
      rcases hw with z | z | z <;> rw [z]
      · exact ⟨_, rfl, Nat.le_refl 1⟩
      · exact ⟨_, rfl, by decide +kernel⟩
      · exact ⟨_, rfl, Nat.le_refl 1⟩
    have pick2 : ∃ m : Nat, atI [V.int 0, V.int 1, V.int 1] way = some (.int m) ∧ (m = 0 ∨ m = 1) := by
      rcases hw with z | z | z <;> rw [z]
      · exact ⟨0, rfl, .inl rfl⟩
      · exact ⟨1, rfl, .inr rfl⟩
      · exact ⟨1, rfl, .inr rfl⟩
    obtain ⟨m, hm, ml⟩ := pick1
    obtain ⟨k, hk, kl⟩ := pick2
    refine ⟨_, rfl, D1, _, _, _, rfl, rfl, SqL.of upd_same, hm, _, _, rfl, rfl, ?_, _, rfl, _, rfl, (by show 3 ≤ sizeLine; decide), fun D2 hD2 => ?_⟩
    · exact Nat.le_trans (show (Txt.slice x none (some (n : Int))).length + m.length ≤ 1000000 by have := hsl none (some (n : Int)); omega) (by decide)
    have g7 := g6.new (o := .lst [.int 0, .int 1, .int 1]) hD2
    have h1 := hsl none (some (n : Int))
    have h2 := hsl (some ((n : Int) + k)) none
    refine ⟨_, rfl, D2, _, _, _, rfl, rfl, SqL.of upd_same, hk, _, _, rfl, rfl, _, rfl, x, rfl, hz, _, _, rfl, rfl, ?_, ?_⟩
    · refine Nat.le_trans ?_ (show 1000000 ≤ sizeLine by decide)
      rw [cat_len]
      omega
    have yl : (Txt.slice x none (some (n : Int)) ++ m ++ Txt.slice x (some ((n : Int) + k)) none).length ≤ 90000 + 30000 := by
      rw [cat_len, cat_len]; omega
    have e1 : (Txt.slice x none (some (n : Int))).cps.toList = x.cps.toList.take n := slice_to x n
    have e2 : (Txt.slice x (some ((n : Int) + k)) none).cps.toList = x.cps.toList.drop (n + k) := slice_from x (n + k)
    have yc : com (Txt.slice x none (some (n : Int)) ++ m ++ Txt.slice x (some ((n : Int) + k)) none) ≤ 31 := by
      rw [com_cat, com_cat]
      have cm : com m ≤ 1 := Nat.le_trans (List.count_le_length) (by rw [← len_codes]; exact ml)
      have c1 : com (Txt.slice x none (some (n : Int))) + com (Txt.slice x (some ((n : Int) + k)) none) ≤ com x := by
        unfold com
        rw [e1, e2]
        have a1 : (x.cps.toList.drop (n + k)).count 44 ≤ (x.cps.toList.drop n).count 44 := by
          rw [← List.drop_drop]
          exact (List.drop_sublist k _).count_le 44
        have a2 : x.cps.toList.count 44 = (x.cps.toList.take n).count 44 + (x.cps.toList.drop n).count 44 := by rw [← List.count_append, List.take_append_drop]
        omega
      omega
    have yl2 : (Txt.slice x none (some (n : Int)) ++ m ++ Txt.slice x (some ((n : Int) + k)) none).length ≤ 100000 := by
      rw [cat_len, cat_len, len_codes (Txt.slice x none _), len_codes (Txt.slice x (some _) none), e1, e2, List.length_take, List.length_drop]
      rw [len_codes] at hx0'
      omega
    generalize Txt.slice x none (some (n : Int)) ++ m ++ Txt.slice x (some ((n : Int) + k)) none = y at *
    refine gName_go ?_
    dsimp only
    refine ⟨_, rfl, _, rfl, (by show 2 ≤ sizeLine; decide), fun D3 hD3 => ⟨_, rfl, y, rfl, Nat.le_trans yl2 (by decide), fun r hrn H8 s8 => ?_⟩⟩
    have g8 := g7.new (o := .lst [.str y, .str x]) hD3
    have g9 := g8.trans (Grow.same g8.pot s8)
    have pickv : ∃ v, atI [V.str y, V.str x] (if decide ((60 : Int) < (r : Int)) = true then 1 else 0) = some v ∧ Q v H8 := by
      by_cases cr : (60 : Int) < r
      · rw [decide_eq_true cr]
        exact ⟨_, rfl, q _ _ g9 hkok⟩
      · rw [decide_eq_false cr]
        exact ⟨_, rfl, q _ _ g9 (kok_of (fun l hl hd => Nat.le_trans (hrn l hl hd) (by omega)) yl2 (by omega))⟩
    obtain ⟨v, hv, hq⟩ := pickv
    exact ⟨_, _, rfl, rfl, .inr ⟨_, rfl, D3, _, _, v, rfl, rfl, SqL.of (s8 _ _ upd_same), hv, hq⟩⟩
end
end My
set_option maxHeartbeats 4000000
namespace My
open PySem L2 CT CS
theorem starts_code {p t : Str} {a b : Nat} (et : t.cps.toList = [a, b]) (h : Txt.startswith p t = true) : p.cps.toList[0]? = some a ∧ p.cps.toList[1]? = some b := by
  rw [starts_two' (by rw [et]; rfl)] at h
  have e := congrArg (fun x : Str => x.cps.toList) (of_decide_eq_true h)
  have e2 : (Txt.slice p none (some 2)).cps.toList = p.cps.toList.take 2 := slice_to p 2
  simp only [e2, et] at e
  have e0 : (p.cps.toList.take 2)[0]? = some a := by rw [e]; rfl
  have e1 : (p.cps.toList.take 2)[1]? = some b := by rw [e]; rfl
  rw [List.getElem?_take_of_lt (by decide)] at e0 e1
  exact ⟨e0, e1⟩
theorem codes_n : ("n:" : Str).cps.toList = [110, 58] := by decide +kernel
theorem codes_w : ("w:" : Str).cps.toList = [119, 58] := by decide +kernel
theorem codes_s : ("*-" : Str).cps.toList = [42, 45] := by decide +kernel
theorem readS_no {p : Str} (h : p.cps.toList[1]? ≠ some 58) : readS p = none := by
  unfold readS
  rw [if_neg (fun z => h (starts_code codes_n z).2), if_neg (fun z => h (starts_code codes_w z).2)]
theorem readK_no {x p : Str} (hp : p ∈ Txt.split x blank) (h : readS p = none) : readK x = none := by
  unfold readK
  split
  · rfl
  · exact allSome_none.mpr (List.mem_map.mpr ⟨p, hp, h⟩)
theorem glue_snoc {y p : List Nat} : ∀ {L : List (List Nat)}, L ≠ [] → TX.glue y (L ++ [p]) = TX.glue y L ++ y ++ p
  | [], h => absurd rfl h
  | [q], _ => rfl
  | q :: r :: s, _ => by
    have ih := glue_snoc (y := y) (p := p) (L := r :: s) (by simp)
    show q ++ y ++ TX.glue y ((r :: s) ++ [p]) = q ++ y ++ TX.glue y (r :: s) ++ y ++ p
    rw [ih]; simp [List.append_assoc]
theorem join_snoc {b p : Str} {ps : List Str} (ne : ps ≠ []) : (Txt.join b (ps ++ [p])).cps.toList = (Txt.join b ps).cps.toList ++ b.cps.toList ++ p.cps.toList := by
  rw [join_codes, join_codes, List.map_append]
  exact glue_snoc (fun z => ne (List.map_eq_nil_iff.mp z))
theorem ext_ok {Ss : List CSet} (g : GoodK Ss) {t : Str} {c : Nat} {r : List Nat} (e : t.cps.toList = c :: r) (hc : noDig c) (hl : t.length ≤ 20) (hm : com t ≤ 20) : KOk (kindT Ss ++ t) := by
  have h1 := kind_len g (kind_parts Ss) (by rw [List.length_map]; exact g.few)
  have h2 := kind_com g (kind_parts Ss) (by rw [List.length_map]; exact g.few)
  refine kok_of ?_ (by rw [cat_len]; show (Txt.join blank (Ss.map setT)).length + _ ≤ _; omega) (by rw [com_cat]; show com (Txt.join blank (Ss.map setT)) + _ ≤ _; omega)
  show RunC 600 (kindT Ss ++ t).cps.toList
  rw [cat_codes, e]
  refine run_mid hc (kind_run g (kind_parts Ss)) (run_short ?_)
  rw [len_codes, e, List.length_cons] at hl
  omega
theorem parts_ne {Ss : List CSet} (g : GoodK Ss) : Ss.map setT ≠ [] := fun z => g.ne (List.map_eq_nil_iff.mp z)
theorem parts_free {Ss : List CSet} (g : GoodK Ss) : ∀ p ∈ Ss.map setT, 32 ∉ p.cps.toList := fun p hp => by
  obtain ⟨S, hS, rfl⟩ := kind_parts Ss p hp
  exact set_free (g.ok S hS)
theorem ext_none {Ss : List CSet} (g : GoodK Ss) {t q : Str} (e : t.cps.toList = 32 :: q.cps.toList) (hq : 32 ∉ q.cps.toList) (h : readS q = none) : readK (kindT Ss ++ t) = none := by
  have e2 : kindT Ss ++ t = Txt.join blank (Ss.map setT ++ [q]) := TX.str_ext (by
    rw [cat_codes, join_snoc (parts_ne g), e, blank_codes]; unfold kindT; simp)
  refine readK_no (p := q) ?_ h
  rw [e2, split_blank (by simp) fun p hp => ?_]
  · exact List.mem_append_right _ (List.mem_singleton.mpr rfl)
  · rcases List.mem_append.mp hp with z | z
    · exact parts_free g p z
    · rw [List.mem_singleton.mp z]; exact hq
theorem odd_blank {Ss : List CSet} (g : GoodK Ss) : KOk (kindT Ss ++ " ") ∧ readK (kindT Ss ++ " ") = none :=
  ⟨ext_ok g (c := 32) (r := []) (by decide +kernel) (.inl (by decide)) (by decide +kernel) (by decide +kernel), ext_none g (q := "") (by decide +kernel) (by decide +kernel) (readS_no (by decide +kernel))⟩
theorem odd_w {Ss : List CSet} (g : GoodK Ss) : KOk (kindT Ss ++ " w") ∧ readK (kindT Ss ++ " w") = none :=
  ⟨ext_ok g (c := 32) (r := [119]) (by decide +kernel) (.inl (by decide)) (by decide +kernel) (by decide +kernel), ext_none g (q := "w") (by decide +kernel) (by decide +kernel) (readS_no (by decide +kernel))⟩
theorem odd_two {Ss : List CSet} (g : GoodK Ss) : KOk (kindT Ss ++ "  n:..") ∧ readK (kindT Ss ++ "  n:..") = none := by
  refine ⟨ext_ok g (c := 32) (r := [32, 110, 58, 46, 46]) (by decide +kernel) (.inl (by decide)) (by decide +kernel) (by decide +kernel), ?_⟩
  have e2 : kindT Ss ++ "  n:.." = Txt.join blank ((Ss.map setT ++ [("" : Str)]) ++ [("n:.." : Str)]) := TX.str_ext (by
    rw [cat_codes, join_snoc (by simp), join_snoc (parts_ne g), blank_codes, show ("  n:.." : Str).cps.toList = [32, 32, 110, 58, 46, 46] by decide +kernel, show ("n:.." : Str).cps.toList = [110, 58, 46, 46] by decide +kernel, show ("" : Str).cps.toList = [] by decide +kernel]; unfold kindT; simp)
  refine readK_no (p := "") ?_ (readS_no (by decide +kernel))
  rw [e2, split_blank (by simp) fun p hp => ?_]
  · exact List.mem_append_left _ (List.mem_append_right _ (List.mem_singleton.mpr rfl))
  · rcases List.mem_append.mp hp with z | z
    · rcases List.mem_append.mp z with z | z
      · exact parts_free g p z
      · rw [List.mem_singleton.mp z]; decide +kernel
    · rw [List.mem_singleton.mp z]; decide +kernel
theorem odd_ahead {Ss : List CSet} (g : GoodK Ss) : KOk ((" " : Str) ++ kindT Ss) ∧ readK ((" " : Str) ++ kindT Ss) = none := by
  have h1 := kind_len g (kind_parts Ss) (by rw [List.length_map]; exact g.few)
  have h2 := kind_com g (kind_parts Ss) (by rw [List.length_map]; exact g.few)
  have eb : (" " : Str).cps.toList = [32] := by decide +kernel
  constructor
  · refine kok_of ?_ (by rw [cat_len, show (" " : Str).length = 1 by decide +kernel]; show _ + (Txt.join blank (Ss.map setT)).length ≤ _; omega) (by rw [com_cat, show com " " = 0 by decide +kernel]; show _ + com (Txt.join blank (Ss.map setT)) ≤ _; omega)
    show RunC 600 ((" " : Str) ++ kindT Ss).cps.toList
    rw [cat_codes, eb]
    exact run_cons (.inl (by decide)) (kind_run g (kind_parts Ss))
  · have e2 : (" " : Str) ++ kindT Ss = Txt.join blank ("" :: Ss.map setT) := TX.str_ext (by
      rw [cat_codes, eb, join_codes, blank_codes]
      unfold kindT
      rw [join_codes, blank_codes]
      cases hps : Ss.map setT with
      | nil => exact absurd hps (parts_ne g)
      | cons p r => rfl)
    refine readK_no (p := "") ?_ (readS_no (by decide +kernel))
    rw [e2, split_blank (by simp) fun p hp => ?_]
    · exact List.mem_cons_self ..
    · rcases List.mem_cons.mp hp with z | z
      · rw [z]; decide +kernel
      · exact parts_free g p z
theorem odd_empty : KOk "" ∧ readK "" = none :=
  ⟨kok_of (run_short (by decide +kernel)) (by decide +kernel) (by decide +kernel), readK_no (p := "") (by decide +kernel) (readS_no (by decide +kernel))⟩
theorem odd_x {Ss : List CSet} (g : GoodK Ss) : KOk (("x" : Str) ++ kindT Ss) ∧ readK (("x" : Str) ++ kindT Ss) = none := by
  have h1 := kind_len g (kind_parts Ss) (by rw [List.length_map]; exact g.few)
  have h2 := kind_com g (kind_parts Ss) (by rw [List.length_map]; exact g.few)
  have eb : ("x" : Str).cps.toList = [120] := by decide +kernel
  constructor
  · refine kok_of ?_ (by rw [cat_len, show ("x" : Str).length = 1 by decide +kernel]; show _ + (Txt.join blank (Ss.map setT)).length ≤ _; omega) (by rw [com_cat, show com "x" = 0 by decide +kernel]; show _ + com (Txt.join blank (Ss.map setT)) ≤ _; omega)
    show RunC 600 (("x" : Str) ++ kindT Ss).cps.toList
    rw [cat_codes, eb]
    exact run_cons (.inr (by decide)) (kind_run g (kind_parts Ss))
  · cases Ss with
    | nil => exact absurd rfl g.ne
    | cons S r =>
      have e2 : ("x" : Str) ++ kindT (S :: r) = Txt.join blank ((("x" : Str) ++ setT S) :: r.map setT) := TX.str_ext (by
        rw [cat_codes, join_codes, blank_codes]
        unfold kindT
        rw [join_codes, blank_codes, List.map_cons, List.map_cons, List.map_cons, cat_codes]
        cases r.map setT with
        | nil => rfl
        | cons p r => simp [TX.glue])
      obtain ⟨h, hh, es⟩ := set_split S
      refine readK_no (p := ("x" : Str) ++ setT S) ?_ (readS_no (by
        rw [cat_codes, eb, es]
        intro z
        have : h = 58 := by simpa using z
        omega))
      rw [e2, split_blank (by simp) fun p hp => ?_]
      · exact List.mem_cons_self ..
      · rcases List.mem_cons.mp hp with z | z
        · rw [z, cat_codes, eb]
          intro q
          rcases List.mem_cons.mp q with q | q
          · omega
          · exact set_free (g.ok S (List.mem_cons_self ..)) q
        · exact parts_free g p (by rw [List.map_cons]; exact List.mem_cons_of_mem _ z)
theorem odd_seven : KOk (Txt.join blank (List.replicate 7 ("n:.." : Str))) ∧ readK (Txt.join blank (List.replicate 7 ("n:.." : Str))) = none := by
  refine ⟨kok_of (run_short (by decide +kernel)) (by decide +kernel) (by decide +kernel), ?_⟩
  unfold readK
  rw [split_blank (by simp) (fun p hp => by rw [List.eq_of_mem_replicate hp]; decide +kernel), if_pos (by decide)]
theorem odd_same {Ss : List CSet} (g : GoodK Ss) : KOk (kindT Ss ++ " n:3..3") ∧ readK (kindT Ss ++ " n:3..3") = none := by
  refine ⟨ext_ok g (c := 32) (r := [110, 58, 51, 46, 46, 51]) (by decide +kernel) (.inl (by decide)) (by decide +kernel) (by decide +kernel), ext_none g (q := "n:3..3") (by decide +kernel) (by decide +kernel) ?_⟩
  have hsp : readSps "3..3" = none := by
    have hS : readSp "3..3" = none := by
      unfold readSp
      rw [if_neg (by decide +kernel), show (Txt.partition ("3..3" : Str) dots).1 = "3" by decide +kernel, show (Txt.partition ("3..3" : Str) dots).2.2 = "3" by decide +kernel]
      have hE : readE "3" = some (some (valN "3")) := by
        unfold readE
        rw [if_neg (by decide +kernel), if_pos (by decide +kernel)]
      rw [hE]
      show (if bad (some (valN "3")) (some (valN "3")) = true then none else _) = none
      exact if_pos (show decide (valN "3" ≤ valN "3") = true from decide_eq_true (Int.le_refl _))
    unfold readSps
    rw [if_neg (by decide +kernel), show Txt.split ("3..3" : Str) comma = [("3..3" : Str)] by decide +kernel]
    have : allSome ([("3..3" : Str)].map readSp) = none := allSome_none.mpr (List.mem_map.mpr ⟨"3..3", List.mem_singleton.mpr rfl, hS⟩)
    rw [this]
  unfold readS
  rw [if_pos (by decide +kernel), show cut2 ("n:3..3" : Str) = "3..3" by decide +kernel, hsp]
  rfl
theorem odd_turned {Ss : List CSet} (g : GoodK Ss) : KOk (kindT Ss ++ " w:b,a") ∧ readK (kindT Ss ++ " w:b,a") = none := by
  refine ⟨ext_ok g (c := 32) (r := [119, 58, 98, 44, 97]) (by decide +kernel) (.inl (by decide)) (by decide +kernel) (by decide +kernel), ext_none g (q := "w:b,a") (by decide +kernel) (by decide +kernel) ?_⟩
  unfold readS
  rw [if_neg (by decide +kernel), if_pos (by decide +kernel), show cut2 ("w:b,a" : Str) = "b,a" by decide +kernel]
  unfold readW
  rw [if_neg (by decide +kernel), if_neg (by decide +kernel), if_neg (by decide +kernel)]
  unfold readL
  rw [show Txt.split ("b,a" : Str) comma = [("b" : Str), ("a" : Str)] by decide +kernel]
  refine if_neg fun z => ?_
  have := List.rel_of_pairwise_cons z.2 (List.mem_singleton.mpr rfl)
  exact absurd this (by unfold ltS; decide +kernel)
theorem comma_end (y : Str) : ("" : Str) ∈ Txt.split (y ++ ",") comma := by
  have e : y ++ "," = Txt.join comma (Txt.split y comma ++ [("" : Str)]) := TX.str_ext (by
    have p1 := PyProof.Rows.split_pos y comma
    rw [cat_codes, join_snoc (fun z => by rw [z] at p1; exact absurd p1 (by decide)), TX.join_eq, PySem.StrLaws.join_split, comma_codes, show ("" : Str).cps.toList = [] by decide +kernel, show ("," : Str).cps.toList = [44] by decide +kernel]; simp)
  rw [e, split_comma (by simp) fun p hp => ?_]
  · exact List.mem_append_right _ (List.mem_singleton.mpr rfl)
  · rcases List.mem_append.mp hp with z | z
    · have eb : comma = ⟨#[44]⟩ := TX.str_ext (by rw [comma_codes])
      rw [eb] at z
      exact PySem.StrLaws.split_free y 44 p z
    · rw [List.mem_singleton.mp z]; decide +kernel
theorem ends_comma {y z : Str} (h : y ++ "," = z) : z.cps.toList.getLast? = some 44 := by
  rw [← h, cat_codes, show ("," : Str).cps.toList = [44] by decide +kernel]; simp
theorem readL_comma (b : Bool) (y : Str) : readL b (y ++ ",") = none := by
  unfold readL
  refine if_neg fun z => ?_
  have := z.1 "" (comma_end y)
  exact absurd this (by decide +kernel)
theorem readS_comma {S : CSet} : readS (setT S ++ ",") = none := by
  obtain ⟨h, hh, es⟩ := set_split S
  have ec : cut2 (setT S ++ ",") = cut2 (setT S) ++ "," := TX.str_ext (by
    rw [cut2_codes, cat_codes, cat_codes, cut2_codes, List.drop_append_of_le_length (by rw [es]; simp)])
  generalize cut2 (setT S) = y at ec
  unfold readS
  rw [ec]
  split
  · have : readSps (y ++ ",") = none := by
      unfold readSps
      rw [if_neg fun z => by
        have := ends_comma z
        rw [show ("-" : Str).cps.toList = [45] by decide +kernel] at this
        exact absurd this (by decide)]
      have hn : allSome ((Txt.split (y ++ ",") comma).map readSp) = none := allSome_none.mpr (List.mem_map.mpr ⟨"", comma_end y, by
        unfold readSp
        rw [if_pos (by decide +kernel), if_neg (by decide +kernel)]⟩)
      rw [hn]
    rw [this]; rfl
  · split
    · unfold readW
      rw [if_neg fun z => by
        have := ends_comma z
        rw [show ("-" : Str).cps.toList = [45] by decide +kernel] at this
        exact absurd this (by decide), if_neg fun z => by
        have := ends_comma z
        rw [show ("*" : Str).cps.toList = [42] by decide +kernel] at this
        exact absurd this (by decide)]
      split
      · rename_i hs
        have h1 := (starts_code codes_s hs).2
        rw [cat_codes, show ("," : Str).cps.toList = [44] by decide +kernel] at h1
        have hy : 2 ≤ y.cps.toList.length := by
          match hyl : y.cps.toList, h1 with
          | [], h1 => simp [hyl] at h1
          | [c], h1 => simp [hyl] at h1
          | c :: d :: r, _ => simp [hyl]
        have e3 : cut2 (y ++ ",") = cut2 y ++ "," := TX.str_ext (by
          rw [cut2_codes, cat_codes, cat_codes, cut2_codes, List.drop_append_of_le_length hy])
        rw [e3]
        exact readL_comma false _
      · exact readL_comma true _
    · rfl
theorem odd_comma {Ss : List CSet} (g : GoodK Ss) : KOk (kindT Ss ++ ",") ∧ readK (kindT Ss ++ ",") = none := by
  refine ⟨ext_ok g (c := 44) (r := []) (by decide +kernel) (.inl (by decide)) (by decide +kernel) (by decide +kernel), ?_⟩
  obtain ⟨r, S, rfl⟩ : ∃ r S, Ss = r ++ [S] := ⟨Ss.dropLast, Ss.getLast g.ne, (List.dropLast_concat_getLast g.ne).symm⟩
  have e2 : kindT (r ++ [S]) ++ "," = Txt.join blank (r.map setT ++ [setT S ++ ","]) := TX.str_ext (by
    unfold kindT
    rw [cat_codes, List.map_append, List.map_cons, List.map_nil]
    by_cases ne : r.map setT = []
    · rw [ne]
      show (Txt.join blank [setT S]).cps.toList ++ _ = (Txt.join blank [setT S ++ ","]).cps.toList
      rw [join_codes, join_codes]
      show (setT S).cps.toList ++ _ = (setT S ++ ",").cps.toList
      rw [cat_codes]
    · rw [join_snoc ne, join_snoc ne, cat_codes]; simp)
  refine readK_no (p := setT S ++ ",") ?_ readS_comma
  rw [e2, split_blank (by simp) fun p hp => ?_]
  · exact List.mem_append_right _ (List.mem_singleton.mpr rfl)
  · rcases List.mem_append.mp hp with z | z
    · exact parts_free g p (by rw [List.map_append]; exact List.mem_append_left _ z)
    · rw [List.mem_singleton.mp z, cat_codes, show ("," : Str).cps.toList = [44] by decide +kernel]
      intro q
      rcases List.mem_append.mp q with q | q
      · exact set_free (g.ok S (List.mem_append_right _ (List.mem_singleton.mpr rfl))) q
      · have : (32 : Nat) = 44 := by simpa using q
        omega
theorem odd_semi {Ss : List CSet} (g : GoodK Ss) : KOk (Txt.replace (kindT Ss) ":" ";") ∧ readK (Txt.replace (kindT Ss) ":" ";") = none := by
  have h1 := kind_len g (kind_parts Ss) (by rw [List.length_map]; exact g.few)
  have h2 := kind_com g (kind_parts Ss) (by rw [List.length_map]; exact g.few)
  have h3 := kind_run g (kind_parts Ss)
  have h1' : (kindT Ss).length ≤ 54006 := h1
  have h2' : com (kindT Ss) ≤ 30 := h2
  have h3' : RunB 600 (kindT Ss) := h3
  generalize kindT Ss = x at *
  have ec : (":" : Str) = ⟨#[58]⟩ := by decide +kernel
  have es : (";" : Str).cps.toList = [59] := by decide +kernel
  have er : (Txt.replace x ":" ";").cps.toList = TX.glue [59] ((Txt.split x ":").map fun p => p.cps.toList) := by
    rw [ec, PySem.StrLaws.replace_one, TX.glue_str, es]
  have ex : x.cps.toList = TX.glue [58] ((Txt.split x ":").map fun p => p.cps.toList) := by
    have := congrArg (fun s : Str => s.cps.toList) (PySem.StrLaws.join_split x ":")
    rw [TX.glue_str, show (":" : Str).cps.toList = [58] by decide +kernel] at this
    exact this.symm
  have no58 : 58 ∉ (Txt.replace x ":" ";").cps.toList := fun z => by
    rw [er] at z
    rcases glue_mem z with z | ⟨p, hp, z⟩
    · have : (58 : Nat) = 59 := by simpa using z
      omega
    · obtain ⟨q, hq, rfl⟩ := List.mem_map.mp hp
      rw [ec] at hq
      exact PySem.StrLaws.split_free x 58 q hq z
  constructor
  · refine kok_of ?_ ?_ ?_
    · show RunC 600 (Txt.replace x ":" ";").cps.toList
      rw [er]
      refine run_glue (.inr (by decide)) fun p hp => ?_
      obtain ⟨q, hq, rfl⟩ := List.mem_map.mp hp
      exact RunC.sub h3' (part_infix hq)
    · rw [len_codes, er, len_glue (d := 58), ← ex, ← len_codes]; omega
    · unfold com at h2' ⊢
      rw [er, com_glue (by decide), ← com_glue (c := 58) (by decide), ← ex]; omega
  · have p1 := PyProof.Rows.split_pos (Txt.replace x ":" ";") blank
    have hp : (Txt.split (Txt.replace x ":" ";") blank)[0] ∈ Txt.split (Txt.replace x ":" ";") blank := List.getElem_mem (by omega)
    refine readK_no hp (readS_no fun z => no58 ?_)
    exact (part_infix hp).subset (List.mem_of_getElem? z)
end My
set_option maxHeartbeats 4000000
namespace L2
open PySem PySem.Spec PyProof.Rows
section
variable {X : Cx} {E : Value → Shared → Prop} {pins : List (Addr × Obj)} {s : Shared} {σ : St} {H : Hp}
theorem var_at {i : Nat} {x : Str} {pos : Pos} {v : V} {Q : Value → Shared → Prop} (hN : X.N[i]? = some x) (hv : Vis X.env.scope x) (hd : (x == ("__debug__" : Str)) = false) (hcd : (x == ("__classdict__" : Str)) = false) (I : Inv X pins σ H s) (e : σ[i]? = some (some v))
    (h : ∀ u, RelV v u → Q u s) : wpAny (model X.prog X.w) X.A (eval (.Name x pos) X.env) Q E s := by
  obtain ⟨m, hn, hl⟩ := I.loc
  obtain ⟨u, r, l⟩ := hl i x v hN e hv
  have fin := h u r
  rcases l with ⟨hk, hm⟩ | ⟨hk, c, hc, hcell⟩
  · exact wpAny_Name (wpAny_loadName_local I.ok.kind hk hn hm fin) hd
  · rcases hk with hk | hk
    · exact wpAny_Name (wpAny_loadName_cell I.ok.kind hk hc hcell fin) hd
    · exact wpAny_Name (wpAny_loadName_free I.ok.kind hk hc hcell fin hcd) hd
def tAddRep (i : Nat) (c a b : Str) : TA := fun σ H Q => ∃ x : Str, σ[i]? = some (some (.str x)) ∧ x.length ≠ 0 ∧ x.length + (x.length + 1) * b.length ≤ 16777216 ∧ x.length + c.length ≤ sizeLine ∧ Q [.str (x ++ c), .str (Txt.replace x a b)] H
theorem pa_addRep {i : Nat} {n c a b : Str} {j1 j2 j3 : Nat} {p1 p2 p3 p4 p5 p6 p7 p8 : Pos} (hN : X.N[i]? = some n := by rfl) (hv : Vis X.env.scope n := by first | exact Or.inl rfl | exact Or.inr (Or.inl rfl) | exact Or.inr (Or.inr rfl)) (hd : (n == ("__debug__" : Str)) = false := by decide) (hcd : (n == ("__classdict__" : Str)) = false := by decide)
    (hab : (a == b) = false := by decide +kernel) (hc : c.length ≠ 0 := by decide +kernel) (hline : (p5.endLine == p8.line) = true := by rfl)
    (hs : starEach [.BinOp (.Name n p1) .Add (.Constant (.str c) j1 p2) p3, .Call (.Attribute (.Name n p4) "replace" p5) [.Constant (.str a) j2 p6, .Constant (.str b) j3 p7] [] p8] X.env = [(false, eval (.BinOp (.Name n p1) .Add (.Constant (.str c) j1 p2) p3) X.env), (false, eval (.Call (.Attribute (.Name n p4) "replace" p5) [.Constant (.str a) j2 p6, .Constant (.str b) j3 p7] [] p8) X.env)] := by rfl)
    (hbase : attributeBase (.Name n p4) "replace" X.env (eval (.Name n p4) X.env) = eval (.Name n p4) X.env := by rfl)
    (hfew : ((backTo p8 (starEach [.Constant (.str a) j2 p6, .Constant (.str b) j3 p7] X.env)).all (fun x => !x.1) && (backToKw p8 (keywordEach [] X.env)).all (fun x => x.1.isSome)
      && decide (([.Constant (.str a) j2 p6, .Constant (.str b) j3 p7] : List Expr).length + ([] : List Keyword).length + (if ([] : List Keyword).isEmpty then 0 else 1) < 30)) = true := by rfl)
    (hs2 : starEach [.Constant (.str a) j2 p6, .Constant (.str b) j3 p7] X.env = [(false, eval (.Constant (.str a) j2 p6) X.env), (false, eval (.Constant (.str b) j3 p7) X.env)] := by rfl) :
    PA X [.BinOp (.Name n p1) .Add (.Constant (.str c) j1 p2) p3, .Call (.Attribute (.Name n p4) "replace" p5) [.Constant (.str a) j2 p6, .Constant (.str b) j3 p7] [] p8] (tAddRep i c a b) := by
  intro pos pins s σ H Q I ⟨x, e, h0, h1, h2, q⟩
  rw [hs]
  show wpAny _ _ (spliced ((false, eval _ X.env) :: backTo pos [(false, eval _ X.env)])) _ _ s
  refine Calls.spliced_cons (wpAny_BinOp (var_at hN hv hd hcd I e fun u r => ?_))
  obtain ⟨t, rfl⟩ := r
  refine Calls.Constant_str (PySem.P.add_str ?_)
  rw [if_neg (by simpa using h0), if_neg (by simpa using hc)]
  refine ⟨by show (x ++ c).length ≤ sizeLine; rw [show (x ++ c).length = x.length + c.length from by show (x.cps ++ c.cps).size = _; rw [Array.size_append]; rfl]; exact h2, ?_⟩
  have I2 : Inv X pins σ H { s with toks := s.toks + 1 + 1 } := I.tok _
  show wpAny _ _ (spliced ((false, eval _ X.env) :: backTo pos [])) _ _ { s with toks := s.toks + 1 + 1 }
  refine Calls.spliced_cons (wpAny_Call_method_late hbase hfew hline rfl (var_at hN hv hd hcd I2 e fun u r => ?_))
  obtain ⟨t', rfl⟩ := r
  refine ⟨"str", "str.replace", PySem.F.plainAttrs_str, PySem.F.slot_str_replace, PySem.F.type_str_replace, typeIs_str _ _ _, (fun _ e => by cases e), ?_⟩
  rw [hs2]
  refine Calls.callWith_builtin rfl (Calls.evalArgs_plain ?_)
  refine Calls.spliced_cons (Calls.Constant_str (k := j2) (pos := p6) (Calls.spliced_cons (Calls.Constant_str (k := j3) (pos := p7) (Calls.spliced_nil ?_))))
  refine SC.replace (by simp) (by simp) (by simp) hab h1 fun t2 k => ?_
  exact Calls.spliced_nil ⟨[.str (x ++ c), .str (Txt.replace x a b)], H, I.tok _, .cons ⟨_, rfl⟩ (.cons ⟨_, rfl⟩ .nil), q⟩
end
end L2
set_option maxHeartbeats 8000000
namespace My
open PySem L2 CT CS
structure EO (X : Cx) (e : Expr) (t : TE) : Prop where
  h : PE X e t
structure AO (X : Cx) (es : List Expr) (t : TA) : Prop where
  h : PA X es t
structure SO (X : Cx) (sts : List Stmt) (t : TS) : Prop where
  h : PSs X sts t
section
variable {X : Cx} {a b e : Expr} {es : List Expr} {ta tb te : TE} {t : TA} {pos pos' : Pos}
theorem ao_nil : AO X [] tNil := ⟨pa_nil⟩
theorem ao_cons (ha : EO X e te) (hr : AO X es t) (hs : starEach (e :: es) X.env = (false, eval e X.env) :: starEach es X.env := by rfl) : AO X (e :: es) (tCons te t) := ⟨pa_cons ha.h hr.h hs⟩
theorem eo_lst (h : AO X es t) : EO X (.List es pos) (tLst t) := ⟨pe_lst h.h⟩
theorem so_set {i : Nat} {x : Str} {rest : List Stmt} {u : TS} (hN : X.N.Nodup) (hi : X.N[i]? = some x) (hx : Loc X.env.scope x) (he : EO X e te) (h2 : SO X rest u) (hs : swapsWith e (some (.Name x pos')) pos.line X.env = pure false := by rfl) (hf : X.fn x = true ∨ X.env.scope.names.lookup x = some .local := by first | exact .inl rfl | exact .inr rfl | assumption) :
    SO X (.Assign [.Name x pos'] e pos :: rest) (tSeq (tAsg te (gName i)) u) := ⟨pss_cons (ps_set hN hi hx he.h hs hf) h2.h⟩
theorem pss_so {st : Stmt} {rest : List Stmt} {t u : TS} (h1 : PS X st t) (h2 : SO X rest u) : PSs X (st :: rest) (tSeq t u) := pss_cons h1 h2.h
end
theorem or_go {t u : TT} {σ : St} {H : Hp} {Q : Bool → Hp → Prop} (h : t σ H fun c H1 => if c = true then Q true H1 else u σ H1 Q) : tOr t u σ H Q := h
theorem test_go {r : R2} {ta tb : TE} {σ : St} {H : Hp} {Q : Bool → Hp → Prop} (h : ta σ H fun x H1 => tb σ H1 fun y H2 => r x y H2 fun v H' => ∃ k, v = .bl k ∧ Q k H') : tTest (tOp r ta tb) σ H Q := h
theorem eo_op {X : Cx} {a b : Expr} {ta tb : TE} {pos : Pos} {op : Operator} {r : R2} (ho : OpR X (binaryOp op) r) (ha : EO X a ta) (hb : EO X b tb) : EO X (.BinOp a op b pos) (tOp r ta tb) := ⟨pe_op ho ha.h hb.h⟩
theorem asg_go {te : TE} {g : TG} {t2 : TS} {D : Ends} {σ : St} {H : Hp} (h : te σ H fun x H1 => g x σ H1 (t2 D)) : tSeq (tAsg te g) t2 D σ H := h
def spRight : Sp := fun vs H Q _ => ∃ (p l : Addr) (as : List Addr) (Ss : List CSet), vs = [.ref p, .ref l, .str (kindT Ss)] ∧ PotAt H p ∧ l ≠ p ∧ KAt H l as Ss ∧ GoodK Ss ∧ ∀ H', Grow p H H' → Q (.bl true) H'
def dK : Option (List CSet) → D
  | none => .non
  | some Ss => .lst (Ss.map dS)
theorem dK_depth (o : Option (List CSet)) : (dK o).depth ≤ 4 := by
  cases o with
  | none => simp [dK, D.depth]
  | some Ss => exact kind_depth Ss
section
variable {K : PySem.W.Frag} {σ : St} {H : Hp} {Q : VK} {E : XK} {i : Nat} {x : Str}
theorem rd_kin (e : σ[i]? = some (some (.str x))) (hp : KOk x) (q : ∀ v H', Same H H' → DAt K H' (dK (readK x)) v → Q v H') : tCall spKindIn [] E (tCons (tVar i) tNil) σ H Q :=
  ⟨_, e, x, rfl, hp, fun S hr l as H' s hS => q _ H' s (by rw [hr]; exact dat_kind hS), fun hr H' s => q _ H' s (by rw [hr]; exact dat_non)⟩
theorem rd_told (e : σ[i]? = some (some (.str x))) (hp : KOk x) (q : ∀ v H', Same H H' → DAt K H' (dK (readK x)) v → Q v H') : tCall (spTold K) [] E (tCons (tVar i) tNil) σ H Q :=
  ⟨_, e, .inl ⟨x, rfl, hp, fun S hr l as H' s _ hS => q _ H' s (by rw [hr]; exact dat_kind hS), fun hr H' s => q _ H' s (by rw [hr]; exact dat_non)⟩⟩
end
theorem call1_go {sp : Sp} {v : V} {σ : St} {H : Hp} {Q : VK} {E : XK} (h : sp [v] H Q E) : tNil σ H (fun xs H2 => sp (v :: xs ++ []) H2 Q E) := h
theorem told_odd {K : PySem.W.Frag} {H : Hp} {Q : VK} {E : XK} {x : Str} (h : KOk x ∧ readK x = none) (q : ∀ H', Same H H' → Q .non H') : spTold K [.str x] H Q E :=
  .inl ⟨x, rfl, h.1, (fun S hr => by rw [h.2] at hr; cases hr), fun _ H' s => q H' s⟩
theorem told_no {K : PySem.W.Frag} {H : Hp} {Q : VK} {E : XK} {v : V} (h : NoTx K H v) (q : ∀ H', Same H H' → Q .non H') : spTold K [v] H Q E := .inr ⟨v, rfl, h, q⟩
section
variable {P : Program} {w : World} {K : PySem.W.Frag} {mg : Str → Option Value} {base : Heap} {f fS fT fH fI fW : Addr} {fd dS' dT dH dI dW : FuncData}
theorem ok_right (B : Blt mg) (Kt : Kit K) (F : Fun K "_law_texts_right" "_law_texts_right" sRight f fd)
    (GH : FnOk P w K mg base CX0 9 fH dH ["kind"] spShowKind) (bH : Binds K dH ["kind"] []) (kH : PySem.W.keepIn K (.ref fH) = true) (mH : mg "show_kind" = some (.ref fH))
    (GL : FnOk P w K mg base CX0 9 fT dT ["_law_text"] (spTold K)) (bL : Binds K dT ["_law_text"] []) (kL : PySem.W.keepIn K (.ref fT) = true) (mL : mg "_law_told" = some (.ref fT))
    (GI : FnOk P w K mg base CX0 9 fI dI ["_law_text"] spKindIn) (bI : Binds K dI ["_law_text"] []) (kI : PySem.W.keepIn K (.ref fI) = true) (mI : mg "_law_kind_in" = some (.ref fI))
    (GS : FnOk P w K mg base CX0 9 fS dS' ["_law_pot_here", "_law_text"] spSpoilt) (bS : Binds K dS' ["_law_pot_here", "_law_text"] []) (kS : PySem.W.keepIn K (.ref fS) = true) (mS : mg "_law_spoilt" = some (.ref fS))
    (GW : FnOk P w K mg base CX0 9 fW dW ["_law_pot_here", "_law_many"] spDraw) (bW : Binds K dW ["_law_pot_here", "_law_many"] []) (kW : PySem.W.keepIn K (.ref fW) = true) (mW : mg "_law_draw" = some (.ref fW)) :
    FnOk P w K mg base CX0 10 f fd ["_law_pot_here", "_law_kind", "_law_text"] spRight := by
  refine F.ok scRight (fun vs H Q E h => ?_) (fun cdv A outer s H vs Q E hr h => ?_)
  · obtain ⟨p, l, as, Ss, rfl, _⟩ := h
    rfl
  obtain ⟨p, l, as, Ss, rfl, hP, nl, hK, good, q⟩ := h
  have hu : (A.deeper (PyProof.Rows.envOfC "_law_texts_right" (defScope sRight) s.heap.objs.size f cdv)).units + 4 < cLine := by have := hr.units; omega
  refine ⟨_, pss_cons (ps_if (pt_cmpR op_ne (pe_call GH hr rfl mH kH bH .nil pass0 (pa_cons (pv 1) pa_nil)) (pv 2) (nomark _)) pss_never pss_nil)
    (pss_cons (ps_set (i := 3) scRight.nd rfl (Or.inl rfl) (pe_call GL hr rfl mL kL bL .nil pass0 (pa_cons (pv 2) pa_nil)))
    (pss_cons (ps_if (PW.pt (pw_or (pt_cmpR op_neD (pv 3) (pv 1) (nomark _)) (pw_or1 (pt_not (pt_val (pe_callB call_isinst rfl B.isinstance PyProof.Rows.boot_isinstance (pa_cons (pv 3) (pa_cons (pe_bty (n := "list") rfl B.list PyProof.Rows.boot_list) pa_nil)))))))) pss_never pss_nil)
    (pss_cons (ps_expr (pe_bm PySem.F.plainAttrs_list PySem.F.slot_list_append PySem.F.type_list_append mt_append (pv 3) (pa_cons (pe_tup (pa_cons pe_str (pa_cons (pe_tup pa_nil) pa_nil))) pa_nil)))
    (pss_so (ps_for PassesOwn.never rfl (pi_range1 rfl B.range (pa_cons pe_int pa_nil)) (pg_name (i := 4) scRight.nd rfl (Or.inl rfl))
      (pss_cons (ps_set (i := 5) scRight.nd rfl (Or.inl rfl) (pe_call GS hr rfl mS kS bS .nil pass0 (pa_cons (pv 0) (pa_cons (pv 2) pa_nil))))
      (pss_one (ps_if (pt_cmpR op_neD (pe_call GL hr rfl mL kL bL .nil pass0 (pa_cons (pv 5) pa_nil)) (pe_call GI hr rfl mI kI bI .nil pass0 (pa_cons (pv 5) pa_nil)) (nomark _)) pss_never pss_nil))))
    (so_set (i := 6) scRight.nd rfl (Or.inl rfl) (eo_lst (ao_cons (eo_op op_add_str ⟨pv 2⟩ ⟨pe_str⟩) (ao_cons (eo_op op_add_str ⟨pe_str⟩ ⟨pv 2⟩) (ao_cons ⟨pe_str⟩ (ao_cons (eo_op op_add_str ⟨pv 2⟩ ⟨pe_str⟩) (ao_cons (eo_op op_add_str ⟨pv 2⟩ ⟨pe_str⟩) (ao_cons (eo_op op_add_str ⟨pv 2⟩ ⟨pe_str⟩) (ao_cons (eo_op op_add_str ⟨pv 2⟩ ⟨pe_str⟩) (ao_cons (eo_op op_add_str ⟨pe_str⟩ ⟨pv 2⟩) ao_nil)))))))))
    (so_set (i := 6) scRight.nd rfl (Or.inl rfl) (eo_op op_cat ⟨pv 6⟩ (eo_lst (ao_cons ⟨pe_non⟩ (ao_cons ⟨pe_int⟩ (ao_cons ⟨pv 1⟩ (ao_cons ⟨pe_callTy call_tuple_of rfl B.tuple PyProof.Rows.boot_tuple (pa_cons (pv 1) pa_nil)⟩
        (ao_cons ⟨pe_bm PySem.F.plainAttrs_str PySem.F.slot_str_join PySem.F.type_str_join mt_join pe_str (pa_cons (pe_op op_rep (pe_lst (pa_cons pe_str pa_nil)) pe_int) pa_nil)⟩ ⟨pa_addRep (i := 2)⟩)))))))
    ⟨pss_one (ps_ret (pe_and (pe_cmpR op_isN (pe_call GL hr rfl mL kL bL .nil pass0 (pa_cons (pe_ix (r := rIxL K) ix_list (pv 6) (pe_call GW hr rfl mW kW bW .nil pass0 (pa_cons (pv 0) (pa_cons pe_int pa_nil))) (fun _ _ => rfl)) pa_nil)) pe_non (nomark _))
      (pe_one (pe_cmpR op_eqD (pe_call GL hr rfl mL kL bL .nil pass0 (pa_cons (pv 2) pa_nil)) (pv 1) (nomark _)))))⟩)))))), ?_⟩
  have hx0 : (kindT Ss).length ≤ 54006 := kind_len good (kind_parts Ss) (by rw [List.length_map]; exact good.few)
  have hrk := readK_kind good
  have hko := kind_ok good
  refine ⟨_, rfl, l, as, Ss, rfl, hK, good.few, good.ok, fun H1 s1 => ⟨_, rfl, rfl, _, rfl, ?_⟩⟩
  rw [decide_eq_true rfl]
  refine iteF (next_go ?_)
  try dsimp only
  refine asg_go ⟨_, rfl, .inl ⟨_, rfl, hko, fun Ss' hr' l2 as2 H2 s2 hn hK2 => ?_, fun hr' => by rw [hrk] at hr'; cases hr'⟩⟩
  rw [hrk] at hr'
  cases hr'
  refine gName_go ?_
  try dsimp only
  refine if_go (or_go (test_go ⟨_, rfl, _, rfl, _, _, dat_kind hK2, dat_kind (hK.same (s1.trans s2)), ?_, ?_⟩))
  · exact Nat.lt_of_le_of_lt (Nat.add_le_add_left (kind_depth _) _) hu
  rw [eqD_self]
  refine ⟨_, rfl, iteF ?_⟩
  refine ⟨_, rfl, _, _, _, _, _, rfl, rfl, .inl (.lst hK2.lst), kit_same (by decide), true, rfl, iteF (next_go ?_)⟩
  try dsimp only
  refine ⟨_, rfl, .inl ⟨rfl, _, SqL.of hK2.lst⟩, Nat.zero_le _, fun t0 ht0 => ⟨(by show 2 ≤ sizeLine; decide), fun t1 ht1 => ?_⟩⟩
  have u0 := same_new ht0 (.tup [])
  have u1 := same_new ht1 (.tup [.str "n", .ref t0])
  have hl2 := u1 _ _ (u0 _ _ hK2.lst)
  refine ⟨l2, _, _, rfl, rfl, hl2, ?_, ?_⟩
  · rw [List.length_map, hK2.sets.len]
    exact Nat.lt_of_le_of_lt good.few (by decide)
  have hn0 : H l2 = none := s1.free hn
  have g0 : Grow p H H := Grow.same hP (Same.refl H)
  have n2 : l2 ≠ p := g0.ne hn0
  have g1 := g0.put (o := .lst (as2.map V.ref ++ [.ref t1])) hn0 n2 (Grow.same hP (s1.trans (s2.trans (u0.trans u1))))
  try dsimp only
  generalize upd (upd (upd H2 t0 (.tup [])) t1 (.tup [.str "n", .ref t0])) l2 (.lst (as2.map V.ref ++ [.ref t1])) = H3 at g1 ⊢
  refine ⟨3, rfl, by decide, by decide, ?_⟩
  refine for_range (n := 3) (fun i σ H' => (∃ o4 o5, σ = [some (.ref p), some (.ref l), some (.str (kindT Ss)), some (.ref l2), o4, o5, none]) ∧ Grow p H H') ⟨⟨none, none, rfl⟩, g1⟩ ?_ ?_
  · rintro i σ H4 hi ⟨⟨o4, o5, rfl⟩, g4⟩
    refine ⟨_, rfl, _, rfl, p, Ss, rfl, g4.pot, good, fun y H5 g5 hy => ?_⟩
    refine gName_go ?_
    try dsimp only
    refine test_go (rd_told rfl hy fun v7 H7 s7 d7 => rd_kin (K := K) rfl hy fun v8 H8 s8 d8 => ?_)
    refine ⟨_, _, DAt.same s8 d7, d8, ?_, ?_⟩
    · exact Nat.lt_of_le_of_lt (Nat.add_le_add_left (dK_depth _) _) hu
    rw [eqD_self]
    refine ⟨_, rfl, iteF ?_⟩
    have g6 := g4.trans g5
    exact ⟨⟨_, _, rfl⟩, g6.trans (Grow.same g6.pot (s7.trans s8))⟩
  · rintro σ H4 ⟨⟨o4, o5, rfl⟩, g4⟩
    have lit : ∀ t : Str, t.length ≤ 100 → (kindT Ss).length + t.length ≤ sizeLine := fun t ht => Nat.le_trans (show _ ≤ 60000 by omega) (by decide)
    have lit2 : ∀ t : Str, t.length ≤ 100 → t.length + (kindT Ss).length ≤ sizeLine := fun t ht => Nat.le_trans (show _ ≤ 60000 by omega) (by decide)
    dsimp only
    refine asg_go ?_
    refine ⟨_, rfl, _, _, rfl, rfl, lit _ (by decide +kernel), _, rfl, _, _, rfl, rfl, lit2 _ (by decide +kernel), _, rfl, _, _, rfl, rfl, lit _ (by decide +kernel), _, rfl, _, _, rfl, rfl, lit _ (by decide +kernel), _, rfl, _, _, rfl, rfl, lit _ (by decide +kernel), _, rfl, _, _, rfl, rfl, lit _ (by decide +kernel), _, rfl, _, _, rfl, rfl, lit2 _ (by decide +kernel), (by show 8 ≤ sizeLine; decide), fun O1 hO1 => ?_⟩
    refine gName_go ?_
    try dsimp only
    have g5 := g4.new (o := .lst [.str (kindT Ss ++ " "), .str (" " ++ kindT Ss), .str "", .str (kindT Ss ++ " w"), .str (kindT Ss ++ "  n:.."), .str (kindT Ss ++ " n:3..3"), .str (kindT Ss ++ " w:b,a"), .str ("x" ++ kindT Ss)]) hO1
    have hO1' := upd_same (H := H4) (a := O1) (o := .lst [.str (kindT Ss ++ " "), .str (" " ++ kindT Ss), .str "", .str (kindT Ss ++ " w"), .str (kindT Ss ++ "  n:.."), .str (kindT Ss ++ " n:3..3"), .str (kindT Ss ++ " w:b,a"), .str ("x" ++ kindT Ss)])
    refine asg_go ?_
    generalize upd H4 O1 (.lst [.str (kindT Ss ++ " "), .str (" " ++ kindT Ss), .str "", .str (kindT Ss ++ " w"), .str (kindT Ss ++ "  n:.."), .str (kindT Ss ++ " n:3..3"), .str (kindT Ss ++ " w:b,a"), .str ("x" ++ kindT Ss)]) = H5 at g5 hO1' ⊢
    have hK5 := hK.grow hP nl g5
    refine ⟨_, rfl, _, rfl, _, rfl, l, _, rfl, .inl ⟨SqL.of hK5.lst, fun T hT => ?_⟩⟩
    have sT := same_new hT (.tup (as.map V.ref))
    refine ⟨rfl, (by show 1 ≤ sizeLine; decide), fun R hR => ⟨R, 7, _, rfl, rfl, upd_same, by decide, by decide, by decide, fun R2 hR2 => ?_⟩⟩
    have sR := same_new hR (.lst [.str "n:.."])
    have sR2 := same_new hR2 (.lst (List.replicate (7 : Int).toNat [V.str "n:.."]).flatten)
    refine ⟨blank, R2, List.replicate 7 ("n:.." : Str), rfl, rfl, SqL.of upd_same, by decide +kernel, ?_⟩
    refine ⟨kindT Ss, rfl, ?_, ?_, lit _ (by decide +kernel), (by show 7 ≤ sizeLine; decide), fun O2 hO2 => ?_⟩
    · intro z
      have hss : 32 = 32 := rfl
      have e := odd_empty
      have hz : kindT Ss = "" := TX.str_ext (by
        have : (kindT Ss).cps.toList.length = 0 := by rw [← len_codes]; exact z
        rw [List.eq_nil_of_length_eq_zero this]; decide +kernel)
      rw [hz, e.2] at hrk
      cases hrk
    · rw [show (";" : Str).length = 1 by decide +kernel]; omega
    have sO2 := same_new hO2 (.lst [.non, .int 5, .ref l, .ref T, .str (Txt.join blank (List.replicate 7 ("n:.." : Str))), .str (kindT Ss ++ ","), .str (Txt.replace (kindT Ss) ":" ";")])
    have s5 := sT.trans (sR.trans (sR2.trans sO2))
    refine ⟨O1, O2, _, _, rfl, rfl, s5 _ _ hO1', upd_same, (by show 15 ≤ sizeLine; decide), fun O3 hO3 => ?_⟩
    refine gName_go ?_
    try dsimp only
    have hT' := (sR.trans (sR2.trans sO2)) _ _ (upd_same (H := H5) (a := T) (o := .tup (as.map V.ref)))
    have hl5 := s5 _ _ hK5.lst
    have g6 := g5.trans (Grow.same g5.pot s5)
    generalize upd (upd (upd (upd H5 T (.tup (as.map V.ref))) R (.lst [.str "n:.."])) R2 (.lst (List.replicate (7 : Int).toNat [V.str "n:.."]).flatten)) O2 (.lst [.non, .int 5, .ref l, .ref T, .str (Txt.join blank (List.replicate 7 ("n:.." : Str))), .str (kindT Ss ++ ","), .str (Txt.replace (kindT Ss) ":" ";")]) = H6 at *
    have sO3 := same_new hO3 (.lst ([V.str (kindT Ss ++ " "), .str (" " ++ kindT Ss), .str "", .str (kindT Ss ++ " w"), .str (kindT Ss ++ "  n:.."), .str (kindT Ss ++ " n:3..3"), .str (kindT Ss ++ " w:b,a"), .str ("x" ++ kindT Ss)] ++ [.non, .int 5, .ref l, .ref T, .str (Txt.join blank (List.replicate 7 ("n:.." : Str))), .str (kindT Ss ++ ","), .str (Txt.replace (kindT Ss) ":" ";")]))
    have g7 := g6.trans (Grow.same g6.pot sO3)
    have nO3 : O3 ≠ p := g6.ne hO3
    have nT : T ≠ p := fun z => by
      obtain ⟨_, _, q3, _⟩ := g6.pot
      rw [z, q3] at hT'
      cases hT'
    refine ⟨_, rfl, _, rfl, p, _, rfl, g7.pot, by decide, by decide, fun d H9 g9 a9 b9 => ?_⟩
    have jl := g9.keep l _ nl (sO3 _ _ hl5)
    have jT := g9.keep T _ nT (sO3 _ _ hT')
    have pickv : ∃ v, atI ([V.str (kindT Ss ++ " "), .str (" " ++ kindT Ss), .str "", .str (kindT Ss ++ " w"), .str (kindT Ss ++ "  n:.."), .str (kindT Ss ++ " n:3..3"), .str (kindT Ss ++ " w:b,a"), .str ("x" ++ kindT Ss)] ++ [.non, .int 5, .ref l, .ref T, .str (Txt.join blank (List.replicate 7 ("n:.." : Str))), .str (kindT Ss ++ ","), .str (Txt.replace (kindT Ss) ":" ";")]) d = some v ∧ ∀ (Q' : VK) (E' : XK), (∀ H', Same H9 H' → Q' .non H') → spTold K [v] H9 Q' E' := by
      have hd : d = 0 ∨ d = 1 ∨ d = 2 ∨ d = 3 ∨ d = 4 ∨ d = 5 ∨ d = 6 ∨ d = 7 ∨ d = 8 ∨ d = 9 ∨ d = 10 ∨ d = 11 ∨ d = 12 ∨ d = 13 ∨ d = 14 := by omega
      rcases hd with z | z | z | z | z | z | z | z | z | z | z | z | z | z | z <;> rw [z]
      · exact ⟨_, rfl, fun Q' E' => told_odd (odd_blank good)⟩
      · exact ⟨_, rfl, fun Q' E' => told_odd (odd_ahead good)⟩
      · exact ⟨_, rfl, fun Q' E' => told_odd odd_empty⟩
      · exact ⟨_, rfl, fun Q' E' => told_odd (odd_w good)⟩
      · exact ⟨_, rfl, fun Q' E' => told_odd (odd_two good)⟩
      · exact ⟨_, rfl, fun Q' E' => told_odd (odd_same good)⟩
      · exact ⟨_, rfl, fun Q' E' => told_odd (odd_turned good)⟩
      · exact ⟨_, rfl, fun Q' E' => told_odd (odd_x good)⟩
      · exact ⟨_, rfl, fun Q' E' => told_no ⟨_, .non, Kt.kn⟩⟩
      · exact ⟨_, rfl, fun Q' E' => told_no ⟨_, .int 5, Kt.is_⟩⟩
      · exact ⟨_, rfl, fun Q' E' => told_no ⟨_, .lst jl, Kt.kl⟩⟩
      · exact ⟨_, rfl, fun Q' E' => told_no ⟨_, .tup jT, Kt.kt⟩⟩
      · exact ⟨_, rfl, fun Q' E' => told_odd odd_seven⟩
      · exact ⟨_, rfl, fun Q' E' => told_odd (odd_comma good)⟩
      · exact ⟨_, rfl, fun Q' E' => told_odd (odd_semi good)⟩
    obtain ⟨v, hv, ht⟩ := pickv
    refine ⟨O3, _, _, v, rfl, rfl, SqL.of (g9.keep O3 _ nO3 upd_same), hv, ?_⟩
    refine call1_go (sp := spTold K) (ht _ _ fun H10 s10 => ⟨rfl, _, rfl, ?_⟩)
    rw [decide_eq_true rfl]
    refine iteT (rd_told rfl hko fun v11 H11 s11 d11 => ?_)
    rw [hrk] at d11
    have g8 := (g7.trans g9)
    have g11 := g8.trans (Grow.same g8.pot (s10.trans s11))
    refine ⟨_, rfl, _, _, d11, dat_kind (hK.grow hP nl g11), ?_, ?_⟩
    · exact Nat.lt_of_le_of_lt (Nat.add_le_add_left (dK_depth _) _) hu
    rw [show eqD (dK (some Ss)) (.lst (Ss.map dS)) = true from eqD_self _]
    exact q _ g11
end
end My
set_option maxHeartbeats 8000000
namespace My
open PySem L2 CT CS
def spLaw (K : PySem.W.Frag) : Sp := fun vs H Q _ => ∃ (a : Addr) (ns : List Int), vs = [.ref a] ∧ SqL K H a (ns.map V.int) ∧ ns.length ≤ 63 ∧ ∀ H', Q (.bl true) H'
theorem dat_heads {K : PySem.W.Frag} {H : Hp} {t : Addr} {Ss : List CSet} (h : H t = some (.tup (Ss.map fun S => V.str (sortS S)))) : DAt K H (.tup (Ss.map fun S => D.str (sortS S))) (.ref t) := by
  refine dat_tup h (DsAt.of (by rw [List.length_map, List.length_map]) fun i d v e1 e2 => ?_)
  rw [List.getElem?_map] at e1 e2
  cases q1 : Ss[i]? with
  | none => rw [q1] at e1; cases e1
  | some S =>
    rw [q1] at e1 e2
    cases e1
    cases e2
    exact dat_str _
section
variable {P : Program} {w : World} {K : PySem.W.Frag} {mg : Str → Option Value} {base : Heap} {f fP fR fX fT fH fI fJ fL fW : Addr} {fd dP dR' dX dT dH dI dJ dL dW : FuncData}
theorem ok_law (B : Blt mg) (B2 : Blt2 mg) (F : Fun K "law" "law" sLaw f fd)
    (GP : FnOk P w K mg base CX0 10 fP dP ["_law_script", "_law_k"] (spPot K)) (bP : Binds K dP ["_law_script", "_law_k"] []) (kP : PySem.W.keepIn K (.ref fP) = true) (mP : mg "_law_pot" = some (.ref fP))
    (GR : FnOk P w K mg base CX0 10 fR dR' ["_law_pot_here"] spSet) (bR : Binds K dR' ["_law_pot_here"] []) (kR : PySem.W.keepIn K (.ref fR) = true) (mR : mg "_law_set" = some (.ref fR))
    (GT : FnOk P w K mg base CX0 10 fT dT ["_law_tale"] spText) (bT : Binds K dT ["_law_tale"] []) (kT : PySem.W.keepIn K (.ref fT) = true) (mT : mg "_law_set_text" = some (.ref fT))
    (GH : FnOk P w K mg base CX0 10 fH dH ["kind"] spHead) (bH : Binds K dH ["kind"] []) (kH : PySem.W.keepIn K (.ref fH) = true) (mH : mg "head_of" = some (.ref fH))
    (GX : FnOk P w K mg base CX0 10 fX dX ["_law_pot_here", "_law_kind", "_law_text"] spRight) (bX : Binds K dX ["_law_pot_here", "_law_kind", "_law_text"] []) (kX : PySem.W.keepIn K (.ref fX) = true) (mX : mg "_law_texts_right" = some (.ref fX))
    (GL : FnOk P w K mg base CX0 10 fL dL ["_law_pot_here", "_law_kind"] spRow) (bL : Binds K dL ["_law_pot_here", "_law_kind"] []) (kL : PySem.W.keepIn K (.ref fL) = true) (mL : mg "_law_row" = some (.ref fL))
    (GI : FnOk P w K mg base CX0 10 fI dI ["kind", "row"] spIsOf) (bI : Binds K dI ["kind", "row"] []) (kI : PySem.W.keepIn K (.ref fI) = true) (mI : mg "is_of" = some (.ref fI))
    (GJ : FnOk P w K mg base CX0 10 fJ dJ ["_law_kind", "_law_row_here"] spIsOf) (bJ : Binds K dJ ["_law_kind", "_law_row_here"] []) (kJ : PySem.W.keepIn K (.ref fJ) = true) (mJ : mg "_law_is_of" = some (.ref fJ))
    (GW : FnOk P w K mg base CX0 10 fW dW ["_law_pot_here", "_law_many"] spDraw) (bW : Binds K dW ["_law_pot_here", "_law_many"] []) (kW : PySem.W.keepIn K (.ref fW) = true) (mW : mg "_law_draw" = some (.ref fW)) :
    FnOk P w K mg base CX0 11 f fd ["_law_script"] (spLaw K) := by
  refine F.ok scLaw (fun vs H Q E h => ?_) (fun cdv A outer s H vs Q E hr h => ?_)
  · obtain ⟨a, ns, rfl, _⟩ := h
    rfl
  obtain ⟨a, ns, rfl, hS, h63, q⟩ := h
  have hu : (A.deeper (PyProof.Rows.envOfC "law" (defScope sLaw) s.heap.objs.size f cdv)).units + 4 < cLine := by have := hr.units; omega
  refine ⟨_, pss_cons (ps_for PassesOwn.never rfl (pi_range1 rfl B.range (pa_cons (pe_op op_add pe_int (pe_callB (call_min2 rfl) rfl B2.min PyProof.Rows.boot_min (pa_cons pe_int (pa_cons (pe_callB call_len_seq rfl B.len PySem.boot_len (pa_cons (pv 0) pa_nil)) pa_nil)))) pa_nil)) (pg_name (i := 1) scLaw.nd rfl (Or.inl rfl))
      (pss_cons (ps_set (i := 2) scLaw.nd rfl (Or.inr rfl) (pe_call GP hr rfl mP kP bP .nil pass0 (pa_cons (pv 0) (pa_cons (pv 1) pa_nil))))
      (pss_cons (ps_setComp (i := 3) (N' := ["_law_j", "_law_pot_here"]) (src := [none, some 2]) scLaw.nd rfl (Or.inl rfl) rfl rfl (CompSc.ofB (by kernel_rfl)) (pi_range1 rfl B.range (pa_cons (pe_op op_add pe_int (pe_call GW hr rfl mW kW bW .nil pass0 (pa_cons (pv 2) (pa_cons pe_int pa_nil)))) pa_nil)) (fun cl C s H fp => pgl (i := 0)) (fun cl C s H fp => pifs_nil)
        (fun cl C s H fp => pe_call GR hr glc mR kR bR .nil pass0 (pa_cons (pvf 1) pa_nil)))
      (pss_cons (ps_set (i := 4) scLaw.nd rfl (Or.inl rfl) (pe_bm PySem.F.plainAttrs_str PySem.F.slot_str_join PySem.F.type_str_join mt_join pe_str (pa_cons (pe_lcomp (N' := ["_law_tale"]) (src := [none]) rfl (CompSc.ofB (by kernel_rfl)) (pi_list (pv 3)) (fun cl C s H fp => pgl (i := 0)) (fun cl C s H fp => pifs_nil)
        (fun cl C s H fp => pe_call GT hr glc mT kT bT .nil pass0 (pa_cons (pvl 0) pa_nil))) pa_nil)))
      (pss_cons (ps_set (i := 5) scLaw.nd rfl (Or.inl rfl) (pe_callTy call_list_of rfl B.list PyProof.Rows.boot_list (pa_cons (pv 3) pa_nil)))
      (pss_cons (ps_if (PW.pt (pw_or (pt_cmpR op_neD (pe_call GH hr rfl mH kH bH .nil pass0 (pa_cons (pv 3) pa_nil)) (pe_callTy call_tuple_of rfl B.tuple PyProof.Rows.boot_tuple (pa_cons (pe_lcomp (N' := ["_law_tale"]) (src := [none]) rfl (CompSc.ofB (by kernel_rfl)) (pi_list (pv 3)) (fun cl C s H fp => pgl (i := 0)) (fun cl C s H fp => pifs_nil)
          (fun cl C s H fp => pe_ix (r := rIxT K) ix_tup (pvl 0) pe_int (fun _ _ => rfl))) pa_nil)) (nomark _))
          (pw_or1 (pt_not (pt_val (pe_call GX hr rfl mX kX bX .nil pass0 (pa_cons (pv 2) (pa_cons (pv 3) (pa_cons (pv 4) pa_nil))))))))) pss_never pss_nil)
      (pss_cons (ps_for PassesOwn.never rfl (pi_range1 rfl B.range (pa_cons pe_int pa_nil)) (pg_name (i := 6) scLaw.nd rfl (Or.inl rfl))
        (pss_cons (ps_set (i := 7) scLaw.nd rfl (Or.inl rfl) (pe_call GL hr rfl mL kL bL .nil pass0 (pa_cons (pv 2) (pa_cons (pv 3) pa_nil))))
        (pss_cons (ps_set (i := 8) scLaw.nd rfl (Or.inl rfl) (pe_call GI hr rfl mI kI bI .nil pass0 (pa_cons (pv 3) (pa_cons (pv 7) pa_nil))))
        (pss_one (ps_if (PW.pt (pw_or (pt_not (pt_val (pe_callB call_isinst rfl B.isinstance PyProof.Rows.boot_isinstance (pa_cons (pv 8) (pa_cons (pe_bty (n := "bool") rfl B2.bool (by decide +kernel)) pa_nil)))))
          (pw_or1 (pt_cmpR op_ne (pv 8) (pe_call GJ hr rfl mJ kJ bJ .nil pass0 (pa_cons (pv 3) (pa_cons (pv 7) pa_nil))) (nomark _))))) pss_never pss_nil)))))
      (pss_one (ps_if (pt_cmpR op_neD (pv 3) (pv 5) (nomark _)) pss_never pss_nil)))))))))
    (pss_one (ps_ret pe_bl)), ?_⟩
  have hl : (ns.map V.int).length = ns.length := List.length_map _
  refine ⟨_, rfl, a, _, rfl, .inl hS, _, _, rfl, _, _, rfl, rfl, _, rfl, ?_, ?_, ?_⟩
  · have e : ((2 : Int) ^ 62) = 4611686018427387904 := by decide
    rw [e, hl]
    split <;> omega
  · have e : ((2 : Int) ^ 62) = 4611686018427387904 := by decide
    rw [e, hl]
    split <;> omega
  have hm : (2 + if (((ns.map V.int).length : Nat) : Int) < 12 then (((ns.map V.int).length : Nat) : Int) else 12).toNat ≤ 14 := by
    split <;> omega
  refine for_range (n := (2 + if (((ns.map V.int).length : Nat) : Int) < 12 then (((ns.map V.int).length : Nat) : Int) else 12).toNat) (fun i σ H' => (∃ o1 o2 o3 o4 o5 o6 o7 o8, σ = [some (.ref a), o1, o2, o3, o4, o5, o6, o7, o8]) ∧ Same H H') ⟨⟨none, none, none, none, none, none, none, none, rfl⟩, Same.refl _⟩ ?_ ?_
  rotate_left
  · rintro σ H' _
    exact q H'
  rintro i σ H0 hi ⟨⟨o1, o2, o3, o4, o5, o6, o7, o8, rfl⟩, s0⟩
  refine ⟨_, rfl, _, rfl, a, ns, _, rfl, s0.seq hS, by omega, by omega, fun p H1 hp s1 hP => ?_⟩
  refine gName_go ?_
  dsimp only
  have fin : ∀ {H' : Hp}, Grow p H1 H' → Same H H' := fun {H'} g => s0.trans fun b o e => g.keep b o (ne_of_none e hp) (s1 _ _ e)
  have g1 : Grow p H1 H1 := Grow.same hP (Same.refl _)
  refine ⟨_, rfl, p, _, rfl, hP, by decide, by decide, fun d H2 g2 a2 b2 => ⟨_, _, rfl, rfl, _, rfl, ?_, ?_, fun Dk hDk => ?_⟩⟩
  · have e : ((2 : Int) ^ 62) = 4611686018427387904 := by decide
    rw [e]; omega
  · have e : ((2 : Int) ^ 62) = 4611686018427387904 := by decide
    rw [e]; omega
  have nk : Dk ≠ p := g2.ne hDk
  refine comp_range (n := (1 + d).toNat) (fun i σ ys H' => (∃ o, σ = [o, some (.ref p)]) ∧ (∃ as Ss, ys = as.map V.ref ∧ SetsAt H' as Ss ∧ as.length = i ∧ (∀ S ∈ Ss, okS S) ∧ ∀ S ∈ Ss, szS S ≤ 5) ∧ H' Dk = some (.lst ys) ∧ Grow p H1 H')
    ⟨⟨none, rfl⟩, ⟨[], [], rfl, ⟨rfl, fun i a S e => by cases e⟩, rfl, by simp, by simp⟩, upd_same, g2.new hDk⟩ ?_ ?_ ?_ ?_
  · rintro i σ ys H' _ ⟨_, ⟨as, Ss, rfl, _, rfl, _⟩, h, _⟩
    exact ⟨h, by rw [List.length_map]; exact Nat.le_refl _⟩
  · exact Nat.le_trans (show (1 + d).toNat ≤ 6 by omega) (by decide)
  · rintro i σ ys H' hi ⟨⟨o, rfl⟩, ⟨as, Ss, rfl, hSs, rfl, hok, hsz⟩, h, g⟩
    refine ⟨_, rfl, p, rfl, g.pot, fun b S H3 g3 hb okb szb => ?_⟩
    have hk3 := g3.keep Dk _ nk h
    refine ⟨hk3, ⟨_, rfl⟩, ⟨as ++ [b], Ss ++ [S], by rw [List.map_append]; rfl, ?_, by rw [List.length_append]; rfl, fun S' h' => ?_, fun S' h' => ?_⟩, upd_same, g2.put hDk nk (g.trans g3)⟩
    · refine ((hSs.grow g.pot g3).snoc hb).keep fun c xs ec => ?_
      by_cases hc : c = Dk
      · subst hc; rw [hk3] at ec; cases ec
      · rw [upd_ne hc]; exact ec
    · rcases List.mem_append.mp h' with z | z
      · exact hok S' z
      · rw [List.mem_singleton.mp z]; exact okb
    · rcases List.mem_append.mp h' with z | z
      · exact hsz S' z
      · rw [List.mem_singleton.mp z]; exact szb
  rintro σ0 ys0 H3 ⟨_, ⟨as, Ss, rfl, hSs, hal, hok, hsz⟩, hk, g3⟩
  have hK : KAt H3 Dk as Ss := ⟨hk, hSs⟩
  have hSl : Ss.length = (1 + d).toNat := by rw [← hSs.len, hal]
  have good : GoodK Ss := ⟨fun z => by rw [z] at hSl; simp at hSl; omega, by omega, hok, hsz⟩
  have hlen : (as.map V.ref).length = Ss.length := by rw [List.length_map, hSs.len]
  refine gName_go ?_
  dsimp only
  refine ⟨rfl, _, rfl, Dk, rfl, ⟨_, SqL.of hk⟩, fun Dt hDt => ?_⟩
  have ndt : Dk ≠ Dt := fun z => by rw [← z, hk] at hDt; cases hDt
  refine comp_list (xs := as.map V.ref) (fun i σ ys H' => (∃ o, σ = [o]) ∧ ys = ((Ss.take i).map setT).map V.str ∧ H' Dt = some (.lst ys) ∧ Same H3 H')
    ⟨⟨none, rfl⟩, rfl, upd_same, same_new hDt _⟩ ?_ ?_ ?_ ?_ ?_
  · rintro i σ ys H' _ ⟨_, rfl, h, _⟩
    exact ⟨h, by rw [List.length_map, List.length_map, List.length_take]; exact Nat.min_le_left _ _⟩
  · rintro i σ ys H' _ ⟨_, _, _, sm⟩
    exact SqL.of (sm _ _ hk)
  · rw [hlen]; exact Nat.le_trans good.few (by decide)
  · rintro i v σ ys H' hv ⟨⟨o, rfl⟩, rfl, h, sm⟩
    obtain ⟨b, S, rfl, e3, e4, hb⟩ := hSs.get hv
    refine ⟨_, rfl, b, S, rfl, hb.same sm, hok S (List.mem_of_getElem? e3), fun H4 s4 => ⟨s4 _ _ h, ⟨_, rfl⟩, ?_, upd_same, same_put hDt (sm.trans s4)⟩⟩
    rw [List.take_add_one, e3, List.map_append, List.map_append]; rfl
  rintro σ1 ys1 H4 ⟨_, rfl, h4, s4⟩
  rw [hlen, List.take_of_length_le (Nat.le_refl _)] at h4
  refine ⟨blank, Dt, Ss.map setT, rfl, rfl, SqL.of h4, ?_, ?_⟩
  · have h1 := sum_le (l := Ss.map setT) (b := 9000) fun x hx => by
      obtain ⟨S, hS, rfl⟩ := List.mem_map.mp hx
      exact set_len (hok S hS)
    have h2 : blank.length = 1 := by decide +kernel
    have := good.few
    rw [List.length_map] at h1 ⊢
    rw [h2]; omega
  refine gName_go ?_
  dsimp only
  have hK4 := hK.same s4
  refine ⟨_, rfl, Dk, _, rfl, .inl (SqL.of hK4.lst), fun Lc hLc => ?_⟩
  refine gName_go ?_
  dsimp only
  have s5 := same_new hLc (.lst (as.map V.ref))
  have hK5 := hK4.same s5
  have hC5 : KAt (upd H4 Lc (.lst (as.map V.ref))) Lc as Ss := ⟨upd_same, hK5.sets⟩
  have g5 : Grow p H1 (upd H4 Lc (.lst (as.map V.ref))) := g3.trans (Grow.same g3.pot (s4.trans s5))
  have nc : Lc ≠ p := (g3.trans (Grow.same g3.pot s4)).ne hLc
  generalize upd H4 Lc (.lst (as.map V.ref)) = H5 at *
  refine if_go (or_go (test_go ⟨_, rfl, Dk, as, Ss, rfl, hK5, good.few, fun t6 H6 s6 ht6 => ?_⟩))
  have hK6 := hK5.same s6
  refine ⟨_, rfl, Dk, rfl, ⟨_, SqL.of hK6.lst⟩, fun Dh hDh => ?_⟩
  refine comp_list (xs := as.map V.ref) (fun i σ ys H' => (∃ o, σ = [o]) ∧ ys = (Ss.take i).map (fun S => V.str (sortS S)) ∧ H' Dh = some (.lst ys) ∧ Same H6 H')
    ⟨⟨none, rfl⟩, rfl, upd_same, same_new hDh _⟩ ?_ ?_ ?_ ?_ ?_
  · rintro i σ ys H' _ ⟨_, rfl, h, _⟩
    exact ⟨h, by rw [List.length_map, List.length_take]; exact Nat.min_le_left _ _⟩
  · rintro i σ ys H' _ ⟨_, _, _, sm⟩
    exact SqL.of (sm _ _ hK6.lst)
  · rw [hlen]; exact Nat.le_trans good.few (by decide)
  · rintro i v σ ys H' hv ⟨⟨o, rfl⟩, rfl, h, sm⟩
    obtain ⟨b, S, rfl, e3, e4, hb⟩ := hK6.sets.get hv
    obtain ⟨xs, hx⟩ := set_hd hb
    refine ⟨_, rfl, b, _, _, _, rfl, rfl, SqT.of (sm _ _ hx), atI_nat (j := 0) rfl, h, ⟨_, rfl⟩, ?_, upd_same, same_put hDh sm⟩
    rw [List.take_add_one, e3, List.map_append]; rfl
  rintro σ2 ys2 H7 ⟨_, rfl, h7, s7⟩
  rw [hlen, List.take_of_length_le (Nat.le_refl _)] at h7
  refine ⟨Dh, _, rfl, .inl ⟨SqL.of h7, fun t8 ht8 => ?_⟩⟩
  have s8 := same_new ht8 (.tup (Ss.map fun S => V.str (sortS S)))
  refine ⟨_, _, dat_heads ((s7.trans s8) _ _ ht6), dat_heads upd_same, ?_, ?_⟩
  · have := depth_flat (f := fun S : CSet => D.str (sortS S)) (n := 0) (fun s => by simp [D.depth]) Ss
    refine Nat.lt_of_le_of_lt (Nat.add_le_add_left ?_ _) hu
    simp only [D.depth]; omega
  rw [eqD_self]
  refine ⟨_, rfl, iteF ?_⟩
  have s58 := s6.trans (s7.trans s8)
  have g8 := g5.trans (Grow.same g5.pot s58)
  refine ⟨_, rfl, _, rfl, _, rfl, p, Dk, as, Ss, rfl, g8.pot, nk, hK5.same s58, good, fun H9 g9 => ⟨true, rfl, iteF (next_go ?_)⟩⟩
  try dsimp only
  have g10 := g8.trans g9
  have hK9 := (hK5.same s58).grow g8.pot nk g9
  have hC9 := (hC5.same s58).grow g8.pot nc g9
  refine ⟨4, rfl, by decide, by decide, ?_⟩
  refine for_range (n := 4) (fun i σ H' => (∃ o1 o6 o7 o8, σ = [some (.ref a), o1, some (.ref p), some (.ref Dk), some (.str (kindT Ss)), some (.ref Lc), o6, o7, o8]) ∧ Grow p H9 H') ⟨⟨_, _, _, _, rfl⟩, Grow.same g10.pot (Same.refl _)⟩ ?_ ?_
  · rintro i σ Ha hi ⟨⟨o1, o6, o7, o8, rfl⟩, ga⟩
    have hKa := hK9.grow g10.pot nk ga
    refine ⟨_, rfl, _, rfl, p, Dk, as, Ss, rfl, ga.pot, nk, hKa, good.few, hok, fun t cs Hb gb hb hcl h8 => ?_⟩
    refine gName_go ?_
    dsimp only
    have hKb := hKa.grow ga.pot nk gb
    refine ⟨_, rfl, _, rfl, Dk, as, Ss, t, cs, rfl, hKb, good.few, hok, hb, hcl, h8, fun Hc sc => ?_⟩
    refine gName_go ?_
    dsimp only
    refine or_go ⟨_, rfl, _, _, _, _, _, rfl, rfl, .inl (.bl _), kit_same (by decide), true, rfl, iteF ?_⟩
    refine test_go ⟨_, rfl, _, rfl, _, rfl, Dk, as, Ss, t, cs, rfl, hKb.same sc, good.few, hok, sc _ _ hb, hcl, h8, fun Hd sd => ⟨rfl, _, rfl, ?_⟩⟩
    rw [decide_eq_true rfl]
    refine iteF ?_
    have gc := ga.trans gb
    exact ⟨⟨_, _, _, _, rfl⟩, gc.trans (Grow.same gc.pot (sc.trans sd))⟩
  · rintro σ Ha ⟨⟨o1, o6, o7, o8, rfl⟩, ga⟩
    try dsimp only
    refine test_go ⟨_, rfl, _, rfl, _, _, dat_kind (hK9.grow g10.pot nk ga), dat_kind (hC9.grow g10.pot nc ga), ?_, ?_⟩
    · exact Nat.lt_of_le_of_lt (Nat.add_le_add_left (kind_depth _) _) hu
    rw [eqD_self]
    refine ⟨_, rfl, iteF ?_⟩
    exact ⟨⟨_, _, _, _, _, _, _, _, rfl⟩, fin (g10.trans ga)⟩
end
end My
set_option maxHeartbeats 8000000
namespace My
open PySem L2 CT CS
def xclsB (K : PySem.W.Frag) (C PE : Addr) : Bool := (match PySem.W.clsIn K C with | some cd => cd.mro == .ref C :: .ref PE :: bmVE && cd.hasDict | none => false) && PySem.W.mroIn K C (.type "object") == some true &&
  PySem.W.findIn K (.ref C) "__setattr__" == some (some (.builtin "object.__setattr__")) && PySem.W.findIn K (.ref C) "__getattribute__" == some (some (.builtin "BaseException.__getattribute__")) && PySem.W.findIn K (.ref C) "__getattr__" == some none && PySem.W.mroIn K C (.type "BaseException") == some true && PySem.W.findIn K (.ref C) "__class__" == some (some (.builtin "object.__class__"))
theorem xcls_of {K : PySem.W.Frag} {C PE : Addr} (h : xclsB K C PE = true) (cg : PySem.W.specialIn K (.builtin "object.__class__") "__get__" = some (some (.builtin "getset_descriptor.__get__"))) (ct : PySem.W.takesIn K (.builtin "object.__class__") = some true) : XCls K C := by
  unfold xclsB at h
  simp only [Bool.and_eq_true, beq_iff_eq] at h
  obtain ⟨⟨⟨⟨⟨⟨h1, h2⟩, h3⟩, h4⟩, h6⟩, h7⟩, h5⟩ := h
  split at h1
  · rename_i cd e
    simp only [Bool.and_eq_true, beq_iff_eq] at h1
    exact ⟨⟨cd, PE, e, h1.1, h1.2⟩, h2, h3, h4, h6, h7, h5, cg, ct⟩
  · cases h1
theorem all_mk {l : PySem.W.OpenLaw} {w : World} {K : PySem.W.Frag} {h : Heap} {mg : Str → Option Value} {fa : Addr} (X : K.In h) (G : h.Ns mainGlobals mg) (hfa : mg "law" = some (.ref fa))
    {CN PE : Addr}
    {f__law_cell_at : Addr} {od__law_cell_at an__law_cell_at : Option Addr} {sl__law_cell_at : Array (Option Value)} {oc__law_cell_at kV__law_cell_at dc__law_cell_at pm__law_cell_at cd__law_cell_at ct__law_cell_at : Value}
    {f__law_pot : Addr} {od__law_pot an__law_pot : Option Addr} {sl__law_pot : Array (Option Value)} {oc__law_pot kV__law_pot dc__law_pot pm__law_pot cd__law_pot ct__law_pot : Value}
    {f__law_draw : Addr} {od__law_draw an__law_draw : Option Addr} {sl__law_draw : Array (Option Value)} {oc__law_draw kV__law_draw dc__law_draw pm__law_draw cd__law_draw ct__law_draw : Value}
    {f__law_number : Addr} {od__law_number an__law_number : Option Addr} {sl__law_number : Array (Option Value)} {oc__law_number kV__law_number dc__law_number pm__law_number cd__law_number ct__law_number : Value}
    {f__law_word : Addr} {od__law_word an__law_word : Option Addr} {sl__law_word : Array (Option Value)} {oc__law_word kV__law_word dc__law_word pm__law_word cd__law_word ct__law_word : Value}
    {f_is_word : Addr} {od_is_word an_is_word : Option Addr} {sl_is_word : Array (Option Value)} {oc_is_word kV_is_word dc_is_word pm_is_word cd_is_word ct_is_word : Value}
    {f_is_number_text : Addr} {od_is_number_text an_is_number_text : Option Addr} {sl_is_number_text : Array (Option Value)} {oc_is_number_text kV_is_number_text dc_is_number_text pm_is_number_text cd_is_number_text ct_is_number_text : Value}
    {f_read_number : Addr} {od_read_number an_read_number : Option Addr} {sl_read_number : Array (Option Value)} {oc_read_number kV_read_number dc_read_number pm_read_number cd_read_number ct_read_number : Value}
    {f_read_word : Addr} {od_read_word an_read_word : Option Addr} {sl_read_word : Array (Option Value)} {oc_read_word kV_read_word dc_read_word pm_read_word cd_read_word ct_read_word : Value}
    {f__law_spans : Addr} {od__law_spans an__law_spans : Option Addr} {sl__law_spans : Array (Option Value)} {oc__law_spans kV__law_spans dc__law_spans pm__law_spans cd__law_spans ct__law_spans : Value}
    {f__law_words : Addr} {od__law_words an__law_words : Option Addr} {sl__law_words : Array (Option Value)} {oc__law_words kV__law_words dc__law_words pm__law_words cd__law_words ct__law_words : Value}
    {f__law_set : Addr} {od__law_set an__law_set : Option Addr} {sl__law_set : Array (Option Value)} {oc__law_set kV__law_set dc__law_set pm__law_set cd__law_set ct__law_set : Value}
    {f__law_longest : Addr} {od__law_longest an__law_longest : Option Addr} {sl__law_longest : Array (Option Value)} {oc__law_longest kV__law_longest dc__law_longest pm__law_longest cd__law_longest ct__law_longest : Value}
    {f_show_end : Addr} {od_show_end an_show_end : Option Addr} {sl_show_end : Array (Option Value)} {oc_show_end kV_show_end dc_show_end pm_show_end cd_show_end ct_show_end : Value}
    {f_show_span : Addr} {od_show_span an_show_span : Option Addr} {sl_show_span : Array (Option Value)} {oc_show_span kV_show_span dc_show_span pm_show_span cd_show_span ct_show_span : Value}
    {f_show_spans : Addr} {od_show_spans an_show_spans : Option Addr} {sl_show_spans : Array (Option Value)} {oc_show_spans kV_show_spans dc_show_spans pm_show_spans cd_show_spans ct_show_spans : Value}
    {f_show_words : Addr} {od_show_words an_show_words : Option Addr} {sl_show_words : Array (Option Value)} {oc_show_words kV_show_words dc_show_words pm_show_words cd_show_words ct_show_words : Value}
    {f_show_set : Addr} {od_show_set an_show_set : Option Addr} {sl_show_set : Array (Option Value)} {oc_show_set kV_show_set dc_show_set pm_show_set cd_show_set ct_show_set : Value}
    {f__law_span_text : Addr} {od__law_span_text an__law_span_text : Option Addr} {sl__law_span_text : Array (Option Value)} {oc__law_span_text kV__law_span_text dc__law_span_text pm__law_span_text cd__law_span_text ct__law_span_text : Value}
    {f__law_set_text : Addr} {od__law_set_text an__law_set_text : Option Addr} {sl__law_set_text : Array (Option Value)} {oc__law_set_text kV__law_set_text dc__law_set_text pm__law_set_text cd__law_set_text ct__law_set_text : Value}
    {f_read_end : Addr} {od_read_end an_read_end : Option Addr} {sl_read_end : Array (Option Value)} {oc_read_end kV_read_end dc_read_end pm_read_end cd_read_end ct_read_end : Value}
    {f_read_span : Addr} {od_read_span an_read_span : Option Addr} {sl_read_span : Array (Option Value)} {oc_read_span kV_read_span dc_read_span pm_read_span cd_read_span ct_read_span : Value}
    {f_lies_behind : Addr} {od_lies_behind an_lies_behind : Option Addr} {sl_lies_behind : Array (Option Value)} {oc_lies_behind kV_lies_behind dc_lies_behind pm_lies_behind cd_lies_behind ct_lies_behind : Value}
    {f_read_spans : Addr} {od_read_spans an_read_spans : Option Addr} {sl_read_spans : Array (Option Value)} {oc_read_spans kV_read_spans dc_read_spans pm_read_spans cd_read_spans ct_read_spans : Value}
    {f_read_listed : Addr} {od_read_listed an_read_listed : Option Addr} {sl_read_listed : Array (Option Value)} {oc_read_listed kV_read_listed dc_read_listed pm_read_listed cd_read_listed ct_read_listed : Value}
    {f_read_words : Addr} {od_read_words an_read_words : Option Addr} {sl_read_words : Array (Option Value)} {oc_read_words kV_read_words dc_read_words pm_read_words cd_read_words ct_read_words : Value}
    {f_read_set : Addr} {od_read_set an_read_set : Option Addr} {sl_read_set : Array (Option Value)} {oc_read_set kV_read_set dc_read_set pm_read_set cd_read_set ct_read_set : Value}
    {f_is_number : Addr} {od_is_number an_is_number : Option Addr} {sl_is_number : Array (Option Value)} {oc_is_number kV_is_number dc_is_number pm_is_number cd_is_number ct_is_number : Value}
    {f_in_span : Addr} {od_in_span an_in_span : Option Addr} {sl_in_span : Array (Option Value)} {oc_in_span kV_in_span dc_in_span pm_in_span cd_in_span ct_in_span : Value}
    {f_has : Addr} {od_has an_has : Option Addr} {sl_has : Array (Option Value)} {oc_has kV_has dc_has pm_has cd_has ct_has : Value}
    {f__law_has : Addr} {od__law_has an__law_has : Option Addr} {sl__law_has : Array (Option Value)} {oc__law_has kV__law_has dc__law_has pm__law_has cd__law_has ct__law_has : Value}
    {f_head_of : Addr} {od_head_of an_head_of : Option Addr} {sl_head_of : Array (Option Value)} {oc_head_of kV_head_of dc_head_of pm_head_of cd_head_of ct_head_of : Value}
    {f_show_kind : Addr} {od_show_kind an_show_kind : Option Addr} {sl_show_kind : Array (Option Value)} {oc_show_kind kV_show_kind dc_show_kind pm_show_kind cd_show_kind ct_show_kind : Value}
    {f_is_of : Addr} {od_is_of an_is_of : Option Addr} {sl_is_of : Array (Option Value)} {oc_is_of kV_is_of dc_is_of pm_is_of cd_is_of ct_is_of : Value}
    {f_read_kind : Addr} {od_read_kind an_read_kind : Option Addr} {sl_read_kind : Array (Option Value)} {oc_read_kind kV_read_kind dc_read_kind pm_read_kind cd_read_kind ct_read_kind : Value}
    {f__law_told : Addr} {od__law_told an__law_told : Option Addr} {sl__law_told : Array (Option Value)} {oc__law_told kV__law_told dc__law_told pm__law_told cd__law_told ct__law_told : Value}
    {f__law_kind_in : Addr} {od__law_kind_in an__law_kind_in : Option Addr} {sl__law_kind_in : Array (Option Value)} {oc__law_kind_in kV__law_kind_in dc__law_kind_in pm__law_kind_in cd__law_kind_in ct__law_kind_in : Value}
    {f__law_is_of : Addr} {od__law_is_of an__law_is_of : Option Addr} {sl__law_is_of : Array (Option Value)} {oc__law_is_of kV__law_is_of dc__law_is_of pm__law_is_of cd__law_is_of ct__law_is_of : Value}
    {f__law_cell : Addr} {od__law_cell an__law_cell : Option Addr} {sl__law_cell : Array (Option Value)} {oc__law_cell kV__law_cell dc__law_cell pm__law_cell cd__law_cell ct__law_cell : Value}
    {f__law_row : Addr} {od__law_row an__law_row : Option Addr} {sl__law_row : Array (Option Value)} {oc__law_row kV__law_row dc__law_row pm__law_row cd__law_row ct__law_row : Value}
    {f__law_spoilt : Addr} {od__law_spoilt an__law_spoilt : Option Addr} {sl__law_spoilt : Array (Option Value)} {oc__law_spoilt kV__law_spoilt dc__law_spoilt pm__law_spoilt cd__law_spoilt ct__law_spoilt : Value}
    {f__law_texts_right : Addr} {od__law_texts_right an__law_texts_right : Option Addr} {sl__law_texts_right : Array (Option Value)} {oc__law_texts_right kV__law_texts_right dc__law_texts_right pm__law_texts_right cd__law_texts_right ct__law_texts_right : Value}
    {f_law : Addr} {od_law an_law : Option Addr} {sl_law : Array (Option Value)} {oc_law kV_law dc_law pm_law cd_law ct_law : Value}
    (a__law_cell_at : PySem.W.nsIn K mainGlobals "_law_cell_at" = some (some (.ref f__law_cell_at)))
    (a__law_pot : PySem.W.nsIn K mainGlobals "_law_pot" = some (some (.ref f__law_pot)))
    (a__law_draw : PySem.W.nsIn K mainGlobals "_law_draw" = some (some (.ref f__law_draw)))
    (a__law_number : PySem.W.nsIn K mainGlobals "_law_number" = some (some (.ref f__law_number)))
    (a__law_word : PySem.W.nsIn K mainGlobals "_law_word" = some (some (.ref f__law_word)))
    (a_is_word : PySem.W.nsIn K mainGlobals "is_word" = some (some (.ref f_is_word)))
    (a_is_number_text : PySem.W.nsIn K mainGlobals "is_number_text" = some (some (.ref f_is_number_text)))
    (a_read_number : PySem.W.nsIn K mainGlobals "read_number" = some (some (.ref f_read_number)))
    (a_read_word : PySem.W.nsIn K mainGlobals "read_word" = some (some (.ref f_read_word)))
    (a__law_spans : PySem.W.nsIn K mainGlobals "_law_spans" = some (some (.ref f__law_spans)))
    (a__law_words : PySem.W.nsIn K mainGlobals "_law_words" = some (some (.ref f__law_words)))
    (a__law_set : PySem.W.nsIn K mainGlobals "_law_set" = some (some (.ref f__law_set)))
    (a__law_longest : PySem.W.nsIn K mainGlobals "_law_longest" = some (some (.ref f__law_longest)))
    (a_show_end : PySem.W.nsIn K mainGlobals "show_end" = some (some (.ref f_show_end)))
    (a_show_span : PySem.W.nsIn K mainGlobals "show_span" = some (some (.ref f_show_span)))
    (a_show_spans : PySem.W.nsIn K mainGlobals "show_spans" = some (some (.ref f_show_spans)))
    (a_show_words : PySem.W.nsIn K mainGlobals "show_words" = some (some (.ref f_show_words)))
    (a_show_set : PySem.W.nsIn K mainGlobals "show_set" = some (some (.ref f_show_set)))
    (a__law_span_text : PySem.W.nsIn K mainGlobals "_law_span_text" = some (some (.ref f__law_span_text)))
    (a__law_set_text : PySem.W.nsIn K mainGlobals "_law_set_text" = some (some (.ref f__law_set_text)))
    (a_read_end : PySem.W.nsIn K mainGlobals "read_end" = some (some (.ref f_read_end)))
    (a_read_span : PySem.W.nsIn K mainGlobals "read_span" = some (some (.ref f_read_span)))
    (a_lies_behind : PySem.W.nsIn K mainGlobals "lies_behind" = some (some (.ref f_lies_behind)))
    (a_read_spans : PySem.W.nsIn K mainGlobals "read_spans" = some (some (.ref f_read_spans)))
    (a_read_listed : PySem.W.nsIn K mainGlobals "read_listed" = some (some (.ref f_read_listed)))
    (a_read_words : PySem.W.nsIn K mainGlobals "read_words" = some (some (.ref f_read_words)))
    (a_read_set : PySem.W.nsIn K mainGlobals "read_set" = some (some (.ref f_read_set)))
    (a_is_number : PySem.W.nsIn K mainGlobals "is_number" = some (some (.ref f_is_number)))
    (a_in_span : PySem.W.nsIn K mainGlobals "in_span" = some (some (.ref f_in_span)))
    (a_has : PySem.W.nsIn K mainGlobals "has" = some (some (.ref f_has)))
    (a__law_has : PySem.W.nsIn K mainGlobals "_law_has" = some (some (.ref f__law_has)))
    (a_head_of : PySem.W.nsIn K mainGlobals "head_of" = some (some (.ref f_head_of)))
    (a_show_kind : PySem.W.nsIn K mainGlobals "show_kind" = some (some (.ref f_show_kind)))
    (a_is_of : PySem.W.nsIn K mainGlobals "is_of" = some (some (.ref f_is_of)))
    (a_read_kind : PySem.W.nsIn K mainGlobals "read_kind" = some (some (.ref f_read_kind)))
    (a__law_told : PySem.W.nsIn K mainGlobals "_law_told" = some (some (.ref f__law_told)))
    (a__law_kind_in : PySem.W.nsIn K mainGlobals "_law_kind_in" = some (some (.ref f__law_kind_in)))
    (a__law_is_of : PySem.W.nsIn K mainGlobals "_law_is_of" = some (some (.ref f__law_is_of)))
    (a__law_cell : PySem.W.nsIn K mainGlobals "_law_cell" = some (some (.ref f__law_cell)))
    (a__law_row : PySem.W.nsIn K mainGlobals "_law_row" = some (some (.ref f__law_row)))
    (a__law_spoilt : PySem.W.nsIn K mainGlobals "_law_spoilt" = some (some (.ref f__law_spoilt)))
    (a__law_texts_right : PySem.W.nsIn K mainGlobals "_law_texts_right" = some (some (.ref f__law_texts_right)))
    (a_law : PySem.W.nsIn K mainGlobals "law" = some (some (.ref f_law)))
    (l__law_cell_at : K.lookup f__law_cell_at = some ⟨oc__law_cell_at, od__law_cell_at, .func (PySem.W.fnOf "_law_cell_at" "_law_cell_at" (defArgs sCell) (defBody sCell) (defScope sCell) .none kV__law_cell_at dc__law_cell_at pm__law_cell_at an__law_cell_at cd__law_cell_at ct__law_cell_at), sl__law_cell_at⟩) (c__law_cell_at : PySem.W.codeIn K cd__law_cell_at "_law_cell_at" = true) (k__law_cell_at : PySem.W.keepIn K (.ref f__law_cell_at) = true)
    (l__law_pot : K.lookup f__law_pot = some ⟨oc__law_pot, od__law_pot, .func (PySem.W.fnOf "_law_pot" "_law_pot" (defArgs sPot) (defBody sPot) (defScope sPot) .none kV__law_pot dc__law_pot pm__law_pot an__law_pot cd__law_pot ct__law_pot), sl__law_pot⟩) (c__law_pot : PySem.W.codeIn K cd__law_pot "_law_pot" = true) (k__law_pot : PySem.W.keepIn K (.ref f__law_pot) = true)
    (l__law_draw : K.lookup f__law_draw = some ⟨oc__law_draw, od__law_draw, .func (PySem.W.fnOf "_law_draw" "_law_draw" (defArgs sDraw) (defBody sDraw) (defScope sDraw) .none kV__law_draw dc__law_draw pm__law_draw an__law_draw cd__law_draw ct__law_draw), sl__law_draw⟩) (c__law_draw : PySem.W.codeIn K cd__law_draw "_law_draw" = true) (k__law_draw : PySem.W.keepIn K (.ref f__law_draw) = true)
    (l__law_number : K.lookup f__law_number = some ⟨oc__law_number, od__law_number, .func (PySem.W.fnOf "_law_number" "_law_number" (defArgs sNumber) (defBody sNumber) (defScope sNumber) .none kV__law_number dc__law_number pm__law_number an__law_number cd__law_number ct__law_number), sl__law_number⟩) (c__law_number : PySem.W.codeIn K cd__law_number "_law_number" = true) (k__law_number : PySem.W.keepIn K (.ref f__law_number) = true)
    (l__law_word : K.lookup f__law_word = some ⟨oc__law_word, od__law_word, .func (PySem.W.fnOf "_law_word" "_law_word" (defArgs sWord) (defBody sWord) (defScope sWord) .none kV__law_word dc__law_word pm__law_word an__law_word cd__law_word ct__law_word), sl__law_word⟩) (c__law_word : PySem.W.codeIn K cd__law_word "_law_word" = true) (k__law_word : PySem.W.keepIn K (.ref f__law_word) = true)
    (l_is_word : K.lookup f_is_word = some ⟨oc_is_word, od_is_word, .func (PySem.W.fnOf "is_word" "is_word" (defArgs sIsWord) (defBody sIsWord) (defScope sIsWord) .none kV_is_word dc_is_word pm_is_word an_is_word cd_is_word ct_is_word), sl_is_word⟩) (c_is_word : PySem.W.codeIn K cd_is_word "is_word" = true) (k_is_word : PySem.W.keepIn K (.ref f_is_word) = true)
    (l_is_number_text : K.lookup f_is_number_text = some ⟨oc_is_number_text, od_is_number_text, .func (PySem.W.fnOf "is_number_text" "is_number_text" (defArgs sIsNum) (defBody sIsNum) (defScope sIsNum) .none kV_is_number_text dc_is_number_text pm_is_number_text an_is_number_text cd_is_number_text ct_is_number_text), sl_is_number_text⟩) (c_is_number_text : PySem.W.codeIn K cd_is_number_text "is_number_text" = true) (k_is_number_text : PySem.W.keepIn K (.ref f_is_number_text) = true)
    (l_read_number : K.lookup f_read_number = some ⟨oc_read_number, od_read_number, .func (PySem.W.fnOf "read_number" "read_number" (defArgs sReadNum) (defBody sReadNum) (defScope sReadNum) .none kV_read_number dc_read_number pm_read_number an_read_number cd_read_number ct_read_number), sl_read_number⟩) (c_read_number : PySem.W.codeIn K cd_read_number "read_number" = true) (k_read_number : PySem.W.keepIn K (.ref f_read_number) = true)
    (l_read_word : K.lookup f_read_word = some ⟨oc_read_word, od_read_word, .func (PySem.W.fnOf "read_word" "read_word" (defArgs sReadWord) (defBody sReadWord) (defScope sReadWord) .none kV_read_word dc_read_word pm_read_word an_read_word cd_read_word ct_read_word), sl_read_word⟩) (c_read_word : PySem.W.codeIn K cd_read_word "read_word" = true) (k_read_word : PySem.W.keepIn K (.ref f_read_word) = true)
    (l__law_spans : K.lookup f__law_spans = some ⟨oc__law_spans, od__law_spans, .func (PySem.W.fnOf "_law_spans" "_law_spans" (defArgs sSpans) (defBody sSpans) (defScope sSpans) .none kV__law_spans dc__law_spans pm__law_spans an__law_spans cd__law_spans ct__law_spans), sl__law_spans⟩) (c__law_spans : PySem.W.codeIn K cd__law_spans "_law_spans" = true) (k__law_spans : PySem.W.keepIn K (.ref f__law_spans) = true)
    (l__law_words : K.lookup f__law_words = some ⟨oc__law_words, od__law_words, .func (PySem.W.fnOf "_law_words" "_law_words" (defArgs sWords) (defBody sWords) (defScope sWords) .none kV__law_words dc__law_words pm__law_words an__law_words cd__law_words ct__law_words), sl__law_words⟩) (c__law_words : PySem.W.codeIn K cd__law_words "_law_words" = true) (k__law_words : PySem.W.keepIn K (.ref f__law_words) = true)
    (l__law_set : K.lookup f__law_set = some ⟨oc__law_set, od__law_set, .func (PySem.W.fnOf "_law_set" "_law_set" (defArgs sSet) (defBody sSet) (defScope sSet) .none kV__law_set dc__law_set pm__law_set an__law_set cd__law_set ct__law_set), sl__law_set⟩) (c__law_set : PySem.W.codeIn K cd__law_set "_law_set" = true) (k__law_set : PySem.W.keepIn K (.ref f__law_set) = true)
    (l__law_longest : K.lookup f__law_longest = some ⟨oc__law_longest, od__law_longest, .func (PySem.W.fnOf "_law_longest" "_law_longest" (defArgs sLongest) (defBody sLongest) (defScope sLongest) .none kV__law_longest dc__law_longest pm__law_longest an__law_longest cd__law_longest ct__law_longest), sl__law_longest⟩) (c__law_longest : PySem.W.codeIn K cd__law_longest "_law_longest" = true) (k__law_longest : PySem.W.keepIn K (.ref f__law_longest) = true)
    (l_show_end : K.lookup f_show_end = some ⟨oc_show_end, od_show_end, .func (PySem.W.fnOf "show_end" "show_end" (defArgs sShowEnd) (defBody sShowEnd) (defScope sShowEnd) .none kV_show_end dc_show_end pm_show_end an_show_end cd_show_end ct_show_end), sl_show_end⟩) (c_show_end : PySem.W.codeIn K cd_show_end "show_end" = true) (k_show_end : PySem.W.keepIn K (.ref f_show_end) = true)
    (l_show_span : K.lookup f_show_span = some ⟨oc_show_span, od_show_span, .func (PySem.W.fnOf "show_span" "show_span" (defArgs sShowSpan) (defBody sShowSpan) (defScope sShowSpan) .none kV_show_span dc_show_span pm_show_span an_show_span cd_show_span ct_show_span), sl_show_span⟩) (c_show_span : PySem.W.codeIn K cd_show_span "show_span" = true) (k_show_span : PySem.W.keepIn K (.ref f_show_span) = true)
    (l_show_spans : K.lookup f_show_spans = some ⟨oc_show_spans, od_show_spans, .func (PySem.W.fnOf "show_spans" "show_spans" (defArgs sShowSpans) (defBody sShowSpans) (defScope sShowSpans) .none kV_show_spans dc_show_spans pm_show_spans an_show_spans cd_show_spans ct_show_spans), sl_show_spans⟩) (c_show_spans : PySem.W.codeIn K cd_show_spans "show_spans" = true) (k_show_spans : PySem.W.keepIn K (.ref f_show_spans) = true)
    (l_show_words : K.lookup f_show_words = some ⟨oc_show_words, od_show_words, .func (PySem.W.fnOf "show_words" "show_words" (defArgs sShowWords) (defBody sShowWords) (defScope sShowWords) .none kV_show_words dc_show_words pm_show_words an_show_words cd_show_words ct_show_words), sl_show_words⟩) (c_show_words : PySem.W.codeIn K cd_show_words "show_words" = true) (k_show_words : PySem.W.keepIn K (.ref f_show_words) = true)
    (l_show_set : K.lookup f_show_set = some ⟨oc_show_set, od_show_set, .func (PySem.W.fnOf "show_set" "show_set" (defArgs sShowSet) (defBody sShowSet) (defScope sShowSet) .none kV_show_set dc_show_set pm_show_set an_show_set cd_show_set ct_show_set), sl_show_set⟩) (c_show_set : PySem.W.codeIn K cd_show_set "show_set" = true) (k_show_set : PySem.W.keepIn K (.ref f_show_set) = true)
    (l__law_span_text : K.lookup f__law_span_text = some ⟨oc__law_span_text, od__law_span_text, .func (PySem.W.fnOf "_law_span_text" "_law_span_text" (defArgs sSpanText) (defBody sSpanText) (defScope sSpanText) .none kV__law_span_text dc__law_span_text pm__law_span_text an__law_span_text cd__law_span_text ct__law_span_text), sl__law_span_text⟩) (c__law_span_text : PySem.W.codeIn K cd__law_span_text "_law_span_text" = true) (k__law_span_text : PySem.W.keepIn K (.ref f__law_span_text) = true)
    (l__law_set_text : K.lookup f__law_set_text = some ⟨oc__law_set_text, od__law_set_text, .func (PySem.W.fnOf "_law_set_text" "_law_set_text" (defArgs sText) (defBody sText) (defScope sText) .none kV__law_set_text dc__law_set_text pm__law_set_text an__law_set_text cd__law_set_text ct__law_set_text), sl__law_set_text⟩) (c__law_set_text : PySem.W.codeIn K cd__law_set_text "_law_set_text" = true) (k__law_set_text : PySem.W.keepIn K (.ref f__law_set_text) = true)
    (l_read_end : K.lookup f_read_end = some ⟨oc_read_end, od_read_end, .func (PySem.W.fnOf "read_end" "read_end" (defArgs sReadEnd) (defBody sReadEnd) (defScope sReadEnd) .none kV_read_end dc_read_end pm_read_end an_read_end cd_read_end ct_read_end), sl_read_end⟩) (c_read_end : PySem.W.codeIn K cd_read_end "read_end" = true) (k_read_end : PySem.W.keepIn K (.ref f_read_end) = true)
    (l_read_span : K.lookup f_read_span = some ⟨oc_read_span, od_read_span, .func (PySem.W.fnOf "read_span" "read_span" (defArgs sReadSpan) (defBody sReadSpan) (defScope sReadSpan) .none kV_read_span dc_read_span pm_read_span an_read_span cd_read_span ct_read_span), sl_read_span⟩) (c_read_span : PySem.W.codeIn K cd_read_span "read_span" = true) (k_read_span : PySem.W.keepIn K (.ref f_read_span) = true)
    (l_lies_behind : K.lookup f_lies_behind = some ⟨oc_lies_behind, od_lies_behind, .func (PySem.W.fnOf "lies_behind" "lies_behind" (defArgs sLiesBehind) (defBody sLiesBehind) (defScope sLiesBehind) .none kV_lies_behind dc_lies_behind pm_lies_behind an_lies_behind cd_lies_behind ct_lies_behind), sl_lies_behind⟩) (c_lies_behind : PySem.W.codeIn K cd_lies_behind "lies_behind" = true) (k_lies_behind : PySem.W.keepIn K (.ref f_lies_behind) = true)
    (l_read_spans : K.lookup f_read_spans = some ⟨oc_read_spans, od_read_spans, .func (PySem.W.fnOf "read_spans" "read_spans" (defArgs sReadSpans) (defBody sReadSpans) (defScope sReadSpans) .none kV_read_spans dc_read_spans pm_read_spans an_read_spans cd_read_spans ct_read_spans), sl_read_spans⟩) (c_read_spans : PySem.W.codeIn K cd_read_spans "read_spans" = true) (k_read_spans : PySem.W.keepIn K (.ref f_read_spans) = true)
    (l_read_listed : K.lookup f_read_listed = some ⟨oc_read_listed, od_read_listed, .func (PySem.W.fnOf "read_listed" "read_listed" (defArgs sReadListed) (defBody sReadListed) (defScope sReadListed) .none kV_read_listed dc_read_listed pm_read_listed an_read_listed cd_read_listed ct_read_listed), sl_read_listed⟩) (c_read_listed : PySem.W.codeIn K cd_read_listed "read_listed" = true) (k_read_listed : PySem.W.keepIn K (.ref f_read_listed) = true)
    (l_read_words : K.lookup f_read_words = some ⟨oc_read_words, od_read_words, .func (PySem.W.fnOf "read_words" "read_words" (defArgs sReadWords) (defBody sReadWords) (defScope sReadWords) .none kV_read_words dc_read_words pm_read_words an_read_words cd_read_words ct_read_words), sl_read_words⟩) (c_read_words : PySem.W.codeIn K cd_read_words "read_words" = true) (k_read_words : PySem.W.keepIn K (.ref f_read_words) = true)
    (l_read_set : K.lookup f_read_set = some ⟨oc_read_set, od_read_set, .func (PySem.W.fnOf "read_set" "read_set" (defArgs sReadSet) (defBody sReadSet) (defScope sReadSet) .none kV_read_set dc_read_set pm_read_set an_read_set cd_read_set ct_read_set), sl_read_set⟩) (c_read_set : PySem.W.codeIn K cd_read_set "read_set" = true) (k_read_set : PySem.W.keepIn K (.ref f_read_set) = true)
    (l_is_number : K.lookup f_is_number = some ⟨oc_is_number, od_is_number, .func (PySem.W.fnOf "is_number" "is_number" (defArgs sIsNumber) (defBody sIsNumber) (defScope sIsNumber) .none kV_is_number dc_is_number pm_is_number an_is_number cd_is_number ct_is_number), sl_is_number⟩) (c_is_number : PySem.W.codeIn K cd_is_number "is_number" = true) (k_is_number : PySem.W.keepIn K (.ref f_is_number) = true)
    (l_in_span : K.lookup f_in_span = some ⟨oc_in_span, od_in_span, .func (PySem.W.fnOf "in_span" "in_span" (defArgs sInSpan) (defBody sInSpan) (defScope sInSpan) .none kV_in_span dc_in_span pm_in_span an_in_span cd_in_span ct_in_span), sl_in_span⟩) (c_in_span : PySem.W.codeIn K cd_in_span "in_span" = true) (k_in_span : PySem.W.keepIn K (.ref f_in_span) = true)
    (l_has : K.lookup f_has = some ⟨oc_has, od_has, .func (PySem.W.fnOf "has" "has" (defArgs sHas) (defBody sHas) (defScope sHas) .none kV_has dc_has pm_has an_has cd_has ct_has), sl_has⟩) (c_has : PySem.W.codeIn K cd_has "has" = true) (k_has : PySem.W.keepIn K (.ref f_has) = true)
    (l__law_has : K.lookup f__law_has = some ⟨oc__law_has, od__law_has, .func (PySem.W.fnOf "_law_has" "_law_has" (defArgs sLHas) (defBody sLHas) (defScope sLHas) .none kV__law_has dc__law_has pm__law_has an__law_has cd__law_has ct__law_has), sl__law_has⟩) (c__law_has : PySem.W.codeIn K cd__law_has "_law_has" = true) (k__law_has : PySem.W.keepIn K (.ref f__law_has) = true)
    (l_head_of : K.lookup f_head_of = some ⟨oc_head_of, od_head_of, .func (PySem.W.fnOf "head_of" "head_of" (defArgs sHeadOf) (defBody sHeadOf) (defScope sHeadOf) .none kV_head_of dc_head_of pm_head_of an_head_of cd_head_of ct_head_of), sl_head_of⟩) (c_head_of : PySem.W.codeIn K cd_head_of "head_of" = true) (k_head_of : PySem.W.keepIn K (.ref f_head_of) = true)
    (l_show_kind : K.lookup f_show_kind = some ⟨oc_show_kind, od_show_kind, .func (PySem.W.fnOf "show_kind" "show_kind" (defArgs sShowKind) (defBody sShowKind) (defScope sShowKind) .none kV_show_kind dc_show_kind pm_show_kind an_show_kind cd_show_kind ct_show_kind), sl_show_kind⟩) (c_show_kind : PySem.W.codeIn K cd_show_kind "show_kind" = true) (k_show_kind : PySem.W.keepIn K (.ref f_show_kind) = true)
    (l_is_of : K.lookup f_is_of = some ⟨oc_is_of, od_is_of, .func (PySem.W.fnOf "is_of" "is_of" (defArgs sIsOf) (defBody sIsOf) (defScope sIsOf) .none kV_is_of dc_is_of pm_is_of an_is_of cd_is_of ct_is_of), sl_is_of⟩) (c_is_of : PySem.W.codeIn K cd_is_of "is_of" = true) (k_is_of : PySem.W.keepIn K (.ref f_is_of) = true)
    (l_read_kind : K.lookup f_read_kind = some ⟨oc_read_kind, od_read_kind, .func (PySem.W.fnOf "read_kind" "read_kind" (defArgs sReadKind) (defBody sReadKind) (defScope sReadKind) .none kV_read_kind dc_read_kind pm_read_kind an_read_kind cd_read_kind ct_read_kind), sl_read_kind⟩) (c_read_kind : PySem.W.codeIn K cd_read_kind "read_kind" = true) (k_read_kind : PySem.W.keepIn K (.ref f_read_kind) = true)
    (l__law_told : K.lookup f__law_told = some ⟨oc__law_told, od__law_told, .func (PySem.W.fnOf "_law_told" "_law_told" (defArgs sTold) (defBody sTold) (defScope sTold) .none kV__law_told dc__law_told pm__law_told an__law_told cd__law_told ct__law_told), sl__law_told⟩) (c__law_told : PySem.W.codeIn K cd__law_told "_law_told" = true) (k__law_told : PySem.W.keepIn K (.ref f__law_told) = true)
    (l__law_kind_in : K.lookup f__law_kind_in = some ⟨oc__law_kind_in, od__law_kind_in, .func (PySem.W.fnOf "_law_kind_in" "_law_kind_in" (defArgs sKindIn) (defBody sKindIn) (defScope sKindIn) .none kV__law_kind_in dc__law_kind_in pm__law_kind_in an__law_kind_in cd__law_kind_in ct__law_kind_in), sl__law_kind_in⟩) (c__law_kind_in : PySem.W.codeIn K cd__law_kind_in "_law_kind_in" = true) (k__law_kind_in : PySem.W.keepIn K (.ref f__law_kind_in) = true)
    (l__law_is_of : K.lookup f__law_is_of = some ⟨oc__law_is_of, od__law_is_of, .func (PySem.W.fnOf "_law_is_of" "_law_is_of" (defArgs sLIsOf) (defBody sLIsOf) (defScope sLIsOf) .none kV__law_is_of dc__law_is_of pm__law_is_of an__law_is_of cd__law_is_of ct__law_is_of), sl__law_is_of⟩) (c__law_is_of : PySem.W.codeIn K cd__law_is_of "_law_is_of" = true) (k__law_is_of : PySem.W.keepIn K (.ref f__law_is_of) = true)
    (l__law_cell : K.lookup f__law_cell = some ⟨oc__law_cell, od__law_cell, .func (PySem.W.fnOf "_law_cell" "_law_cell" (defArgs sCellr) (defBody sCellr) (defScope sCellr) .none kV__law_cell dc__law_cell pm__law_cell an__law_cell cd__law_cell ct__law_cell), sl__law_cell⟩) (c__law_cell : PySem.W.codeIn K cd__law_cell "_law_cell" = true) (k__law_cell : PySem.W.keepIn K (.ref f__law_cell) = true)
    (l__law_row : K.lookup f__law_row = some ⟨oc__law_row, od__law_row, .func (PySem.W.fnOf "_law_row" "_law_row" (defArgs sRow) (defBody sRow) (defScope sRow) .none kV__law_row dc__law_row pm__law_row an__law_row cd__law_row ct__law_row), sl__law_row⟩) (c__law_row : PySem.W.codeIn K cd__law_row "_law_row" = true) (k__law_row : PySem.W.keepIn K (.ref f__law_row) = true)
    (l__law_spoilt : K.lookup f__law_spoilt = some ⟨oc__law_spoilt, od__law_spoilt, .func (PySem.W.fnOf "_law_spoilt" "_law_spoilt" (defArgs sSpoilt) (defBody sSpoilt) (defScope sSpoilt) .none kV__law_spoilt dc__law_spoilt pm__law_spoilt an__law_spoilt cd__law_spoilt ct__law_spoilt), sl__law_spoilt⟩) (c__law_spoilt : PySem.W.codeIn K cd__law_spoilt "_law_spoilt" = true) (k__law_spoilt : PySem.W.keepIn K (.ref f__law_spoilt) = true)
    (l__law_texts_right : K.lookup f__law_texts_right = some ⟨oc__law_texts_right, od__law_texts_right, .func (PySem.W.fnOf "_law_texts_right" "_law_texts_right" (defArgs sRight) (defBody sRight) (defScope sRight) .none kV__law_texts_right dc__law_texts_right pm__law_texts_right an__law_texts_right cd__law_texts_right ct__law_texts_right), sl__law_texts_right⟩) (c__law_texts_right : PySem.W.codeIn K cd__law_texts_right "_law_texts_right" = true) (k__law_texts_right : PySem.W.keepIn K (.ref f__law_texts_right) = true)
    (l_law : K.lookup f_law = some ⟨oc_law, od_law, .func (PySem.W.fnOf "law" "law" (defArgs sLaw) (defBody sLaw) (defScope sLaw) .none kV_law dc_law pm_law an_law cd_law ct_law), sl_law⟩) (c_law : PySem.W.codeIn K cd_law "law" = true) (k_law : PySem.W.keepIn K (.ref f_law) = true)
    (z_len : PySem.W.nsIn K mainGlobals "len" = some none)
    (z_max : PySem.W.nsIn K mainGlobals "max" = some none)
    (z_abs : PySem.W.nsIn K mainGlobals "abs" = some none)
    (z_divmod : PySem.W.nsIn K mainGlobals "divmod" = some none)
    (z_range : PySem.W.nsIn K mainGlobals "range" = some none)
    (z_tuple : PySem.W.nsIn K mainGlobals "tuple" = some none)
    (z_list : PySem.W.nsIn K mainGlobals "list" = some none)
    (z_isinstance : PySem.W.nsIn K mainGlobals "isinstance" = some none)
    (z_str : PySem.W.nsIn K mainGlobals "str" = some none)
    (z_int : PySem.W.nsIn K mainGlobals "int" = some none)
    (z_all : PySem.W.nsIn K mainGlobals "all" = some none)
    (z_any : PySem.W.nsIn K mainGlobals "any" = some none)
    (z_min : PySem.W.nsIn K mainGlobals "min" = some none)
    (z_sorted : PySem.W.nsIn K mainGlobals "sorted" = some none)
    (z_set : PySem.W.nsIn K mainGlobals "set" = some none)
    (z_bool : PySem.W.nsIn K mainGlobals "bool" = some none)
    (z_ValueError : PySem.W.nsIn K mainGlobals "ValueError" = some none)
    (z_zip : PySem.W.nsIn K mainGlobals "zip" = some none)
    {t_lw : _} (v_lw : PySem.W.nsIn K mainGlobals "LONGEST_WORD" = some (some (.int 8 t_lw)))
    {t_wr : _} (v_wr : PySem.W.nsIn K mainGlobals "WIDEST_ROW" = some (some (.int 6 t_wr)))
    {t_le : _} (v_le : PySem.W.nsIn K mainGlobals "LETTERS" = some (some (.str "abcdefghijklmnopqrstuvwxyz" t_le)))
    {t_fi : _} (v_fi : PySem.W.nsIn K mainGlobals "FIGURES" = some (some (.str "0123456789" t_fi)))
    (zCN : PySem.W.nsIn K mainGlobals "NoText" = some (some (.ref CN)))
    (zPE : PySem.W.nsIn K mainGlobals "PipeError" = some (some (.ref PE)))
    (cg : PySem.W.specialIn K (.builtin "object.__class__") "__get__" = some (some (.builtin "getset_descriptor.__get__")))
    (ct : PySem.W.takesIn K (.builtin "object.__class__") = some true)
    (x0 : xclsB K CN PE = true)
    (e0 : excInG K CN bmVE "ValueError.__new__" none = true)
    (em : PySem.W.exmOne K (.ref CN) (.ref CN) = some true)
    (kp : PySem.W.kitOne K (.ref CN) (.ref PE) = some true)
    (kv : PySem.W.kitOne K (.ref CN) (.type "ValueError") = some true)
    (kn : PySem.W.kitOne K (.type "NoneType") (.type "str") = some false)
    (ki : PySem.W.kitOne K (.type "int") (.type "str") = some false)
    (kl : PySem.W.kitOne K (.type "list") (.type "str") = some false)
    (kt : PySem.W.kitOne K (.type "tuple") (.type "str") = some false)
    (kib : PySem.W.kitOne K (.type "int") (.type "bool") = some false)
    (ksi : PySem.W.kitOne K (.type "str") (.type "int") = some false) :
    ∃ fd : FuncData, (∀ (s : Shared) (v : Value), BindsTo s fd ⟨[v], []⟩ [("_law_script", v)]) ∧ ∀ base : Heap, K.In base → base.Ns mainGlobals mg → FnOk l.prog w K mg base CX0 11 fa fd ["_law_script"] (spLaw K) := by
  have e := hfa.symm.trans (PySem.W.mg_of X G a_law)
  cases e
  have F__law_cell_at := fun_mk (st := sCell) l__law_cell_at c__law_cell_at k__law_cell_at
  have h__law_cell_at := PySem.W.mg_of X G a__law_cell_at
  have b__law_cell_at := F__law_cell_at.binds (ps := ["_law_script", "_law_k"]) fun _ _ _ _ _ _ us hl => match us, hl with | [_, _], _ => rfl
  have F__law_pot := fun_mk (st := sPot) l__law_pot c__law_pot k__law_pot
  have h__law_pot := PySem.W.mg_of X G a__law_pot
  have b__law_pot := F__law_pot.binds (ps := ["_law_script", "_law_k"]) fun _ _ _ _ _ _ us hl => match us, hl with | [_, _], _ => rfl
  have F__law_draw := fun_mk (st := sDraw) l__law_draw c__law_draw k__law_draw
  have h__law_draw := PySem.W.mg_of X G a__law_draw
  have b__law_draw := F__law_draw.binds (ps := ["_law_pot_here", "_law_many"]) fun _ _ _ _ _ _ us hl => match us, hl with | [_, _], _ => rfl
  have F__law_number := fun_mk (st := sNumber) l__law_number c__law_number k__law_number
  have h__law_number := PySem.W.mg_of X G a__law_number
  have b__law_number := F__law_number.binds (ps := ["_law_pot_here"]) fun _ _ _ _ _ _ us hl => match us, hl with | [_], _ => rfl
  have F__law_word := fun_mk (st := sWord) l__law_word c__law_word k__law_word
  have h__law_word := PySem.W.mg_of X G a__law_word
  have b__law_word := F__law_word.binds (ps := ["_law_pot_here"]) fun _ _ _ _ _ _ us hl => match us, hl with | [_], _ => rfl
  have F_is_word := fun_mk (st := sIsWord) l_is_word c_is_word k_is_word
  have h_is_word := PySem.W.mg_of X G a_is_word
  have b_is_word := F_is_word.binds (ps := ["text"]) fun _ _ _ _ _ _ us hl => match us, hl with | [_], _ => rfl
  have F_is_number_text := fun_mk (st := sIsNum) l_is_number_text c_is_number_text k_is_number_text
  have h_is_number_text := PySem.W.mg_of X G a_is_number_text
  have b_is_number_text := F_is_number_text.binds (ps := ["text"]) fun _ _ _ _ _ _ us hl => match us, hl with | [_], _ => rfl
  have F_read_number := fun_mk (st := sReadNum) l_read_number c_read_number k_read_number
  have h_read_number := PySem.W.mg_of X G a_read_number
  have b_read_number := F_read_number.binds (ps := ["text"]) fun _ _ _ _ _ _ us hl => match us, hl with | [_], _ => rfl
  have F_read_word := fun_mk (st := sReadWord) l_read_word c_read_word k_read_word
  have h_read_word := PySem.W.mg_of X G a_read_word
  have b_read_word := F_read_word.binds (ps := ["text"]) fun _ _ _ _ _ _ us hl => match us, hl with | [_], _ => rfl
  have F__law_spans := fun_mk (st := sSpans) l__law_spans c__law_spans k__law_spans
  have h__law_spans := PySem.W.mg_of X G a__law_spans
  have b__law_spans := F__law_spans.binds (ps := ["_law_pot_here"]) fun _ _ _ _ _ _ us hl => match us, hl with | [_], _ => rfl
  have F__law_words := fun_mk (st := sWords) l__law_words c__law_words k__law_words
  have h__law_words := PySem.W.mg_of X G a__law_words
  have b__law_words := F__law_words.binds (ps := ["_law_pot_here"]) fun _ _ _ _ _ _ us hl => match us, hl with | [_], _ => rfl
  have F__law_set := fun_mk (st := sSet) l__law_set c__law_set k__law_set
  have h__law_set := PySem.W.mg_of X G a__law_set
  have b__law_set := F__law_set.binds (ps := ["_law_pot_here"]) fun _ _ _ _ _ _ us hl => match us, hl with | [_], _ => rfl
  have F__law_longest := fun_mk (st := sLongest) l__law_longest c__law_longest k__law_longest
  have h__law_longest := PySem.W.mg_of X G a__law_longest
  have b__law_longest := F__law_longest.binds (ps := ["_law_text"]) fun _ _ _ _ _ _ us hl => match us, hl with | [_], _ => rfl
  have F_show_end := fun_mk (st := sShowEnd) l_show_end c_show_end k_show_end
  have h_show_end := PySem.W.mg_of X G a_show_end
  have b_show_end := F_show_end.binds (ps := ["number"]) fun _ _ _ _ _ _ us hl => match us, hl with | [_], _ => rfl
  have F_show_span := fun_mk (st := sShowSpan) l_show_span c_show_span k_show_span
  have h_show_span := PySem.W.mg_of X G a_show_span
  have b_show_span := F_show_span.binds (ps := ["span"]) fun _ _ _ _ _ _ us hl => match us, hl with | [_], _ => rfl
  have F_show_spans := fun_mk (st := sShowSpans) l_show_spans c_show_spans k_show_spans
  have h_show_spans := PySem.W.mg_of X G a_show_spans
  have b_show_spans := F_show_spans.binds (ps := ["spans"]) fun _ _ _ _ _ _ us hl => match us, hl with | [_], _ => rfl
  have F_show_words := fun_mk (st := sShowWords) l_show_words c_show_words k_show_words
  have h_show_words := PySem.W.mg_of X G a_show_words
  have b_show_words := F_show_words.binds (ps := ["just_these", "words"]) fun _ _ _ _ _ _ us hl => match us, hl with | [_, _], _ => rfl
  have F_show_set := fun_mk (st := sShowSet) l_show_set c_show_set k_show_set
  have h_show_set := PySem.W.mg_of X G a_show_set
  have b_show_set := F_show_set.binds (ps := ["told"]) fun _ _ _ _ _ _ us hl => match us, hl with | [_], _ => rfl
  have F__law_span_text := fun_mk (st := sSpanText) l__law_span_text c__law_span_text k__law_span_text
  have h__law_span_text := PySem.W.mg_of X G a__law_span_text
  have b__law_span_text := F__law_span_text.binds (ps := ["_law_low", "_law_high"]) fun _ _ _ _ _ _ us hl => match us, hl with | [_, _], _ => rfl
  have F__law_set_text := fun_mk (st := sText) l__law_set_text c__law_set_text k__law_set_text
  have h__law_set_text := PySem.W.mg_of X G a__law_set_text
  have b__law_set_text := F__law_set_text.binds (ps := ["_law_tale"]) fun _ _ _ _ _ _ us hl => match us, hl with | [_], _ => rfl
  have F_read_end := fun_mk (st := sReadEnd) l_read_end c_read_end k_read_end
  have h_read_end := PySem.W.mg_of X G a_read_end
  have b_read_end := F_read_end.binds (ps := ["text"]) fun _ _ _ _ _ _ us hl => match us, hl with | [_], _ => rfl
  have F_read_span := fun_mk (st := sReadSpan) l_read_span c_read_span k_read_span
  have h_read_span := PySem.W.mg_of X G a_read_span
  have b_read_span := F_read_span.binds (ps := ["text"]) fun _ _ _ _ _ _ us hl => match us, hl with | [_], _ => rfl
  have F_lies_behind := fun_mk (st := sLiesBehind) l_lies_behind c_lies_behind k_lies_behind
  have h_lies_behind := PySem.W.mg_of X G a_lies_behind
  have b_lies_behind := F_lies_behind.binds (ps := ["span", "earlier"]) fun _ _ _ _ _ _ us hl => match us, hl with | [_, _], _ => rfl
  have F_read_spans := fun_mk (st := sReadSpans) l_read_spans c_read_spans k_read_spans
  have h_read_spans := PySem.W.mg_of X G a_read_spans
  have b_read_spans := F_read_spans.binds (ps := ["text"]) fun _ _ _ _ _ _ us hl => match us, hl with | [_], _ => rfl
  have F_read_listed := fun_mk (st := sReadListed) l_read_listed c_read_listed k_read_listed
  have h_read_listed := PySem.W.mg_of X G a_read_listed
  have b_read_listed := F_read_listed.binds (ps := ["text"]) fun _ _ _ _ _ _ us hl => match us, hl with | [_], _ => rfl
  have F_read_words := fun_mk (st := sReadWords) l_read_words c_read_words k_read_words
  have h_read_words := PySem.W.mg_of X G a_read_words
  have b_read_words := F_read_words.binds (ps := ["text"]) fun _ _ _ _ _ _ us hl => match us, hl with | [_], _ => rfl
  have F_read_set := fun_mk (st := sReadSet) l_read_set c_read_set k_read_set
  have h_read_set := PySem.W.mg_of X G a_read_set
  have b_read_set := F_read_set.binds (ps := ["text"]) fun _ _ _ _ _ _ us hl => match us, hl with | [_], _ => rfl
  have F_is_number := fun_mk (st := sIsNumber) l_is_number c_is_number k_is_number
  have h_is_number := PySem.W.mg_of X G a_is_number
  have b_is_number := F_is_number.binds (ps := ["cell"]) fun _ _ _ _ _ _ us hl => match us, hl with | [_], _ => rfl
  have F_in_span := fun_mk (st := sInSpan) l_in_span c_in_span k_in_span
  have h_in_span := PySem.W.mg_of X G a_in_span
  have b_in_span := F_in_span.binds (ps := ["span", "number"]) fun _ _ _ _ _ _ us hl => match us, hl with | [_, _], _ => rfl
  have F_has := fun_mk (st := sHas) l_has c_has k_has
  have h_has := PySem.W.mg_of X G a_has
  have b_has := F_has.binds (ps := ["told", "cell"]) fun _ _ _ _ _ _ us hl => match us, hl with | [_, _], _ => rfl
  have F__law_has := fun_mk (st := sLHas) l__law_has c__law_has k__law_has
  have h__law_has := PySem.W.mg_of X G a__law_has
  have b__law_has := F__law_has.binds (ps := ["_law_tale", "_law_cell_here"]) fun _ _ _ _ _ _ us hl => match us, hl with | [_, _], _ => rfl
  have F_head_of := fun_mk (st := sHeadOf) l_head_of c_head_of k_head_of
  have h_head_of := PySem.W.mg_of X G a_head_of
  have b_head_of := F_head_of.binds (ps := ["kind"]) fun _ _ _ _ _ _ us hl => match us, hl with | [_], _ => rfl
  have F_show_kind := fun_mk (st := sShowKind) l_show_kind c_show_kind k_show_kind
  have h_show_kind := PySem.W.mg_of X G a_show_kind
  have b_show_kind := F_show_kind.binds (ps := ["kind"]) fun _ _ _ _ _ _ us hl => match us, hl with | [_], _ => rfl
  have F_is_of := fun_mk (st := sIsOf) l_is_of c_is_of k_is_of
  have h_is_of := PySem.W.mg_of X G a_is_of
  have b_is_of := F_is_of.binds (ps := ["kind", "row"]) fun _ _ _ _ _ _ us hl => match us, hl with | [_, _], _ => rfl
  have F_read_kind := fun_mk (st := sReadKind) l_read_kind c_read_kind k_read_kind
  have h_read_kind := PySem.W.mg_of X G a_read_kind
  have b_read_kind := F_read_kind.binds (ps := ["text"]) fun _ _ _ _ _ _ us hl => match us, hl with | [_], _ => rfl
  have F__law_told := fun_mk (st := sTold) l__law_told c__law_told k__law_told
  have h__law_told := PySem.W.mg_of X G a__law_told
  have b__law_told := F__law_told.binds (ps := ["_law_text"]) fun _ _ _ _ _ _ us hl => match us, hl with | [_], _ => rfl
  have F__law_kind_in := fun_mk (st := sKindIn) l__law_kind_in c__law_kind_in k__law_kind_in
  have h__law_kind_in := PySem.W.mg_of X G a__law_kind_in
  have b__law_kind_in := F__law_kind_in.binds (ps := ["_law_text"]) fun _ _ _ _ _ _ us hl => match us, hl with | [_], _ => rfl
  have F__law_is_of := fun_mk (st := sLIsOf) l__law_is_of c__law_is_of k__law_is_of
  have h__law_is_of := PySem.W.mg_of X G a__law_is_of
  have b__law_is_of := F__law_is_of.binds (ps := ["_law_kind", "_law_row_here"]) fun _ _ _ _ _ _ us hl => match us, hl with | [_, _], _ => rfl
  have F__law_cell := fun_mk (st := sCellr) l__law_cell c__law_cell k__law_cell
  have h__law_cell := PySem.W.mg_of X G a__law_cell
  have b__law_cell := F__law_cell.binds (ps := ["_law_pot_here", "_law_tale"]) fun _ _ _ _ _ _ us hl => match us, hl with | [_, _], _ => rfl
  have F__law_row := fun_mk (st := sRow) l__law_row c__law_row k__law_row
  have h__law_row := PySem.W.mg_of X G a__law_row
  have b__law_row := F__law_row.binds (ps := ["_law_pot_here", "_law_kind"]) fun _ _ _ _ _ _ us hl => match us, hl with | [_, _], _ => rfl
  have F__law_spoilt := fun_mk (st := sSpoilt) l__law_spoilt c__law_spoilt k__law_spoilt
  have h__law_spoilt := PySem.W.mg_of X G a__law_spoilt
  have b__law_spoilt := F__law_spoilt.binds (ps := ["_law_pot_here", "_law_text"]) fun _ _ _ _ _ _ us hl => match us, hl with | [_, _], _ => rfl
  have F__law_texts_right := fun_mk (st := sRight) l__law_texts_right c__law_texts_right k__law_texts_right
  have h__law_texts_right := PySem.W.mg_of X G a__law_texts_right
  have b__law_texts_right := F__law_texts_right.binds (ps := ["_law_pot_here", "_law_kind", "_law_text"]) fun _ _ _ _ _ _ us hl => match us, hl with | [_, _, _], _ => rfl
  have F_law := fun_mk (st := sLaw) l_law c_law k_law
  have h_law := PySem.W.mg_of X G a_law
  have B : Blt mg := ⟨PySem.W.mg_none_of X G z_len, PySem.W.mg_none_of X G z_max, PySem.W.mg_none_of X G z_abs, PySem.W.mg_none_of X G z_divmod, PySem.W.mg_none_of X G z_range, PySem.W.mg_none_of X G z_tuple, PySem.W.mg_none_of X G z_list, PySem.W.mg_none_of X G z_isinstance⟩
  have B2 : Blt2 mg := ⟨PySem.W.mg_none_of X G z_str, PySem.W.mg_none_of X G z_int, PySem.W.mg_none_of X G z_all, PySem.W.mg_none_of X G z_any, PySem.W.mg_none_of X G z_min, PySem.W.mg_none_of X G z_sorted, PySem.W.mg_none_of X G z_set, PySem.W.mg_none_of X G z_bool⟩
  have Z : Cst mg := ⟨⟨_, PySem.W.mg_of X G v_lw⟩, ⟨_, PySem.W.mg_of X G v_le⟩, ⟨_, PySem.W.mg_of X G v_fi⟩⟩
  have W : Wid mg := ⟨⟨_, PySem.W.mg_of X G v_wr⟩⟩
  have Kt : Kit K := ⟨kn, ki, kl, kt, kib, ksi⟩
  have C : ClsN K mg CN := ⟨e0, PySem.W.mg_of X G zCN⟩
  have T : ClsT K mg CN PE := ⟨xcls_of x0 cg ct, em, kp, kv, PySem.W.mg_of X G zPE, PySem.W.mg_none_of X G z_ValueError⟩
  have hZ := PySem.W.mg_none_of X G z_zip
  refine ⟨PySem.W.fnOf "law" "law" (defArgs sLaw) (defBody sLaw) (defScope sLaw) .none kV_law dc_law pm_law an_law cd_law ct_law, fun s v => .of_eq rfl, fun base _ _ => ?_⟩
  have g__law_cell_at := ok_cell (P := l.prog) (w := w) (mg := mg) (base := base) B F__law_cell_at 
  have g__law_pot := ok_pot (P := l.prog) (w := w) (mg := mg) (base := base) B F__law_pot (g__law_cell_at.mono (by decide)) b__law_cell_at k__law_cell_at h__law_cell_at
  have g__law_draw := ok_draw (P := l.prog) (w := w) (mg := mg) (base := base) B F__law_draw 
  have g__law_number := ok_number (P := l.prog) (w := w) (mg := mg) (base := base)  F__law_number (g__law_draw.mono (by decide)) b__law_draw k__law_draw h__law_draw
  have g__law_word := ok_word (P := l.prog) (w := w) (mg := mg) (base := base) B F__law_word (g__law_draw.mono (by decide)) b__law_draw k__law_draw h__law_draw
  have g_is_word := ok_isword (P := l.prog) (w := w) (mg := mg) (base := base) B B2 Z F_is_word 
  have g_is_number_text := ok_isnum (P := l.prog) (w := w) (mg := mg) (base := base) B2 Z F_is_number_text 
  have g_read_number := ok_readnumX (P := l.prog) (w := w) (mg := mg) (base := base) B2 C F_read_number (g_is_number_text.mono (by decide)) b_is_number_text k_is_number_text h_is_number_text
  have g_read_word := ok_readwordX (P := l.prog) (w := w) (mg := mg) (base := base) C F_read_word (g_is_word.mono (by decide)) b_is_word k_is_word h_is_word
  have g__law_spans := ok_spans (P := l.prog) (w := w) (mg := mg) (base := base) B B2 F__law_spans (g__law_draw.mono (by decide)) b__law_draw k__law_draw h__law_draw (g__law_number.mono (by decide)) b__law_number k__law_number h__law_number
  have g__law_words := ok_words (P := l.prog) (w := w) (mg := mg) (base := base) B B2 F__law_words (g__law_draw.mono (by decide)) b__law_draw k__law_draw h__law_draw (g__law_word.mono (by decide)) b__law_word k__law_word h__law_word
  have g__law_set := ok_set (P := l.prog) (w := w) (mg := mg) (base := base)  F__law_set (g__law_draw.mono (by decide)) b__law_draw k__law_draw h__law_draw (g__law_spans.mono (by decide)) b__law_spans k__law_spans h__law_spans (g__law_words.mono (by decide)) b__law_words k__law_words h__law_words
  have g__law_longest := ok_longest (P := l.prog) (w := w) (mg := mg) (base := base) B B2 F__law_longest 
  have g_show_end := ok_showend (P := l.prog) (w := w) (mg := mg) (base := base) B2 F_show_end 
  have g_show_span := ok_showspan (P := l.prog) (w := w) (mg := mg) (base := base) B2 F_show_span (g_show_end.mono (by decide)) b_show_end k_show_end h_show_end
  have g_show_spans := ok_showspans (P := l.prog) (w := w) (mg := mg) (base := base) B F_show_spans (g_show_span.mono (by decide)) b_show_span k_show_span h_show_span
  have g_show_words := ok_showwords (P := l.prog) (w := w) (mg := mg) (base := base)  F_show_words 
  have g_show_set := ok_showset (P := l.prog) (w := w) (mg := mg) (base := base)  F_show_set (g_show_spans.mono (by decide)) b_show_spans k_show_spans h_show_spans (g_show_words.mono (by decide)) b_show_words k_show_words h_show_words
  have g__law_span_text := ok_spantext (P := l.prog) (w := w) (mg := mg) (base := base) B2 F__law_span_text 
  have g__law_set_text := ok_text (P := l.prog) (w := w) (mg := mg) (base := base) B2 F__law_set_text (g__law_span_text.mono (by decide)) b__law_span_text k__law_span_text h__law_span_text
  have g_read_end := ok_readend (P := l.prog) (w := w) (mg := mg) (base := base)  F_read_end (g_read_number.mono (by decide)) b_read_number k_read_number h_read_number
  have g_read_span := ok_readspan (P := l.prog) (w := w) (mg := mg) (base := base) C F_read_span (g_read_number.mono (by decide)) b_read_number k_read_number h_read_number (g_read_end.mono (by decide)) b_read_end k_read_end h_read_end
  have g_lies_behind := ok_lies (P := l.prog) (w := w) (mg := mg) (base := base)  F_lies_behind 
  have g_read_spans := ok_readspans (P := l.prog) (w := w) (mg := mg) (base := base) B C F_read_spans (g_read_span.mono (by decide)) b_read_span k_read_span h_read_span (g_lies_behind.mono (by decide)) b_lies_behind k_lies_behind h_lies_behind
  have g_read_listed := ok_readlisted (P := l.prog) (w := w) (mg := mg) (base := base) B B2 C F_read_listed (g_read_word.mono (by decide)) b_read_word k_read_word h_read_word
  have g_read_words := ok_readwords (P := l.prog) (w := w) (mg := mg) (base := base)  F_read_words (g_read_listed.mono (by decide)) b_read_listed k_read_listed h_read_listed
  have g_read_set := ok_readset (P := l.prog) (w := w) (mg := mg) (base := base) B B2 C F_read_set (g_read_spans.mono (by decide)) b_read_spans k_read_spans h_read_spans (g_read_words.mono (by decide)) b_read_words k_read_words h_read_words
  have g_is_number := ok_isnumber (P := l.prog) (w := w) (mg := mg) (base := base) B B2 Kt F_is_number 
  have g_in_span := ok_inspan (P := l.prog) (w := w) (mg := mg) (base := base)  F_in_span 
  have g_has := ok_has (P := l.prog) (w := w) (mg := mg) (base := base) B B2 Kt F_has (g_is_number.mono (by decide)) b_is_number k_is_number h_is_number (g_in_span.mono (by decide)) b_in_span k_in_span h_in_span
  have g__law_has := ok_lhas (P := l.prog) (w := w) (mg := mg) (base := base) B B2 Kt F__law_has 
  have g_head_of := ok_headof (P := l.prog) (w := w) (mg := mg) (base := base) B F_head_of 
  have g_show_kind := ok_showkind (P := l.prog) (w := w) (mg := mg) (base := base)  F_show_kind (g_show_set.mono (by decide)) b_show_set k_show_set h_show_set
  have g_is_of := ok_isof (P := l.prog) (w := w) (mg := mg) (base := base) B B2 hZ F_is_of (g_has.mono (by decide)) b_has k_has h_has
  have g_read_kind := ok_readkind (P := l.prog) (w := w) (mg := mg) (base := base) B B2 W C F_read_kind (g_read_set.mono (by decide)) b_read_set k_read_set h_read_set
  have g__law_told := ok_told (P := l.prog) (w := w) (mg := mg) (base := base) B C T F__law_told (g_read_kind.mono (by decide)) b_read_kind k_read_kind h_read_kind
  have g__law_kind_in := ok_kindin (P := l.prog) (w := w) (mg := mg) (base := base) B C T F__law_kind_in (g_read_set.mono (by decide)) b_read_set k_read_set h_read_set
  have g__law_is_of := ok_lisof (P := l.prog) (w := w) (mg := mg) (base := base) B F__law_is_of (g__law_has.mono (by decide)) b__law_has k__law_has h__law_has
  have g__law_cell := ok_cellr (P := l.prog) (w := w) (mg := mg) (base := base) B F__law_cell (g__law_draw.mono (by decide)) b__law_draw k__law_draw h__law_draw (g__law_number.mono (by decide)) b__law_number k__law_number h__law_number (g__law_word.mono (by decide)) b__law_word k__law_word h__law_word
  have g__law_row := ok_row (P := l.prog) (w := w) (mg := mg) (base := base) B F__law_row (g__law_draw.mono (by decide)) b__law_draw k__law_draw h__law_draw (g__law_number.mono (by decide)) b__law_number k__law_number h__law_number (g__law_cell.mono (by decide)) b__law_cell k__law_cell h__law_cell
  have g__law_spoilt := ok_spoilt (P := l.prog) (w := w) (mg := mg) (base := base) B B2 F__law_spoilt (g__law_draw.mono (by decide)) b__law_draw k__law_draw h__law_draw (g__law_longest.mono (by decide)) b__law_longest k__law_longest h__law_longest
  have g__law_texts_right := ok_right (P := l.prog) (w := w) (mg := mg) (base := base) B Kt F__law_texts_right (g_show_kind.mono (by decide)) b_show_kind k_show_kind h_show_kind (g__law_told.mono (by decide)) b__law_told k__law_told h__law_told (g__law_kind_in.mono (by decide)) b__law_kind_in k__law_kind_in h__law_kind_in (g__law_spoilt.mono (by decide)) b__law_spoilt k__law_spoilt h__law_spoilt (g__law_draw.mono (by decide)) b__law_draw k__law_draw h__law_draw
  exact ok_law B B2 F_law (g__law_pot.mono (by decide)) b__law_pot k__law_pot h__law_pot (g__law_set.mono (by decide)) b__law_set k__law_set h__law_set (g__law_set_text.mono (by decide)) b__law_set_text k__law_set_text h__law_set_text (g_head_of.mono (by decide)) b_head_of k_head_of h_head_of (g__law_texts_right.mono (by decide)) b__law_texts_right k__law_texts_right h__law_texts_right (g__law_row.mono (by decide)) b__law_row k__law_row h__law_row (g_is_of.mono (by decide)) b_is_of k_is_of h_is_of (g__law_is_of.mono (by decide)) b__law_is_of k__law_is_of h__law_is_of (g__law_draw.mono (by decide)) b__law_draw k__law_draw h__law_draw
theorem walk {l : PySem.W.OpenLaw} {q : Program} {loose : List Str} {XP : (Str → Option Value) → Heap → Prop} {YP : World → Heap → Prop} {d : DefRec} {K : Params → PySem.W.Frag} (hn : l.most = some 63) (hdf : d.params.defaults = [])
    (hY : ∀ (w : World) (h : Heap), YP w h → (K w.params).In h)
    (F : ∀ (w : World) (mg : Str → Option Value) (fa : Addr) (h : Heap), (K w.params).In h → h.Ns mainGlobals mg → mg d.name = some (.ref fa) →
      ∃ fd : FuncData, (∀ (s : Shared) (u : Value), BindsTo s fd ⟨[u], []⟩ [("_law_script", u)]) ∧ ∀ base : Heap, (K w.params).In base → base.Ns mainGlobals mg → FnOk l.prog w (K w.params) mg base CX0 11 fa fd ["_law_script"] (spLaw (K w.params))) :
    PySem.W.WalkO q loose XP YP l.row.toRowW d [] (fun f vs => PySem.call f vs) :=
  L2.walk_of (n := 63) (k := 11) (x := "_law_script") (CX := fun _ => CX0) (sp := fun w => spLaw (K w.params)) hn (by decide) hdf ⟨rfl, by decide, by decide⟩ hY F (fun _ _ a ns hl _ hS => ⟨a, ns, rfl, hS, hl, fun _ => rfl⟩) fun _ _ _ _ _ z => z
end My
def PySem.W.Fast.tw2927876739029955889 : Nat := 0
def PySem.W.Fast.tw16970027661747547319 : Nat := 0
def PySem.W.Fast.tw9243860441781123954 : Nat := 0
def PySem.W.Fast.tw5222602942623861772 : Nat := 0
def PySem.W.Fast.tw13113434456368578015 : Nat := 0
def PySem.W.Fast.tw555653062634429775 : Nat := 0
open PySem PySem.W PyProof.Rows
set_option maxRecDepth 100000 in
set_option maxHeartbeats 0 in
theorem PySem.Challenge.cw_rowpipes_k17_whole_kinds_holds : PySem.Challenge.rw_rowpipes_k17_whole_kinds.Holds := by
  w_on; o_law; k_head; (case hw => w_witness2)
  k_fill
  refine My.walk (l := PySem.Challenge.rw_rowpipes_k17_whole_kinds) rfl rfl (fun w h Y => PySem.W.kIn_of Y) ?F
  case F =>
    intro w mg fa h KX G hmg
    refine' My.all_mk KX G hmg ?a__law_cell_at ?a__law_pot ?a__law_draw ?a__law_number ?a__law_word ?a_is_word ?a_is_number_text ?a_read_number ?a_read_word ?a__law_spans ?a__law_words ?a__law_set ?a__law_longest ?a_show_end ?a_show_span ?a_show_spans ?a_show_words ?a_show_set ?a__law_span_text ?a__law_set_text ?a_read_end ?a_read_span ?a_lies_behind ?a_read_spans ?a_read_listed ?a_read_words ?a_read_set ?a_is_number ?a_in_span ?a_has ?a__law_has ?a_head_of ?a_show_kind ?a_is_of ?a_read_kind ?a__law_told ?a__law_kind_in ?a__law_is_of ?a__law_cell ?a__law_row ?a__law_spoilt ?a__law_texts_right ?a_law ?l__law_cell_at ?c__law_cell_at ?k__law_cell_at ?l__law_pot ?c__law_pot ?k__law_pot ?l__law_draw ?c__law_draw ?k__law_draw ?l__law_number ?c__law_number ?k__law_number ?l__law_word ?c__law_word ?k__law_word ?l_is_word ?c_is_word ?k_is_word ?l_is_number_text ?c_is_number_text ?k_is_number_text ?l_read_number ?c_read_number ?k_read_number ?l_read_word ?c_read_word ?k_read_word ?l__law_spans ?c__law_spans ?k__law_spans ?l__law_words ?c__law_words ?k__law_words ?l__law_set ?c__law_set ?k__law_set ?l__law_longest ?c__law_longest ?k__law_longest ?l_show_end ?c_show_end ?k_show_end ?l_show_span ?c_show_span ?k_show_span ?l_show_spans ?c_show_spans ?k_show_spans ?l_show_words ?c_show_words ?k_show_words ?l_show_set ?c_show_set ?k_show_set ?l__law_span_text ?c__law_span_text ?k__law_span_text ?l__law_set_text ?c__law_set_text ?k__law_set_text ?l_read_end ?c_read_end ?k_read_end ?l_read_span ?c_read_span ?k_read_span ?l_lies_behind ?c_lies_behind ?k_lies_behind ?l_read_spans ?c_read_spans ?k_read_spans ?l_read_listed ?c_read_listed ?k_read_listed ?l_read_words ?c_read_words ?k_read_words ?l_read_set ?c_read_set ?k_read_set ?l_is_number ?c_is_number ?k_is_number ?l_in_span ?c_in_span ?k_in_span ?l_has ?c_has ?k_has ?l__law_has ?c__law_has ?k__law_has ?l_head_of ?c_head_of ?k_head_of ?l_show_kind ?c_show_kind ?k_show_kind ?l_is_of ?c_is_of ?k_is_of ?l_read_kind ?c_read_kind ?k_read_kind ?l__law_told ?c__law_told ?k__law_told ?l__law_kind_in ?c__law_kind_in ?k__law_kind_in ?l__law_is_of ?c__law_is_of ?k__law_is_of ?l__law_cell ?c__law_cell ?k__law_cell ?l__law_row ?c__law_row ?k__law_row ?l__law_spoilt ?c__law_spoilt ?k__law_spoilt ?l__law_texts_right ?c__law_texts_right ?k__law_texts_right ?l_law ?c_law ?k_law ?z_len ?z_max ?z_abs ?z_divmod ?z_range ?z_tuple ?z_list ?z_isinstance ?z_str ?z_int ?z_all ?z_any ?z_min ?z_sorted ?z_set ?z_bool ?z_ValueError ?z_zip ?v_lw ?v_wr ?v_le ?v_fi ?zCN ?zPE ?cg ?ct ?x0 ?e0 ?em ?kp ?kv ?kn ?ki ?kl ?kt ?kib ?ksi
    (case a__law_cell_at => k_is)
    (case a__law_pot => k_is)
    (case a__law_draw => k_is)
    (case a__law_number => k_is)
    (case a__law_word => k_is)
    (case a_is_word => k_is)
    (case a_is_number_text => k_is)
    (case a_read_number => k_is)
    (case a_read_word => k_is)
    (case a__law_spans => k_is)
    (case a__law_words => k_is)
    (case a__law_set => k_is)
    (case a__law_longest => k_is)
    (case a_show_end => k_is)
    (case a_show_span => k_is)
    (case a_show_spans => k_is)
    (case a_show_words => k_is)
    (case a_show_set => k_is)
    (case a__law_span_text => k_is)
    (case a__law_set_text => k_is)
    (case a_read_end => k_is)
    (case a_read_span => k_is)
    (case a_lies_behind => k_is)
    (case a_read_spans => k_is)
    (case a_read_listed => k_is)
    (case a_read_words => k_is)
    (case a_read_set => k_is)
    (case a_is_number => k_is)
    (case a_in_span => k_is)
    (case a_has => k_is)
    (case a__law_has => k_is)
    (case a_head_of => k_is)
    (case a_show_kind => k_is)
    (case a_is_of => k_is)
    (case a_read_kind => k_is)
    (case a__law_told => k_is)
    (case a__law_kind_in => k_is)
    (case a__law_is_of => k_is)
    (case a__law_cell => k_is)
    (case a__law_row => k_is)
    (case a__law_spoilt => k_is)
    (case a__law_texts_right => k_is)
    (case a_law => k_is)
    (case l__law_cell_at => k_is)
    (case c__law_cell_at => k_is)
    (case k__law_cell_at => k_is)
    (case l__law_pot => k_is)
    (case c__law_pot => k_is)
    (case k__law_pot => k_is)
    (case l__law_draw => k_is)
    (case c__law_draw => k_is)
    (case k__law_draw => k_is)
    (case l__law_number => k_is)
    (case c__law_number => k_is)
    (case k__law_number => k_is)
    (case l__law_word => k_is)
    (case c__law_word => k_is)
    (case k__law_word => k_is)
    (case l_is_word => k_is)
    (case c_is_word => k_is)
    (case k_is_word => k_is)
    (case l_is_number_text => k_is)
    (case c_is_number_text => k_is)
    (case k_is_number_text => k_is)
    (case l_read_number => k_is)
    (case c_read_number => k_is)
    (case k_read_number => k_is)
    (case l_read_word => k_is)
    (case c_read_word => k_is)
    (case k_read_word => k_is)
    (case l__law_spans => k_is)
    (case c__law_spans => k_is)
    (case k__law_spans => k_is)
    (case l__law_words => k_is)
    (case c__law_words => k_is)
    (case k__law_words => k_is)
    (case l__law_set => k_is)
    (case c__law_set => k_is)
    (case k__law_set => k_is)
    (case l__law_longest => k_is)
    (case c__law_longest => k_is)
    (case k__law_longest => k_is)
    (case l_show_end => k_is)
    (case c_show_end => k_is)
    (case k_show_end => k_is)
    (case l_show_span => k_is)
    (case c_show_span => k_is)
    (case k_show_span => k_is)
    (case l_show_spans => k_is)
    (case c_show_spans => k_is)
    (case k_show_spans => k_is)
    (case l_show_words => k_is)
    (case c_show_words => k_is)
    (case k_show_words => k_is)
    (case l_show_set => k_is)
    (case c_show_set => k_is)
    (case k_show_set => k_is)
    (case l__law_span_text => k_is)
    (case c__law_span_text => k_is)
    (case k__law_span_text => k_is)
    (case l__law_set_text => k_is)
    (case c__law_set_text => k_is)
    (case k__law_set_text => k_is)
    (case l_read_end => k_is)
    (case c_read_end => k_is)
    (case k_read_end => k_is)
    (case l_read_span => k_is)
    (case c_read_span => k_is)
    (case k_read_span => k_is)
    (case l_lies_behind => k_is)
    (case c_lies_behind => k_is)
    (case k_lies_behind => k_is)
    (case l_read_spans => k_is)
    (case c_read_spans => k_is)
    (case k_read_spans => k_is)
    (case l_read_listed => k_is)
    (case c_read_listed => k_is)
    (case k_read_listed => k_is)
    (case l_read_words => k_is)
    (case c_read_words => k_is)
    (case k_read_words => k_is)
    (case l_read_set => k_is)
    (case c_read_set => k_is)
    (case k_read_set => k_is)
    (case l_is_number => k_is)
    (case c_is_number => k_is)
    (case k_is_number => k_is)
    (case l_in_span => k_is)
    (case c_in_span => k_is)
    (case k_in_span => k_is)
    (case l_has => k_is)
    (case c_has => k_is)
    (case k_has => k_is)
    (case l__law_has => k_is)
    (case c__law_has => k_is)
    (case k__law_has => k_is)
    (case l_head_of => k_is)
    (case c_head_of => k_is)
    (case k_head_of => k_is)
    (case l_show_kind => k_is)
    (case c_show_kind => k_is)
    (case k_show_kind => k_is)
    (case l_is_of => k_is)
    (case c_is_of => k_is)
    (case k_is_of => k_is)
    (case l_read_kind => k_is)
    (case c_read_kind => k_is)
    (case k_read_kind => k_is)
    (case l__law_told => k_is)
    (case c__law_told => k_is)
    (case k__law_told => k_is)
    (case l__law_kind_in => k_is)
    (case c__law_kind_in => k_is)
    (case k__law_kind_in => k_is)
    (case l__law_is_of => k_is)
    (case c__law_is_of => k_is)
    (case k__law_is_of => k_is)
    (case l__law_cell => k_is)
    (case c__law_cell => k_is)
    (case k__law_cell => k_is)
    (case l__law_row => k_is)
    (case c__law_row => k_is)
    (case k__law_row => k_is)
    (case l__law_spoilt => k_is)
    (case c__law_spoilt => k_is)
    (case k__law_spoilt => k_is)
    (case l__law_texts_right => k_is)
    (case c__law_texts_right => k_is)
    (case k__law_texts_right => k_is)
    (case l_law => k_is)
    (case c_law => k_is)
    (case k_law => k_is)
    (case z_len => k_is)
    (case z_max => k_is)
    (case z_abs => k_is)
    (case z_divmod => k_is)
    (case z_range => k_is)
    (case z_tuple => k_is)
    (case z_list => k_is)
    (case z_isinstance => k_is)
    (case z_str => k_is)
    (case z_int => k_is)
    (case z_all => k_is)
    (case z_any => k_is)
    (case z_min => k_is)
    (case z_sorted => k_is)
    (case z_set => k_is)
    (case z_bool => k_is)
    (case z_ValueError => k_is)
    (case z_zip => k_is)
    (case v_lw => k_is)
    (case v_wr => k_is)
    (case v_le => k_is)
    (case v_fi => k_is)
    (case zCN => k_is)
    (case zPE => k_is)
    (case cg => k_is)
    (case ct => k_is)
    (case x0 => kernel_rfl)
    (case e0 => kernel_rfl)
    (case em => kernel_rfl)
    (case kp => kernel_rfl)
    (case kv => kernel_rfl)
    (case kn => kernel_rfl)
    (case ki => kernel_rfl)
    (case kl => kernel_rfl)
    (case kt => kernel_rfl)
    (case kib => kernel_rfl)
    (case ksi => kernel_rfl)
