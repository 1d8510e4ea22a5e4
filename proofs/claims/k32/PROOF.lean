import PyProof.Rows.All
import Wide.All
import OpenK.AllK
import Wide.FinOn
import Lean
import PyProof.EqAt
import PyProof.EqKinds
import PyProof.TupleCall
import PyProof.NeKinds
import KE.KLam
import KE.KSortAsk
import KE.KSortTup
import KE.KNestM
import PyProof.ListRange
import PyProof.SumAny
import PySem.Challenge.RW_rowpipes_k32_whole_rows_together
set_option Elab.async false
set_option linter.all false
set_option maxRecDepth 100000
namespace L2
open PySem PySem.Spec PyProof.Rows
abbrev Key:=Sum Int Str
def keyIs:Key→Value→Bool
  | .inl k,v=>Value.isInt k v
  | .inr x,v=>Value.isStrOf x v
def keyH (w:World):Key→Int
  | .inl k=>hashInt k
  | .inr x=>hashStr w x
theorem keyIs_shape:∀ {k:Key} {v:Value},keyIs k v = true→(∃ i t,k = Sum.inl i∧v = Value.int i t)∨(∃ x t,k = Sum.inr x∧v = Value.str x t)
  | .inl i,v,h=>by
    obtain ⟨t,e⟩:=Value.isInt_shape (k:=i) (v:=v) h
    exact .inl ⟨i,t,rfl,e⟩
  | .inr x,v,h=>by
    obtain ⟨t,e⟩:=Value.isStrOf_shape (x:=x) (v:=v) h
    exact .inr ⟨x,t,rfl,e⟩
theorem key_ll (a b:Int):decide ((Sum.inl a:Key) = Sum.inl b) = (a == b):=by
  by_cases e:a = b
  · subst e; simp
  · have h:¬ (Sum.inl a:Key) = Sum.inl b:=fun q=>e (Sum.inl.inj q)
    rw [decide_eq_false h]
    exact (beq_eq_false_iff_ne.mpr e).symm
theorem key_rr (a b:Str):decide ((Sum.inr a:Key) = Sum.inr b) = decide (a = b):=by
  by_cases e:a = b
  · subst e; simp
  · have h:¬ (Sum.inr a:Key) = Sum.inr b:=fun q=>e (Sum.inr.inj q)
    rw [decide_eq_false h,decide_eq_false e]
theorem key_lr (a:Int) (b:Str):decide ((Sum.inl a:Key) = Sum.inr b) = false:=decide_eq_false (fun q=>nomatch q)
theorem key_rl (a:Str) (b:Int):decide ((Sum.inr a:Key) = Sum.inl b) = false:=decide_eq_false (fun q=>nomatch q)
def mixKind (prog:Program) (w:World):PySem.KeyKind prog w Key where
  is:=keyIs
  hash:=keyH w
  inj:=fun v a b ha hb=>by
    rcases keyIs_shape ha with ⟨i,t,rfl,rfl⟩ | ⟨x,t,rfl,rfl⟩
    · rcases keyIs_shape hb with ⟨j,u,rfl,e⟩ | ⟨y,u,rfl,e⟩
      · injection e with e1 _; rw [e1]
      · exact nomatch e
    · rcases keyIs_shape hb with ⟨j,u,rfl,e⟩ | ⟨y,u,rfl,e⟩
      · exact nomatch e
      · injection e with e1 _; rw [e1]
  byValue:=fun k v h=>by
    rcases keyIs_shape h with ⟨i,t,rfl,rfl⟩ | ⟨x,t,rfl,rfl⟩ <;> rfl
  pyHash:=fun hv h=>by
    rcases keyIs_shape hv with ⟨i,t,rfl,rfl⟩ | ⟨x,t,rfl,rfl⟩
    · exact wpAny_pyHash_int h
    · exact wpAny_pyHash_str h
  eqBool:=fun hu hv h=>by
    rcases keyIs_shape hu with ⟨i,t,rfl,rfl⟩ | ⟨x,t,rfl,rfl⟩
    · rcases keyIs_shape hv with ⟨j,u,rfl,rfl⟩ | ⟨y,u,rfl,rfl⟩
      · rw [key_ll] at h; exact wpAny_eqBool_int h
      · rw [key_lr] at h; exact SeqAt.EqAt.int_str i t y u _ _ _ _ h
    · rcases keyIs_shape hv with ⟨j,u,rfl,rfl⟩ | ⟨y,u,rfl,rfl⟩
      · rw [key_rl] at h; exact SeqAt.EqAt.str_int x t j u _ _ _ _ h
      · rw [key_rr] at h; exact wpAny_eqBool_str h
  «strs»:=fun k x t v h=>by
    rcases keyIs_shape h with ⟨i,u,rfl,e⟩ | ⟨y,u,rfl,e⟩
    · exact nomatch e
    · injection e with e1 _
      subst e1
      cases v <;> rfl
abbrev OKey:=Option Key
def optIs:OKey→Value→Bool
  | none,.none=>true
  | none,_=>false
  | some k,v=>keyIs k v
theorem pyHash_none {prog:Program} {w:World} {A:Around} {E:Value→Shared→Prop} {s:Shared} {Q:Int→Shared→Prop} (h:Q 0xFCA86420 { s with toks:=s.toks + 1 }):wpAny (model prog w) A (pyHash .none) Q E s:=by
  unfold pyHash
  have hv:[Value.none].any Value.onHeap = false:=rfl
  refine wpAny_bind ?_
  rw [cRoomFor,if_neg (by rw [hv]; exact Bool.false_ne_true)]; refine wpAny_pure ?_
  refine wpAny_bind (wpAny_specialOf (typeIs_none s) F.slot_NoneType_hash.lookup ?_)
  show wpAny _ _ (if (some (Value.builtin "NoneType.__hash__") == some Value.none) = true then _ else _) Q E s
  rw [if_neg (by rw [beq_builtin_none]; exact Bool.false_ne_true)]
  refine wpAny_bind (wpAny_specialOf (typeIs_none s) F.slot_NoneType_hash.lookup ?_)
  refine wpAny_bind (wpAny_callSpecialIfBoundUnlessNone?_slot (typeIs_none s) F.slot_NoneType_hash
    (wpAny_call_entry F.slot_NoneType_hash (typeIs_none s) F.entry_NoneType_hash
      (show wpAny _ _ (do ret (← mkInt 0xFCA86420)) _ _ s from wpAny_ret_mkInt ?_) (F.args_NoneType_hash_1 _)))
  show wpAny _ _ (if (decide (-(2:Int) ^ 63 ≤ 0xFCA86420) && decide ((0xFCA86420:Int) < 2 ^ 63)) = true then _ else _) Q E _
  rw [if_pos (by decide)]
  exact wpAny_pure h
theorem optIs_shape:∀ {k:OKey} {v:Value},optIs k v = true→(k = none∧v = .none)∨∃ k',k = some k'∧keyIs k' v = true
  | none,.none,_=>.inl ⟨rfl,rfl⟩
  | some k,v,h=>.inr ⟨k,rfl,h⟩
theorem key_some (a b:Key):decide ((some a:OKey) = some b) = decide (a = b):=by
  by_cases e:a = b
  · subst e; simp
  · rw [decide_eq_false e,decide_eq_false (fun q=>e (Option.some.inj q))]
theorem key_no (a:Key):decide ((some a:OKey) = none) = false:=decide_eq_false (fun q=>nomatch q)
theorem key_on (a:Key):decide ((none:OKey) = some a) = false:=decide_eq_false (fun q=>nomatch q)
def optKind (prog:Program) (w:World):PySem.KeyKind prog w OKey where
  is:=optIs
  hash:=fun k=>match k with | none=>0xFCA86420 | some k=>keyH w k
  inj:=fun v a b ha hb=>by
    rcases optIs_shape ha with ⟨rfl,rfl⟩ | ⟨a',rfl,ha'⟩
    · rcases optIs_shape hb with ⟨rfl,_⟩ | ⟨b',rfl,hb'⟩
      · rfl
      · rcases keyIs_shape hb' with ⟨j,u,_,e⟩ | ⟨y,u,_,e⟩ <;> exact nomatch e
    · rcases optIs_shape hb with ⟨rfl,rfl⟩ | ⟨b',rfl,hb'⟩
      · rcases keyIs_shape ha' with ⟨j,u,_,e⟩ | ⟨y,u,_,e⟩ <;> exact nomatch e
      · rw [(mixKind prog w).inj v a' b' ha' hb']
  byValue:=fun k v h=>by
    rcases optIs_shape h with ⟨rfl,rfl⟩ | ⟨k',rfl,h'⟩
    · rfl
    · exact (mixKind prog w).byValue k' v h'
  pyHash:=fun hv h=>by
    rcases optIs_shape hv with ⟨rfl,rfl⟩ | ⟨k',rfl,h'⟩
    · exact pyHash_none h
    · exact (mixKind prog w).pyHash h' h
  eqBool:=fun {A E s a b u v Q} hu hv h=>by
    rcases optIs_shape hu with ⟨rfl,rfl⟩ | ⟨k,rfl,hk⟩
    · rcases optIs_shape hv with ⟨rfl,rfl⟩ | ⟨l,rfl,hl⟩
      · unfold eqBool
        refine wpAny_holding ?_
        rw [decide_eq_true rfl] at h
        exact wpAny_ite_split (fun _=>wpAny_bind (wpAny_rule (wpAny_pure h))) (fun hn=>absurd rfl hn)
      · rw [key_on] at h
        rcases keyIs_shape hl with ⟨j,u,rfl,rfl⟩ | ⟨y,u,rfl,rfl⟩
        · exact SeqAt.EqAt.none_int j u _ _ _ _ h
        · exact SeqAt.EqAt.none_str y u _ _ _ _ h
    · rcases optIs_shape hv with ⟨rfl,rfl⟩ | ⟨l,rfl,hl⟩
      · rw [key_no] at h
        rcases keyIs_shape hk with ⟨j,u,rfl,rfl⟩ | ⟨y,u,rfl,rfl⟩
        · exact SeqAt.EqAt.int_none j u _ _ _ _ h
        · exact SeqAt.EqAt.str_none y u _ _ _ _ h
      · rw [key_some] at h
        exact (mixKind prog w).eqBool hk hl h
  «strs»:=fun k x t v h=>by
    rcases optIs_shape h with ⟨_,e⟩ | ⟨k',rfl,h'⟩
    · exact nomatch e
    · exact (mixKind prog w).strs k' x t v h'
end L2
namespace L2
open PySem PySem.Spec PyProof.Rows
inductive V where
  | non | bl (b:Bool) | int (i:Int) | str (x:Str) | byt (b:Array UInt8) | flt (b:UInt64) | ref (a:Addr) | ty (n:String)
  deriving DecidableEq
def RelV:V→Value→Prop
  | .non,u=>u = Value.none
  | .bl b,u=>u = Value.bool b
  | .int i,u=>∃ t,u = Value.int i t
  | .str x,u=>∃ t,u = Value.str x t
  | .byt b,u=>∃ t,u = Value.bytes b t
  | .flt b,u=>∃ t,u = Value.float b t
  | .ref a,u=>u = Value.ref a
  | .ty n,u=>u = Value.type n
abbrev Vals:List V→List Value→Prop:=Paired RelV
theorem Vals.length {xs:List V} {us:List Value} (r:Vals xs us):xs.length = us.length:=Paired.length r
theorem Vals.get:∀ {xs:List V} {us:List Value} {i:Nat} {x:V},Vals xs us→xs[i]? = some x→∃ u,us[i]? = some u∧RelV x u
  | _,_,_,_,.nil,e=>by simp at e
  | _,_,0,_,.cons r _,e=>by simp at e; subst e; exact ⟨_,rfl,r⟩
  | _,_,i + 1,x,.cons _ t,e=>by
    obtain ⟨u,h1,h2⟩:=Vals.get (i:=i) (x:=x) t (by simpa using e)
    exact ⟨u,by simpa using h1,h2⟩
theorem Vals.set {x:V} {u:Value} (r:RelV x u):∀ {xs:List V} {us:List Value} (i:Nat),Vals xs us→Vals (xs.set i x) (us.set i u)
  | _,_,_,.nil=>.nil
  | _,_,0,.cons _ t=>.cons r t
  | _,_,i + 1,.cons q t=>.cons q (Vals.set r i t)
theorem Vals.append:∀ {xs ys:List V} {us ws:List Value},Vals xs us→Vals ys ws→Vals (xs ++ ys) (us ++ ws)
  | _,_,_,_,.nil,s=>s
  | _,_,_,_,.cons r t,s=>.cons r (Vals.append t s)
theorem Vals.take:∀ {xs:List V} {us:List Value} (n:Nat),Vals xs us→Vals (xs.take n) (us.take n)
  | _,_,0,_=>.nil
  | _,_,_ + 1,.nil=>.nil
  | _,_,n + 1,.cons r t=>.cons r (Vals.take n t)
theorem Vals.drop:∀ {xs:List V} {us:List Value} (n:Nat),Vals xs us→Vals (xs.drop n) (us.drop n)
  | _,_,0,r=>r
  | _,_,_ + 1,.nil=>.nil
  | _,_,n + 1,.cons _ t=>Vals.drop n t
def RelO:Option V→Option Value→Prop
  | some v,some u=>RelV v u
  | none,none=>True
  | _,_=>False
def KV {κ:Type}:List (κ×V)→List (κ×Value)→Prop:=Paired fun (p:κ×V) (q:κ×Value)=>p.1 = q.1∧RelV p.2 q.2
def kV:Key→V
  | .inl i=>.int i
  | .inr x=>.str x
def oV:OKey→V
  | none=>.non
  | some k=>kV k
inductive HO where
  | lst (xs:List V)
  | tup (xs:List V)
  | dK (kvs:List (Key×V)) | dT (kvs:List (List OKey×V))
  | set (S:Int→Bool) (n:Nat)
  | ins (C dx:Addr) (fs:List (Str×V))
  | own (x:Addr)
  | xd (fs:List (Str×V))
  | met (f x:Addr)
  | rng (lo hi:Int)
  | frz (o:Obj) (u:HO)
  | tbl (ps:Array Value)
  | ext (φ:Heap→Prop)
abbrev Hp:=Addr→Option HO
def upd (H:Hp) (a:Addr) (o:HO):Hp:=fun b=>if b = a then some o else H b
theorem upd_same {H:Hp} {a:Addr} {o:HO}:upd H a o a = some o:=by unfold upd; rw [if_pos rfl]
theorem upd_ne {H:Hp} {a b:Addr} {o:HO} (h:b ≠ a):upd H a o b = H b:=by unfold upd; rw [if_neg h]
theorem ne_of_none {H:Hp} {a b:Addr} {o:HO} (h:H a = some o) (h':H b = none):a ≠ b:=by
  intro e; subst e; rw [h] at h'; cases h'
def IsTupN (h:Heap) (a:Addr) (items:Array Value):Prop:=∃ o,h.get? a = some o∧o.cls = .type "tuple"∧(∃ n,o.data = .seq items n)∧o.dict = none
theorem IsTupN.tup {h:Heap} {a:Addr} {items:Array Value} (x:IsTupN h a items):IsTup h a items:=let ⟨o,ho,hc,hd,_⟩:=x; ⟨o,ho,hc,hd⟩
theorem IsTupN.new (h:Heap) (items:Array Value):IsTupN (h.push { cls:=.type "tuple", data:=.seq items }) h.objs.size items:=⟨_,Heap.get?_push_size _ rfl,rfl,⟨_,rfl⟩,rfl⟩
section
variable (P:Program) (w:World)
def ObjOk (H:Hp) (h:Heap) (a:Addr):HO→Prop
  | .lst xs=>xs.length ≤ sizeLine∧∃ (its:List Value) (n:Nat),Vals xs its∧h.get? a = some { cls:=.type "list", data:=.seq its.toArray n }
  | .tup xs=>xs.length ≤ sizeLine∧∃ its:List Value,Vals xs its∧IsTupN h a its.toArray
  | .dK kvs=>kvs.length ≤ sizeLine∧(a == sysModules) = false∧∃ vs,KV kvs vs∧h.DictOf (mixKind P w) a vs
  | .dT kvs=>kvs.length ≤ sizeLine∧(a == sysModules) = false∧∃ xs:List (List OKey×Addr×Value),
      Paired (fun (p:List OKey×V) (q:List OKey×Addr×Value)=>p.1 = q.1∧H q.2.1 = some (.tup (p.1.map oV))∧RelV p.2 q.2.2) kvs xs ∧
      ∃ o es ep,h.get? a = some o∧o.ExactDict∧o.data = .dict es ep∧es.toList = xs.map (entryOfKey (tupleKind (optKind P w)))∧(xs.map (·.1)).Nodup
  | .set S n=>h.SetOf (intKind P w) a S n
  | .ins C dx fs=>H dx = some (.own a)∧fs.length ≤ 1000∧dx ≠ a∧h.get? a = some (PySem.W.instObj C dx) ∧
      ∃ mA,h.Ns1 dx mA∧(∀ f,RelO (fs.lookup f) (mA f))∧PySem.Within mA (fs.map (·.1))
  | .own _=>∃ o,h.get? a = some o
  | .xd fs=>∃ mA,h.Ns1 a mA∧∀ f,RelO (fs.lookup f) (mA f)
  | .rng lo hi=>∃ t u v,h.get? a = some { cls:=.type "range", data:=.fields #[.int lo t,.int hi u,.int 1 v] }
  | .frz o u=>h.get? a = some o∧ObjOk H h a u
  | .tbl ps=>h.get? a = some { cls:=.none,data:=.fields ps }
  | .met f x=>h.get? a = some (PySem.W.methodObj (.ref f) (.ref x))
  | .ext φ=>φ h∧(∃ o,h.get? a = some o)∧∀ h1 h2:Heap,φ h1→(∀ o,h1.get? a = some o→h2.get? a = some o)→φ h2
def HOk (H:Hp) (h:Heap):Prop:=∀ a o,H a = some o→ObjOk P w H h a o
end
section
variable {P:Program} {w:World} {H H':Hp} {h h':Heap} {a:Addr} {o:HO}
theorem ObjOk.lt (x:ObjOk P w H h a o):a < h.objs.size:=by
  cases o with
  | lst xs=>obtain ⟨_,_,_,_,e⟩:=x; exact Heap.lt_size e
  | tup xs=>obtain ⟨_,_,_,p⟩:=x; exact p.tup.lt
  | dK kvs=>obtain ⟨_,_,_,_,o,_,_,e,_⟩:=x; exact Heap.lt_size e
  | dT kvs=>obtain ⟨_,_,_,_,o,_,_,e,_⟩:=x; exact Heap.lt_size e
  | set S n=>obtain ⟨o,_,_,_,e,_⟩:=x; exact Heap.lt_size e
  | ins C dx fs=>obtain ⟨_,_,_,e,_⟩:=x; exact Heap.lt_size e
  | own y=>obtain ⟨_,e⟩:=x; exact Heap.lt_size e
  | xd fs=>obtain ⟨_,⟨_,_,_,e,_⟩,_⟩:=x; exact Heap.lt_size e
  | rng lo hi=>obtain ⟨_,_,_,e⟩:=x; exact Heap.lt_size e
  | frz ob u=>obtain ⟨e,_⟩:=x; exact Heap.lt_size e
  | tbl ps=>exact Heap.lt_size (show h.get? a = some _ from x)
  | met f y=>exact Heap.lt_size (show h.get? a = some _ from x)
  | ext φ=>obtain ⟨_,⟨_,e⟩,_⟩:=x; exact Heap.lt_size e
theorem Paired.mapP {α β:Type} {F G:α→β→Prop}:∀ {l₁:List α} {l₂:List β},Paired F l₁ l₂→(∀ a b,F a b→G a b)→Paired G l₁ l₂
  | _,_,.nil,_=>.nil
  | _,_,.cons r t,f=>.cons (f _ _ r) (Paired.mapP t f)
theorem ObjOk.stay (x:ObjOk P w H h a o) (k:∀ b u,(b = a∨H b = some (.own a))→h.get? b = some u→h'.get? b = some u)
    (ho:∀ b,H b = some (.own a)→H' b = some (.own a)) (ht:∀ b xs,H b = some (.tup xs)→H' b = some (.tup xs)):ObjOk P w H' h' a o:=by
  induction o with
  | lst xs=>obtain ⟨z,its,n,r,e⟩:=x; exact ⟨z,its,n,r,k _ _ (.inl rfl) e⟩
  | tup xs=>obtain ⟨z,its,r,ob,e,c⟩:=x; exact ⟨z,its,r,ob,k _ _ (.inl rfl) e,c⟩
  | dK kvs=>obtain ⟨z,y,vs,r,ob,es,ep,e,c⟩:=x; exact ⟨z,y,vs,r,ob,es,ep,k _ _ (.inl rfl) e,c⟩
  | dT kvs =>
    obtain ⟨z,y,xs,r,ob,es,ep,e,c⟩:=x
    exact ⟨z,y,xs,Paired.mapP r fun p q z=>⟨z.1,ht _ _ z.2.1,z.2.2⟩,ob,es,ep,k _ _ (.inl rfl) e,c⟩
  | set S n=>obtain ⟨ob,es,ep,t,e,c⟩:=x; exact ⟨ob,es,ep,t,k _ _ (.inl rfl) e,c⟩
  | ins C dx fs =>
    obtain ⟨d,z,ne,e,mA,⟨od,es,ep,e2,c⟩,r⟩:=x
    exact ⟨ho _ d,z,ne,k _ _ (.inl rfl) e,mA,⟨od,es,ep,k _ _ (.inr d) e2,c⟩,r⟩
  | own y=>obtain ⟨ob,e⟩:=x; exact ⟨ob,k _ _ (.inl rfl) e⟩
  | xd fs=>obtain ⟨mA,⟨od,es,ep,e,c⟩,r⟩:=x; exact ⟨mA,⟨od,es,ep,k _ _ (.inl rfl) e,c⟩,r⟩
  | rng lo hi=>obtain ⟨t,u,v,e⟩:=x; exact ⟨t,u,v,k _ _ (.inl rfl) e⟩
  | frz ob u ih=>obtain ⟨e,q⟩:=x; exact ⟨k _ _ (.inl rfl) e,ih q⟩
  | tbl ps =>
    have e:h.get? a = some { cls:=.none,data:=.fields ps }:=x
    show h'.get? a = some { cls:=.none,data:=.fields ps }
    exact k a _ (.inl rfl) e
  | met f y =>
    have e:h.get? a = some (PySem.W.methodObj (.ref f) (.ref y)):=x
    show h'.get? a = some (PySem.W.methodObj (.ref f) (.ref y))
    exact k a _ (.inl rfl) e
  | ext φ=>obtain ⟨p,⟨o,e⟩,st⟩:=x; exact ⟨st _ _ p fun o q=>k _ _ (.inl rfl) q,⟨o,k _ _ (.inl rfl) e⟩,st⟩
theorem HOk.lt (x:HOk P w H h) (e:H a = some o):a < h.objs.size:=(x a o e).lt
theorem HOk.fresh (x:HOk P w H h) (e:h.objs.size ≤ a):H a = none:=by
  cases q:H a with
  | none=>rfl
  | some u=>exact absurd (Nat.lt_of_lt_of_le (x.lt q) e) (Nat.lt_irrefl _)
theorem HOk.kept (x:HOk P w H h) (k:∀ b u,h.get? b = some u→h'.get? b = some u):HOk P w H h':=fun a o e =>
  (x a o e).stay (fun b u _ q=>k b u q) (fun _ q=>q) fun _ _ q=>q
theorem HOk.laid (x:HOk P w H h) (k:∀ b u,h.get? b = some u→h'.get? b = some u) (hp:h.objs.size ≤ a) (new:ObjOk P w (upd H a o) h' a o):HOk P w (upd H a o) h':=fun b u e=>by
  have hn:=x.fresh hp
  by_cases hb:b = a
  · subst hb; rw [upd_same] at e; cases e; exact new
  · rw [upd_ne hb] at e
    exact (x b u e).stay (fun c v _ q=>k c v q) (fun c q=>by rw [upd_ne (ne_of_none q hn)]; exact q) fun c xs q=>by rw [upd_ne (ne_of_none q hn)]; exact q
end
def Rd (H:Hp) (a:Addr) (u:HO):Prop:=H a = some u∨∃ o,H a = some (.frz o u)
theorem Rd.ok {P:Program} {w:World} {H:Hp} {h:Heap} {a:Addr} {u:HO} (r:Rd H a u) (x:HOk P w H h):ObjOk P w H h a u:=by
  rcases r with r | ⟨o,r⟩
  · exact x a u r
  · obtain ⟨_,q⟩:=x a _ r
    exact q
def Mut:Option HO→Prop
  | some (.lst _)=>True
  | some (.dK _)=>True
  | some (.dT _)=>True
  | some (.set _ _)=>True
  | some (.ins _ _ _)=>True
  | some (.ext _)=>True
  | _=>False
section
variable {P:Program} {w:World} {H:Hp} {h h':Heap} {x e:Addr} {o':HO}
theorem HOk.write (ok:HOk P w H h) (mu:Mut (H x)) (he:e = x∨H e = some (.own x)) (k:∀ b u,b ≠ e→h.get? b = some u→h'.get? b = some u) (heo:∃ u,h'.get? e = some u)
    (new:ObjOk P w (upd H x o') h' x o'):HOk P w (upd H x o') h':=fun b u q=>by
  have nown:∀ c y,H c = some (.own y)→c ≠ x:=fun c y r z=>by subst z; rw [r] at mu; exact mu
  have ntup:∀ c xs,H c = some (.tup xs)→c ≠ x:=fun c xs r z=>by subst z; rw [r] at mu; exact mu
  by_cases hb:b = x
  · subst hb; rw [upd_same] at q; cases q; exact new
  · rw [upd_ne hb] at q
    by_cases hbe:b = e
    · have q':H b = some (.own x):=by
        rcases he with z | z
        · exact absurd (hbe.trans z) hb
        · rw [hbe]; exact z
      rw [q] at q'; cases q'
      obtain ⟨v,hv⟩:=heo
      exact ⟨v,by rw [hbe]; exact hv⟩
    · refine (ok b u q).stay (fun c v hc r=>k c v ?_ r) (fun c r=>by rw [upd_ne (nown c b r)]; exact r) fun c xs r=>by rw [upd_ne (ntup c xs r)]; exact r
      rcases hc with rfl | hc
      · exact hbe
      · rintro rfl
        rcases he with z | z
        · exact nown c b hc z
        · rw [hc] at z; cases z; exact hb rfl
end
structure Un (fs ex:List Addr) (H H':Hp) (h h':Heap):Prop where
  keep:∀ b o,h.get? b = some o→H b = none→b ∉ fs→b ∉ ex→h'.get? b = some o
  slot:∀ b o,h.get? b = some o→H b = none→b ∈ fs→b ∉ ex→∃ sl,h'.get? b = some { o with slots:=sl }
  free:∀ b o,h.get? b = some o→H b = none→b ∉ ex→H' b = none
  there:∀ b o,h.get? b = some o→b ∉ ex→∃ o',h'.get? b = some o'
  tups:∀ b xs,H b = some (.tup xs)→H' b = some (.tup xs)
  frzs:∀ b o u,H b = some (.frz o u)→H' b = some (.frz o u)
  tbls:∀ b ps,H b = some (.tbl ps)→∃ more,H' b = some (.tbl (ps ++ more))
section
variable {fs fs' ex ex':List Addr} {H H1 H2:Hp} {h h1 h2 h':Heap} {a x e:Addr} {o:HO}
theorem Un.any (u:Un fs ex H H1 h h1) {b:Addr} {ob:Obj} (q:h.get? b = some ob) (n:H b = none) (hx:b ∉ ex):∃ sl,h1.get? b = some { ob with slots:=sl }:=by
  by_cases hb:b ∈ fs
  · exact u.slot b ob q n hb hx
  · exact ⟨ob.slots,u.keep b ob q n hb hx⟩
theorem Un.kept (k:∀ b u,h.get? b = some u→h'.get? b = some u):Un fs ex H H h h' :=
  ⟨fun b ob q _ _ _=>k b ob q,fun b ob q _ _ _=>⟨ob.slots,k b ob q⟩,fun _ _ _ n _=>n,fun b ob q _=>⟨ob,k b ob q⟩,fun _ _ q=>q,fun _ _ _ q=>q,fun _ ps q=>⟨#[],by rw [q]; simp⟩⟩
theorem Un.refl:Un fs ex H H h h:=Un.kept fun _ _ q=>q
theorem Un.laid (k:∀ b u,h.get? b = some u→h'.get? b = some u) (hp:h.objs.size ≤ a) (hn:H a = none):Un fs ex H (upd H a o) h h' where
  keep:=fun b u q _ _ _=>k b u q
  slot:=fun b u q _ _ _=>⟨u.slots,k b u q⟩
  free:=fun b u q n _=>by rw [upd_ne (Nat.ne_of_lt (Nat.lt_of_lt_of_le (Heap.lt_size q) hp))]; exact n
  there:=fun b u q _=>⟨u,k b u q⟩
  tups:=fun b xs q=>by rw [upd_ne (ne_of_none q hn)]; exact q
  frzs:=fun b u xs q=>by rw [upd_ne (ne_of_none q hn)]; exact q
  tbls:=fun b ps q=>⟨#[],by rw [upd_ne (ne_of_none q hn),q]; simp⟩
theorem Un.write (mu:Mut (H x)) (he:e = x∨H e = some (.own x)) (k:∀ b u,b ≠ e→h.get? b = some u→h'.get? b = some u) (heo:∃ u,h'.get? e = some u):Un fs ex H (upd H x o) h h':=by
  have hx:∀ b,H b = none→b ≠ x:=fun b n z=>by subst z; rw [n] at mu; exact mu
  have hb:∀ b,H b = none→b ≠ e:=fun b n z=>by
    subst z
    rcases he with r | r
    · exact hx b n r
    · rw [n] at r; cases r
  have hm:∀ b u,H b = some u→¬ Mut (some u)→b ≠ x:=fun b u q nm z=>by subst z; rw [q] at mu; exact nm mu
  refine ⟨fun b u q n _ _=>k b u (hb b n) q,fun b u q n _ _=>⟨u.slots,k b u (hb b n) q⟩,fun b u q n _=>by rw [upd_ne (hx b n)]; exact n,fun b u q _=>?_,
    fun b xs q=>by rw [upd_ne (hm b _ q fun z=>z)]; exact q,fun b u xs q=>by rw [upd_ne (hm b _ q fun z=>z)]; exact q,fun b ps q=>⟨#[],by rw [upd_ne (hm b _ q fun z=>z),q]; simp⟩⟩
  by_cases hbe:b = e
  · subst hbe; exact heo
  · exact ⟨u,k b u hbe q⟩
end
def trk (h:Heap) (H:Hp):List Addr:=(List.range h.objs.size).filter fun a=>(H a).isSome
def hidT (h:Heap) (H:Hp):Heap:=PySem.W.hideAll h (trk h H)
theorem hidT_size (h:Heap) (H:Hp):(hidT h H).objs.size = h.objs.size:=PySem.W.hideAll_size _ _
theorem hidT_get {h:Heap} {H:Hp} {b:Addr} {o:Obj} (e:h.get? b = some o) (n:H b = none):(hidT h H).get? b = some o :=
  PySem.W.hideAll_get _ e fun hm=>by
    have q:(H b).isSome = true:=(List.mem_filter.mp hm).2
    rw [n] at q; simp at q
theorem of_hidT {h:Heap} {H:Hp} {b:Addr} {o:Obj} (e:(hidT h H).get? b = some o):h.get? b = some o∧H b = none:=by
  have e':h.get? b = some o:=PySem.W.of_hideAll (trk h H) e
  refine ⟨e',?_⟩
  cases q:H b with
  | none=>rfl
  | some x =>
    have hm:b ∈ trk h H:=List.mem_filter.mpr ⟨List.mem_range.mpr (Heap.lt_size e'),by simp [q]⟩
    have z:(hidT h H).get? b = none:=PySem.W.hideAll_none (trk h H) hm
    rw [z] at e; cases e
def allNews (g h:Heap) (L:Addr):List (Addr×Obj):=(List.range h.objs.size).filterMap fun a=>if a = L∨(g.get? a).isSome = true then none else (h.get? a).map fun o=>(a,o)
def rest (g h:Heap) (L d:Addr):List (Addr×Obj):=(allNews g h L).filter fun p=>decide (p.1 ≠ d)
end L2
namespace L2
open PySem PySem.Spec PyProof.Rows
structure Mod (K:PySem.W.Frag) (mg:Str→Option Value) (base:Heap):Prop where
  kin:K.In base
  glob:base.Ns mainGlobals mg
  blt:∃ mb,base.Ns builtinsNs mb∧∀ x:Str,x ≠ "__name__"→mb x = bootBuiltins x
  nolimit:base.NoLimit
structure Cx where
  prog:Program
  w:World
  K:PySem.W.Frag
  mg:Str→Option Value
  base:Heap
  A:Around
  N:List Str
  s₀:Shared
  H₀:Hp
  env:Env
  outer:List Env
  stack:List Env
  ex:List Addr
  fn:Str→Bool
  calm:Bool
  pn:List (Addr×Obj)
  xe:Value→Shared→Prop
def frs (l:List Env):List Addr:=l.filterMap (·.frame)
abbrev Cx.fs (X:Cx):List Addr:=frs X.outer
def Vis (sc:Scope) (x:Str):Prop:=sc.names.lookup x = some .local∨sc.names.lookup x = some .cell∨sc.names.lookup x = some .free
def Loc (sc:Scope) (x:Str):Prop:=sc.names.lookup x = some .local∨sc.names.lookup x = some .cell
def Look (env:Env) (h:Heap) (m:Str→Option Value) (x:Str) (u:Value):Prop :=
  (env.kindOf x = some .local∧m x = some u)∨((env.kindOf x = some .cell∨env.kindOf x = some .free)∧∃ c,env.cells.lookup x = some c∧h.IsCell c (some u))
structure Cx.Ok (X:Cx):Prop where
  mod:Mod X.K X.mg X.base
  kind:X.env.scope.kind = .function
  glob:X.env.globals = mainGlobals
  blt:X.env.builtins = builtinsNs
  above:X.s₀.heap.objs.size ≤ X.env.locals
  inj:∀ x y c,X.env.cells.lookup x = some c→X.env.cells.lookup y = some c→x = y
  has:∀ x,(X.env.kindOf x = some .cell∨X.env.kindOf x = some .free)→∃ c,X.env.cells.lookup x = some c
  cab:∀ x c,X.fn x = true→X.env.cells.lookup x = some c→X.s₀.heap.objs.size ≤ c
  hd:X.calm = true→X.A.handled = none
  frames:X.A.frames = some X.stack
  stk:X.stack = X.outer∨(X.stack = X.env :: X.outer∧X.env.frame = some X.env.locals)
  exf:∀ b ∈ X.ex,b ≠ X.env.locals∧∀ x c,X.env.cells.lookup x = some c→c ≠ b
  bs:∀ b o,X.base.get? b = some o→X.s₀.heap.get? b = some o∧X.H₀ b = none
  bsz:X.base.objs.size ≤ X.s₀.heap.objs.size
  noex:∀ b o,X.base.get? b = some o→b ∉ X.ex
  exfs:∀ b ∈ X.ex,b ∉ X.fs
  funs:X.s₀.heap.FunFrames X.base X.outer
  frf:∀ b ∈ X.fs,X.H₀ b = none
structure Inv (X:Cx) (pins:List (Addr×Obj)) (σ:List (Option V)) (H:Hp) (s:Shared):Prop where
  ok:X.Ok
  os:s.os = X.s₀.os
  bare:AllBare s.gens
  base:Un X.fs X.ex X.H₀ H X.s₀.heap s.heap
  loc:∃ m,s.heap.Ns X.env.locals m∧∀ (i:Nat) (x:Str) (v:V),X.N[i]? = some x→σ[i]? = some (some v)→Vis X.env.scope x→∃ u,RelV v u∧Look X.env s.heap m x u
  cell:∀ x c,X.env.cells.lookup x = some c→∃ v,s.heap.IsCell c v
  free:H X.env.locals = none
  freeC:∀ x c,X.env.cells.lookup x = some c→H c = none
  pin:∀ p ∈ X.pn ++ pins,s.heap.get? p.1 = some p.2∧H p.1 = none∧p.1 ≠ X.env.locals∧p.1 ∉ X.fs∧∀ v,p.2.data ≠ .cell v
  hok:HOk X.prog X.w H s.heap
  len:σ.length = X.N.length
section
variable {X:Cx} {pins:List (Addr×Obj)} {σ:List (Option V)} {H H':Hp} {s:Shared} {h':Heap}
theorem Cx.Ok.nofr (ok:X.Ok) {b:Addr} {o:Obj} (e:X.base.get? b = some o):b ∉ X.fs:=fun hb=>by
  have:=(ok.funs.mem hb).1
  rw [e] at this; cases this
theorem Inv.bs (I:Inv X pins σ H s):∀ b o,X.base.get? b = some o→s.heap.get? b = some o∧H b = none:=fun b o e =>
  ⟨I.base.keep b o (I.ok.bs b o e).1 (I.ok.bs b o e).2 (I.ok.nofr e) (I.ok.noex b o e),I.base.free b o (I.ok.bs b o e).1 (I.ok.bs b o e).2 (I.ok.noex b o e)⟩
theorem Inv.bk (I:Inv X pins σ H s):∀ b o,X.base.get? b = some o→s.heap.get? b = some o:=fun b o e=>(I.bs b o e).1
theorem Inv.mod (I:Inv X pins σ H s):Mod X.K X.mg X.base:=I.ok.mod
theorem Inv.kIn (I:Inv X pins σ H s):X.K.In s.heap:=I.ok.mod.kin.keeps I.bk
theorem Inv.nolimit (I:Inv X pins σ H s):s.heap.NoLimit:=I.ok.mod.nolimit.keeps I.bk
theorem Inv.lt (I:Inv X pins σ H s):X.env.locals < s.heap.objs.size:=let ⟨_,hn,_⟩:=I.loc; hn.lt
theorem Inv.sz (I:Inv X pins σ H s):X.s₀.heap.objs.size ≤ s.heap.objs.size:=Nat.le_trans I.ok.above (Nat.le_of_lt I.lt)
theorem Inv.nofs (I:Inv X pins σ H s) {a:Addr} (h:s.heap.objs.size ≤ a):a ∉ X.fs:=fun hb=>by
  obtain ⟨_,o,ho,_⟩:=I.ok.funs.mem hb
  exact absurd (Nat.lt_of_lt_of_le (Heap.lt_size ho) (Nat.le_trans I.sz h)) (Nat.lt_irrefl _)
theorem Inv.cne (I:Inv X pins σ H s):∀ x c,X.env.cells.lookup x = some c→c ≠ X.env.locals:=fun x c e z=>by
  obtain ⟨v,o,ho,hd⟩:=I.cell x c e
  obtain ⟨m,⟨o',es,ep,ho',hd',_⟩,_⟩:=I.loc
  rw [z,ho'] at ho; cases ho; rw [hd'] at hd; cases hd
theorem Inv.funs (I:Inv X pins σ H s):s.heap.FunFrames X.base X.outer:=by
  have all:∀ (l:List Env),(∀ b ∈ frs l,b ∈ X.fs)→X.s₀.heap.FunFrames X.base l→s.heap.FunFrames X.base l:=by
    intro l
    induction l with
    | nil=>intro _ _; trivial
    | cons env r ih =>
      intro hs hl
      obtain ⟨hk,⟨L,o,hf,hn,ho,hd⟩,hr⟩:=hl
      have hL:L ∈ X.fs:=hs L (by unfold frs; rw [List.filterMap_cons,hf]; exact List.mem_cons_self)
      obtain ⟨sl,e⟩:=I.base.slot L o ho (I.ok.frf L hL) hL fun z=>I.ok.exfs L z hL
      exact ⟨hk,⟨L,_,hf,hn,e,hd⟩,ih (fun b hb=>hs b (by unfold frs; rw [List.filterMap_cons,hf]; exact List.mem_cons_of_mem _ hb)) hr⟩
  exact all X.outer (fun _ hb=>hb) I.ok.funs
theorem Inv.stack (I:Inv X pins σ H s):s.heap.FunFrames X.base X.stack:=by
  rcases I.ok.stk with e | ⟨e,hf⟩
  · rw [e]; exact I.funs
  · rw [e]
    obtain ⟨m,hn,_⟩:=I.loc
    refine .cons (by rw [I.ok.kind]; decide) hf hn ?_ I.funs
    exact Heap.get?_none_of_le (Nat.le_trans I.ok.bsz I.ok.above)
theorem Inv.stkSub (I:Inv X pins σ H s):∀ b ∈ frs X.stack,b ∈ X.env.locals :: X.fs:=fun b hb=>by
  rcases I.ok.stk with e | ⟨e,hf⟩
  · rw [e] at hb; exact List.mem_cons_of_mem _ hb
  · rw [e] at hb
    unfold frs at hb
    rw [List.filterMap_cons,hf] at hb
    exact hb
theorem Inv.stkFree (I:Inv X pins σ H s):∀ b ∈ frs X.stack,H b = none:=fun b hb=>by
  rcases List.mem_cons.mp (I.stkSub b hb) with e | hb
  · rw [e]; exact I.free
  · obtain ⟨_,o,ho,_⟩:=I.ok.funs.mem hb
    exact I.base.free b o ho (I.ok.frf b hb) fun z=>I.ok.exfs b z hb
theorem Inv.step {g':Array GenState} {t':Nat} {d':Drawn} {ch:List Addr} (I:Inv X pins σ H s)
    (hch:∀ b ∈ ch,(b ∈ X.ex∨X.s₀.heap.objs.size ≤ b)∧b ≠ X.env.locals∧(∀ x c,X.env.cells.lookup x = some c→c ≠ b)∧∀ p ∈ X.pn ++ pins,p.1 ≠ b)
    (keep:∀ b o,b ≠ X.env.locals→b ∉ X.fs→b ∉ ch→s.heap.get? b = some o→H b = none→h'.get? b = some o)
    (slot:∀ b o,b ≠ X.env.locals→b ∈ X.fs→b ∉ ch→s.heap.get? b = some o→H b = none→∃ sl,h'.get? b = some { o with slots:=sl }) (free:∀ b o,b ∉ ch→s.heap.get? b = some o→H b = none→H' b = none)
    (there:∀ b o,b ∉ ch→s.heap.get? b = some o→∃ o',h'.get? b = some o')
    (tups:∀ b xs,H b = some (.tup xs)→H' b = some (.tup xs)) (frzs:∀ b o u,H b = some (.frz o u)→H' b = some (.frz o u)) (tbls:∀ b ps,H b = some (.tbl ps)→∃ more,H' b = some (.tbl (ps ++ more)))
    (ns:∀ m,s.heap.Ns X.env.locals m→h'.Ns X.env.locals m) (hok:HOk X.prog X.w H' h') (hg:AllBare g') :
    Inv X pins σ H' { s with heap:=h',gens:=g',drawn:=d',toks:=t' }:=by
  have neL:∀ b o,X.s₀.heap.get? b = some o→b ≠ X.env.locals:=fun b o e=>Nat.ne_of_lt (Nat.lt_of_lt_of_le (Heap.lt_size e) I.ok.above)
  have neC:∀ b o,X.s₀.heap.get? b = some o→b ∉ X.ex→b ∉ ch:=fun b o e hx hb=>by
    rcases (hch b hb).1 with z | z
    · exact hx z
    · exact absurd (Nat.lt_of_lt_of_le (Heap.lt_size e) z) (Nat.lt_irrefl _)
  have cellK:∀ x c,X.env.cells.lookup x = some c→∀ v,s.heap.IsCell c v→h'.IsCell c v:=fun x c e v ⟨o,ho,hd⟩=>by
    have nch:c ∉ ch:=fun z=>(hch c z).2.2.1 x c e rfl
    by_cases hc:c ∈ X.fs
    · obtain ⟨sl,q⟩:=slot c o (I.cne x c e) hc nch ho (I.freeC x c e)
      exact ⟨_,q,hd⟩
    · exact ⟨o,keep c o (I.cne x c e) hc nch ho (I.freeC x c e),hd⟩
  refine ⟨I.ok,I.os,hg,⟨fun b o e n hb hx=>?_,fun b o e n hb hx=>?_,fun b o e n hx=>?_,fun b o e hx=>?_,fun b xs e=>tups b xs (I.base.tups b xs e),fun b o xs e=>frzs b o xs (I.base.frzs b o xs e),fun b ps e=>?_⟩,?_,fun x c e=>?_,?_,fun x c e=>?_,fun p hp=>?_,hok,I.len⟩
  · exact keep b o (neL b o e) hb (neC b o e hx) (I.base.keep b o e n hb hx) (I.base.free b o e n hx)
  · obtain ⟨sl,e1⟩:=I.base.slot b o e n hb hx
    obtain ⟨sl',e2⟩:=slot b _ (neL b o e) hb (neC b o e hx) e1 (I.base.free b o e n hx)
    exact ⟨sl',e2⟩
  · obtain ⟨o',e1⟩:=I.base.there b o e hx
    exact free b o' (neC b o e hx) e1 (I.base.free b o e n hx)
  · obtain ⟨o',e1⟩:=I.base.there b o e hx
    exact there b o' (neC b o e hx) e1
  · obtain ⟨m1,e1⟩:=I.base.tbls b ps e
    obtain ⟨m2,e2⟩:=tbls b _ e1
    exact ⟨m1 ++ m2,by rw [e2,Array.append_assoc]⟩
  · obtain ⟨m,hn,hl⟩:=I.loc
    refine ⟨m,ns m hn,fun i x v e1 e2 e3=>?_⟩
    obtain ⟨u,r,l⟩:=hl i x v e1 e2 e3
    refine ⟨u,r,?_⟩
    rcases l with l | ⟨k,c,e,z⟩
    · exact .inl l
    · exact .inr ⟨k,c,e,cellK x c e _ z⟩
  · obtain ⟨v,z⟩:=I.cell x c e
    exact ⟨v,cellK x c e v z⟩
  · obtain ⟨m,⟨o,_,_,ho,_⟩,_⟩:=I.loc
    exact free _ o (fun z=>(hch _ z).2.1 rfl) ho I.free
  · obtain ⟨v,o,ho,hd⟩:=I.cell x c e
    exact free c o (fun z=>(hch c z).2.2.1 x c e rfl) ho (I.freeC x c e)
  · obtain ⟨e,n,ne,nf,d⟩:=I.pin p hp
    have nch:p.1 ∉ ch:=fun z=>(hch p.1 z).2.2.2 p hp rfl
    exact ⟨keep p.1 p.2 ne nf nch e n,free p.1 p.2 nch e n,ne,nf,d⟩
theorem Inv.un {t':Nat} (I:Inv X pins σ H s) (u:Un X.fs [] H H' s.heap h') (hok:HOk X.prog X.w H' h'):Inv X pins σ H' { s with heap:=h',toks:=t' }:=by
  obtain ⟨m,⟨o,es,ep,ho,r⟩,_⟩:=id I.loc
  obtain ⟨sl,hL⟩:=u.any ho I.free (by simp)
  exact I.step (g':=s.gens) (d':=s.drawn) (ch:=[]) (fun _ z=>nomatch z) (fun b o _ hb _ e n=>u.keep b o e n hb (by simp)) (fun b o _ hb _ e n=>u.slot b o e n hb (by simp)) (fun b o _ e n=>u.free b o e n (by simp)) (fun b o _ e=>u.there b o e (by simp)) u.tups u.frzs u.tbls (fun m' hm=>by
    obtain ⟨o',es',ep',ho',r'⟩:=hm
    rw [ho] at ho'; cases ho'
    exact ⟨_,es',ep',hL,r'⟩) hok I.bare
theorem Inv.call {g':Array GenState} {t':Nat} {d':Drawn} {ch:List Addr} (I:Inv X pins σ H s) (u:Un (frs X.stack) ch H H' s.heap h') (hok:HOk X.prog X.w H' h') (hg:AllBare g')
    (hch:∀ b ∈ ch,(b ∈ X.ex∨X.s₀.heap.objs.size ≤ b)∧b ≠ X.env.locals∧(∀ x c,X.env.cells.lookup x = some c→c ≠ b)∧∀ p ∈ X.pn ++ pins,p.1 ≠ b) :
    Inv X pins σ H' { s with heap:=h',gens:=g',drawn:=d',toks:=t' }:=by
  obtain ⟨m,⟨o,es,ep,ho,r⟩,_⟩:=id I.loc
  obtain ⟨sl,hL⟩:=u.any ho I.free fun z=>(hch _ z).2.1 rfl
  exact I.step (ch:=ch) hch (fun b o hL hb hc e n=>u.keep b o e n (fun z=>(List.mem_cons.mp (I.stkSub b z)).elim hL hb) hc) (fun b o _ _ hc e n=>u.any e n hc) (fun b o hc e n=>u.free b o e n hc) (fun b o hc e=>u.there b o e hc) u.tups u.frzs u.tbls (fun m' hm=>by
    obtain ⟨o',es',ep',ho',r'⟩:=hm
    rw [ho] at ho'; cases ho'
    exact ⟨_,es',ep',hL,r'⟩) hok hg
theorem Inv.turned {t':Nat} {it:Addr} (I:Inv X pins σ H s) (k:∀ b o,b ≠ it→s.heap.get? b = some o→h'.get? b = some o) (hn:H it = none) (hL:it ≠ X.env.locals)
    (h1:it ∈ X.ex∨X.s₀.heap.objs.size ≤ it) (h2:∀ x c,X.env.cells.lookup x = some c→c ≠ it) (h3:∀ p ∈ X.pn ++ pins,p.1 ≠ it):Inv X pins σ H { s with heap:=h',toks:=t' }:=by
  have nit:∀ b u,H b = some u→b ≠ it:=fun b u e z=>by rw [z,hn] at e; cases e
  refine I.step (g':=s.gens) (d':=s.drawn) (ch:=[it]) (fun b hb=>?_) (fun b o _ _ hc e _=>k b o (fun z=>hc (by simp [z])) e) (fun b o _ _ hc e _=>⟨o.slots,k b o (fun z=>hc (by simp [z])) e⟩) (fun _ _ _ _ n=>n)
    (fun b o hc e=>⟨o,k b o (fun z=>hc (by simp [z])) e⟩) (fun _ _ e=>e) (fun _ _ _ e=>e) (fun b ps e=>⟨#[],by rw [e]; simp⟩) (fun m hm=>?_) (fun b u e=>?_) I.bare
  · have e:b = it:=by simpa using hb
    subst e
    exact ⟨h1,hL,h2,h3⟩
  · obtain ⟨o,es,ep,ho,r⟩:=hm
    exact ⟨o,es,ep,k _ o (Ne.symm hL) ho,r⟩
  · refine (I.hok b u e).stay (fun c v hc q=>k c v ?_ q) (fun _ q=>q) fun _ _ q=>q
    rcases hc with z | z
    · rw [z]; exact nit b u e
    · exact nit c _ z
theorem Inv.tok (I:Inv X pins σ H s) (t:Nat):Inv X pins σ H { s with toks:=t }:=I.un (h':=s.heap) (t':=t) Un.refl I.hok
theorem Inv.kept {t':Nat} (I:Inv X pins σ H s) (k:∀ b u,s.heap.get? b = some u→h'.get? b = some u):Inv X pins σ H { s with heap:=h',toks:=t' }:=I.un (Un.kept k) (I.hok.kept k)
theorem Inv.laid {a:Addr} {o:HO} {t':Nat} (I:Inv X pins σ H s) (k:∀ b u,s.heap.get? b = some u→h'.get? b = some u) (hp:s.heap.objs.size ≤ a) (new:ObjOk X.prog X.w (upd H a o) h' a o) :
    Inv X pins σ (upd H a o) { s with heap:=h',toks:=t' }:=I.un (Un.laid k hp (I.hok.fresh hp)) (I.hok.laid k hp new)
theorem Inv.write {x e:Addr} {o:HO} {t':Nat} (I:Inv X pins σ H s) (mu:Mut (H x)) (he:e = x∨H e = some (.own x)) (k:∀ b u,b ≠ e→s.heap.get? b = some u→h'.get? b = some u) (heo:∃ u,h'.get? e = some u)
    (new:ObjOk X.prog X.w (upd H x o) h' x o):Inv X pins σ (upd H x o) { s with heap:=h',toks:=t' }:=I.un (Un.write mu he k heo) (I.hok.write mu he k heo new)
theorem Inv.pins_of {pins':List (Addr×Obj)} (I:Inv X pins σ H s) (h:∀ p ∈ pins',s.heap.get? p.1 = some p.2∧H p.1 = none∧p.1 ≠ X.env.locals∧p.1 ∉ X.fs∧∀ v,p.2.data ≠ .cell v):Inv X pins' σ H s :=
  ⟨I.ok,I.os,I.bare,I.base,I.loc,I.cell,I.free,I.freeC,fun p hp=>(List.mem_append.mp hp).elim (fun z=>I.pin p (List.mem_append_left _ z)) (h p),I.hok,I.len⟩
theorem nodup_ix {N:List Str} (hN:N.Nodup) {i j:Nat} {x:Str} (a:N[i]? = some x) (b:N[j]? = some x):i = j:=by
  obtain ⟨h1,e1⟩:=List.getElem?_eq_some_iff.mp a
  obtain ⟨h2,e2⟩:=List.getElem?_eq_some_iff.mp b
  exact (List.getElem_inj hN).mp (e1.trans e2.symm)
theorem store_ok2 {M:Model} {A:Around} {E:Value→Shared→Prop} {i:Nat} {x:Str} {v:V} {u:Value} {Q:Unit→Shared→Prop} (I:Inv X pins σ H s) (hN:X.N.Nodup) (hi:X.N[i]? = some x) (hx:Loc X.env.scope x) (r:RelV v u)
    (h:∀ s',Inv X pins (σ.set i (some v)) H s'→(∃ a,Heap.SameBut a s.heap s'.heap∧(a = X.env.locals∨X.env.cells.lookup x = some a))→Q () s') (hf:X.fn x = true∨X.env.scope.names.lookup x = some .local:=by first | exact .inl rfl | exact .inr rfl | assumption):wpAny M A (storeName X.env x u) Q E s:=by
  obtain ⟨m,hn,hl⟩:=id I.loc
  have hcls:(X.env.scope.kind == .class || (X.env.scope.kind == .module && X.env.locals != X.env.globals)) = false:=by rw [I.ok.kind]; rfl
  have hiσ:i < σ.length:=by rw [I.len]; exact (List.getElem?_eq_some_iff.mp hi).1
  have cne:=I.cne
  have tracked:∀ {a:Addr} {h':Heap},(∃ o,s.heap.get? a = some o∧H a = none)→Heap.SameBut a s.heap h'→HOk X.prog X.w H h':=fun {a h'} ha hs b ob e=>by
    obtain ⟨_,_,hfree⟩:=ha
    refine (I.hok b ob e).stay (fun c w' hc q=>(hs.2 c ?_).trans q) (fun _ q=>q) fun _ _ q=>q
    rintro rfl
    rcases hc with rfl | hc
    · rw [hfree] at e; cases e
    · rw [hfree] at hc; cases hc
  rcases hx with hk | hk
  · refine wpAny_storeName_local hk hn (fun h' hn' hs=>?_) hcls
    obtain ⟨oL,_,_,hoL,_⟩:=id hn
    refine h _ ⟨I.ok,I.os,I.bare,⟨fun b o e n hb hx=>?_,fun b o e n hb hx=>?_,I.base.free,fun b o e hx=>?_,I.base.tups,I.base.frzs,I.base.tbls⟩,⟨_,hn',fun j y v' e1 e2 e3=>?_⟩,fun y c e=>?_,I.free,I.freeC,fun p hp=>?_,tracked ⟨oL,hoL,I.free⟩ hs,by simpa using I.len⟩ ⟨_,hs,.inl rfl⟩
    · exact (hs.2 b (Nat.ne_of_lt (Nat.lt_of_lt_of_le (Heap.lt_size e) I.ok.above))).trans (I.base.keep b o e n hb hx)
    · obtain ⟨sl,e1⟩:=I.base.slot b o e n hb hx
      exact ⟨sl,(hs.2 b (Nat.ne_of_lt (Nat.lt_of_lt_of_le (Heap.lt_size e) I.ok.above))).trans e1⟩
    · obtain ⟨o',e1⟩:=I.base.there b o e hx
      exact ⟨o',(hs.2 b (Nat.ne_of_lt (Nat.lt_of_lt_of_le (Heap.lt_size e) I.ok.above))).trans e1⟩
    · by_cases hj:j = i
      · subst hj
        rw [hi] at e1; cases e1
        rw [List.getElem?_set_self hiσ] at e2
        cases e2
        exact ⟨u,r,.inl ⟨hk,by simp⟩⟩
      · rw [List.getElem?_set_ne (Ne.symm hj)] at e2
        obtain ⟨u',r',q⟩:=hl j y v' e1 e2 e3
        refine ⟨u',r',?_⟩
        rcases q with ⟨k,e⟩ | ⟨k,c,e,z⟩
        · refine .inl ⟨k,?_⟩
          have:y ≠ x:=fun e=>hj (nodup_ix hN e1 (e ▸ hi))
          simp [this,e]
        · exact .inr ⟨k,c,e,z.sameBut hs (cne y c e)⟩
    · obtain ⟨w',z⟩:=I.cell y c e
      exact ⟨w',z.sameBut hs (cne y c e)⟩
    · obtain ⟨e,n,ne,nf,d⟩:=I.pin p hp
      exact ⟨(hs.2 p.1 ne).trans e,n,ne,nf,d⟩
  · have hfn:X.fn x = true:=by
      rcases hf with z | z
      · exact z
      · rw [z] at hk; cases hk
    obtain ⟨c,hc⟩:=I.ok.has x (.inl hk)
    obtain ⟨w',z⟩:=I.cell x c hc
    refine wpAny_storeName_cell I.ok.kind hk hc z (fun h' hc' hs=>?_)
    obtain ⟨oc,hoc,hocd⟩:=id z
    refine h { s with heap:=h' } ⟨I.ok,I.os,I.bare,⟨fun b o e n hb hx=>?_,fun b o e n hb hx=>?_,I.base.free,fun b o e hx=>?_,I.base.tups,I.base.frzs,I.base.tbls⟩,⟨m,hn.sameBut hs (Ne.symm (cne x c hc)),fun j y v' e1 e2 e3=>?_⟩,fun y c' e=>?_,I.free,I.freeC,fun p hp=>?_,tracked ⟨oc,hoc,I.freeC x c hc⟩ hs,by simpa using I.len⟩ ⟨c,hs,.inr hc⟩
    · exact (hs.2 b (Nat.ne_of_lt (Nat.lt_of_lt_of_le (Heap.lt_size e) (I.ok.cab x c hfn hc)))).trans (I.base.keep b o e n hb hx)
    · obtain ⟨sl,e1⟩:=I.base.slot b o e n hb hx
      exact ⟨sl,(hs.2 b (Nat.ne_of_lt (Nat.lt_of_lt_of_le (Heap.lt_size e) (I.ok.cab x c hfn hc)))).trans e1⟩
    · obtain ⟨o',e1⟩:=I.base.there b o e hx
      exact ⟨o',(hs.2 b (Nat.ne_of_lt (Nat.lt_of_lt_of_le (Heap.lt_size e) (I.ok.cab x c hfn hc)))).trans e1⟩
    · by_cases hj:j = i
      · subst hj
        rw [hi] at e1; cases e1
        rw [List.getElem?_set_self hiσ] at e2
        cases e2
        exact ⟨u,r,.inr ⟨.inl hk,c,hc,hc'⟩⟩
      · rw [List.getElem?_set_ne (Ne.symm hj)] at e2
        obtain ⟨u',r',q⟩:=hl j y v' e1 e2 e3
        refine ⟨u',r',?_⟩
        rcases q with q | ⟨k,c',e,z'⟩
        · exact .inl q
        · refine .inr ⟨k,c',e,z'.sameBut hs ?_⟩
          rintro rfl
          exact hj (nodup_ix hN e1 (I.ok.inj _ _ _ e hc ▸ hi))
    · by_cases hcc:c' = c
      · subst hcc; exact ⟨_,hc'⟩
      · obtain ⟨w2,z2⟩:=I.cell y c' e
        exact ⟨w2,z2.sameBut hs hcc⟩
    · obtain ⟨e,n,ne,nf,d⟩:=I.pin p hp
      refine ⟨(hs.2 p.1 ?_).trans e,n,ne,nf,d⟩
      intro q
      rw [q,hoc] at e
      have q':oc = p.2:=Option.some.inj e
      exact d w' (by rw [← q']; exact hocd)
theorem store_ok {M:Model} {A:Around} {E:Value→Shared→Prop} {i:Nat} {x:Str} {v:V} {u:Value} {Q:Unit→Shared→Prop} (I:Inv X pins σ H s) (hN:X.N.Nodup) (hi:X.N[i]? = some x) (hx:Loc X.env.scope x) (r:RelV v u)
    (h:∀ s',Inv X pins (σ.set i (some v)) H s'→Q () s') (hf:X.fn x = true∨X.env.scope.names.lookup x = some .local:=by first | exact .inl rfl | exact .inr rfl | assumption):wpAny M A (storeName X.env x u) Q E s :=
  store_ok2 I hN hi hx r (fun s' I' _=>h s' I') hf
theorem Inv.call' {s':Shared} {ch:List Addr} (I:Inv X pins σ H s) (ho:s'.os = s.os) (u:Un (frs X.stack) ch H H' s.heap s'.heap) (hok:HOk X.prog X.w H' s'.heap) (hg:AllBare s'.gens)
    (hch:∀ b ∈ ch,(b ∈ X.ex∨X.s₀.heap.objs.size ≤ b)∧b ≠ X.env.locals∧(∀ x c,X.env.cells.lookup x = some c→c ≠ b)∧∀ p ∈ X.pn ++ pins,p.1 ≠ b):Inv X pins σ H' s':=by
  obtain ⟨h',g',d',t',o'⟩:=s'
  have e:o' = s.os:=ho
  subst e
  exact I.call (g':=g') (t':=t') (d':=d') u hok hg hch
end
abbrev XK:=Value→Option Addr→Hp→Prop
abbrev St:=List (Option V)
abbrev VK:=V→Hp→Prop
abbrev TE:=St→Hp→VK→Prop
abbrev TT:=St→Hp→(Bool→Hp→Prop)→Prop
abbrev TA:=St→Hp→(List V→Hp→Prop)→Prop
structure Ends where
  nx:St→Hp→Prop
  rt:VK
  bk:St→Hp→Prop:=fun _ _=>False
  ct:St→Hp→Prop:=fun _ _=>False
abbrev TS:=Ends→St→Hp→Prop
def EP (X:Cx) (pins:List (Addr×Obj)) (σ:St) (Q:VK) (u:Value) (s':Shared):Prop:=∃ v H',Inv X pins σ H' s'∧RelV v u∧Q v H'
def TP (X:Cx) (pins:List (Addr×Obj)) (σ:St) (Q:Bool→Hp→Prop) (b:Bool) (s':Shared):Prop:=∃ H',Inv X pins σ H' s'∧Q b H'
def AP (X:Cx) (pins:List (Addr×Obj)) (σ:St) (Q:List V→Hp→Prop) (us:List Value) (s':Shared):Prop:=∃ vs H',Inv X pins σ H' s'∧Vals vs us∧Q vs H'
def SP (X:Cx) (pins:List (Addr×Obj)) (D:Ends) (f:Flow) (s':Shared):Prop :=
  match f with
  | .next=>∃ σ' H',Inv X pins σ' H' s'∧D.nx σ' H'
  | .brk=>∃ σ' H',Inv X pins σ' H' s'∧D.bk σ' H'
  | .cont=>∃ σ' H',Inv X pins σ' H' s'∧D.ct σ' H'
  | .ret u=>∃ v σ' H',Inv X pins σ' H' s'∧RelV v u∧D.rt v H'
def PE (X:Cx) (e:Expr) (t:TE):Prop :=
  ∀ (pins:List (Addr×Obj)) (s:Shared) (σ:St) (H:Hp) (Q:VK),Inv X pins σ H s→t σ H Q→wpAny (model X.prog X.w) X.A (eval e X.env) (EP X pins σ Q) X.xe s
def PT (X:Cx) (e:Expr) (t:TT):Prop :=
  ∀ (pins:List (Addr×Obj)) (s:Shared) (σ:St) (H:Hp) (Q:Bool→Hp→Prop),Inv X pins σ H s→t σ H Q→wpAny (model X.prog X.w) X.A (isTrue e X.env (eval e X.env)) (TP X pins σ Q) X.xe s
def PW (X:Cx) (e:Expr) (t:TT):Prop :=
  ∀ (whole:Sem Value) (pins:List (Addr×Obj)) (s:Shared) (σ:St) (H:Hp) (Q:Bool→Hp→Prop),Inv X pins σ H s→t σ H Q→wpAny (model X.prog X.w) X.A (isTrue e X.env whole) (TP X pins σ Q) X.xe s
theorem PW.pt {X:Cx} {e:Expr} {t:TT} (h:PW X e t):PT X e t:=h _
def PA (X:Cx) (es:List Expr) (t:TA):Prop :=
  ∀ (pos:Pos) (pins:List (Addr×Obj)) (s:Shared) (σ:St) (H:Hp) (Q:List V→Hp→Prop),Inv X pins σ H s→t σ H Q→wpAny (model X.prog X.w) X.A (spliced (backTo pos (starEach es X.env))) (AP X pins σ Q) X.xe s
def PS (X:Cx) (st:Stmt) (t:TS):Prop :=
  ∀ (pins:List (Addr×Obj)) (s:Shared) (σ:St) (H:Hp) (D:Ends),Inv X pins σ H s→t D σ H→wpAny (model X.prog X.w) X.A (exec st X.env) (SP X pins D) X.xe s
def PSs (X:Cx) (st:List Stmt) (t:TS):Prop :=
  ∀ (pins:List (Addr×Obj)) (s:Shared) (σ:St) (H:Hp) (D:Ends),Inv X pins σ H s→t D σ H→wpAny (model X.prog X.w) X.A (execs st X.env) (SP X pins D) X.xe s
theorem thn {α:Type} {t:Sem α} {Q Q':α→Shared→Prop} {M:Model} {A:Around} {E:Value→Shared→Prop} {s:Shared} (h:wpAny M A t Q E s) (hQ:∀ a s,Q a s→Q' a s):wpAny M A t Q' E s:=wpAny_mono h hQ fun _ _ x=>x
end L2
namespace L2
open PySem PySem.Spec PyProof.Rows
section
variable {X:Cx}
def tVar (i:Nat):TE:=fun σ H Q=>∃ v,σ[i]? = some (some v)∧Q v H
def tC (v:V):TE:=fun _ H Q=>Q v H
theorem pe_var {i:Nat} {x:Str} {pos:Pos} (hN:X.N[i]? = some x) (hv:Vis X.env.scope x) (hd:(x == ("__debug__" : Str)) = false:=by decide) (hcd:(x == ("__classdict__" : Str)) = false:=by decide):PE X (.Name x pos) (tVar i):=by
  intro pins s σ H Q I h
  obtain ⟨v,e,h⟩:=h
  obtain ⟨m,hn,hl⟩:=I.loc
  obtain ⟨u,r,l⟩:=hl i x v hN e hv
  have fin:EP X pins σ Q u s:=⟨v,H,I,r,h⟩
  rcases l with ⟨hk,hm⟩ | ⟨hk,c,hc,hcell⟩
  · exact wpAny_Name (wpAny_loadName_local I.ok.kind hk hn hm fin) hd
  · rcases hk with hk | hk
    · exact wpAny_Name (wpAny_loadName_cell I.ok.kind hk hc hcell fin) hd
    · exact wpAny_Name (wpAny_loadName_free I.ok.kind hk hc hcell fin hcd) hd
theorem pe_int {i j pos}:PE X (.Constant (.int i) j pos) (tC (.int i)):=fun _ _ _ H _ I h=>wpAny_Constant_int ⟨.int i,H,I.tok _,⟨_,rfl⟩,h⟩
theorem pe_bl {b j pos}:PE X (.Constant (.bool b) j pos) (tC (.bl b)):=fun _ _ _ H _ I h=>Constant_bool ⟨.bl b,H,I,rfl,h⟩
theorem pe_str {x j pos}:PE X (.Constant (.str x) j pos) (tC (.str x)):=fun _ _ _ H _ I h=>Calls.Constant_str ⟨.str x,H,I.tok _,⟨_,rfl⟩,h⟩
def Gl (X:Cx) (x:Str):Prop:=X.env.kindOf x = some .globalImplicit
theorem ld_glob {E:Value→Shared→Prop} {pins:List (Addr×Obj)} {s:Shared} {σ:St} {H:Hp} {x:Str} {u:Value} {pos:Pos} {Q:Value→Shared→Prop} (I:Inv X pins σ H s) (hg:Gl X x) (hm:X.mg x = some u) (h:Q u s)
    (hd:(x == ("__debug__" : Str)) = false:=by decide):wpAny (model X.prog X.w) X.A (eval (.Name x pos) X.env) Q E s :=
  Calls.Name_function_global I.ok.kind hg (Calls.loadGlobal_global (by rw [I.ok.glob]; exact I.mod.glob.keeps I.bk) hm h) hd
theorem ld_blt {E:Value→Shared→Prop} {pins:List (Addr×Obj)} {s:Shared} {σ:St} {H:Hp} {x:Str} {u:Value} {pos:Pos} {Q:Value→Shared→Prop} (I:Inv X pins σ H s) (hg:Gl X x) (hm:X.mg x = none) (hv:bootBuiltins x = some u) (h:Q u s)
    (hn:x ≠ "__name__":=by decide) (hd:(x == ("__debug__" : Str)) = false:=by decide):wpAny (model X.prog X.w) X.A (eval (.Name x pos) X.env) Q E s:=by
  obtain ⟨mb,h1,h2⟩:=I.mod.blt
  exact Calls.Name_function_global I.ok.kind hg (Calls.loadGlobal_builtin (by rw [I.ok.glob]; exact I.mod.glob.keeps I.bk) hm (by rw [I.ok.blt]; exact h1.keeps I.bk) ((h2 x hn).trans hv) h) hd
theorem pe_glob {x:Str} {v:V} {u:Value} {pos:Pos} (hg:Gl X x) (hm:X.mg x = some u) (r:RelV v u) (hd:(x == ("__debug__" : Str)) = false:=by decide):PE X (.Name x pos) (tC v) :=
  fun _ _ _ H _ I h=>ld_glob I hg hm ⟨v,H,I,r,h⟩ hd
theorem pe_bltn {x:Str} {v:V} {u:Value} {pos:Pos} (hg:Gl X x) (hm:X.mg x = none) (hv:bootBuiltins x = some u) (r:RelV v u) (hn:x ≠ "__name__":=by decide) (hd:(x == ("__debug__" : Str)) = false:=by decide):PE X (.Name x pos) (tC v) :=
  fun _ _ _ H _ I h=>ld_blt I hg hm hv ⟨v,H,I,r,h⟩ hn hd
variable {a b:Expr} {ta tb:TE} {pos:Pos}
def tB (t:TE):TT:=fun σ H Q=>t σ H fun x H1=>∃ c,x = .bl c∧Q c H1
theorem pt_val {e:Expr} {t:TE} (h:PE X e t) (he:∀ whole,isTrue e X.env whole = (do let v ← whole; standAt e.pos; holding [v] (truthy v)):=by intro _; rfl):PT X e (tB t):=by
  intro pins s σ H Q I hw
  refine isTrue_plain (thn (h pins s σ H _ I hw) fun v s1 ⟨x,H1,I1,r1,q1⟩=>?_) (he _)
  obtain ⟨d,rfl,q⟩:=q1
  cases r1
  exact wpAny_truthy_bool ⟨H1,I1,q⟩
variable {tA tB':TT} {rest:List Expr}
def tAnd (t u:TT):TT:=fun σ H Q=>t σ H fun c H1=>if c = true then u σ H1 Q else Q false H1
def tOr (t u:TT):TT:=fun σ H Q=>t σ H fun c H1=>if c = true then Q true H1 else u σ H1 Q
theorem pw_and1 (ha:PT X a tA):PW X (.BoolOp .And [a] pos) tA:=by
  intro wh pins s σ H Q I h
  refine isTrue_and (thn (ha pins s σ H Q I h) fun c s1 e=>?_)
  cases c with
  | true=>exact isTrue_and_nil e
  | false=>exact e
theorem pw_or1 (ha:PT X a tA):PW X (.BoolOp .Or [a] pos) tA:=by
  intro wh pins s σ H Q I h
  refine isTrue_or (thn (ha pins s σ H Q I h) fun c s1 e=>?_)
  cases c with
  | false=>exact isTrue_or_nil e
  | true=>exact e
theorem pw_and (ha:PT X a tA) (hb:PW X (.BoolOp .And (b :: rest) pos) tB'):PW X (.BoolOp .And (a :: b :: rest) pos) (tAnd tA tB'):=by
  intro wh pins s σ H Q I h
  refine isTrue_and (thn (ha pins s σ H _ I h) fun c s1 ⟨H1,I1,q1⟩=>?_)
  cases c with
  | true=>exact hb wh pins s1 σ H1 Q I1 q1
  | false=>exact ⟨H1,I1,q1⟩
theorem pw_or (ha:PT X a tA) (hb:PW X (.BoolOp .Or (b :: rest) pos) tB'):PW X (.BoolOp .Or (a :: b :: rest) pos) (tOr tA tB'):=by
  intro wh pins s σ H Q I h
  refine isTrue_or (thn (ha pins s σ H _ I h) fun c s1 ⟨H1,I1,q1⟩=>?_)
  cases c with
  | true=>exact ⟨H1,I1,q1⟩
  | false=>exact hb wh pins s1 σ H1 Q I1 q1
end
end L2
namespace L2
open PySem PySem.Spec PyProof.Rows
def SqL (K:PySem.W.Frag) (H:Hp) (a:Addr) (xs:List V):Prop :=
  Rd H a (.lst xs) ∨
    ∃ (o:Obj) (its:Array Value) (n:Nat),K.lookup a = some o∧o.cls = .type "list"∧o.dict = none∧o.data = .seq its n∧its.size ≤ sizeLine∧Vals xs its.toList
def SqT (K:PySem.W.Frag) (H:Hp) (a:Addr) (xs:List V):Prop :=
  Rd H a (.tup xs) ∨
    ∃ (o:Obj) (its:Array Value) (n:Nat),K.lookup a = some o∧o.cls = .type "tuple"∧o.data = .seq its n∧its.size ≤ sizeLine∧Vals xs its.toList
def absV:Value→Option V
  | .none=>some .non
  | .bool b=>some (.bl b)
  | .int i _=>some (.int i)
  | .str x _=>some (.str x)
  | .bytes b _=>some (.byt b)
  | .float b _=>some (.flt b)
  | .ref a=>some (.ref a)
  | .type n=>some (.ty n)
  | _=>none
theorem RelV.abs {x:V} {u:Value} (r:RelV x u):absV u = some x:=by
  cases x with
  | non=>cases r; rfl
  | bl _=>cases r; rfl
  | int _=>obtain ⟨t,rfl⟩:=r; rfl
  | str _=>obtain ⟨t,rfl⟩:=r; rfl
  | byt _=>obtain ⟨t,rfl⟩:=r; rfl
  | flt _=>obtain ⟨t,rfl⟩:=r; rfl
  | ref _=>cases r; rfl
  | ty _=>cases r; rfl
theorem RelV.inj {x y:V} {u:Value} (r:RelV x u) (q:RelV y u):x = y:=Option.some.inj (r.abs.symm.trans q.abs)
theorem Vals.inj:∀ {xs ys:List V} {us:List Value},Vals xs us→Vals ys us→xs = ys
  | _,_,_,.nil,.nil=>rfl
  | _,_,_,.cons r t,.cons r' t'=>by rw [r.inj r',Vals.inj t t']
section
variable {X:Cx} {pins:List (Addr×Obj)} {σ:St} {H:Hp} {s:Shared} {a:Addr} {xs ys:List V}
theorem SqL.of {K:PySem.W.Frag} (h:H a = some (.lst xs)):SqL K H a xs:=.inl (.inl h)
theorem SqT.of {K:PySem.W.Frag} (h:H a = some (.tup xs)):SqT K H a xs:=.inl (.inl h)
theorem Inv.list (I:Inv X pins σ H s) (h:SqL X.K H a xs):∃ its:List Value,Vals xs its∧PlainL s.heap a its.toArray∧xs.length ≤ sizeLine:=by
  rcases h with h | ⟨o,its,n,hk,hc,hd,hs,hz,r⟩
  · obtain ⟨z,its,n,r,e⟩:=h.ok I.hok
    exact ⟨its,r,⟨_,n,e,rfl,rfl,rfl⟩,z⟩
  · refine ⟨its.toList,r,⟨o,n,I.kIn a o hk,hc,hd,by simpa using hs⟩,?_⟩
    have e:=r.length
    simp only [Array.length_toList] at e
    omega
theorem Inv.tuple (I:Inv X pins σ H s) (h:SqT X.K H a xs):∃ its:List Value,Vals xs its∧IsTup s.heap a its.toArray∧xs.length ≤ sizeLine:=by
  rcases h with h | ⟨o,its,n,hk,hc,hs,hz,r⟩
  · obtain ⟨z,its,r,p⟩:=h.ok I.hok
    exact ⟨its,r,p.tup,z⟩
  · refine ⟨its.toList,r,⟨o,I.kIn a o hk,hc,n,by simpa using hs⟩,?_⟩
    have e:=r.length
    simp only [Array.length_toList] at e
    omega
theorem Inv.list_inj (I:Inv X pins σ H s) (h:SqL X.K H a xs) (h':SqL X.K H a ys):xs = ys:=by
  obtain ⟨its,r,⟨o,n,e,_,_,d⟩,_⟩:=I.list h
  obtain ⟨its',r',⟨o',n',e',_,_,d'⟩,_⟩:=I.list h'
  rw [e] at e'; cases e'
  rw [d] at d'
  injection d' with d1 _
  have:its = its':=by simpa using congrArg Array.toList d1
  subst this
  exact r.inj r'
theorem Inv.tuple_inj (I:Inv X pins σ H s) (h:SqT X.K H a xs) (h':SqT X.K H a ys):xs = ys:=by
  obtain ⟨its,r,⟨o,e,_,n,d⟩,_⟩:=I.tuple h
  obtain ⟨its',r',⟨o',e',_,n',d'⟩,_⟩:=I.tuple h'
  rw [e] at e'; cases e'
  rw [d] at d'
  injection d' with d1 _
  have:its = its':=by simpa using congrArg Array.toList d1
  subst this
  exact r.inj r'
end
abbrev Cx.wish (X:Cx) (E:Value→Shared→Prop):Cx:={ X with xe:=E }
abbrev Cx.nox (X:Cx):Cx:=X.wish fun _ _=>False
theorem Cx.Ok.wish {X:Cx} (ok:X.Ok) (E:Value→Shared→Prop):(X.wish E).Ok :=
  ⟨ok.mod,ok.kind,ok.glob,ok.blt,ok.above,ok.inj,ok.has,ok.cab,ok.hd,ok.frames,ok.stk,ok.exf,ok.bs,ok.bsz,ok.noex,ok.exfs,ok.funs,ok.frf⟩
theorem Cx.Ok.unwish {X:Cx} {E:Value→Shared→Prop} (ok:(X.wish E).Ok):X.Ok :=
  ⟨ok.mod,ok.kind,ok.glob,ok.blt,ok.above,ok.inj,ok.has,ok.cab,ok.hd,ok.frames,ok.stk,ok.exf,ok.bs,ok.bsz,ok.noex,ok.exfs,ok.funs,ok.frf⟩
section
variable {X:Cx} {pins:List (Addr×Obj)} {σ:St} {H:Hp} {s:Shared} {E:Value→Shared→Prop}
theorem Inv.wish (I:Inv X pins σ H s) (E:Value→Shared→Prop):Inv (X.wish E) pins σ H s:=⟨I.ok.wish E,I.os,I.bare,I.base,I.loc,I.cell,I.free,I.freeC,I.pin,I.hok,I.len⟩
theorem Inv.unwish (I:Inv (X.wish E) pins σ H s):Inv X pins σ H s:=⟨I.ok.unwish,I.os,I.bare,I.base,I.loc,I.cell,I.free,I.freeC,I.pin,I.hok,I.len⟩
theorem SP.unwish {D:Ends} {f:Flow} {s':Shared} (h:SP (X.wish E) pins D f s'):SP X pins D f s':=by
  cases f with
  | next=>obtain ⟨σ',H',I,q⟩:=h; exact ⟨σ',H',I.unwish,q⟩
  | brk=>obtain ⟨σ',H',I,q⟩:=h; exact ⟨σ',H',I.unwish,q⟩
  | cont=>obtain ⟨σ',H',I,q⟩:=h; exact ⟨σ',H',I.unwish,q⟩
  | ret u=>obtain ⟨v,σ',H',I,r,q⟩:=h; exact ⟨v,σ',H',I.unwish,r,q⟩
theorem PSs.nox {st:List Stmt} {t:TS} (h:PSs X.nox st t):PSs X st t:=fun pins s σ H D I hw =>
  wpAny_mono (h pins s σ H D (I.wish _) hw) (fun _ _ q=>q.unwish) fun _ _ z=>False.elim z
end
section
variable {X:Cx} {st:Stmt} {rest:List Stmt} {t u:TS} {e:Expr} {te:TE} {pos:Pos}
def tNext:TS:=fun D σ H=>D.nx σ H
def tSeq (t u:TS):TS:=fun D σ H=>t { D with nx:=u D } σ H
theorem pss_nil:PSs X [] tNext:=fun _ _ σ H _ I h=>wpAny_execs_nil ⟨σ,H,I,h⟩
theorem pss_cons (h1:PS X st t) (h2:PSs X rest u):PSs X (st :: rest) (tSeq t u):=by
  intro pins s σ H D I h
  refine wpAny_execs_cons (thn (h1 pins s σ H { D with nx:=u D } I h) fun f s1 q=>?_)
  cases f with
  | next =>
    obtain ⟨σ',H',I',q⟩:=q
    exact h2 pins s1 σ' H' D I' q
  | ret v=>exact q
  | brk=>exact q
  | cont=>exact q
theorem pss_one (h1:PS X st t):PSs X [st] t:=by
  intro pins s σ H D I h
  refine wpAny_execs_cons (thn (h1 pins s σ H D I h) fun f s1 q=>?_)
  cases f with
  | next=>exact wpAny_execs_nil q
  | ret v=>exact q
  | brk=>exact q
  | cont=>exact q
theorem Inv.quiet {pins:List (Addr×Obj)} {σ:St} {H:Hp} {s:Shared} (I:Inv X pins σ H s):interactive X.env = false:=by simp [interactive,I.ok.kind]
def tDrop (te:TE):TS:=fun D σ H=>te σ H fun _ H1=>D.nx σ H1
theorem ps_expr (he:PE X e te) (hs:swapsWith e none pos.line X.env = pure false:=by rfl):PS X (.Expr e pos) (tDrop te):=by
  intro pins s σ H D I h
  exact wpAny_Expr_any (thn (he pins s σ H _ I h) fun v s1 ⟨x,H1,I1,r1,q1⟩=>⟨σ,H1,I1,q1⟩) I.quiet hs
def tRet (te:TE):TS:=fun D σ H=>te σ H D.rt
theorem ps_ret (he:PE X e te):PS X (.Return (some e) pos) (tRet te):=by
  intro pins s σ H D I h
  exact wpAny_Return_some (thn (he pins s σ H _ I h) fun v s1 ⟨x,H1,I1,r1,q1⟩=>⟨x,σ,H1,I1,r1,q1⟩)
def tIfS (c:TT) (t u:TS):TS:=fun D σ H=>c σ H fun b H1=>if b = true then t D σ H1 else u D σ H1
theorem ps_if {c:Expr} {a b:List Stmt} {tc:TT} (hc:PT X c tc) (ha:PSs X a t) (hb:PSs X b u):PS X (.If c a b pos) (tIfS tc t u):=by
  intro pins s σ H D I h
  refine wpAny_If (thn (hc pins s σ H _ I h) fun d s1 ⟨H1,I1,q1⟩=>?_)
  cases d with
  | true=>exact ha pins s1 σ H1 D I1 q1
  | false=>exact hb pins s1 σ H1 D I1 q1
end
abbrev TG:=V→St→Hp→(St→Hp→Prop)→Prop
abbrev TGs:=List V→St→Hp→(St→Hp→Prop)→Prop
def PG (X:Cx) (target:Expr) (t:TG):Prop :=
  ∀ (pins:List (Addr×Obj)) (s:Shared) (σ:St) (H:Hp) (v:V) (u:Value) (Q:St→Hp→Prop),Inv X pins σ H s→RelV v u→t v σ H Q →
    wpAny (model X.prog X.w) X.A (assign target X.env u) (fun _ s'=>∃ σ' H',Inv X pins σ' H' s'∧Q σ' H') X.xe s
def PGs (X:Cx) (ts:List Expr) (t:TGs):Prop :=
  ∀ (pins:List (Addr×Obj)) (s:Shared) (σ:St) (H:Hp) (vs:List V) (us:List Value) (Q:St→Hp→Prop),Inv X pins σ H s→Vals vs us→t vs σ H Q →
    wpAny (model X.prog X.w) X.A (assignInOrder ((assignEach ts X.env).map (·.2)) us) (fun _ s'=>∃ σ' H',Inv X pins σ' H' s'∧Q σ' H') X.xe s
abbrev TSet:=V→V→V→Hp→(Hp→Prop)→Prop
def PSet (X:Cx) (t:TSet):Prop :=
  ∀ (pins:List (Addr×Obj)) (s:Shared) (σ:St) (H:Hp) (o i v:V) (ov iv u:Value) (Q:Hp→Prop),Inv X pins σ H s→RelV o ov→RelV i iv→RelV v u→t o i v H Q →
    wpAny (model X.prog X.w) X.A (setItem ov iv u) (fun _ s'=>∃ H',Inv X pins σ H' s'∧Q H') X.xe s
section
variable {X:Cx} {pos:Pos}
def gName (i:Nat):TG:=fun v σ H Q=>Q (σ.set i (some v)) H
theorem pg_name {i:Nat} {x:Str} (hN:X.N.Nodup) (hi:X.N[i]? = some x) (hx:Loc X.env.scope x) (hf:X.fn x = true∨X.env.scope.names.lookup x = some .local:=by first | exact .inl rfl | exact .inr rfl | assumption):PG X (.Name x pos) (gName i):=by
  intro pins s σ H v u Q I r h
  exact wpAny_assign_Name (store_ok I hN hi hx r (fun s' I'=>⟨_,H,I',h⟩) hf)
def gNil:TGs:=fun vs σ H Q=>vs = []∧Q σ H
def gCons (t:TG) (u:TGs):TGs:=fun vs σ H Q=>∃ v r,vs = v :: r∧t v σ H fun σ' H'=>u r σ' H' Q
theorem pgs_nil:PGs X [] gNil:=by
  intro pins s σ H vs us Q I r h
  obtain ⟨e,h⟩:=h
  subst e
  cases r
  exact assignInOrder_nil ⟨σ,H,I,h⟩
theorem pgs_cons {e:Expr} {es:List Expr} {t:TG} {u:TGs} (h1:PG X e t) (h2:PGs X es u)
    (hs:(assignEach (e :: es) X.env).map (·.2) = assign e X.env :: (assignEach es X.env).map (·.2):=by rfl):PGs X (e :: es) (gCons t u):=by
  intro pins s σ H vs us Q I r h
  obtain ⟨v,vr,e1,h⟩:=h
  subst e1
  cases r with
  | cons r rr =>
    rw [hs]
    refine assignInOrder_cons (thn (h1 pins s σ H _ _ _ I r h) fun _ s1 ⟨σ1,H1,I1,q1⟩=>?_)
    exact h2 pins s1 σ1 H1 _ _ Q I1 rr q1
def gTup (K:PySem.W.Frag) (n:Nat) (t:TGs):TG:=fun v σ H Q=>∃ a xs,v = .ref a∧SqT K H a xs∧xs.length = n∧t xs σ H Q
theorem pg_tup {es:List Expr} {k:Nat} {t:TGs} {n:Nat} (hc:X.calm = true) (h:PGs X es t)
    (hn:(assignEach es X.env).length = n:=by rfl) (hst:(assignEach es X.env).findIdx? (·.1) = none:=by rfl):PG X (.Tuple es k pos) (gTup X.K n t):=by
  intro pins s σ H v u Q I r hw
  obtain ⟨a,xs,e1,hq,hl,hw⟩:=hw
  subst e1
  cases r
  obtain ⟨its,rv,ht,hz⟩:=I.tuple hq
  refine assign_Tuple_tuple (I.ok.hd hc) ht (by simp [hn,← hl,rv.length]) hst fun h' hx=>?_
  have I1:Inv X pins σ H { s with heap:=h' }:=I.kept (t':=s.toks) fun b o e=>hx b o (Nat.ne_of_lt (Heap.lt_size e)) e
  exact h pins _ σ H xs _ Q I1 (by simpa using rv) hw
def gSub (to ti:TE) (t:TSet):TG:=fun v σ H Q=>to σ H fun o H1=>ti σ H1 fun i H2=>t o i v H2 fun H3=>Q σ H3
theorem pg_sub {o i:Expr} {to ti:TE} {t:TSet} (ho:PE X o to) (hi:PE X i ti) (hs:PSet X t)
    (ha:∀ v,assign (.Subscript o i pos) X.env v = (do
      let ov ← holding [v] (eval o X.env)
      let iv ← holding [v,ov] (eval i X.env)
      standAt pos
      holding [v,ov,iv] (setItem ov iv v)
      release [v,ov,iv] []):=by intro _; rfl):PG X (.Subscript o i pos) (gSub to ti t):=by
  intro pins s σ H v u Q I r h
  rw [ha]
  refine wpAny_bind (wpAny_holding (thn (ho pins s σ H _ I h) fun ov s1 ⟨x,H1,I1,r1,q1⟩=>?_))
  refine wpAny_bind (wpAny_holding (thn (hi pins s1 σ H1 _ I1 q1) fun iv s2 ⟨y,H2,I2,r2,q2⟩=>?_))
  refine wpAny_bind (wpAny_standAt (wpAny_bind (wpAny_holding (thn (hs pins s2 σ H2 x y v ov iv u _ I2 r1 r2 r q2) fun _ s3 ⟨H3,I3,q3⟩=>?_))))
  exact wpAny_release ⟨σ,H3,I3,q3⟩
def tAsg (te:TE) (g:TG):TS:=fun D σ H=>te σ H fun x H1=>g x σ H1 D.nx
theorem ps_asg {tg e:Expr} {te:TE} {g:TG} (he:PE X e te) (hg:PG X tg g) (hs:swapsWithSole [tg] e pos.line X.env = pure false:=by rfl) (hw:swappedStores [tg] e X.env = pure none:=by rfl)
    (h1:(assignEach [tg] X.env).map (·.2) = [assign tg X.env]:=by rfl):PS X (.Assign [tg] e pos) (tAsg te g):=by
  intro pins s σ H D I h
  refine wpAny_Assign_stores (thn (he pins s σ H _ I h) fun v s1 ⟨x,H1,I1,r1,q1⟩=>?_) hs hw
  rw [h1]
  exact thn (hg pins s1 σ H1 x v _ I1 r1 q1) fun _ s2 q=>q
theorem ps_set {i:Nat} {x:Str} {e:Expr} {te:TE} {pos':Pos} (hN:X.N.Nodup) (hi:X.N[i]? = some x) (hx:Loc X.env.scope x) (he:PE X e te) (hs:swapsWith e (some (.Name x pos')) pos.line X.env = pure false:=by rfl) (hf:X.fn x = true∨X.env.scope.names.lookup x = some .local:=by first | exact .inl rfl | exact .inr rfl | assumption) :
    PS X (.Assign [.Name x pos'] e pos) (tAsg te (gName i)):=by
  intro pins s σ H D I h
  refine wpAny_Assign_Name (thn (he pins s σ H _ I h) fun v s1 ⟨y,H1,I1,r1,q1⟩=>?_) hs
  exact store_ok I1 hN hi hx r1 (fun s2 I2=>⟨_,H1,I2,q1⟩) hf
end
section
variable {X:Cx} {pos:Pos}
def tWhile (c:TT) (tb:TS):TS:=fun D σ H=>∃ W:Nat→St→Hp→Prop,(∃ m,W m σ H)∧∀ m σ H,W m σ H →
  c σ H fun b H1=>if b = true then ∃ N:St→Hp→Prop,(∀ σ' H',N σ' H'→∃ m',m' < m∧W m' σ' H')∧tb { D with nx:=N,ct:=N,bk:=D.nx } σ H1 else D.nx σ H1
theorem ps_while {c:Expr} {body:List Stmt} {tc:TT} {tb:TS} (hp:PassesOwn (model X.prog X.w) X.A X.env X.xe) (hc:PT X c tc) (hb:PSs X body tb):PS X (.While c body [] pos) (tWhile tc tb):=by
  intro pins s σ H D I h
  obtain ⟨W,⟨m0,w0⟩,turn⟩:=h
  refine wpAny_While (codeAny_whileLoop (fun n s'=>∃ σ' H',Inv X pins σ' H' s'∧W n σ' H') ?_ m0 ⟨σ,H,I,w0⟩)
  rintro n s1 ⟨σ1,H1,I1,w1⟩
  refine wpAny_passesOwn hp (thn (hc pins s1 σ1 H1 _ I1 (turn n σ1 H1 w1)) fun b s2 ⟨H2,I2,q2⟩=>?_)
  cases b with
  | true =>
    obtain ⟨N,hN,q2⟩:=q2
    rw [if_pos rfl]
    refine wpAny_passesOwn hp (thn (hb pins s2 σ1 H2 _ I2 q2) fun f s3 q3=>?_)
    cases f with
    | next =>
      obtain ⟨σ3,H3,I3,n3⟩:=q3
      obtain ⟨m',hm,w3⟩:=hN σ3 H3 n3
      exact ⟨m',hm,σ3,H3,I3,w3⟩
    | cont =>
      obtain ⟨σ3,H3,I3,n3⟩:=q3
      obtain ⟨m',hm,w3⟩:=hN σ3 H3 n3
      exact ⟨m',hm,σ3,H3,I3,w3⟩
    | brk=>exact q3
    | ret v=>exact q3
  | false =>
    rw [if_neg Bool.false_ne_true]
    exact wpAny_execs_nil ⟨σ1,H2,I2,q2⟩
end
structure It where
  go:Nat→Hp→Prop
  yld:Nat→Hp→V→Hp→Prop
  stop:Nat→Hp→Prop
def FpOk (X:Cx) (pins:List (Addr×Obj)) (H:Hp) (b:Addr):Prop :=
  H b = none∧b ≠ X.env.locals∧b ∉ X.fs∧(b ∈ X.ex∨X.s₀.heap.objs.size ≤ b)∧(∀ x c,X.env.cells.lookup x = some c→c ≠ b)∧∀ p ∈ X.pn ++ pins,p.1 ≠ b
theorem Inv.fpOk {X:Cx} {pins:List (Addr×Obj)} {σ:St} {H H':Hp} {s:Shared} {b:Addr} (I:Inv X pins σ H s) (hb:s.heap.objs.size ≤ b) (hn:H' b = none):FpOk X pins H' b:=by
  refine ⟨hn,Nat.ne_of_gt (Nat.lt_of_lt_of_le I.lt hb),I.nofs hb,.inr (Nat.le_trans I.sz hb),fun x c e z=>?_,fun p hp z=>?_⟩
  · obtain ⟨v,q⟩:=I.cell x c e
    exact absurd (Nat.lt_of_lt_of_le q.lt (by rw [z]; exact hb)) (Nat.lt_irrefl _)
  · exact absurd (Nat.lt_of_lt_of_le (Heap.lt_size (I.pin p hp).1) (by rw [z]; exact hb)) (Nat.lt_irrefl _)
structure Turn (P:Program) (w:World) (K:PySem.W.Frag) (tg:Expr) (J:It) (fp:List Addr) (it:Addr) (tn:Nat→Heap→Prop):Prop where
  mem:it ∈ fp
  obj:∀ i h,tn i h→∀ b ∈ fp,∃ o,h.get? b = some o∧∀ v,o.data ≠ .cell v
  keep:∀ i h h',tn i h→(∀ b ∈ fp,∀ o,h.get? b = some o→h'.get? b = some o)→tn i h'
  item:∀ (X:Cx),X.prog = P→X.w = w→X.K = K→X.calm = true→∀ (i:Nat) (pins:List (Addr×Obj)) (s:Shared) (σ:St) (H:Hp) (E:Value→Shared→Prop),Inv X pins σ H s→(∀ b ∈ fp,FpOk X pins H b)→tn i s.heap→J.go i H →
    wpAny (model P w) X.A (pyNext (.ref it)) (fun r s1=>∃ u,r = some u ∧
      wpAny (model P w) X.A (letOwnedTupleGo tg (.ref it) u) (fun _ s2=>∃ x H',Inv X pins σ H' s2∧RelV x u∧J.yld i H x H'∧tn (i + 1) s2.heap∧∀ b ∈ fp,H' b = none) E s1) E s
  done:∀ (X:Cx),X.prog = P→X.w = w→X.K = K→X.calm = true→∀ (i:Nat) (pins:List (Addr×Obj)) (s:Shared) (σ:St) (H:Hp) (E:Value→Shared→Prop),Inv X pins σ H s→(∀ b ∈ fp,FpOk X pins H b)→tn i s.heap→J.stop i H →
    wpAny (model P w) X.A (pyNext (.ref it)) (fun r s1=>r = none∧Inv X pins σ H s1) E s
  self:∀ (A:Around) (i:Nat) (s:Shared) (Q:Value→Shared→Prop) (E:Value→Shared→Prop),tn i s.heap→Q (.ref it) s→wpAny (model P w) A (pyIter (.ref it)) Q E s
abbrev TI:=St→Hp→(It→Hp→Prop)→Prop
def PIE (X:Cx) (pins:List (Addr×Obj)) (σ:St) (tg:Expr) (R:It→Hp→Prop) (itv:Value) (s2:Shared):Prop :=
  ∃ (it:Addr) (fp:List Addr) (tn:Nat→Heap→Prop) (J:It) (H':Hp),itv = .ref it∧Inv X pins σ H' s2∧Turn X.prog X.w X.K tg J fp it tn∧tn 0 s2.heap∧(∀ b ∈ fp,FpOk X pins H' b)∧R J H'
def PI (X:Cx) (tg iter:Expr) (wi:TI):Prop :=
  ∀ (pins:List (Addr×Obj)) (s:Shared) (σ:St) (H:Hp) (R:It→Hp→Prop),Inv X pins σ H s→wi σ H R →
    wpAny (model X.prog X.w) X.A (eval iter X.env) (fun v s1=>wpAny (model X.prog X.w) X.A (pyIter v) (PIE X pins σ tg R) X.xe s1) X.xe s
theorem go_of {M:Model} {A:Around} {E:Value→Shared→Prop} {s:Shared} {tg:Expr} {it:Addr} {u:Value} {o:Obj} {n:String} {vs:Array Value} {Q:Unit→Shared→Prop} (ho:s.heap.get? it = some o) (hc:o.cls = .type n) (hd:o.data = .fields vs)
    (hn:["enumerate", "zip", "dict_itemiterator", "dict_reverseitemiterator", "odict_iterator", "itertools.zip_longest", "itertools.pairwise"].contains n = false) (hQ:Q () s):wpAny M A (letOwnedTupleGo tg (.ref it) u) Q E s:=by
  unfold letOwnedTupleGo
  cases tg <;> first
    | exact wpAny_pure hQ
    | (cases u <;> first
        | exact wpAny_pure hQ
        | (refine wpAny_bind (wpAny_load ho ?_)
           rw [hc,hd]
           show wpAny M A (if (["enumerate", "zip", "dict_itemiterator", "dict_reverseitemiterator", "odict_iterator", "itertools.zip_longest", "itertools.pairwise"].contains n && vs[0]? == some (rawInt _)) = true then _ else _) Q E s
           rw [if_neg (by intro h; rw [hn,Bool.false_and] at h; cases h)]
           exact wpAny_pure hQ))
def Itl (K:PySem.W.Frag) (a:Addr):It :=
  ⟨fun i H=>∃ xs x,SqL K H a xs∧xs[i]? = some x,fun i H x H'=>H' = H∧∀ xs,SqL K H a xs→xs[i]? = some x,fun i H=>∃ xs,SqL K H a xs∧xs.length ≤ i⟩
def Itt (K:PySem.W.Frag) (a:Addr):It :=
  ⟨fun i H=>∃ xs x,SqT K H a xs∧xs[i]? = some x,fun i H x H'=>H' = H∧∀ xs,SqT K H a xs→xs[i]? = some x,fun i H=>∃ xs,SqT K H a xs∧xs.length ≤ i⟩
def Itr (lo:Int) (n:Nat):It:=⟨fun i _=>i < n,fun i H x H'=>H' = H∧x = .int (lo + i),fun i _=>n ≤ i⟩
theorem turn_list {P:Program} {w:World} {K:PySem.W.Frag} {tg:Expr} (a it:Addr):Turn P w K tg (Itl K a) [it] it (fun i h=>h.IsListIter it a i) where
  mem:=by simp
  obj:=fun i h st b hb=>by
    have e:b = it:=by simpa using hb
    subst e
    obtain ⟨o,e,c,d⟩:=st
    exact ⟨o,e,fun v z=>by rw [d] at z; cases z⟩
  keep:=fun i h h' st k=>st.at fun o e=>k it (by simp) o e
  item:=by
    intro X hP hw hK hc i pins s σ H E I hf st hg
    subst hP hw hK
    obtain ⟨xs,x,hq,hx⟩:=hg
    obtain ⟨its,rv,p,hz⟩:=I.list hq
    obtain ⟨u,hu,ru⟩:=rv.get hx
    obtain ⟨f0,f1,f2,f3,f4,f5⟩:=hf it (by simp)
    refine wpAny_pyNext_list_item st p.isList (x:=u) (by simpa using hu) fun h' st' sb=>?_
    have I1:Inv X pins σ H { s with heap:=h' }:=I.turned (t':=s.toks) (fun b o hb e=>(sb.2 b hb).trans e) f0 f1 f3 f4 f5
    obtain ⟨o,e,c,d⟩:=id st'
    exact ⟨u,rfl,go_of (s:={ s with heap:=h' }) e c d (by decide) ⟨x,H,I1,ru,⟨rfl,fun ys hy=>by rw [I.list_inj hy hq]; exact hx⟩,st',fun b hb=>(hf b hb).1⟩⟩
  done:=by
    intro X hP hw hK hc i pins s σ H E I hf st hg
    subst hP hw hK
    obtain ⟨xs,hq,hx⟩:=hg
    obtain ⟨its,rv,p,hz⟩:=I.list hq
    obtain ⟨f0,f1,f2,f3,f4,f5⟩:=hf it (by simp)
    have hl:=rv.length
    exact wpAny_pyNext_list_end (I.ok.hd hc) st p.isList (by simp; omega) fun h' eb=>⟨rfl,I.turned (t':=s.toks) (fun b o hb e=>eb b o hb e) f0 f1 f3 f4 f5⟩
  self:=fun _ _ _ _ _ st h=>wpAny_pyIter_listiter st h
theorem turn_tuple {P:Program} {w:World} {K:PySem.W.Frag} {tg:Expr} (a it:Addr):Turn P w K tg (Itt K a) [it] it (fun i h=>h.IsTupleIter it a i) where
  mem:=by simp
  obj:=fun i h st b hb=>by
    have e:b = it:=by simpa using hb
    subst e
    obtain ⟨o,e,c,d⟩:=st
    exact ⟨o,e,fun v z=>by rw [d] at z; cases z⟩
  keep:=fun i h h' st k=>st.at fun o e=>k it (by simp) o e
  item:=by
    intro X hP hw hK hc i pins s σ H E I hf st hg
    subst hP hw hK
    obtain ⟨xs,x,hq,hx⟩:=hg
    obtain ⟨its,rv,p,hz⟩:=I.tuple hq
    obtain ⟨u,hu,ru⟩:=rv.get hx
    obtain ⟨f0,f1,f2,f3,f4,f5⟩:=hf it (by simp)
    refine wpAny_pyNext_tuple_item st (show s.heap.IsTuple a its.toArray from p) (x:=u) (by simpa using hu) fun h' st' sb=>?_
    have I1:Inv X pins σ H { s with heap:=h' }:=I.turned (t':=s.toks) (fun b o hb e=>(sb.2 b hb).trans e) f0 f1 f3 f4 f5
    obtain ⟨o,e,c,d⟩:=id st'
    exact ⟨u,rfl,go_of (s:={ s with heap:=h' }) e c d (by decide) ⟨x,H,I1,ru,⟨rfl,fun ys hy=>by rw [I.tuple_inj hy hq]; exact hx⟩,st',fun b hb=>(hf b hb).1⟩⟩
  done:=by
    intro X hP hw hK hc i pins s σ H E I hf st hg
    subst hP hw hK
    obtain ⟨xs,hq,hx⟩:=hg
    obtain ⟨its,rv,p,hz⟩:=I.tuple hq
    obtain ⟨f0,f1,f2,f3,f4,f5⟩:=hf it (by simp)
    have hl:=rv.length
    exact wpAny_pyNext_tuple_end (I.ok.hd hc) st (show s.heap.IsTuple a its.toArray from p) (by simp; omega) fun h' eb=>⟨rfl,I.turned (t':=s.toks) (fun b o hb e=>eb b o hb e) f0 f1 f3 f4 f5⟩
  self:=fun _ _ _ _ _ st h=>wpAny_pyIter_tupleiter st h
theorem turn_range {P:Program} {w:World} {K:PySem.W.Frag} {tg:Expr} (it:Addr) (lo:Int) (n:Nat):Turn P w K tg (Itr lo n) [it] it (fun i h=>IsRangeIter h it (lo + (i:Nat) * 1) ((n:Int) - (i:Nat)) 1) where
  mem:=by simp
  obj:=fun i h st b hb=>by
    have e:b = it:=by simpa using hb
    subst e
    exact ⟨_,st,fun v z=>by
      have z':Data.fields _ = Data.cell v:=z
      cases z'⟩
  keep:=fun i h h' st k=>k it (by simp) _ st
  item:=by
    intro X hP hw hK hc i pins s σ H E I hf st hg
    subst hP hw hK
    obtain ⟨f0,f1,f2,f3,f4,f5⟩:=hf it (by simp)
    have W:=Walks.range (prog:=X.prog) (w:=X.w) (I.ok.hd hc) it lo 1 n
    refine W.item i s _ _ hg st fun v h' tk hv st' kk=>?_
    obtain ⟨t,rfl⟩:=hv
    have I1:Inv X pins σ H { s with heap:=h',toks:=tk }:=I.turned (fun b o hb e=>kk b o (by simpa using hb) e) f0 f1 f3 f4 f5
    refine ⟨_,rfl,go_of (s:={ s with heap:=h',toks:=tk }) (n:="range_iterator") st' rfl rfl (by decide) ⟨.int (lo + i),H,I1,⟨t,?_⟩,⟨rfl,rfl⟩,st',fun b hb=>(hf b hb).1⟩⟩
    rw [Int.mul_one]
  done:=by
    intro X hP hw hK hc i pins s σ H E I hf st hg
    subst hP hw hK
    obtain ⟨f0,f1,f2,f3,f4,f5⟩:=hf it (by simp)
    exact wpAny_pyNext_range_end (I.ok.hd hc) st (by have:n ≤ i:=hg; omega) fun h' eb=>⟨rfl,I.turned (t':=s.toks) (fun b o hb e=>eb b o hb e) f0 f1 f3 f4 f5⟩
  self:=fun _ _ _ _ _ st h=>wpAny_pyIter_rangeiter st h
end L2
namespace L2
open PySem PySem.Spec PyProof.Rows
section
variable {X:Cx} {tg:Expr}
def iList (K:PySem.W.Frag) (tl:TE):TI:=fun σ H R=>tl σ H fun x H1=>∃ a,x = .ref a∧(∃ xs,SqL K H1 a xs)∧R (Itl K a) H1
def iTup (K:PySem.W.Frag) (tl:TE):TI:=fun σ H R=>tl σ H fun x H1=>∃ a,x = .ref a∧(∃ xs,SqT K H1 a xs)∧R (Itt K a) H1
theorem pi_list {l:Expr} {tl:TE} (hl:PE X l tl):PI X tg l (iList X.K tl):=by
  intro pins s σ H R I h
  refine thn (hl pins s σ H _ I h) fun v s1 ⟨x,H1,I1,r1,q1⟩=>?_
  obtain ⟨a,e,⟨xs,hq⟩,q⟩:=q1
  subst e
  cases r1
  obtain ⟨its,rv,p,hz⟩:=I1.list hq
  refine wpAny_pyIter_list p.isList ?_
  refine ⟨s1.heap.objs.size,[s1.heap.objs.size],_,_,H1,rfl,I1.kept (t':=s1.toks) fun b o e=>Heap.get?_push_of_some _ e,turn_list a _,⟨_,Heap.get?_push_size _ rfl,rfl,rfl⟩,fun b hb=>?_,q⟩
  have e:b = s1.heap.objs.size:=by simpa using hb
  subst e
  exact I1.fpOk (Nat.le_refl _) (I1.hok.fresh (Nat.le_refl _))
theorem pi_tup {l:Expr} {tl:TE} (hl:PE X l tl):PI X tg l (iTup X.K tl):=by
  intro pins s σ H R I h
  refine thn (hl pins s σ H _ I h) fun v s1 ⟨x,H1,I1,r1,q1⟩=>?_
  obtain ⟨a,e,⟨xs,hq⟩,q⟩:=q1
  subst e
  cases r1
  obtain ⟨its,rv,p,hz⟩:=I1.tuple hq
  refine wpAny_pyIter_tuple (show s1.heap.IsTuple a its.toArray from p) ?_
  refine ⟨s1.heap.objs.size,[s1.heap.objs.size],_,_,H1,rfl,I1.kept (t':=s1.toks) fun b o e=>Heap.get?_push_of_some _ e,turn_tuple a _,⟨_,Heap.get?_push_size _ rfl,rfl,rfl⟩,fun b hb=>?_,q⟩
  have e:b = s1.heap.objs.size:=by simpa using hb
  subst e
  exact I1.fpOk (Nat.le_refl _) (I1.hok.fresh (Nat.le_refl _))
theorem range_it {pins:List (Addr×Obj)} {σ:St} {H:Hp} {s:Shared} {R:It→Hp→Prop} {E:Value→Shared→Prop} {lo hi:Int} {t u v:Tok} {tk:Nat} (I:Inv X pins σ H s) (h1:-(2 ^ 62) ≤ lo) (h2:lo < 2 ^ 62) (h3:-(2 ^ 62) ≤ hi) (h4:hi < 2 ^ 62)
    (q:R (Itr lo (hi - lo).toNat) H):wpAny (model X.prog X.w) X.A (pyIter (.ref s.heap.objs.size)) (PIE X pins σ tg R) E { s with heap:=s.heap.push { cls:=.type "range", data:=.fields #[.int lo t,.int hi u,.int 1 v] },toks:=tk }:=by
  refine wpAny_pyIter_range (IsRange.new ..) (small_one h1 h2 h3 h4) ?_
  have I1:Inv X pins σ H { s with heap:=s.heap.push { cls:=.type "range", data:=.fields #[.int lo t,.int hi u,.int 1 v] },toks:=tk }:=I.kept fun b o e=>Heap.get?_push_of_some _ e
  refine ⟨(s.heap.push { cls:=.type "range", data:=.fields #[.int lo t,.int hi u,.int 1 v] }).objs.size,[(s.heap.push { cls:=.type "range", data:=.fields #[.int lo t,.int hi u,.int 1 v] }).objs.size],_,_,H,rfl,
    I1.kept (t':=tk) fun b o e=>Heap.get?_push_of_some _ e,turn_range _ lo (hi - lo).toNat,?_,fun b hb=>?_,q⟩
  · have e1:lo + ((0:Nat):Int) * 1 = lo:=by simp
    have e2:(((hi - lo).toNat:Nat):Int) - ((0:Nat):Int) = Builtin.Range.rangeSize lo hi 1:=by rw [rangeSize_one]; split <;> omega
    show IsRangeIter _ _ (lo + ((0:Nat):Int) * 1) ((((hi - lo).toNat:Nat):Int) - ((0:Nat):Int)) 1
    rw [e1,e2]
    exact Heap.get?_push_size _ rfl
  · have e:b = (s.heap.push { cls:=.type "range", data:=.fields #[.int lo t,.int hi u,.int 1 v] }).objs.size:=by simpa using hb
    subst e
    exact I1.fpOk (Nat.le_refl _) (I1.hok.fresh (Nat.le_refl _))
def iRng1 (ta:TA):TI:=fun σ H R=>ta σ H fun vs H1=>∃ j:Int,vs = [.int j]∧-(2 ^ 62) ≤ j∧j < 2 ^ 62∧R (Itr 0 j.toNat) H1
theorem pi_range1 {a:Expr} {ta:TA} {p pos:Pos} (hg:Gl X "range") (hm:X.mg "range" = none) (ha:PA X [a] ta) (hs:starEach [a] X.env = [(false,eval a X.env)]:=by rfl):PI X tg (.Call (.Name "range" p) [a] [] pos) (iRng1 ta):=by
  intro pins s σ H R I h
  refine Call_ (ld_blt I hg hm boot_range (PyProof.Rows.callWith_type1 (thn (ha pos pins s σ H _ I h) fun us s1 ⟨vs,H1,I1,r1,q1⟩=>?_) hs rfl))
  obtain ⟨j,e,q1,q2,q⟩:=q1
  subst e
  cases r1 with
  | cons r rr =>
    cases rr
    obtain ⟨t,rfl⟩:=r
    exact call_range_1 (range_it I1 (by omega) (by omega) q1 q2 (by simpa using q))
def tFor (wi:TI) (g:TG) (tb:TS):TS:=fun D σ H=>wi σ H fun J H1=>∃ W:Nat→Nat→St→Hp→Prop,(∃ m,W 0 m σ H1)∧∀ i m σ H,W i m σ H →
  (J.stop i H∧D.nx σ H)∨(J.go i H∧∃ N:St→Hp→Prop,(∀ σ' H',N σ' H'→∃ m',m' < m∧W (i + 1) m' σ' H')∧∀ x H',J.yld i H x H'→g x σ H' fun σ2 H2=>tb { D with nx:=N,ct:=N,bk:=D.nx } σ2 H2)
def pinsAt (fp:List Addr) (h:Heap):List (Addr×Obj):=fp.filterMap fun b=>(h.get? b).map fun o=>(b,o)
theorem mem_pinsAt {fp:List Addr} {h:Heap} {b:Addr} {o:Obj} (hb:b ∈ fp) (e:h.get? b = some o):(b,o) ∈ pinsAt fp h:=List.mem_filterMap.mpr ⟨b,hb,by rw [e]; rfl⟩
theorem of_pinsAt {fp:List Addr} {h:Heap} {p:Addr×Obj} (hp:p ∈ pinsAt fp h):p.1 ∈ fp∧h.get? p.1 = some p.2:=by
  obtain ⟨b,hb,e⟩:=List.mem_filterMap.mp hp
  cases q:h.get? b with
  | none=>rw [q] at e; cases e
  | some o =>
    rw [q] at e
    have e':(b,o) = p:=Option.some.inj e
    subst e'
    exact ⟨hb,q⟩
theorem Inv.pinned {pins:List (Addr×Obj)} {σ:St} {H:Hp} {s:Shared} {fp:List Addr} (I:Inv X pins σ H s) (hf:∀ b ∈ fp,FpOk X pins H b) (ho:∀ b ∈ fp,∃ o,s.heap.get? b = some o∧∀ v,o.data ≠ .cell v):Inv X (pins ++ pinsAt fp s.heap) σ H s :=
  I.pins_of fun p hp=>(List.mem_append.mp hp).elim (fun z=>I.pin p (List.mem_append_right _ z)) fun z=>by
    obtain ⟨hb,e⟩:=of_pinsAt z
    obtain ⟨f0,f1,f2,_⟩:=hf p.1 hb
    obtain ⟨o,e',d⟩:=ho p.1 hb
    rw [e] at e'; cases e'
    exact ⟨e,f0,f1,f2,d⟩
theorem Inv.unpinned {pins pl:List (Addr×Obj)} {σ:St} {H:Hp} {s:Shared} (I:Inv X (pins ++ pl) σ H s):Inv X pins σ H s:=I.pins_of fun p hp=>I.pin p (List.mem_append_right _ (List.mem_append_left _ hp))
theorem ps_for {iter:Expr} {body:List Stmt} {wi:TI} {g:TG} {tb:TS} {pos:Pos} (hp:PassesOwn (model X.prog X.w) X.A X.env X.xe) (hc:X.calm = true) (hi:PI X tg iter wi) (hg:PG X tg g) (hb:PSs X body tb)
    (hs:∀ x,foldedSetIterable iter X.env x = pure x:=by intro _; rfl):PS X (.For tg iter body [] pos) (tFor wi g tb):=by
  intro pins s σ H D I h
  refine wpAny_For (thn (hi pins s σ H _ I h) fun v s1 h1=>thn h1 fun itv s2 h2=>?_) hs
  obtain ⟨it,fp,tn,J,H2,e,I2,T,st2,f2,W,⟨m0,w0⟩,turn⟩:=h2
  subst e
  have stat:∀ {H':Hp},(∀ b ∈ fp,H' b = none)→∀ b ∈ fp,FpOk X pins H' b:=fun hn b hb=>⟨hn b hb,(f2 b hb).2⟩
  refine codeAny_forLoop_any (fun n s'=>∃ i σ' H',Inv X pins σ' H' s'∧tn i s'.heap∧(∀ b ∈ fp,H' b = none)∧W i n σ' H') ?_ m0 ⟨0,σ,H2,I2,st2,fun b hb=>(f2 b hb).1,w0⟩
  rintro n s3 ⟨i,σ3,H3,I3,st3,fr3,w3⟩
  rcases turn i n σ3 H3 w3 with ⟨stop,qn⟩ | ⟨go,N,hN,step⟩
  · refine wpAny_passesOwn hp (thn (T.done X rfl rfl rfl hc i pins s3 σ3 H3 X.xe I3 (stat fr3) st3 stop) fun r s4 ⟨hr,I4⟩=>?_)
    subst hr
    exact wpAny_execs_nil ⟨σ3,H3,I4,qn⟩
  · refine wpAny_passesOwn hp (thn (T.item X rfl rfl rfl hc i pins s3 σ3 H3 X.xe I3 (stat fr3) st3 go) fun r s4 ⟨u,hr,h4⟩=>?_)
    subst hr
    refine wpAny_passesOwn hp (thn h4 fun _ s5 ⟨x,H5,I5,r5,y5,st5,fr5⟩=>?_)
    have I5':=I5.pinned (stat fr5) (T.obj _ _ st5)
    refine wpAny_passesOwn hp (thn (hg _ s5 σ3 H5 x u _ I5' r5 (step x H5 y5)) fun _ s6 ⟨σ6,H6,I6,q6⟩=>?_)
    refine wpAny_passesOwn hp (thn (hb _ s6 σ6 H6 _ I6 q6) fun f s7 q7=>?_)
    have again:∀ {σ7:St} {H7:Hp},Inv X (pins ++ pinsAt fp s5.heap) σ7 H7 s7→N σ7 H7→∃ m,m < n∧∃ i σ' H',Inv X pins σ' H' s7∧tn i s7.heap∧(∀ b ∈ fp,H' b = none)∧W i m σ' H':=fun {σ7 H7} I7 n7=>by
      obtain ⟨m',hm,w7⟩:=hN σ7 H7 n7
      refine ⟨m',hm,i + 1,σ7,H7,I7.unpinned,T.keep _ _ _ st5 fun b hb o e=>(I7.pin (b,o) (List.mem_append_right _ (List.mem_append_right _ (mem_pinsAt hb e)))).1,fun b hb=>?_,w7⟩
      obtain ⟨o,e,d⟩:=T.obj _ _ st5 b hb
      exact (I7.pin (b,o) (List.mem_append_right _ (List.mem_append_right _ (mem_pinsAt hb e)))).2.1
    cases f with
    | next=>obtain ⟨σ7,H7,I7,n7⟩:=q7; exact again I7 n7
    | cont=>obtain ⟨σ7,H7,I7,n7⟩:=q7; exact again I7 n7
    | brk=>obtain ⟨σ7,H7,I7,q7⟩:=q7; exact ⟨σ7,H7,I7.unpinned,q7⟩
    | ret v=>obtain ⟨x7,σ7,H7,I7,r7,q7⟩:=q7; exact ⟨x7,σ7,H7,I7.unpinned,r7,q7⟩
end
theorem for_list {K:PySem.W.Frag} {a:Addr} {xs:List V} {g:TG} {tb:TS} {D:Ends} {σ:St} {H:Hp} (Pv:Nat→St→Hp→Prop) (h0:Pv 0 σ H) (hl:∀ i σ H,i ≤ xs.length→Pv i σ H→SqL K H a xs)
    (hs:∀ i x σ H,xs[i]? = some x→Pv i σ H→g x σ H fun σ2 H2=>tb { D with nx:=Pv (i + 1),ct:=Pv (i + 1),bk:=D.nx } σ2 H2) (hd:∀ σ H,Pv xs.length σ H→D.nx σ H) :
    ∃ W:Nat→Nat→St→Hp→Prop,(∃ m,W 0 m σ H)∧∀ i m σ H,W i m σ H →
      ((Itl K a).stop i H∧D.nx σ H)∨((Itl K a).go i H∧∃ N:St→Hp→Prop,(∀ σ' H',N σ' H'→∃ m',m' < m∧W (i + 1) m' σ' H')∧∀ x H',(Itl K a).yld i H x H'→g x σ H' fun σ2 H2=>tb { D with nx:=N,ct:=N,bk:=D.nx } σ2 H2):=by
  refine ⟨fun i m σ H=>m = xs.length - i∧i ≤ xs.length∧Pv i σ H,⟨xs.length,by simp,Nat.zero_le _,h0⟩,?_⟩
  rintro i m σ H ⟨rfl,hi,p⟩
  have q:=hl i σ H hi p
  by_cases hlt:i < xs.length
  · refine .inr ⟨⟨xs,xs[i],q,by simp [hlt]⟩,Pv (i + 1),fun σ' H' p'=>⟨xs.length - (i + 1),by omega,rfl,hlt,p'⟩,fun x H' y=>?_⟩
    obtain ⟨e,y⟩:=y
    subst e
    exact hs i x σ _ (y xs q) p
  · have e:i = xs.length:=by omega
    subst e
    exact .inl ⟨⟨xs,q,Nat.le_refl _⟩,hd σ H p⟩
theorem for_tup {K:PySem.W.Frag} {a:Addr} {xs:List V} {g:TG} {tb:TS} {D:Ends} {σ:St} {H:Hp} (Pv:Nat→St→Hp→Prop) (h0:Pv 0 σ H) (hl:∀ i σ H,i ≤ xs.length→Pv i σ H→SqT K H a xs)
    (hs:∀ i x σ H,xs[i]? = some x→Pv i σ H→g x σ H fun σ2 H2=>tb { D with nx:=Pv (i + 1),ct:=Pv (i + 1),bk:=D.nx } σ2 H2) (hd:∀ σ H,Pv xs.length σ H→D.nx σ H) :
    ∃ W:Nat→Nat→St→Hp→Prop,(∃ m,W 0 m σ H)∧∀ i m σ H,W i m σ H →
      ((Itt K a).stop i H∧D.nx σ H)∨((Itt K a).go i H∧∃ N:St→Hp→Prop,(∀ σ' H',N σ' H'→∃ m',m' < m∧W (i + 1) m' σ' H')∧∀ x H',(Itt K a).yld i H x H'→g x σ H' fun σ2 H2=>tb { D with nx:=N,ct:=N,bk:=D.nx } σ2 H2):=by
  refine ⟨fun i m σ H=>m = xs.length - i∧i ≤ xs.length∧Pv i σ H,⟨xs.length,by simp,Nat.zero_le _,h0⟩,?_⟩
  rintro i m σ H ⟨rfl,hi,p⟩
  have q:=hl i σ H hi p
  by_cases hlt:i < xs.length
  · refine .inr ⟨⟨xs,xs[i],q,by simp [hlt]⟩,Pv (i + 1),fun σ' H' p'=>⟨xs.length - (i + 1),by omega,rfl,hlt,p'⟩,fun x H' y=>?_⟩
    obtain ⟨e,y⟩:=y
    subst e
    exact hs i x σ _ (y xs q) p
  · have e:i = xs.length:=by omega
    subst e
    exact .inl ⟨⟨xs,q,Nat.le_refl _⟩,hd σ H p⟩
theorem for_range {lo:Int} {n:Nat} {g:TG} {tb:TS} {D:Ends} {σ:St} {H:Hp} (Pv:Nat→St→Hp→Prop) (h0:Pv 0 σ H)
    (hs:∀ i σ H,i < n→Pv i σ H→g (.int (lo + i)) σ H fun σ2 H2=>tb { D with nx:=Pv (i + 1),ct:=Pv (i + 1),bk:=D.nx } σ2 H2) (hd:∀ σ H,Pv n σ H→D.nx σ H) :
    ∃ W:Nat→Nat→St→Hp→Prop,(∃ m,W 0 m σ H)∧∀ i m σ H,W i m σ H →
      ((Itr lo n).stop i H∧D.nx σ H)∨((Itr lo n).go i H∧∃ N:St→Hp→Prop,(∀ σ' H',N σ' H'→∃ m',m' < m∧W (i + 1) m' σ' H')∧∀ x H',(Itr lo n).yld i H x H'→g x σ H' fun σ2 H2=>tb { D with nx:=N,ct:=N,bk:=D.nx } σ2 H2):=by
  refine ⟨fun i m σ H=>m = n - i∧i ≤ n∧Pv i σ H,⟨n,by simp,Nat.zero_le _,h0⟩,?_⟩
  rintro i m σ H ⟨rfl,hi,p⟩
  by_cases hlt:i < n
  · refine .inr ⟨hlt,Pv (i + 1),fun σ' H' p'=>⟨n - (i + 1),by omega,rfl,hlt,p'⟩,fun x H' y=>?_⟩
    obtain ⟨e,y⟩:=y
    subst e y
    exact hs i σ _ hlt p
  · have e:i = n:=by omega
    subst e
    exact .inl ⟨Nat.le_refl _,hd σ H p⟩
end L2
namespace L2
open PySem PySem.Spec PyProof.Rows
abbrev R2:=V→V→Hp→VK→Prop
def OpR (X:Cx) (f:Value→Value→Sem Value) (r:R2):Prop :=
  ∀ (pins:List (Addr×Obj)) (s:Shared) (σ:St) (H:Hp) (x y:V) (v u:Value) (Q:VK),Inv X pins σ H s→RelV x v→RelV y u→r x y H Q →
    wpAny (model X.prog X.w) X.A (f v u) (EP X pins σ Q) X.xe s
def UnR (X:Cx) (f:Value→Sem Value) (r:V→Hp→VK→Prop):Prop :=
  ∀ (pins:List (Addr×Obj)) (s:Shared) (σ:St) (H:Hp) (x:V) (v:Value) (Q:VK),Inv X pins σ H s→RelV x v→r x H Q →
    wpAny (model X.prog X.w) X.A (f v) (EP X pins σ Q) X.xe s
def CallR (X:Cx) (f:Value) (r:List V→Hp→VK→Prop):Prop :=
  ∀ (pins:List (Addr×Obj)) (s:Shared) (σ:St) (H:Hp) (xs:List V) (us:List Value) (Q:VK),Inv X pins σ H s→Vals xs us→r xs H Q →
    wpAny (model X.prog X.w) X.A (call f us) (EP X pins σ Q) X.xe s
def TruR (X:Cx) (r:V→Hp→(Bool→Hp→Prop)→Prop):Prop :=
  ∀ (pins:List (Addr×Obj)) (s:Shared) (σ:St) (H:Hp) (x:V) (v:Value) (Q:Bool→Hp→Prop),Inv X pins σ H s→RelV x v→r x H Q →
    wpAny (model X.prog X.w) X.A (truthy v) (TP X pins σ Q) X.xe s
def tOp (r:R2) (ta tb:TE):TE:=fun σ H Q=>ta σ H fun x H1=>tb σ H1 fun y H2=>r x y H2 Q
def tUn (r:V→Hp→VK→Prop) (ta:TE):TE:=fun σ H Q=>ta σ H fun x H1=>r x H1 Q
def rI (C:Int→Int→Prop) (g:Int→Int→V):R2:=fun x y H Q=>∃ i j,x = .int i∧y = .int j∧C i j∧Q (g i j) H
def rI0 (g:Int→Int→V):R2:=fun x y H Q=>∃ i j,x = .int i∧y = .int j∧Q (g i j) H
def rU (g:Int→V):V→Hp→VK→Prop:=fun x H Q=>∃ i,x = .int i∧Q (g i) H
section
variable {X:Cx} {a b c:Expr} {ta tb tc:TE} {pos:Pos}
theorem binT (ha:PE X a ta) (hb:PE X b tb) {pins:List (Addr×Obj)} {s:Shared} {σ:St} {H:Hp} {R:V→V→Hp→Prop} (I:Inv X pins σ H s)
    (h:ta σ H fun x H1=>tb σ H1 fun y H2=>R x y H2) {Q:Value→Shared→Prop} {f:Value→Value→Sem Value}
    (hf:∀ v u s2 x y H2,Inv X pins σ H2 s2→RelV x v→RelV y u→R x y H2→wpAny (model X.prog X.w) X.A (f v u) Q X.xe s2) :
    wpAny (model X.prog X.w) X.A (eval a X.env) (fun v s₁=>wpAny (model X.prog X.w) X.A (eval b X.env) (fun u s₂=>wpAny (model X.prog X.w) X.A (f v u) Q X.xe s₂) X.xe s₁) X.xe s:=by
  refine thn (ha pins s σ H _ I h) fun v s1 ⟨x,H1,I1,r1,q1⟩=>?_
  refine thn (hb pins s1 σ H1 _ I1 q1) fun u s2 ⟨y,H2,I2,r2,q2⟩=>?_
  exact hf v u s2 x y H2 I2 r1 r2 q2
theorem pe_op {op:Operator} {r:R2} (ho:OpR X (binaryOp op) r) (ha:PE X a ta) (hb:PE X b tb):PE X (.BinOp a op b pos) (tOp r ta tb):=by
  intro pins s σ H Q I h
  exact wpAny_BinOp (binT ha hb I h fun v u s2 x y H2 I2 rx ry q=>ho pins s2 σ H2 x y v u Q I2 rx ry q)
theorem pe_un {op:UnaryOp} {r:V→Hp→VK→Prop} (ho:UnR X (unaryOp op) r) (ha:PE X a ta):PE X (.UnaryOp op a pos) (tUn r ta):=by
  intro pins s σ H Q I h
  exact UnaryOp_ (thn (ha pins s σ H _ I h) fun v s1 ⟨x,H1,I1,r1,q1⟩=>ho pins s1 σ H1 x v Q I1 r1 q1)
theorem opI {f:Value→Value→Sem Value} {C:Int→Int→Prop} {g:Int→Int→Int}
    (rule:∀ (i j:Int) (t u:Tok) (s:Shared) (Q:Value→Shared→Prop) (E:Value→Shared→Prop),C i j→Q (.int (g i j) s.toks) { s with toks:=s.toks + 1 }→wpAny (model X.prog X.w) X.A (f (.int i t) (.int j u)) Q E s) :
    OpR X f (rI C fun i j=>.int (g i j)):=by
  intro pins s σ H x y v u Q I rx ry h
  obtain ⟨i,j,rfl,rfl,hc,q⟩:=h
  obtain ⟨t,rfl⟩:=rx
  obtain ⟨t',rfl⟩:=ry
  exact rule i j t t' s _ _ hc ⟨.int (g i j),H,I.tok _,⟨_,rfl⟩,q⟩
theorem opI0 {f:Value→Value→Sem Value} {g:Int→Int→Int}
    (rule:∀ (i j:Int) (t u:Tok) (s:Shared) (Q:Value→Shared→Prop) (E:Value→Shared→Prop),Q (.int (g i j) s.toks) { s with toks:=s.toks + 1 }→wpAny (model X.prog X.w) X.A (f (.int i t) (.int j u)) Q E s) :
    OpR X f (rI0 fun i j=>.int (g i j)):=by
  intro pins s σ H x y v u Q I rx ry h
  obtain ⟨i,j,rfl,rfl,q⟩:=h
  obtain ⟨t,rfl⟩:=rx
  obtain ⟨t',rfl⟩:=ry
  exact rule i j t t' s _ _ ⟨.int (g i j),H,I.tok _,⟨_,rfl⟩,q⟩
theorem opB0 {f:Value→Value→Sem Value} {g:Int→Int→Bool}
    (rule:∀ (i j:Int) (t u:Tok) (s:Shared) (Q:Value→Shared→Prop) (E:Value→Shared→Prop),Q (.bool (g i j)) s→wpAny (model X.prog X.w) X.A (f (.int i t) (.int j u)) Q E s) :
    OpR X f (rI0 fun i j=>.bl (g i j)):=by
  intro pins s σ H x y v u Q I rx ry h
  obtain ⟨i,j,rfl,rfl,q⟩:=h
  obtain ⟨t,rfl⟩:=rx
  obtain ⟨t',rfl⟩:=ry
  exact rule i j t t' s _ _ ⟨.bl (g i j),H,I,rfl,q⟩
def CDiv (i j:Int):Prop:=0 < j∧j < 1073741824
def CPow (i j:Int):Prop:=0 ≤ j∧j ≤ 1000000∧i.natAbs < 2 ^ 64
def CMul (i j:Int):Prop:=(-(2 ^ 64) < i∧i < 2 ^ 64)∨(-(2 ^ 64) < j∧j < 2 ^ 64)
theorem CMul.ok {i j:Int} (h:CMul i j):IntMulOk i j:=by
  rcases h with ⟨h1,h2⟩ | ⟨h1,h2⟩
  · exact .of_left (intBits_le_64 h1 h2)
  · exact .of_right (intBits_le_64 h1 h2)
theorem op_add:OpR X (binaryOp .Add) (rI0 fun i j=>.int (i + j)):=opI0 fun _ _ _ _ _ _ _ q=>add_int q
theorem op_sub:OpR X (binaryOp .Sub) (rI0 fun i j=>.int (i - j)):=opI0 fun _ _ _ _ _ _ _ q=>sub_int q
theorem op_mul:OpR X (binaryOp .Mult) (rI CMul fun i j=>.int (i * j)):=opI fun _ _ _ _ _ _ _ hc q=>mul_int q hc.ok
theorem op_fdiv:OpR X (binaryOp .FloorDiv) (rI CDiv fun i j=>.int (i / j)):=opI fun i j _ _ _ _ _ hc q=>by
  have h1:(0:Int) < j:=hc.1
  have h2:j < 1073741824:=hc.2
  exact floordiv_int (by omega) (by rw [Int.fdiv_eq_ediv_of_nonneg i (by omega)]; exact q) (.inl (PyProof.noPylong_small (by omega)))
theorem op_mod:OpR X (binaryOp .Mod) (rI (fun _ j=>0 < j) fun i j=>.int (i % j)):=opI fun i j _ _ _ _ _ hc q=>by
  have h1:(0:Int) < j:=hc
  exact mod_int' (by omega) (by rw [Int.fmod_eq_emod_of_nonneg i (by omega)]; exact q)
theorem op_pow:OpR X (binaryOp .Pow) (rI CPow fun i j=>.int (i ^ j.toNat)):=opI fun _ _ _ _ _ _ _ hc q=>pow_int_small hc.1 hc.2.1 hc.2.2 q
theorem unI {f:Value→Sem Value} {g:Int→Int}
    (rule:∀ (i:Int) (t:Tok) (s:Shared) (Q:Value→Shared→Prop) (E:Value→Shared→Prop),Q (.int (g i) s.toks) { s with toks:=s.toks + 1 }→wpAny (model X.prog X.w) X.A (f (.int i t)) Q E s) :
    UnR X f (rU fun i=>.int (g i)):=by
  intro pins s σ H x v Q I rx h
  obtain ⟨i,rfl,q⟩:=h
  obtain ⟨t,rfl⟩:=rx
  exact rule i t s _ _ ⟨.int (g i),H,I.tok _,⟨_,rfl⟩,q⟩
theorem un_neg:UnR X (unaryOp .USub) (rU fun i=>.int (-i)):=unI fun _ _ _ _ _ q=>neg_int q
end
def scal:V→V→Bool
  | .non,.non=>true | .non,.int _=>true | .int _,.non=>true | .non,.bl _=>true | .bl _,.non=>true | .non,.str _=>true | .str _,.non=>true
  | .int _,.int _=>true | .bl _,.bl _=>true | .str _,.str _=>true | .byt _,.byt _=>true
  | .int _,.str _=>true | .str _,.int _=>true | .bl _,.str _=>true | .str _,.bl _=>true
  | _,_=>false
def rEq:R2:=fun x y H Q=>scal x y = true∧Q (.bl (decide (x = y))) H
def rNe:R2:=fun x y H Q=>scal x y = true∧Q (.bl (!decide (x = y))) H
theorem dec_int {i j:Int}:decide (V.int i = V.int j) = (i == j):=by
  rw [Bool.eq_iff_iff]
  simp
theorem dec_bl {i j:Bool}:decide (V.bl i = V.bl j) = (i == j):=by
  rw [Bool.eq_iff_iff]
  simp
theorem dec_str {i j:Str}:decide (V.str i = V.str j) = (i == j):=by
  rw [Bool.eq_iff_iff]
  simp
theorem dec_byt {i j:Array UInt8}:decide (V.byt i = V.byt j) = (i.toList == j.toList):=by
  rw [Bool.eq_iff_iff]
  cases i
  cases j
  simp
section
variable {X:Cx} {a b c:Expr} {ta tb tc:TE} {pos:Pos}
theorem fin_bl {pins:List (Addr×Obj)} {σ:St} {H:Hp} {s:Shared} {Q:VK} {k k':Bool} (I:Inv X pins σ H s) (q:Q (.bl k) H) (e:k = k'):EP X pins σ Q (.bool k') s:=by
  subst e
  exact ⟨.bl k,H,I,rfl,q⟩
theorem op_eq:OpR X (compareOp .Eq) rEq:=by
  intro pins s σ H x y v u Q I rx ry h
  obtain ⟨hs,q⟩:=h
  cases x with
  | non =>
    cases rx
    cases y with
    | non=>cases ry; exact PySem.EqNone.eq_none_none (fin_bl I q (by simp))
    | bl j=>cases ry; exact PySem.EqNone.eq_none_bool (fin_bl I q (by simp))
    | int j=>obtain ⟨t',rfl⟩:=ry; exact PySem.EqNone.eq_none_int (fin_bl I q (by simp))
    | str j=>obtain ⟨t',rfl⟩:=ry; exact PySem.EqNone.eq_none_str (fin_bl I q (by simp))
    | _=>exact absurd (show false = true from hs) Bool.false_ne_true
  | bl i =>
    cases rx
    cases y with
    | non=>cases ry; exact PySem.EqNone.eq_bool_none (fin_bl I q (by simp))
    | bl j=>cases ry; exact eq_bool (fin_bl I q dec_bl)
    | str j=>obtain ⟨t',rfl⟩:=ry; exact PySem.EqMixed.eq_bool_str (fin_bl I q (by simp))
    | _=>exact absurd (show false = true from hs) Bool.false_ne_true
  | int i =>
    obtain ⟨t,rfl⟩:=rx
    cases y with
    | non=>cases ry; exact PySem.EqNone.eq_int_none (fin_bl I q (by simp))
    | int j=>obtain ⟨t',rfl⟩:=ry; exact eq_int (fin_bl I q dec_int)
    | str j=>obtain ⟨t',rfl⟩:=ry; exact PySem.EqMixed.eq_int_str (fin_bl I q (by simp))
    | _=>exact absurd (show false = true from hs) Bool.false_ne_true
  | str i =>
    obtain ⟨t,rfl⟩:=rx
    cases y with
    | non=>cases ry; exact PySem.EqNone.eq_str_none (fin_bl I q (by simp))
    | bl j=>cases ry; exact PySem.EqMixed.eq_str_bool (fin_bl I q (by simp))
    | int j=>obtain ⟨t',rfl⟩:=ry; exact PySem.EqMixed.eq_str_int (fin_bl I q (by simp))
    | str j=>obtain ⟨t',rfl⟩:=ry; exact eq_str (fin_bl I q dec_str)
    | _=>exact absurd (show false = true from hs) Bool.false_ne_true
  | byt i =>
    obtain ⟨t,rfl⟩:=rx
    cases y with
    | byt j=>obtain ⟨t',rfl⟩:=ry; exact PySem.W.eq_bytes (fin_bl I q dec_byt)
    | _=>exact absurd (show false = true from hs) Bool.false_ne_true
  | _=>cases y <;> exact absurd (show false = true from hs) Bool.false_ne_true
theorem op_ne:OpR X (compareOp .NotEq) rNe:=by
  intro pins s σ H x y v u Q I rx ry h
  obtain ⟨hs,q⟩:=h
  cases x with
  | non =>
    cases rx
    cases y with
    | non=>cases ry; exact PySem.EqNone.ne_none_none (fin_bl I q (by simp))
    | bl j=>cases ry; exact PySem.EqNone.ne_none_bool (fin_bl I q (by simp))
    | int j=>obtain ⟨t',rfl⟩:=ry; exact PySem.EqNone.ne_none_int (fin_bl I q (by simp))
    | str j=>obtain ⟨t',rfl⟩:=ry; exact PySem.EqNone.ne_none_str (fin_bl I q (by simp))
    | _=>exact absurd (show false = true from hs) Bool.false_ne_true
  | bl i =>
    cases rx
    cases y with
    | non=>cases ry; exact PySem.EqNone.ne_bool_none (fin_bl I q (by simp))
    | bl j=>cases ry; exact ne_bool (fin_bl I q (congrArg not dec_bl))
    | str j=>obtain ⟨t',rfl⟩:=ry; exact PySem.EqMixed.ne_bool_str (fin_bl I q (by simp))
    | _=>exact absurd (show false = true from hs) Bool.false_ne_true
  | int i =>
    obtain ⟨t,rfl⟩:=rx
    cases y with
    | non=>cases ry; exact PySem.EqNone.ne_int_none (fin_bl I q (by simp))
    | int j=>obtain ⟨t',rfl⟩:=ry; exact ne_int (fin_bl I q (congrArg not dec_int))
    | str j=>obtain ⟨t',rfl⟩:=ry; exact PySem.EqMixed.ne_int_str (fin_bl I q (by simp))
    | _=>exact absurd (show false = true from hs) Bool.false_ne_true
  | str i =>
    obtain ⟨t,rfl⟩:=rx
    cases y with
    | non=>cases ry; exact PySem.EqNone.ne_str_none (fin_bl I q (by simp))
    | bl j=>cases ry; exact PySem.EqMixed.ne_str_bool (fin_bl I q (by simp))
    | int j=>obtain ⟨t',rfl⟩:=ry; exact PySem.EqMixed.ne_str_int (fin_bl I q (by simp))
    | str j=>obtain ⟨t',rfl⟩:=ry; exact ne_str (fin_bl I q (congrArg not dec_str))
    | _=>exact absurd (show false = true from hs) Bool.false_ne_true
  | byt i =>
    obtain ⟨t,rfl⟩:=rx
    cases y with
    | byt j=>obtain ⟨t',rfl⟩:=ry; exact PySem.W.ne_bytes (fin_bl I q (congrArg not dec_byt))
    | _=>exact absurd (show false = true from hs) Bool.false_ne_true
  | _=>cases y <;> exact absurd (show false = true from hs) Bool.false_ne_true
theorem op_lt:OpR X (compareOp .Lt) (rI0 fun i j=>.bl (decide (i < j))):=opB0 fun _ _ _ _ _ _ _ q=>lt_int q
theorem op_gt:OpR X (compareOp .Gt) (rI0 fun i j=>.bl (decide (j < i))):=opB0 fun _ _ _ _ _ _ _ q=>gt_int q
theorem op_lt_str:OpR X (compareOp .Lt) (fun x y H Q=>∃ i j,x = .str i∧y = .str j∧Q (.bl (decide (i.cps.toList < j.cps.toList))) H):=by
  intro pins s σ H x y v u Q I rx ry h
  obtain ⟨i,j,rfl,rfl,q⟩:=h
  obtain ⟨t,rfl⟩:=rx
  obtain ⟨t',rfl⟩:=ry
  exact lt_str (fin_bl I q rfl)
theorem nomark (b:Expr) {op:CmpOp} (h:op ≠ .In:=by decide) (h2:op ≠ .NotIn:=by decide):behindInMarks op b = false:=by
  have e1:(op == CmpOp.In) = false:=by cases op <;> first | rfl | exact absurd rfl h
  have e2:(op == CmpOp.NotIn) = false:=by cases op <;> first | rfl | exact absurd rfl h2
  cases b <;> simp [behindInMarks,e1,e2]
theorem pe_cmpR {op:CmpOp} {r:R2} (ho:OpR X (compareOp op) r) (ha:PE X a ta) (hb:PE X b tb) (hm:behindInMarks op b = false):PE X (.Compare a [op] [b] pos) (tOp r ta tb):=by
  intro pins s σ H Q I h
  exact wpAny_Compare1 (binT ha hb I h fun v u s2 x y H2 I2 rx ry q=>ho pins s2 σ H2 x y v u Q I2 rx ry q) hm
def tTest (t:TE):TT:=fun σ H Q=>t σ H fun x H'=>∃ k,x = .bl k∧Q k H'
theorem pt_cmpR {op:CmpOp} {r:R2} (ho:OpR X (compareOp op) r) (ha:PE X a ta) (hb:PE X b tb) (hm:behindInMarks op b = false):PT X (.Compare a [op] [b] pos) (tTest (tOp r ta tb)):=by
  intro pins s σ H Q I h
  refine wpAny_isTrue_Compare1 (thn (ha pins s σ H _ I h) fun v s1 ⟨x,H1,I1,r1,q1⟩=>thn (hb pins s1 σ H1 _ I1 q1) fun u s2 ⟨y,H2,I2,r2,q2⟩ =>
    thn (ho pins s2 σ H2 x y v u _ I2 r1 r2 q2) fun c s3 ⟨z,H3,I3,r3,k,e,q3⟩=>?_) hm
  subst e
  cases r3
  exact wpAny_truthy_bool ⟨H3,I3,q3⟩
def TruV (K:PySem.W.Frag) (x:V) (H:Hp) (k:Bool):Prop :=
  match x with
  | .non=>k = false
  | .bl b=>k = b
  | .int i=>k = (i != 0)
  | .str y=>y.length ≤ sizeLine∧k = ((y.length:Int) != 0)
  | .byt y=>y.size ≤ sizeLine∧k = ((y.size:Int) != 0)
  | .ref p=>(∃ xs,SqL K H p xs∧k = !xs.isEmpty)∨(∃ xs,SqT K H p xs∧k = !xs.isEmpty)∨∃ kvs,H p = some (.dK kvs)∧k = !kvs.isEmpty
  | _=>False
theorem isEmpty_kv {κ:Type} {kvs:List (κ×V)} {vs:List (κ×Value)} (r:KV kvs vs):(!vs.isEmpty) = !kvs.isEmpty:=by
  cases r <;> rfl
theorem isEmpty_of {xs:List V} {its:List Value} (r:Vals xs its):(!its.toArray.isEmpty) = !xs.isEmpty:=by
  cases r <;> simp
theorem line63:(sizeLine:Nat) < 2 ^ 63:=by rw [sizeLine_eq]; decide
theorem tru_ok:TruR X (fun x H Q=>∃ k,TruV X.K x H k∧Q k H):=by
  intro pins s σ H x v Q I rx h
  obtain ⟨k,e,q⟩:=h
  have hl:=line63
  have hs:sizeLine = 16777216:=sizeLine_eq
  cases x with
  | non =>
    cases rx
    have e':k = false:=e
    subst e'
    exact truthy_none ⟨H,I,q⟩
  | bl b =>
    cases rx
    have e':k = b:=e
    subst e'
    exact wpAny_truthy_bool ⟨H,I,q⟩
  | int i =>
    obtain ⟨t,rfl⟩:=rx
    have e':k = (i != 0):=e
    subst e'
    exact PySem.P.truthy_int ⟨H,I,q⟩
  | str y =>
    obtain ⟨t,rfl⟩:=rx
    obtain ⟨hy,e'⟩ : y.length ≤ sizeLine∧k = ((y.length:Int) != 0):=e
    subst e'
    exact PySem.P.truthy_str (by omega) ⟨H,I.tok _,q⟩
  | byt y =>
    obtain ⟨t,rfl⟩:=rx
    obtain ⟨hy,e'⟩ : y.size ≤ sizeLine∧k = ((y.size:Int) != 0):=e
    subst e'
    exact PySem.W.truthy_bytes (by omega) ⟨H,I.tok _,q⟩
  | ref p =>
    cases rx
    have e':(∃ xs,SqL X.K H p xs∧k = !xs.isEmpty)∨(∃ xs,SqT X.K H p xs∧k = !xs.isEmpty)∨∃ kvs,H p = some (.dK kvs)∧k = !kvs.isEmpty:=e
    rcases e' with ⟨xs,hx,e'⟩ | ⟨xs,hx,e'⟩ | ⟨kvs,hx,e'⟩
    · subst e'
      obtain ⟨its,r,pl,hz⟩:=I.list hx
      have hlen:=r.length
      exact wpAny_truthy_list pl.isList (by simp only [List.size_toArray]; omega) ⟨H,I.tok _,by rw [isEmpty_of r]; exact q⟩
    · subst e'
      obtain ⟨its,r,pl,hz⟩:=I.tuple hx
      have hlen:=r.length
      exact truthy_tuple pl (by simp only [List.size_toArray]; omega) ⟨H,I.tok _,by rw [isEmpty_of r]; exact q⟩
    · subst e'
      obtain ⟨hz,hS,vs,r,m⟩ : kvs.length ≤ sizeLine∧(p == sysModules) = false∧∃ vs,KV kvs vs∧s.heap.DictOf (mixKind X.prog X.w) p vs:=I.hok p _ hx
      have hlen:kvs.length = vs.length:=Paired.length r
      exact wpAny_truthy_dict hS m (by omega) ⟨H,I.tok _,by rw [isEmpty_kv r]; exact q⟩
  | _=>exact (show False from e).elim
theorem pt_truth (ha:PE X a ta) (he:∀ whole,isTrue a X.env whole = (do let v ← whole; standAt a.pos; holding [v] (truthy v))) :
    PT X a (fun σ H Q=>ta σ H fun x H'=>∃ k,TruV X.K x H' k∧Q k H'):=by
  intro pins s σ H Q I h
  exact isTrue_plain (thn (ha pins s σ H _ I h) fun v s1 ⟨x,H1,I1,r1,q1⟩=>tru_ok pins s1 σ H1 x v Q I1 r1 q1) (he _)
theorem vals1 {x:V} {us:List Value} (r:Vals [x] us):∃ u,us = [u]∧RelV x u:=by
  cases r with
  | cons r1 r2=>cases r2; exact ⟨_,rfl,r1⟩
theorem vals2 {x y:V} {us:List Value} (r:Vals [x,y] us):∃ u w',us = [u,w']∧RelV x u∧RelV y w':=by
  cases r with
  | cons r1 r2 =>
    cases r2 with
    | cons r3 r4=>cases r4; exact ⟨_,_,rfl,r1,r3⟩
theorem call_abs:CallR X (.builtin "abs") (fun xs H Q=>∃ i,xs = [.int i]∧Q (.int (if i < 0 then -i else i)) H):=by
  intro pins s σ H xs us Q I r h
  obtain ⟨i,rfl,q⟩:=h
  obtain ⟨u,rfl,t,rfl⟩:=vals1 r
  exact call_abs_int fun u tk=>⟨.int (if i < 0 then -i else i),H,I.tok _,⟨_,rfl⟩,q⟩
theorem call_max2 (hc:X.calm = true):CallR X (.builtin "max") (fun xs H Q=>∃ i j,xs = [.int i,.int j]∧Q (.int (if j > i then j else i)) H):=by
  intro pins s σ H xs us Q I r h
  obtain ⟨i,j,rfl,q⟩:=h
  obtain ⟨u,w',rfl,⟨t,rfl⟩,⟨t',rfl⟩⟩:=vals2 r
  refine max_two_ints (I.ok.hd hc) fun h' tk k=>⟨_,H,I.kept k,?_,q⟩
  by_cases hj:j > i
  · rw [if_pos hj,if_pos hj]; exact ⟨_,rfl⟩
  · rw [if_neg hj,if_neg hj]; exact ⟨_,rfl⟩
theorem call_min2 (hc:X.calm = true):CallR X (.builtin "min") (fun xs H Q=>∃ i j,xs = [.int i,.int j]∧Q (.int (if j < i then j else i)) H):=by
  intro pins s σ H xs us Q I r h
  obtain ⟨i,j,rfl,q⟩:=h
  obtain ⟨u,w',rfl,⟨t,rfl⟩,⟨t',rfl⟩⟩:=vals2 r
  refine min_two_ints (I.ok.hd hc) fun h' tk k=>⟨_,H,I.kept k,?_,q⟩
  by_cases hj:j < i
  · rw [if_pos hj,if_pos hj]; exact ⟨_,rfl⟩
  · rw [if_neg hj,if_neg hj]; exact ⟨_,rfl⟩
end
end L2
namespace L2
open PySem PySem.Spec PyProof.Rows
structure ObjM (h:Heap) (x dx C:Addr) (mA:Str→Option Value):Prop where
  obj:h.get? x = some (PySem.W.instObj C dx)
  ns:h.Ns1 dx mA
  ne:dx ≠ x
theorem lookIn_ns {h:Heap} {dx:Addr} {mA:Str→Option Value} (n:h.Ns1 dx mA):∃ od,h.get? dx = some od∧∀ name,PySem.W.lookIn name od = some (mA name):=by
  obtain ⟨o,es,ep,ho,hd,hk,_,hm⟩:=n
  refine ⟨o,ho,fun name=>?_⟩
  have e:=hm name
  unfold nsFind findBy at e
  rw [← Array.find?_toList] at e
  unfold PySem.W.lookIn
  rw [hd]
  dsimp only
  split
  · rename_i y q
    rw [q] at e
    exact congrArg some e
  · rename_i q
    rw [q] at e
    have a:es.toList.any (·.refKey) = false:=by
      rw [List.any_eq_false]
      intro y hy
      obtain ⟨z,t,hkey⟩:=hk y (Array.mem_toList_iff.mp hy)
      simp [DictEntry.refKey,hkey]
    have a':¬ es.toList.any (·.refKey) = true:=by rw [a]; exact Bool.false_ne_true
    rw [if_neg a']
    exact congrArg some e
theorem ObjM.look {h:Heap} {x dx C:Addr} {mA:Str→Option Value} (I:ObjM h x dx C mA):∃ od,PySem.W.InstAt h x (PySem.W.instObj C dx) C (some od)∧∀ name,PySem.W.lookIn name od = some (mA name) :=
  let ⟨od,ho,hl⟩:=lookIn_ns I.ns
  ⟨od,⟨I.obj,rfl,rfl,ho⟩,hl⟩
section
variable {prog:Program} {w:World} {A:Around} {E:Value→Shared→Prop} {s:Shared} {K:PySem.W.Frag} {x dx C f:Addr} {mA:Str→Option Value} {name:Str} {v:Value}
end
section
variable {P:Program} {w:World} {H H':Hp} {h h':Heap} {a C dx:Addr} {fs fs':List (Str×V)}
theorem ins_get (hok:HOk P w H h) (e:H a = some (.ins C dx fs)):∃ mA,ObjM h a dx C mA∧(∀ f,RelO (fs.lookup f) (mA f))∧PySem.Within mA (fs.map (·.1))∧fs.length ≤ 1000∧H dx = some (.own a):=by
  obtain ⟨d,z,ne,ob,mA,n,r,q⟩:=(show ObjOk P w H h a (.ins C dx fs) from hok a _ e)
  exact ⟨mA,⟨ob,n,ne⟩,r,q,z,d⟩
end
structure Cls (K:PySem.W.Frag) (C:Addr):Prop where
  pg:PySem.W.plainGet K C Str.empty = true
  hd:PySem.W.hasDictIn K C = true
  po:PySem.W.plainOver K C = true
  sa:PySem.W.findIn K (.ref C) "__setattr__" = some (some (.builtin "object.__setattr__"))
theorem Cls.get {K:PySem.W.Frag} {C:Addr} (c:Cls K C) (f:Str):PySem.W.plainGet K C f = true:=c.pg
structure Con (K:PySem.W.Frag) (C:Addr) (f:Str) (v:V) (u:Value):Prop where
  at_:PySem.W.findIn K (.ref C) f = some (some u)
  rel:RelV v u
  get:PySem.W.specialIn K u "__get__" = some none
  cp:PySem.W.copiedNames.contains f = false
structure Meth (K:PySem.W.Frag) (C:Addr) (m:Str) (f:Addr):Prop where
  at_:PySem.W.findIn K (.ref C) m = some (some (.ref f))
  fn:PySem.W.isFn K (.ref f) = true
  kp:PySem.W.keepIn K (.ref f) = true
section
variable {X:Cx} {pins:List (Addr×Obj)} {σ:St} {H:Hp} {s:Shared} {a C dx:Addr} {fs:List (Str×V)} {f:Str} {v:V} {A:Around} {E:Value→Shared→Prop}
end
section
variable {X:Cx} {o e value:Expr} {f:Str} {pos pos' tpos:Pos} {ta tv:TE}
end
section
variable {X:Cx} {pins:List (Addr×Obj)} {σ:St} {H:Hp} {s:Shared} {A:Around} {E:Value→Shared→Prop} {Q:Value→Shared→Prop} {c:Value} {b:Bool}
inductive TyOf (K:PySem.W.Frag) (H:Hp):V→Value→Prop where
  | non:TyOf K H .non (.type "NoneType")
  | bl (x:Bool):TyOf K H (.bl x) (.type "bool")
  | int (i:Int):TyOf K H (.int i) (.type "int")
  | str (x:Str):TyOf K H (.str x) (.type "str")
  | flt (x:UInt64):TyOf K H (.flt x) (.type "float")
  | lst {a:Addr} {xs:List V} (e:H a = some (.lst xs)):TyOf K H (.ref a) (.type "list")
  | frz {a:Addr} {o:Obj} {xs:List V} (e:H a = some (.frz o (.lst xs))):TyOf K H (.ref a) (.type "list")
  | tup {a:Addr} {xs:List V} (e:H a = some (.tup xs)):TyOf K H (.ref a) (.type "tuple")
  | dK {a:Addr} {kvs:List (Key×V)} (e:H a = some (.dK kvs)):TyOf K H (.ref a) (.type "dict")
  | dT {a:Addr} {kvs:List (List OKey×V)} (e:H a = some (.dT kvs)):TyOf K H (.ref a) (.type "dict")
  | ins {a C dx:Addr} {fs:List (Str×V)} (e:H a = some (.ins C dx fs)) (cl:Cls K C) (ha:PySem.W.findIn K (.ref C) "__class__" = some (some (.builtin "object.__class__")))
      (hn:PySem.W.specialIn K (.builtin "object.__class__") "__get__" = some (some (.builtin "getset_descriptor.__get__"))) (htk:PySem.W.takesIn K (.builtin "object.__class__") = some true)
      (hm:PySem.W.mroIn K C (.type "object") = some true):TyOf K H (.ref a) (.ref C)
theorem isinst_ok {x:V} {u t:Value} (I:Inv X pins σ H s) (rx:RelV x u) (ty:TyOf X.K H x t) (e:PySem.W.kitOne X.K t c = some b) (h:∀ tk,Q (.bool b) { s with toks:=tk }) :
    wpAny (model X.prog X.w) A (call (.builtin "isinstance") [u,c]) Q E s:=by
  cases ty with
  | non=>cases (show u = Value.none from rx); exact PySem.W.kia_one PySem.W.kitx_none I.kIn True.intro e (fun z=>nomatch z) h
  | bl y=>cases (show u = Value.bool y from rx); exact PySem.W.kia_one PySem.W.kitx_bool I.kIn True.intro e (fun z=>nomatch z) h
  | int i=>obtain ⟨t,q⟩:=(show ∃ t,u = Value.int i t from rx); cases q; exact PySem.W.kia_one PySem.W.kitx_int I.kIn True.intro e (fun z=>nomatch z) h
  | str y=>obtain ⟨t,q⟩:=(show ∃ t,u = Value.str y t from rx); cases q; exact PySem.W.kia_one PySem.W.kitx_str I.kIn True.intro e (fun z=>nomatch z) h
  | flt y=>obtain ⟨t,q⟩:=(show ∃ t,u = Value.float y t from rx); cases q; exact PySem.W.kia_one PySem.W.kitx_float I.kIn True.intro e (fun z=>nomatch z) h
  | @lst a xs ea =>
    cases (show u = Value.ref a from rx)
    obtain ⟨_,_,n,_,h1⟩:=(show ObjOk X.prog X.w H s.heap a (.lst xs) from I.hok a _ ea)
    exact PySem.W.kia_one PySem.W.kitx_list I.kIn ⟨_,h1,rfl⟩ e (fun z=>nomatch z) h
  | @frz a ob xs ea =>
    cases (show u = Value.ref a from rx)
    obtain ⟨_,_,_,n,_,h1⟩:=(show ObjOk X.prog X.w H s.heap a (.frz ob (.lst xs)) from I.hok a _ ea)
    exact PySem.W.kia_one PySem.W.kitx_list I.kIn ⟨_,h1,rfl⟩ e (fun z=>nomatch z) h
  | @tup a xs ea =>
    cases (show u = Value.ref a from rx)
    obtain ⟨_,_,_,p⟩:=(show ObjOk X.prog X.w H s.heap a (.tup xs) from I.hok a _ ea)
    obtain ⟨o,h1,h2,_⟩:=p
    exact PySem.W.kia_one PySem.W.kitx_tuple I.kIn ⟨o,h1,h2⟩ e (fun z=>nomatch z) h
  | @dK a kvs ea =>
    cases (show u = Value.ref a from rx)
    obtain ⟨_,_,vs,_,p⟩:=(show ObjOk X.prog X.w H s.heap a (.dK kvs) from I.hok a _ ea)
    obtain ⟨o,es,ep,h1,h2,_⟩:=p
    exact PySem.W.kia_one PySem.W.kitx_dict I.kIn ⟨o,h1,h2.1⟩ e (fun z=>nomatch z) h
  | @dT a kvs ea =>
    cases (show u = Value.ref a from rx)
    obtain ⟨_,_,xs,_,o,es,ep,h1,h2,_⟩:=(show ObjOk X.prog X.w H s.heap a (.dT kvs) from I.hok a _ ea)
    exact PySem.W.kia_one PySem.W.kitx_dict I.kIn ⟨o,h1,h2.1⟩ e (fun z=>nomatch z) h
  | @ins a C dx fs ea cl ha hn htk hm =>
    cases (show u = Value.ref a from rx)
    obtain ⟨mA,O,_⟩:=ins_get I.hok ea
    obtain ⟨od,J,_⟩:=O.look
    exact PySem.W.kia_one (PySem.W.kitx_own (cl.get _) cl.hd ha hn htk hm) I.kIn J e (fun z=>nomatch z) h
end
end L2
namespace L2
open PySem PySem.Spec PyProof.Rows
structure Room (k:Nat) (A:Around):Prop where
  hd:A.handled = none
  dp:A.depth + 3 * k + 5 < recursionLimit
  un:A.units + 16 * k + 200 < cLine
theorem Room.mono {j k:Nat} {A:Around} (r:Room k A) (h:j ≤ k):Room j A:=⟨r.hd,by have:=r.dp; omega,by have:=r.un; omega⟩
theorem Room.deeper {k:Nat} {A:Around} (r:Room (k + 1) A) (env:Env):Room k (A.deeper env) :=
  ⟨r.hd,by have:=r.dp; show A.depth + 1 + 3 * k + 5 < _; omega,by have:=r.un; show A.units + 3 + 16 * k + 200 < _; omega⟩
theorem Room.depth {k:Nat} {A:Around} (r:Room k A):A.depth < recursionLimit:=by have:=r.dp; omega
theorem Room.units {k:Nat} {A:Around} (r:Room k A):A.units + 64 < cLine:=by have:=r.un; omega
def tNil:TA:=fun _ H Q=>Q [] H
def tCons (ta:TE) (tr:TA):TA:=fun σ H Q=>ta σ H fun x H1=>tr σ H1 fun xs H2=>Q (x :: xs) H2
section
variable {X:Cx} {e:Expr} {es:List Expr} {te:TE} {t:TA} {pos:Pos}
theorem pa_nil:PA X [] tNil:=fun _ _ _ _ H Q I h=>Calls.spliced_nil ⟨[],H,I,.nil,h⟩
theorem pa_cons (ha:PE X e te) (hr:PA X es t) (hs:starEach (e :: es) X.env = (false,eval e X.env) :: starEach es X.env:=by rfl):PA X (e :: es) (tCons te t):=by
  intro pos pins s σ H Q I h
  rw [hs]
  show wpAny _ _ (spliced ((false,eval e X.env) :: backTo pos (starEach es X.env))) _ _ s
  refine Calls.spliced_cons (thn (ha pins s σ H _ I h) fun u s1 ⟨x,H1,I1,r1,q1⟩=>?_)
  exact thn (hr pos pins s1 σ H1 _ I1 q1) fun us s2 ⟨xs,H2,I2,r2,q2⟩=>⟨x :: xs,H2,I2,.cons r1 r2,q2⟩
def tTup (t:TA):TE:=fun σ H Q=>t σ H fun xs H1=>xs.length ≤ sizeLine∧∀ p,H1 p = none→Q (.ref p) (upd H1 p (.tup xs))
def tLst (t:TA):TE:=fun σ H Q=>t σ H fun xs H1=>xs.length ≤ sizeLine∧∀ p,H1 p = none→Q (.ref p) (upd H1 p (.lst xs))
theorem pe_tup {x1} (h:PA X es t):PE X (.Tuple es x1 pos) (tTup t):=by
  intro pins s σ H Q I hq
  refine wpAny_Tuple_spliced (thn (h pos pins s σ H _ I hq) fun us s1 ⟨xs,H1,I1,r,z,q⟩=>⟨by rw [← r.length]; exact z,?_⟩)
  have hf:H1 s1.heap.objs.size = none:=I1.hok.fresh (Nat.le_refl _)
  refine ⟨.ref s1.heap.objs.size,upd H1 s1.heap.objs.size (.tup xs),I1.laid (t':=s1.toks) (fun b u e=>Heap.get?_push_of_some _ e) (Nat.le_refl _) ?_,rfl,q _ hf⟩
  exact ⟨z,us,r,⟨_,Heap.get?_push_size _ rfl,rfl,⟨_,rfl⟩,rfl⟩⟩
theorem pe_lst (h:PA X es t):PE X (.List es pos) (tLst t):=by
  intro pins s σ H Q I hq
  refine wpAny_List_spliced (thn (h pos pins s σ H _ I hq) fun us s1 ⟨xs,H1,I1,r,z,q⟩=>⟨by rw [← r.length]; exact z,?_⟩)
  have hf:H1 s1.heap.objs.size = none:=I1.hok.fresh (Nat.le_refl _)
  refine ⟨.ref s1.heap.objs.size,upd H1 s1.heap.objs.size (.lst xs),I1.laid (t':=s1.toks) (fun b u e=>Heap.get?_push_of_some _ e) (Nat.le_refl _) ?_,rfl,q _ hf⟩
  exact ⟨z,us,0,r,Heap.get?_push_size _ rfl⟩
end
abbrev Sp:=List V→Hp→VK→XK→Prop
abbrev CXT:=List Env→Hp→Shared→XK→Value→Shared→Prop
structure Env0 (P:Program) (w:World) (K:PySem.W.Frag) (mg:Str→Option Value) (base:Heap) (A:Around) (outer:List Env) (s:Shared) (H:Hp):Prop where
  frames:A.frames = some outer
  mod:Mod K mg base
  bs:∀ b o,base.get? b = some o→s.heap.get? b = some o∧H b = none
  bsz:base.objs.size ≤ s.heap.objs.size
  funs:s.heap.FunFrames base outer
  frf:∀ b ∈ frs outer,H b = none
  hok:HOk P w H s.heap
  bare:AllBare s.gens
def CE (outer:List Env) (P:Program) (w:World) (H:Hp) (s:Shared) (Q:VK) (u:Value) (s':Shared):Prop :=
  ∃ v H',s'.os = s.os∧AllBare s'.gens∧Un (frs outer) [] H H' s.heap s'.heap∧HOk P w H' s'.heap∧RelV v u∧Q v H'
def CR (CX:CXT) (outer:List Env) (P:Program) (w:World) (H:Hp) (s:Shared) (Q:VK) (E:XK) (r:Result) (s':Shared):Prop :=
  match r with
  | .ok (.ret u)=>CE outer P w H s Q u s'
  | .ok _=>False
  | .error e=>CX outer H s E e s'
structure FnOk (P:Program) (w:World) (K:PySem.W.Frag) (mg:Str→Option Value) (base:Heap) (CX:CXT) (k:Nat) (f:Addr) (fd:FuncData) (ps:List Str) (sp:Sp):Prop where
  len:∀ vs H Q E,sp vs H Q E→vs.length = ps.length
  run:∀ (A:Around) (outer:List Env) (s:Shared) (H:Hp) (args:Args) (us:List Value) (vs:List V) (Q:VK) (E:XK),Room k A→Env0 P w K mg base A outer s H→BindsTo s fd args (ps.zip us)→Vals vs us→sp vs H Q E →
    codeAny (model P w) A (.call (.ref f) args) (CR CX outer P w H s Q E) s
theorem FnOk.mono {P:Program} {w:World} {K:PySem.W.Frag} {mg:Str→Option Value} {base:Heap} {CX:CXT} {j k:Nat} {f:Addr} {fd:FuncData} {ps:List Str} {sp:Sp} (F:FnOk P w K mg base CX j f fd ps sp) (h:j ≤ k) :
    FnOk P w K mg base CX k f fd ps sp:=⟨F.len,fun A outer s H args us vs Q E hr=>F.run A outer s H args us vs Q E (hr.mono h)⟩
theorem FnOk.imp {P:Program} {w:World} {K:PySem.W.Frag} {mg:Str→Option Value} {base:Heap} {CX:CXT} {k:Nat} {f:Addr} {fd:FuncData} {ps:List Str} {sp sp':Sp} (F:FnOk P w K mg base CX k f fd ps sp)
    (h:∀ vs H Q E,sp' vs H Q E→sp vs H Q E):FnOk P w K mg base CX k f fd ps sp' :=
  ⟨fun vs H Q E q=>F.len vs H Q E (h _ _ _ _ q),fun A outer s H args us vs Q E hr he hb hv hs=>F.run A outer s H args us vs Q E hr he hb hv (h _ _ _ _ hs)⟩
section
variable {X:Cx} {pins:List (Addr×Obj)} {σ:St} {H:Hp} {s s':Shared}
theorem Inv.env0 (I:Inv X pins σ H s):Env0 X.prog X.w X.K X.mg X.base X.A X.stack s H :=
  ⟨I.ok.frames,I.ok.mod,I.bs,Nat.le_trans I.ok.bsz I.sz,I.stack,I.stkFree,I.hok,I.bare⟩
theorem Inv.after {Q:VK} {u:Value} (I:Inv X pins σ H s) (h:CE X.stack X.prog X.w H s Q u s'):EP X pins σ Q u s':=by
  obtain ⟨v,H',os,bare,un,hok,r,q⟩:=h
  obtain ⟨hh,g,d,t,os'⟩:=s'
  obtain rfl:os' = s.os:=os
  exact ⟨v,H',I.call (h':=hh) (g':=g) (d':=d) (t':=t) (ch:=[]) un hok bare (fun b z=>absurd z (by simp)),r,q⟩
end
def tCall (sp:Sp) (dvs:List V) (E:XK) (t:TA):TE:=fun σ H Q=>t σ H fun vs H1=>sp (vs ++ dvs) H1 Q E
def Binds (K:PySem.W.Frag) (fd:FuncData) (ps:List Str) (ds:List Value):Prop :=
  ∀ (s:Shared) (us:List Value),K.In s.heap→(us ++ ds).length = ps.length→BindsTo s fd ⟨us,[]⟩ (ps.zip (us ++ ds))
theorem Binds.all {K:PySem.W.Frag} {fd:FuncData} {ps:List Str} (h:∀ us:List Value,us.length = ps.length→bindArgs fd ⟨us,[]⟩ = pure (ps.zip us)):Binds K fd ps []:=fun s us _ hl=>by
  rw [List.append_nil] at hl ⊢
  exact .of_eq (h us hl)
def Passes (CX:CXT) (X:Cx) (E:XK):Prop:=∀ (pins:List (Addr×Obj)) (σ:St) (H:Hp) (s:Shared) (e:Value) (s':Shared),Inv X pins σ H s→CX X.stack H s E e s'→X.xe e s'
section
variable {X:Cx} {CX:CXT} {k:Nat} {f C:Addr} {fd:FuncData} {ps:List Str} {sp:Sp} {dvs:List V} {ds:List Value} {E:XK} {x m:Str} {p pos apos:Pos} {e o:Expr} {es:List Expr} {ta:TE} {t:TA}
theorem run_fn {pins:List (Addr×Obj)} {σ:St} {H:Hp} {s:Shared} {Q:VK} {us:List Value} {vs:List V} (F:FnOk X.prog X.w X.K X.mg X.base CX k f fd ps sp) (hr:Room k X.A) (hb:Binds X.K fd ps ds) (hd:Vals dvs ds) (hx:Passes CX X E)
    (I:Inv X pins σ H s) (r:Vals vs us) (h:sp (vs ++ dvs) H Q E):wpAny (model X.prog X.w) X.A (call (.ref f) us) (EP X pins σ Q) X.xe s:=by
  have r2:Vals (vs ++ dvs) (us ++ ds):=r.append hd
  have hl:(us ++ ds).length = ps.length:=by rw [← r2.length]; exact F.len _ _ _ _ h
  refine wpAny_call (codeAny_mono (F.run X.A X.stack s H ⟨us,[]⟩ (us ++ ds) (vs ++ dvs) Q E hr I.env0 (hb s us I.kIn hl) r2 h) fun r s' hq=>?_)
  cases r with
  | error e=>exact hx pins σ H s e s' I hq
  | ok fl =>
    cases fl with
    | ret u=>exact I.after hq
    | next=>exact False.elim hq
    | brk=>exact False.elim hq
    | cont=>exact False.elim hq
theorem pe_call (F:FnOk X.prog X.w X.K X.mg X.base CX k f fd ps sp) (hr:Room k X.A) (hg:Gl X x) (hm:X.mg x = some (.ref f)) (hk:PySem.W.keepIn X.K (.ref f) = true) (hb:Binds X.K fd ps ds) (hd:Vals dvs ds) (hx:Passes CX X E)
    (ha:PA X (e :: es) t) (hdb:(x == ("__debug__" : Str)) = false:=by decide) (he:starEach (e :: es) X.env = (false,eval e X.env) :: starEach es X.env:=by rfl) (hpl:(backTo pos (starEach es X.env)).any (·.1) = false:=by rfl) :
    PE X (.Call (.Name x p) (e :: es) [] pos) (tCall sp dvs E t):=by
  intro pins s σ H Q I h
  refine wpAny_Call_Name_kw (ld_glob I hg hm ?_ hdb)
  refine PySem.W.callWith_K (h₀:=X.base) I.ok.mod.kin hk (thn (ha pos pins s σ H _ I h) fun us s1 ⟨vs,H1,I1,r,q⟩=>⟨I1.kIn,?_⟩) he hpl
  exact run_fn F hr hb hd hx I1 r q
structure Mk (K:PySem.W.Frag) (C f:Addr):Prop where
  makes:PySem.W.makesIn K C = true
  init:PySem.W.findIn K (.ref C) "__init__" = some (some (.ref f))
  fn:PySem.W.isFn K (.ref f) = true
  kp:PySem.W.keepIn K (.ref C) = true
end
section
variable {X:Cx} {CX:CXT} {k:Nat} {f C:Addr} {fd:FuncData} {ps ks:List Str} {sp:Sp} {E:XK} {x m:Str} {p pos apos kpos:Pos} {e o:Expr} {es:List Expr} {kws:List Keyword} {te ta:TE} {t tk:TA} {nm:Option Str}
structure KBinds (K:PySem.W.Frag) (fd:FuncData) (ps ks:List Str) (g:List Value→List Value→List Value) (gV:List V→List V→List V):Prop where
  to:∀ (s:Shared) (us ws:List Value),K.In s.heap→(g us ws).length = ps.length→BindsTo s fd ⟨us,ks.zip ws⟩ (ps.zip (g us ws))
  rel:∀ {vs:List V} {us:List Value} {zs:List V} {ws:List Value},Vals vs us→Vals zs ws→Vals (gV vs zs) (g us ws)
variable {g:List Value→List Value→List Value} {gV:List V→List V→List V}
end
structure FnScope (N P:List Str) (sc:Scope):Prop where
  kind:sc.kind = .function
  co:sc.isCoroutine = false
  gen:sc.isGenerator = false
  nd:N.Nodup
  pre:N.take P.length = P
  par:∀ x ∈ P,sc.names.lookup x = some .local∨sc.names.lookup x = some .cell
  nofree:∀ y ∈ sc.names,y.2 ≠ .free
theorem bindL_out {kindOf:Str→Option NameKind} {x:Str}:∀ {binds:List (Str×Value)} {m:Str→Option Value},(∀ v,(x,v) ∉ binds)→bindL kindOf binds m x = m x
  | [],_,_=>rfl
  | (n,v) :: r,m,h=>by
    unfold bindL
    rw [bindL_out fun w hw=>h w (List.mem_cons_of_mem _ hw)]
    split
    · have:x ≠ n:=by rintro rfl; exact h v List.mem_cons_self
      simp [this]
    · rfl
theorem bindC_out {kindOf:Str→Option NameKind} {x:Str}:∀ {binds:List (Str×Value)} {m:Str→Option Value},(∀ v,(x,v) ∉ binds)→bindC kindOf binds m x = m x
  | [],_,_=>rfl
  | (n,v) :: r,m,h=>by
    unfold bindC
    rw [bindC_out fun w hw=>h w (List.mem_cons_of_mem _ hw)]
    split
    · rfl
    · have:x ≠ n:=by rintro rfl; exact h v List.mem_cons_self
      simp [this]
theorem bindL_get {kindOf:Str→Option NameKind} {x:Str} {v:Value}:∀ {P:List Str} {vs:List Value} {i:Nat} {m:Str→Option Value},P.Nodup→P[i]? = some x→vs[i]? = some v→kindOf x = some .local →
    bindL kindOf (P.zip vs) m x = some v
  | [],_,_,_,_,h,_,_=>by simp at h
  | _ :: _,[],_,_,_,_,h,_=>by simp at h
  | p :: P,w :: vs,0,m,nd,h1,h2,hk=>by
    simp at h1 h2; subst h1; subst h2
    show bindL kindOf ((p,w) :: P.zip vs) m p = _
    unfold bindL
    rw [bindL_out fun v hv=>(List.nodup_cons.mp nd).1 (List.of_mem_zip hv).1,if_pos hk]
    simp
  | p :: P,w :: vs,i + 1,m,nd,h1,h2,hk=>by
    show bindL kindOf ((p,w) :: P.zip vs) m x = _
    unfold bindL
    exact bindL_get (i:=i) (List.nodup_cons.mp nd).2 (by simpa using h1) (by simpa using h2) hk
theorem bindC_get {kindOf:Str→Option NameKind} {x:Str} {v:Value}:∀ {P:List Str} {vs:List Value} {i:Nat} {m:Str→Option Value},P.Nodup→P[i]? = some x→vs[i]? = some v→kindOf x ≠ some .local →
    bindC kindOf (P.zip vs) m x = some v
  | [],_,_,_,_,h,_,_=>by simp at h
  | _ :: _,[],_,_,_,_,h,_=>by simp at h
  | p :: P,w :: vs,0,m,nd,h1,h2,hk=>by
    simp at h1 h2; subst h1; subst h2
    show bindC kindOf ((p,w) :: P.zip vs) m p = _
    unfold bindC
    rw [bindC_out fun v hv=>(List.nodup_cons.mp nd).1 (List.of_mem_zip hv).1,if_neg hk]
    simp
  | p :: P,w :: vs,i + 1,m,nd,h1,h2,hk=>by
    show bindC kindOf ((p,w) :: P.zip vs) m x = _
    unfold bindC
    exact bindC_get (i:=i) (List.nodup_cons.mp nd).2 (by simpa using h1) (by simpa using h2) hk
def start (N:List Str) (vs:List V):St:=vs.map some ++ List.replicate (N.length - vs.length) none
def cxOf (CX:CXT) (P:Program) (w:World) (K:PySem.W.Frag) (mg:Str→Option Value) (base:Heap) (N:List Str) (qual:Str) (scope:Scope) (f:Addr) (cd:Value) (A:Around) (outer:List Env) (s:Shared) (H:Hp) (E:XK):Cx where
  prog:=P
  w:=w
  K:=K
  mg:=mg
  base:=base
  A:=A.deeper (envOfC qual scope s.heap.objs.size f cd)
  N:=N
  s₀:=s
  H₀:=H
  env:=envOfC qual scope s.heap.objs.size f cd
  outer:=outer
  stack:=envOfC qual scope s.heap.objs.size f cd :: outer
  ex:=[]
  calm:=true
  fn:=fun _=>true
  pn:=[]
  xe:=fun e s'=>wpAny (model P w) (A.deeper (envOfC qual scope s.heap.objs.size f cd)) (leaving (envOfC qual scope s.heap.objs.size f cd) e) (fun _ s''=>CX outer H s E e s'') (fun e' s''=>CX outer H s E e' s'') s'
theorem cell_has {sc:Scope} {n:Nat} {x:Str} (h:sc.names.lookup x = some .cell):∃ c,(cellsFrom n sc.names []).lookup x = some c:=by
  have q:=PySem.W.cellsFrom_some sc.names n [] (.inl h)
  exact Option.isSome_iff_exists.mp q
theorem inv_start {CX:CXT} {P:Program} {w:World} {K:PySem.W.Frag} {mg:Str→Option Value} {base:Heap} {N ps:List Str} {qual:Str} {scope:Scope} {f:Addr} {cd:Value} {A:Around} {outer:List Env} {s s1:Shared} {H:Hp} {E:XK} {us:List Value} {vs:List V}
    (S:FnScope N ps scope) (hd:A.handled = none) (e0:Env0 P w K mg base A outer s H) (hl:vs.length = ps.length) (r:Vals vs us)
    (x:InCallC s s.heap.objs.size (bindL (envOfC qual scope s.heap.objs.size f cd).kindOf (ps.zip us) fun _=>none) (cellsFrom (s.heap.objs.size + 1) scope.names []) (bindC (envOfC qual scope s.heap.objs.size f cd).kindOf (ps.zip us) fun _=>none) s1) :
    Inv (cxOf CX P w K mg base N qual scope f cd A outer s H E) [] (start N vs) H s1:=by
  have hpl:ps.length ≤ N.length:=by have:=congrArg List.length S.pre; rw [List.length_take] at this; omega
  obtain ⟨h1,tk,rfl,hk⟩:=x.done
  have noA:∀ b:Addr,b ∉ (cxOf CX P w K mg base N qual scope f cd A outer s H E).ex:=fun b z=>absurd (show b ∈ ([]:List Addr) from z) (by simp)
  refine ⟨⟨e0.mod,S.kind,rfl,rfl,Nat.le_refl _,fun y z c h1 h2=>?_,fun y hy=>?_,fun y c _ h=>?_,fun _=>hd,Around.frames_deeper e0.frames,.inr ⟨rfl,rfl⟩,fun b z=>absurd z (noA b),e0.bs,e0.bsz,fun b _ _=>noA b,fun b z=>absurd z (noA b),e0.funs,e0.frf⟩,
    rfl,e0.bare,Un.kept hk,⟨_,x.toInCall.ns,fun i y v h1 h2 h3=>?_⟩,fun y c h=>⟨_,x.cell y c h⟩,e0.hok.fresh (Nat.le_refl _),fun y c h=>?_,fun p hp=>absurd (show p ∈ ([]:List (Addr×Obj)) from hp) (by simp),e0.hok.kept hk,?_⟩
  · exact name_of_addr x.apart (PySem.mem_of_lookup h1) (PySem.mem_of_lookup h2)
  · have hy:scope.names.lookup y = some .cell∨scope.names.lookup y = some .free:=hy
    rcases hy with hy | hy
    · exact cell_has hy
    · exact absurd rfl (S.nofree _ (PySem.mem_of_lookup hy))
  · exact Nat.le_of_lt (x.above y c (PySem.mem_of_lookup h))
  · have hi:i < vs.length:=by
      unfold start at h2
      by_cases hi:i < vs.length
      · exact hi
      · rw [List.getElem?_append_right (by simpa using hi)] at h2
        rw [List.getElem?_replicate] at h2
        split at h2 <;> cases h2
    have ha:vs[i]? = some v:=by
      unfold start at h2
      rw [List.getElem?_append_left (by simpa using hi),List.getElem?_map] at h2
      cases e:vs[i]? with
      | none=>rw [e] at h2; cases h2
      | some a=>rw [e] at h2; cases h2; rfl
    obtain ⟨u,hu,rv⟩:=r.get ha
    have hp:ps[i]? = some y:=by
      rw [← S.pre,List.getElem?_take_of_lt (by omega)]; exact h1
    have ndP:ps.Nodup:=by rw [← S.pre]; exact S.nd.sublist (List.take_sublist _ _)
    refine ⟨u,rv,?_⟩
    rcases S.par y (List.mem_of_getElem? hp) with k | k
    · exact .inl ⟨k,bindL_get ndP hp hu k⟩
    · obtain ⟨c,e⟩:=cell_has (n:=s.heap.objs.size + 1) k
      refine .inr ⟨.inl k,c,e,?_⟩
      have q:=x.cell y c e
      rw [bindC_get ndP hp hu (by show scope.names.lookup y ≠ _; rw [k]; decide)] at q
      exact q
  · exact e0.hok.fresh (Nat.le_of_lt (x.above y c (PySem.mem_of_lookup h)))
  · unfold start
    show _ = N.length
    rw [List.length_append,List.length_map,List.length_replicate]
    omega
theorem fn_of {CX:CXT} {P:Program} {w:World} {K:PySem.W.Frag} {mg:Str→Option Value} {base:Heap} {k:Nat} {f:Addr} {name qual:Str} {params:Arguments} {body:List Stmt} {scope:Scope} {dV kV doc pm cdv ct oc:Value} {an od:Option Addr}
    {osl:Array (Option Value)} {N ps:List Str} {sp:Sp} (lk:K.lookup f = some ⟨oc,od,.func (PySem.W.fnOf name qual params body scope dV kV doc pm an cdv ct),osl⟩) (hcd:PySem.W.codeIn K cdv qual = true) (S:FnScope N ps scope)
    (len:∀ vs H Q E,sp vs H Q E→vs.length = ps.length)
    (hbody:∀ (A:Around) (outer:List Env) (s:Shared) (H:Hp) (vs:List V) (Q:VK) (E:XK),Room k (A.deeper (envOfC qual scope s.heap.objs.size f cdv))→sp vs H Q E →
      ∃ t,PSs (cxOf CX P w K mg base N qual scope f cdv A outer s H E) body t∧t { nx:=fun _ H'=>Q .non H',rt:=Q } (start N vs) H) :
    FnOk P w K mg base CX (k + 1) f (PySem.W.fnOf name qual params body scope dV kV doc pm an cdv ct) ps sp:=by
  refine ⟨len,fun A outer s H args us vs Q E hr e0 hb r hsp=>?_⟩
  have hl:=len _ _ _ _ hsp
  have KX:K.In s.heap:=e0.mod.kin.keeps fun b o e=>(e0.bs b o e).1
  have lim:s.heap.NoLimit:=e0.mod.nolimit.keeps fun b o e=>(e0.bs b o e).1
  have hkind:∀ y ∈ ps.zip us,scope.names.lookup y.1 = some .local∨(scope.names.lookup y.1 = some .cell∧((cellsFrom (s.heap.objs.size + 1) scope.names []).lookup y.1).isSome = true):=fun ⟨n,v⟩ hy=>by
    rcases S.par n (List.of_mem_zip hy).1 with q | q
    · exact .inl q
    · exact .inr ⟨q,PySem.W.cellsFrom_some _ _ _ (.inl q)⟩
  refine codeAny_call_function hr.depth (KX _ _ lk) rfl S.co S.gen rfl (PySem.W.codeRec_of KX hcd) (hb _ _ _ _ ?_)
  refine wpAny_newFunctionEnv_cells S.kind hkind fun env he s1 x=>?_
  subst he
  refine ⟨lim.keeps x.toInCall.keep,codeAny_func ?_⟩
  obtain ⟨t,ht,hq⟩:=hbody A outer s H vs Q E (hr.deeper _) hsp
  have I:Inv (cxOf CX P w K mg base N qual scope f cdv A outer s H E) [] (start N vs) H s1:=inv_start S hr.hd e0 hl r x
  refine wpAny_mono (ht [] s1 (start N vs) H _ I hq) (fun fl s' hs=>?_) fun e s' hs=>hs
  have fin:∀ {σ':St} {H':Hp} {v:V} {u:Value},Inv (cxOf CX P w K mg base N qual scope f cdv A outer s H E) [] σ' H' s'→RelV v u→Q v H'→CE outer P w H s Q u s' :=
    fun {σ' H' v u} J rv q=>⟨v,H',J.os,J.bare,J.base,J.hok,rv,q⟩
  cases fl with
  | ret u =>
    obtain ⟨v,σ',H',J,rv,q⟩:=hs
    exact fin J rv q
  | next =>
    obtain ⟨σ',H',J,q⟩:=hs
    exact fin (v:=V.non) (u:=Value.none) J rfl q
  | brk =>
    obtain ⟨_,_,_,q⟩:=hs
    exact False.elim q
  | cont =>
    obtain ⟨_,_,_,q⟩:=hs
    exact False.elim q
end L2
namespace L2
open PySem PySem.Spec PyProof.Rows
section
variable {X:Cx} {x:Str} {p pos:Pos} {e:Expr} {es:List Expr} {t:TA} {id T:String} {r:List V→Hp→VK→Prop}
def tCB (r:List V→Hp→VK→Prop) (t:TA):TE:=fun σ H Q=>t σ H fun vs H1=>r vs H1 Q
theorem pe_callB (hc:CallR X (.builtin id) r) (hg:Gl X x) (hm:X.mg x = none) (hv:bootBuiltins x = some (.builtin id)) (ha:PA X (e :: es) t) (hn:x ≠ "__name__":=by decide) (hdb:(x == ("__debug__" : Str)) = false:=by decide)
    (he:starEach (e :: es) X.env = (false,eval e X.env) :: starEach es X.env:=by rfl) (hpl:(backTo pos (starEach es X.env)).any (·.1) = false:=by rfl):PE X (.Call (.Name x p) (e :: es) [] pos) (tCB r t):=by
  intro pins s σ H Q I h
  refine wpAny_Call_Name_kw (ld_blt I hg hm hv ?_ hn hdb)
  exact PyProof.Rows.callWith_builtin1 (thn (ha pos pins s σ H _ I h) fun us s1 ⟨vs,H1,I1,r1,q1⟩=>hc pins s1 σ H1 vs us Q I1 r1 q1) he hpl
theorem pe_callTy (hc:CallR X (.type T) r) (hg:Gl X x) (hm:X.mg x = none) (hv:bootBuiltins x = some (.type T)) (ha:PA X (e :: es) t) (hn:x ≠ "__name__":=by decide) (hdb:(x == ("__debug__" : Str)) = false:=by decide)
    (he:starEach (e :: es) X.env = (false,eval e X.env) :: starEach es X.env:=by rfl) (hpl:(backTo pos (starEach es X.env)).any (·.1) = false:=by rfl):PE X (.Call (.Name x p) (e :: es) [] pos) (tCB r t):=by
  intro pins s σ H Q I h
  refine wpAny_Call_Name_kw (ld_blt I hg hm hv ?_ hn hdb)
  exact PyProof.Rows.callWith_type1 (thn (ha pos pins s σ H _ I h) fun us s1 ⟨vs,H1,I1,r1,q1⟩=>hc pins s1 σ H1 vs us Q I1 r1 q1) he hpl
end
end L2
namespace HT
open PySem PyProof.Rows
section
open PySem.SeqAt
open PySem.AutoSeq1 (wpAny_loadPart')
open PySem.MeetsSeq PySem.MeetsSeq2 PySem.MeetsSeq3
end
section
variable {prog:Program} {w:World} {A:Around} {E:Value→Shared→Prop} {s:Shared}
theorem cat_tup {t b:Addr} {vs ws:List Value} {Q:Value→Shared→Prop} (ht:IsTup s.heap t vs.toArray) (hb:IsTup s.heap b ws.toArray) (hv:vs ≠ [])
    (h1:ws = []→Q (.ref t) s) (h2:ws ≠ []→Q (.ref s.heap.objs.size) { s with heap:=s.heap.push { cls:=.type "tuple", data:=.seq (vs ++ ws).toArray } })
    (hsz:vs.length + ws.length ≤ sizeLine):wpAny (model prog w) A (binaryOp .Add (.ref t) (.ref b)) Q E s:=by
  obtain ⟨⟨cls,dd,data,sl⟩,ho,hc,n,hd⟩:=id ht
  obtain ⟨⟨cls2,dd2,data2,sl2⟩,ho2,hc2,n2,hd2⟩:=id hb
  simp only at hc hd hc2 hd2
  subst hc hd hc2 hd2
  have e:vs.toArray ++ ws.toArray = (vs ++ ws).toArray:=by simp
  by_cases hw:ws = []
  · exact concat_meets ⟨_,ho,rfl⟩ ⟨_,ho2,rfl⟩ noFill_tuple_add seq_tuple_add PySem.F.slot_tuple_add PySem.F.entry_tuple_add (PySem.F.args_tuple_add_2 _ _)
      (tuple_addW1 t b vs.toArray ws.toArray n n2 dd dd2 sl sl2 (by simpa using hv) (by simp [hw])) ⟨ho,ho2,h1 hw⟩
  · refine concat_meets ⟨_,ho,rfl⟩ ⟨_,ho2,rfl⟩ noFill_tuple_add seq_tuple_add PySem.F.slot_tuple_add PySem.F.entry_tuple_add (PySem.F.args_tuple_add_2 _ _)
      (tuple_addW2 t b vs.toArray ws.toArray n n2 dd dd2 sl sl2 (by simpa using hv) (by simpa using hw) (by rw [List.size_toArray,List.size_toArray]; exact hsz)) ⟨ho,ho2,?_⟩
    rw [e]
    exact h2 hw
def sIx (n d:Nat):Option Int→Nat
  | none=>d
  | some v=>if v < 0 then (v + (n:Int)).toNat else min v.toNat n
theorem sIx_none (n d:Nat):sIx n d none = d:=rfl
theorem sIx_nat (n d k:Nat):sIx n d (some (k:Int)) = min k n:=by
  show (if (k:Int) < 0 then ((k:Int) + (n:Int)).toNat else min (k:Int).toNat n) = min k n
  rw [if_neg (by omega),Int.toNat_natCast]
end
end HT
namespace L2
open PySem PySem.Spec PyProof.Rows
abbrev TO:=St→Hp→(Option Int→Hp→Prop)→Prop
def PO (X:Cx) (e:Option Expr) (t:TO):Prop :=
  ∀ (pins:List (Addr×Obj)) (s:Shared) (σ:St) (H:Hp) (Q:Option Int→Hp→Prop),Inv X pins σ H s→t σ H Q →
    wpAny (model X.prog X.w) X.A (evalPart e X.env) (fun u s'=>∃ o H',Inv X pins σ H' s'∧IsPart u o∧Q o H') X.xe s
def tNoPart:TO:=fun _ H Q=>Q none H
def tPart (t:TE):TO:=fun σ H Q=>t σ H fun x H1=>∃ i,x = .int i∧Q (some i) H1
section
variable {X:Cx} {e:Expr} {te:TE} {lo hi:Option Expr} {tl th:TO} {pos p2:Pos}
theorem po_none:PO X none tNoPart:=by
  intro pins s σ H Q I h
  rw [evalPart_none]
  exact wpAny_pure ⟨none,H,I,.none,h⟩
theorem po_some (h:PE X e te):PO X (some e) (tPart te):=by
  intro pins s σ H Q I hw
  rw [evalPart_some]
  refine thn (h pins s σ H _ I hw) fun u s1 ⟨x,H1,I1,r1,q1⟩=>?_
  obtain ⟨i,rfl,q⟩:=q1
  obtain ⟨t,rfl⟩:=r1
  exact ⟨some i,H1,I1,.int i t,q⟩
def SlR (X:Cx) (r:V→Option Int→Option Int→Hp→VK→Prop):Prop :=
  ∀ (pins:List (Addr×Obj)) (s:Shared) (σ:St) (H:Hp) (x:V) (v vl vu:Value) (lo hi:Option Int) (sl:Addr) (Q:VK),Inv X pins σ H s→RelV x v→s.heap.IsSliceOf sl vl vu .none→IsPart vl lo→IsPart vu hi→r x lo hi H Q →
    ∃ T id,typeLookup (.type T) "__getitem__" = pure (some (.builtin id))∧s.TypeIs v T∧wpAny (model X.prog X.w) X.A (getItem v (.ref sl)) (EP X pins σ Q) X.xe s
def tSl (r:V→Option Int→Option Int→Hp→VK→Prop) (te:TE) (tl th:TO):TE:=fun σ H Q=>te σ H fun x H1=>tl σ H1 fun l H2=>th σ H2 fun u H3=>r x l u H3 Q
theorem pe_slice {r:V→Option Int→Option Int→Hp→VK→Prop} (hr:SlR X r) (he:PE X e te) (hl:PO X lo tl) (hu:PO X hi th):PE X (.Subscript e (.Slice lo hi none p2) pos) (tSl r te tl th):=by
  intro pins s σ H Q I h
  refine Subscript_ (thn (he pins s σ H _ I h) fun v s1 ⟨x,H1,I1,r1,q1⟩=>?_)
  refine wpAny_Slice (thn (hl pins s1 σ H1 _ I1 q1) fun vl s2 ⟨l,H2,I2,pl,q2⟩=>thn (hu pins s2 σ H2 _ I2 q2) fun vu s3 ⟨u,H3,I3,pu,q3⟩=>?_)
  rw [evalPart_none]
  refine wpAny_pure ?_
  have I4:Inv X pins σ H3 { s3 with heap:=s3.heap.push { cls:=.type "slice", data:=.fields #[vl,vu,.none] } }:=I3.kept (t':=s3.toks) fun b ob q=>Heap.get?_push_of_some _ q
  obtain ⟨T,id,hT,ht,hg⟩:=hr pins { s3 with heap:=s3.heap.push { cls:=.type "slice", data:=.fields #[vl,vu,.none] } } σ H3 x v vl vu l u s3.heap.objs.size Q I4 r1 (Heap.IsSliceOf.new ..) pl pu q3
  show wpAny (model X.prog X.w) X.A (subscriptTail e (.Slice lo hi none p2) v (.ref s3.heap.objs.size)) (EP X pins σ Q) X.xe { s3 with heap:=s3.heap.push { cls:=.type "slice", data:=.fields #[vl,vu,.none] } }
  exact tail_any (ops:=[.ref s3.heap.objs.size,v]) ht hT hg (by with_unfolding_all rfl)
def cutV (xs:List V) (lo hi:Option Int):List V:=(xs.drop (HT.sIx xs.length 0 lo)).take (HT.sIx xs.length xs.length hi - HT.sIx xs.length 0 lo)
theorem cutV_length (xs:List V) (lo hi:Option Int):(cutV xs lo hi).length ≤ xs.length:=by
  unfold cutV
  rw [List.length_take,List.length_drop]
  omega
def rCatT (K:PySem.W.Frag):R2:=fun x y H Q=>∃ a b xs ys,x = .ref a∧y = .ref b∧SqT K H a xs∧SqT K H b ys∧xs ≠ []∧xs.length + ys.length ≤ sizeLine ∧
  (ys = []→Q (.ref a) H)∧(ys ≠ []→∀ p,H p = none→Q (.ref p) (upd H p (.tup (xs ++ ys))))
theorem Vals.nil_iff {xs:List V} {us:List Value} (r:Vals xs us):us = [] ↔ xs = []:=by
  cases r with
  | nil=>simp
  | cons _ _=>simp
theorem op_catT:OpR X (binaryOp .Add) (rCatT X.K):=by
  intro pins s σ H x y v u Q I rx ry h
  obtain ⟨a,b,xs,ys,rfl,rfl,ha,hb,hx,hz,q1,q2⟩:=h
  cases rx
  cases ry
  obtain ⟨its,r1,p1,_⟩:=I.tuple ha
  obtain ⟨its2,r2,p2,_⟩:=I.tuple hb
  refine HT.cat_tup p1 p2 (fun z=>hx (r1.nil_iff.mp z)) (fun z=>⟨.ref a,H,I,rfl,q1 (r2.nil_iff.mp z)⟩) (fun z=>?_) (by rw [← r1.length,← r2.length]; exact hz)
  refine ⟨.ref s.heap.objs.size,_,I.laid (t':=s.toks) (o:=.tup (xs ++ ys)) (fun b ob q=>Heap.get?_push_of_some _ q) (Nat.le_refl _) ?_,rfl,q2 (fun w=>z (r2.nil_iff.mpr w)) _ (I.hok.fresh (Nat.le_refl _))⟩
  exact ⟨by rw [List.length_append]; exact hz,_,r1.append r2,IsTupN.new _ _⟩
end
end L2
namespace L2
open PySem PySem.Spec PyProof.Rows
def ixN (n:Nat) (i:Int):Option Nat:=if 0 ≤ i then (if i < n then some i.toNat else none) else if -(n:Int) ≤ i then some (i + n).toNat else none
def atI {α:Type} (xs:List α) (i:Int):Option α:=(ixN xs.length i).bind fun j=>xs[j]?
theorem ixN_seq {n:Nat} {i:Int} {j:Nat} (h:ixN n i = some j):seqIndex? i n = some j∧j < n∧-(n:Int) ≤ i∧i < n:=by
  unfold ixN at h
  by_cases h0:0 ≤ i
  · rw [if_pos h0] at h
    by_cases h1:i < n
    · rw [if_pos h1] at h
      have e:i.toNat = j:=Option.some.inj h
      exact ⟨by rw [seqIndex_of h0 h1,e],by omega,by omega,h1⟩
    · rw [if_neg h1] at h; cases h
  · rw [if_neg h0] at h
    by_cases h1:-(n:Int) ≤ i
    · rw [if_pos h1] at h
      have e:(i + n).toNat = j:=Option.some.inj h
      exact ⟨by rw [seqIndex_neg (by omega) h1,e],by omega,h1,by omega⟩
    · rw [if_neg h1] at h; cases h
theorem atI_get {α:Type} {xs:List α} {i:Int} {v:α} (h:atI xs i = some v):∃ j,seqIndex? i xs.length = some j∧xs[j]? = some v∧j < xs.length∧-(xs.length:Int) ≤ i∧i < xs.length:=by
  unfold atI at h
  cases e:ixN xs.length i with
  | none=>rw [e] at h; cases h
  | some j =>
    rw [e] at h
    obtain ⟨h1,h2,h3,h4⟩:=ixN_seq e
    exact ⟨j,h1,h,h2,h3,h4⟩
theorem atI_nat {α:Type} {xs:List α} {j:Nat} {v:α} (h:xs[j]? = some v):atI xs (j:Int) = some v:=by
  have hj:j < xs.length:=(List.getElem?_eq_some_iff.mp h).1
  have e:ixN xs.length (j:Int) = some j:=by
    unfold ixN
    rw [if_pos (by omega),if_pos (by omega)]; simp
  unfold atI; rw [e]; exact h
theorem atI_last {α:Type} (xs:List α) (v:α):atI (xs ++ [v]) (-1) = some v:=by
  have hl:(xs ++ [v]).length = xs.length + 1:=by simp
  have e:ixN (xs ++ [v]).length (-1) = some xs.length:=by
    unfold ixN
    rw [hl,if_neg (by decide),if_pos (by omega)]
    congr 1
    omega
  unfold atI
  rw [e]
  show (xs ++ [v])[xs.length]? = some v
  simp
def PlainIx (b:Expr):Prop:=∀ o i,subscripted b false o i = operate [o,i] (getItem o i)
def IxR (X:Cx) (r:R2):Prop :=
  ∀ (value slice:Expr) (pins:List (Addr×Obj)) (s:Shared) (σ:St) (H:Hp) (x y:V) (v u:Value) (Q:VK),Inv X pins σ H s→RelV x v→RelV y u→r x y H Q →
    subscripted slice false v u = operate [v,u] (getItem v u)→wpAny (model X.prog X.w) X.A (subscriptTail value slice v u) (EP X pins σ Q) X.xe s
def MtR (X:Cx) (id:String) (r:V→List V→Hp→VK→Prop):Prop :=
  ∀ (pins:List (Addr×Obj)) (s:Shared) (σ:St) (H:Hp) (x:V) (xs:List V) (v:Value) (us:List Value) (Q:VK),Inv X pins σ H s→RelV x v→Vals xs us→r x xs H Q →
    wpAny (model X.prog X.w) X.A (call (.builtin id) (v :: us)) (EP X pins σ Q) X.xe s
section
variable {X:Cx} {a b:Expr} {ta tb:TE} {pos:Pos}
theorem pe_ix {r:R2} (hr:IxR X r) (ha:PE X a ta) (hb:PE X b tb) (hs:PlainIx b):PE X (.Subscript a b pos) (tOp r ta tb):=by
  intro pins s σ H Q I h
  exact Subscript_ (binT ha hb I h fun v u s2 x y H2 I2 rx ry q=>hr a b pins s2 σ H2 x y v u Q I2 rx ry q (hs _ _))
def rIxL (K:PySem.W.Frag):R2:=fun x y H Q=>∃ p xs i v,x = .ref p∧y = .int i∧SqL K H p xs∧atI xs i = some v∧Q v H
def rIxT (K:PySem.W.Frag):R2:=fun x y H Q=>∃ p xs i v,x = .ref p∧y = .int i∧SqT K H p xs∧atI xs i = some v∧Q v H
def rIxS:R2:=fun x y H Q=>∃ z i c,x = .str z∧y = .int i∧z.length ≤ sizeLine∧atI z.cps.toList i = some c∧Q (.str ⟨#[c]⟩) H
theorem ix_list:IxR X (rIxL X.K):=by
  intro value slice pins s σ H x y v u Q I rx ry h hs
  obtain ⟨p,xs,i,z,rfl,rfl,hq,he,q⟩:=h
  cases rx
  obtain ⟨t,rfl⟩:=ry
  obtain ⟨its,r,pl,hz⟩:=I.list hq
  obtain ⟨j,h1,h2,h3,h4,h5⟩:=atI_get he
  obtain ⟨w,ew,rw'⟩:=r.get h2
  have hl:=r.length
  have hn:=line63
  have fin:EP X pins σ Q w s:=⟨z,H,I,rw',q⟩
  by_cases h0:0 ≤ i
  · have hj:i.toNat = j:=by
      rw [seqIndex_of h0 h5] at h1
      exact Option.some.inj h1
    exact item_listR pl.isList h0 (by omega) (by rw [hj]; simpa using ew) fin hs
  · have hj:(i + (its.toArray.size:Int)).toNat = j:=by
      rw [seqIndex_neg (by omega) h4] at h1
      rw [List.size_toArray,← hl]
      exact Option.some.inj h1
    exact subscriptTail_builtinR (x:=w) pl.isList.typeIs slot_list_getitem.lookup
      (wpAny_getItem_list_neg (Q:=fun r s'=>r = w∧EP X pins σ Q r s') pl.isList (by omega) (by rw [List.size_toArray] <;> omega) (by omega) (by rw [hj]; simpa using ew) ⟨rfl,fin⟩) hs
theorem ix_tup:IxR X (rIxT X.K):=by
  intro value slice pins s σ H x y v u Q I rx ry h hs
  obtain ⟨p,xs,i,z,rfl,rfl,hq,he,q⟩:=h
  cases rx
  obtain ⟨t,rfl⟩:=ry
  obtain ⟨its,r,pl,hz⟩:=I.tuple hq
  obtain ⟨j,h1,h2,h3,h4,h5⟩:=atI_get he
  obtain ⟨w,ew,rw'⟩:=r.get h2
  have hl:=r.length
  have hn:=line63
  have fin:EP X pins σ Q w s:=⟨z,H,I,rw',q⟩
  exact subscriptTail_builtinR (x:=w) pl.typeIs slot_tuple_getitem.lookup
    (getItem_tuple (j:=j) (Q:=fun r s'=>r = w∧EP X pins σ Q r s') pl (by omega) (by omega) (by rw [List.size_toArray,← hl]; exact h1) (by simpa using ew) ⟨rfl,fin⟩) hs
theorem ix_str:IxR X rIxS:=by
  intro value slice pins s σ H x y v u Q I rx ry h hs
  obtain ⟨z,i,c,rfl,rfl,hz,he,q⟩:=h
  obtain ⟨t,rfl⟩:=rx
  obtain ⟨t',rfl⟩:=ry
  obtain ⟨j,h1,h2,h3,h4,h5⟩:=atI_get he
  have hl:z.cps.toList.length = z.length:=by simp [Str.length]
  rw [hl] at h1 h4 h5
  have hn:=line63
  exact tail_any (typeIs_str s z t) slot_str_getitem.lookup (getItem_str (c:=c) (by
    have e1:decide (i < -(2 ^ 63:Int)) = false:=decide_eq_false (by omega)
    have e2:decide (i ≥ 2 ^ 63) = false:=decide_eq_false (by omega)
    rw [e1,e2,Bool.or_false]) (by rw [h1]; simpa using h2) ⟨.str ⟨#[c]⟩,H,I.tok _,⟨_,rfl⟩,q⟩) hs
theorem mapSeq_set (its:List Value) (n j:Nat) (u:Value):Obj.mapSeq (·.setIfInBounds j u) { cls:=.type "list", data:=.seq its.toArray n } = { cls:=.type "list", data:=.seq (its.set j u).toArray n }:=by
  simp [Obj.mapSeq]
theorem Inv.lst {pins:List (Addr×Obj)} {σ:St} {H:Hp} {s:Shared} {p:Addr} {xs:List V} (I:Inv X pins σ H s) (h:H p = some (.lst xs)) :
    ∃ (its:List Value) (n:Nat),Vals xs its∧s.heap.get? p = some { cls:=.type "list", data:=.seq its.toArray n }∧xs.length ≤ sizeLine:=by
  obtain ⟨z,its,n,r,e⟩:=I.hok p _ h
  exact ⟨its,n,r,e,z⟩
theorem Inv.lstUpd {pins:List (Addr×Obj)} {σ:St} {H:Hp} {s:Shared} {p:Addr} {xs ys:List V} {its its':List Value} {n n':Nat} {f:Obj→Obj} (I:Inv X pins σ H s) (h:H p = some (.lst xs))
    (ho:s.heap.get? p = some { cls:=.type "list", data:=.seq its.toArray n }) (hf:f { cls:=.type "list", data:=.seq its.toArray n } = { cls:=.type "list", data:=.seq its'.toArray n' }) (r:Vals ys its') (hz:ys.length ≤ sizeLine) (t:Nat) :
    Inv X pins σ (upd H p (.lst ys)) { s with heap:=s.heap.update p f,toks:=t }:=by
  have e:(s.heap.update p f).get? p = some { cls:=.type "list", data:=.seq its'.toArray n' }:=by
    rw [Heap.get?_update_self f ho (by rw [hf] <;> rfl),hf]
  refine I.write (x:=p) (e:=p) (by rw [h]; trivial) (.inl rfl) (fun b u hb q=>(Heap.get?_update_other _ _ (Ne.symm hb)).trans q) ⟨_,e⟩ ?_
  exact ⟨hz,its',n',r,e⟩
def rSetL:V→V→V→Hp→(Hp→Prop)→Prop:=fun o i v H Q=>∃ p xs k j,o = .ref p∧i = .int k∧H p = some (.lst xs)∧ixN xs.length k = some j∧Q (upd H p (.lst (xs.set j v)))
theorem set_list:PSet X rSetL:=by
  intro pins s σ H o i v ov iv u Q I ro ri rv h
  obtain ⟨p,xs,k,j,rfl,rfl,hp,hj,q⟩:=h
  cases ro
  obtain ⟨t,rfl⟩:=ri
  obtain ⟨its,n,r,ho,hz⟩:=I.lst hp
  obtain ⟨h1,h2,h3,h4⟩:=ixN_seq hj
  have hl:=r.length
  have hn:=line63
  have I':Inv X pins σ (upd H p (.lst (xs.set j v))) { s with heap:=s.heap.update p (Obj.mapSeq (·.setIfInBounds j u)) } :=
    I.lstUpd hp ho (mapSeq_set its n j u) (r.set rv j) (by rw [List.length_set]; exact hz) s.toks
  by_cases h0:0 ≤ k
  · have hk:k.toNat = j:=by
      rw [seqIndex_of h0 h4] at h1
      exact Option.some.inj h1
    exact PySem.W.ki_setAt ho h0 (by omega) (by rw [List.size_toArray,← hl]; exact h4) (by rw [hk]; exact ⟨_,I',q⟩)
  · have hk:(k + (its.toArray.size:Int)).toNat = j:=by
      rw [seqIndex_neg (by omega) h3] at h1
      rw [List.size_toArray,← hl]
      exact Option.some.inj h1
    exact PySem.W.ki_setBack ho (by omega) (by rw [List.size_toArray,← hl]; exact h3) (by omega) (by rw [hk]; exact ⟨_,I',q⟩)
theorem slice_bounds (lo hi:Option Int) (n:Nat):(sliceBounds lo hi none n).1 = ((HT.sIx n 0 lo:Nat):Int)∧(sliceBounds lo hi none n).2.1 = ((HT.sIx n n hi:Nat):Int)∧(sliceBounds lo hi none n).2.2 = 1:=by
  refine ⟨?_,?_,rfl⟩
  · cases lo with
    | none=>simp [sliceBounds,HT.sIx]
    | some i =>
      simp only [sliceBounds,HT.sIx,Option.getD_none,show (1:Int) > 0 by decide,if_true]
      by_cases h:i < 0
      · simp only [h,if_true] <;> omega
      · simp only [h,if_false] <;> omega
  · cases hi with
    | none=>simp [sliceBounds,HT.sIx]
    | some i =>
      simp only [sliceBounds,HT.sIx,Option.getD_none,show (1:Int) > 0 by decide,if_true]
      by_cases h:i < 0
      · simp only [h,if_true] <;> omega
      · simp only [h,if_false] <;> omega
theorem slicePick_cut (its:List Value) (lo hi:Option Int):slicePick its.toArray lo hi none = ((its.drop (HT.sIx its.length 0 lo)).take (HT.sIx its.length its.length hi - HT.sIx its.length 0 lo)).toArray:=by
  obtain ⟨h1,h2,h3⟩:=slice_bounds lo hi its.toArray.size
  unfold slicePick
  rw [h1,h2,h3]
  simp only [sliceRange_one,pick_run,List.size_toArray] <;> rfl
def rSlL (K:PySem.W.Frag):V→Option Int→Option Int→Hp→VK→Prop:=fun x lo hi H Q=>∃ a xs,x = .ref a∧SqL K H a xs∧∀ p,H p = none→Q (.ref p) (upd H p (.lst (cutV xs lo hi)))
theorem sl_list:SlR X (rSlL X.K):=by
  intro pins s σ H x v vl vu lo hi sl Q I rx hs pl pu h
  obtain ⟨a,xs,rfl,hx,q⟩:=h
  cases rx
  obtain ⟨its,r,ht,hz⟩:=I.list hx
  have hlen:=r.length
  refine ⟨"list", _,slot_list_getitem.lookup,ht.isList.typeIs,?_⟩
  refine wpAny_getItem_list_slice ht.isList hs pl pu .none (by simp) ?_ (by rw [List.size_toArray] <;> omega)
  rw [slicePick_cut,← hlen]
  refine ⟨.ref s.heap.objs.size,_,I.laid (t':=s.toks) (o:=.lst (cutV xs lo hi)) (fun b ob q=>Heap.get?_push_of_some _ q) (Nat.le_refl _) ?_,rfl,q _ (I.hok.fresh (Nat.le_refl _))⟩
  exact ⟨Nat.le_trans (cutV_length xs lo hi) hz,_,0,(r.drop (HT.sIx xs.length 0 lo)).take (HT.sIx xs.length xs.length hi - HT.sIx xs.length 0 lo),Heap.get?_push_size _ rfl⟩
def flatV:V→Bool
  | .non=>true
  | .bl _=>true
  | .int _=>true
  | .str _=>true
  | _=>false
def eqV:V→V→Bool
  | .non,.non=>true
  | .bl a,.bl b=>a == b
  | .bl a,.int b=>(if a then 1 else 0) == b
  | .int a,.bl b=>a == (if b then 1 else 0)
  | .int a,.int b=>a == b
  | .str a,.str b=>a == b
  | _,_=>false
theorem eqAt_V {A:Around} {s:Shared} {y x:V} {u v:Value} (ry:RelV y u) (rx:RelV x v) (fy:flatV y = true) (fx:flatV x = true):SeqAt.EqAt A s u v (eqV y x):=by
  cases y with
  | non =>
    cases ry
    cases x with
    | non=>cases rx; exact SeqAt.EqAt.same _
    | bl b=>cases rx; exact SeqAt.EqAt.none_bool b
    | int b=>obtain ⟨t,rfl⟩:=rx; exact SeqAt.EqAt.none_int b t
    | str b=>obtain ⟨t,rfl⟩:=rx; exact SeqAt.EqAt.none_str b t
    | _=>exact absurd (show false = true from fx) Bool.false_ne_true
  | bl a =>
    cases ry
    cases x with
    | non=>cases rx; exact SeqAt.EqAt.bool_none a
    | bl b=>cases rx; exact SeqAt.EqAt.bool_bool a b
    | int b=>obtain ⟨t,rfl⟩:=rx; exact SeqAt.EqAt.bool_int a b t
    | str b=>obtain ⟨t,rfl⟩:=rx; exact SeqAt.EqAt.bool_str a b t
    | _=>exact absurd (show false = true from fx) Bool.false_ne_true
  | int a =>
    obtain ⟨t',rfl⟩:=ry
    cases x with
    | non=>cases rx; exact SeqAt.EqAt.int_none a t'
    | bl b=>cases rx; exact SeqAt.EqAt.int_bool a t' b
    | int b=>obtain ⟨t,rfl⟩:=rx; exact SeqAt.EqAt.int_int a t' b t
    | str b=>obtain ⟨t,rfl⟩:=rx; exact SeqAt.EqAt.int_str a t' b t
    | _=>exact absurd (show false = true from fx) Bool.false_ne_true
  | str a =>
    obtain ⟨t',rfl⟩:=ry
    cases x with
    | non=>cases rx; exact SeqAt.EqAt.str_none a t'
    | bl b=>cases rx; exact SeqAt.EqAt.str_bool a t' b
    | int b=>obtain ⟨t,rfl⟩:=rx; exact SeqAt.EqAt.str_int a t' b t
    | str b=>obtain ⟨t,rfl⟩:=rx; exact SeqAt.EqAt.str_str a t' b t
    | _=>exact absurd (show false = true from fx) Bool.false_ne_true
  | _=>exact absurd (show false = true from fy) Bool.false_ne_true
def eqU (x:V) (u:Value):Bool:=match u with
  | .none=>eqV .non x
  | .bool b=>eqV (.bl b) x
  | .int i _=>eqV (.int i) x
  | .str z _=>eqV (.str z) x
  | _=>false
theorem eqU_of {x y:V} {u:Value} (r:RelV y u) (f:flatV y = true):eqU x u = eqV y x:=by
  cases y with
  | non=>cases r; rfl
  | bl b=>cases r; rfl
  | int i=>obtain ⟨t,rfl⟩:=r; rfl
  | str z=>obtain ⟨t,rfl⟩:=r; rfl
  | _=>exact absurd (show false = true from f) Bool.false_ne_true
theorem any_eqU {x:V}:∀ {xs:List V} {us:List Value},Vals xs us→xs.all flatV = true→us.any (eqU x) = xs.any fun y=>eqV y x
  | _,_,.nil,_=>rfl
  | y :: xs,u :: us,.cons r t,f=>by
    rw [List.all_cons,Bool.and_eq_true] at f
    rw [List.any_cons,List.any_cons,eqU_of r f.1,any_eqU t f.2]
theorem mem_eqAt {A:Around} {s:Shared} {x:V} {v:Value} (rx:RelV x v) (fx:flatV x = true):∀ {xs:List V} {us:List Value},Vals xs us→xs.all flatV = true→∀ u ∈ us,SeqAt.EqAt A s u v (eqU x u)
  | _,_,.nil,_=>fun u hu=>by cases hu
  | y :: xs,u :: us,.cons r t,f=>fun u' hu=>by
    rw [List.all_cons,Bool.and_eq_true] at f
    rcases List.mem_cons.mp hu with rfl | hu
    · rw [eqU_of r f.1]; exact eqAt_V r rx f.1 fx
    · exact mem_eqAt rx fx t f.2 u' hu
def inV (x:V) (xs:List V):Bool:=xs.any fun y=>eqV y x
def rIn (K:PySem.W.Frag) (neg:Bool):R2:=fun x y H Q=>∃ p xs,y = .ref p∧(SqL K H p xs∨SqT K H p xs)∧flatV x = true∧xs.all flatV = true∧Q (.bl (if neg then !inV x xs else inV x xs)) H
theorem op_in_seq:OpR X (compareOp .In) (rIn X.K false):=by
  intro pins s σ H x y v u Q I rx ry h
  obtain ⟨p,xs,rfl,hq,fx,fs,q⟩:=h
  cases ry
  rcases hq with hq | hq
  · obtain ⟨its,r,pl,hz⟩:=I.list hq
    refine SeqAt.in_listAt (eqU x) pl.isList (fun w hw=>mem_eqAt rx fx r fs w (by simpa using hw)) ⟨.bl _,H,I,rfl,?_⟩
    rw [show its.toArray.any (eqU x) = its.any (eqU x) by simp,any_eqU r fs]
    exact q
  · obtain ⟨its,r,pl,hz⟩:=I.tuple hq
    refine SeqAt.in_tupleAt (eqU x) pl (fun w hw=>mem_eqAt rx fx r fs w (by simpa using hw)) ⟨.bl _,H,I,rfl,?_⟩
    rw [show its.toArray.any (eqU x) = its.any (eqU x) by simp,any_eqU r fs]
    exact q
theorem call_len_seq:CallR X (.builtin "len") (fun xs H Q=>∃ p ys,xs = [.ref p]∧(SqL X.K H p ys∨SqT X.K H p ys)∧Q (.int ys.length) H):=by
  intro pins s σ H xs us Q I r h
  obtain ⟨p,ys,rfl,hq,q⟩:=h
  obtain ⟨u,rfl,rx⟩:=vals1 r
  cases rx
  have hn:=line63
  rcases hq with hq | hq
  · obtain ⟨its,r',pl,hz⟩:=I.list hq
    have hlen:=r'.length
    exact Calls.call_len_list pl.isList (by simp only [List.size_toArray] <;> omega) ⟨.int ys.length,H,I.tok _,⟨s.toks + 1,by rw [List.size_toArray,hlen]⟩,q⟩
  · obtain ⟨its,r',pl,hz⟩:=I.tuple hq
    have hlen:=r'.length
    exact len_tuple pl (by simp only [List.size_toArray] <;> omega) ⟨.int ys.length,H,I.tok _,⟨s.toks + 1,by rw [List.size_toArray,hlen]⟩,q⟩
theorem call_list_of:CallR X (.type "list") (fun xs H Q=>∃ p ys,xs = [.ref p]∧(SqL X.K H p ys∨SqT X.K H p ys)∧∀ l,H l = none→Q (.ref l) (upd H l (.lst ys))):=by
  intro pins s σ H xs us Q I r h
  obtain ⟨p,ys,rfl,hq,q⟩:=h
  obtain ⟨u,rfl,rx⟩:=vals1 r
  cases rx
  have fin:∀ (its:List Value),Vals ys its→ys.length ≤ sizeLine→∀ (h':Heap) (c':Nat),(∀ b o',s.heap.get? b = some o'→h'.get? b = some o') →
      h'.get? s.heap.objs.size = some { cls:=.type "list", dict:=none,data:=.seq its.toArray c',slots:=#[] }→EP X pins σ Q (.ref s.heap.objs.size) { s with heap:=h' }:=fun its r' hz h' c' kp e =>
    ⟨.ref s.heap.objs.size,_,I.laid (t':=s.toks) kp (Nat.le_refl _) (show ObjOk X.prog X.w _ h' _ (.lst ys) from ⟨hz,its,c',r',e⟩),rfl,q _ (I.hok.fresh (Nat.le_refl _))⟩
  rcases hq with hq | hq
  · obtain ⟨its,r',pl,hz⟩:=I.list hq
    have hlen:=r'.length
    obtain ⟨o,ho,hc,n,hd⟩:=pl.isList
    exact call_list_seq p (.inl rfl) ho hc hd (fun h' c' kp e=>fin its r' hz h' c' kp e) (by simp only [List.size_toArray] <;> omega)
  · obtain ⟨its,r',pl,hz⟩:=I.tuple hq
    have hlen:=r'.length
    obtain ⟨o,ho,hc,n,hd⟩:=pl
    exact call_list_seq p (.inr rfl) ho hc hd (fun h' c' kp e=>fin its r' hz h' c' kp e) (by simp only [List.size_toArray] <;> omega)
theorem call_tuple_of:CallR X (.type "tuple") (fun xs H Q=>∃ p ys,xs = [.ref p]∧((SqL X.K H p ys∧∀ l,H l = none→Q (.ref l) (upd H l (.tup ys)))∨(SqT X.K H p ys∧Q (.ref p) H))):=by
  intro pins s σ H xs us Q I r h
  obtain ⟨p,ys,rfl,h⟩:=h
  obtain ⟨u,rfl,rx⟩:=vals1 r
  cases rx
  rcases h with ⟨hq,q⟩ | ⟨hq,q⟩
  · obtain ⟨its,r',pl,hz⟩:=I.list hq
    have hlen:=r'.length
    refine call_tuple_list pl.isList (fun h' kp=>?_) (by simp only [List.size_toArray] <;> omega)
    have I1:Inv X pins σ H { s with heap:=h' }:=I.kept (t':=s.toks) kp
    have I2:Inv X pins σ (upd H h'.objs.size (.tup ys)) { s with heap:=h'.push { cls:=.type "tuple", data:=.seq its.toArray } } :=
      I1.laid (t':=s.toks) (fun b o e=>Heap.get?_push_of_some _ e) (Nat.le_refl _) (show ObjOk X.prog X.w _ _ _ (.tup ys) from ⟨hz,its,r',IsTupN.new _ _⟩)
    exact ⟨.ref h'.objs.size,_,I2,rfl,q _ (I1.hok.fresh (Nat.le_refl _))⟩
  · obtain ⟨its,r',pl,hz⟩:=I.tuple hq
    exact call_tuple_same pl ⟨.ref p,H,I,rfl,q⟩
def tyV (K:PySem.W.Frag) (T:String) (x:V) (H:Hp):Prop:=match x with
  | .str _=>T = "str"
  | .int _=>T = "int"
  | .ref p=>(T = "list"∧∃ xs,SqL K H p xs)∨(T = "tuple"∧∃ o,K.lookup p = some o∧o.cls = .type "tuple"∧o.dict = none) ∨
      (T = "dict"∧((∃ kvs,H p = some (.dK kvs))∨∃ kvs,H p = some (.dT kvs)))∨(T = "set"∧∃ S n,H p = some (.set S n))
  | _=>False
theorem tyV_is {pins:List (Addr×Obj)} {σ:St} {H:Hp} {s:Shared} {T:String} {x:V} {v:Value} (I:Inv X pins σ H s) (r:RelV x v) (ty:tyV X.K T x H) :
    s.TypeIs v T∧∀ a,v = .ref a→∃ ob,s.heap.get? a = some ob∧ob.dict = none:=by
  cases x with
  | str z =>
    obtain ⟨t,rfl⟩:=r
    cases (show T = "str" from ty)
    exact ⟨typeIs_str s z t,fun _ e=>nomatch e⟩
  | int i =>
    obtain ⟨t,rfl⟩:=r
    cases (show T = "int" from ty)
    exact ⟨typeIs_int s i t,fun _ e=>nomatch e⟩
  | ref p =>
    cases r
    rcases ty with ⟨rfl,xs,hq⟩ | ⟨rfl,o,hk,hc,hd⟩ | ⟨rfl,hk⟩ | ⟨rfl,S,n,hk⟩
    · obtain ⟨its,_,pl,_⟩:=I.list hq
      refine ⟨pl.isList.typeIs,fun a e=>?_⟩
      cases e
      obtain ⟨o,n,e,c,hd,_⟩:=pl
      exact ⟨o,e,hd⟩
    · refine ⟨⟨o,I.kIn p o hk,hc⟩,fun a e=>?_⟩
      cases e
      exact ⟨o,I.kIn _ o hk,hd⟩
    · have z:∃ o,s.heap.get? p = some o∧o.ExactDict:=by
        rcases hk with ⟨kvs,hk⟩ | ⟨kvs,hk⟩
        · obtain ⟨_,_,_,_,o,_,_,e,ex,_⟩:=I.hok p _ hk
          exact ⟨o,e,ex⟩
        · obtain ⟨_,_,_,_,o,_,_,e,ex,_⟩:=I.hok p _ hk
          exact ⟨o,e,ex⟩
      obtain ⟨o,e,ex⟩:=z
      refine ⟨⟨o,e,ex.1⟩,fun a e2=>?_⟩
      cases e2
      exact ⟨o,e,ex.2.1⟩
    · obtain ⟨o,_,_,_,e,ex,_⟩:=I.hok p _ hk
      refine ⟨⟨o,e,ex.1⟩,fun a e2=>?_⟩
      cases e2
      exact ⟨o,e,ex.2.1⟩
  | _=>exact False.elim ty
def tBM (K:PySem.W.Frag) (T:String) (r:V→List V→Hp→VK→Prop) (to:TE) (t:TA):TE:=fun σ H Q=>to σ H fun x H1=>tyV K T x H1∧t σ H1 fun xs H2=>r x xs H2 Q
variable {o e:Expr} {es:List Expr} {to:TE} {t:TA} {name:Str} {apos cpos:Pos} {T id:String} {r:V→List V→Hp→VK→Prop}
theorem pe_bm (pa:PlainAttrs T) (slot:Slot T name id) (hty:typeOf (.builtin id) = pure (.type "method_descriptor")) (hm:MtR X id r) (ho:PE X o to) (ha:PA X (e :: es) t)
    (hbase:attributeBase o name X.env (eval o X.env) = eval o X.env:=by rfl)
    (hfew:((backTo cpos (starEach (e :: es) X.env)).all (fun x=>!x.1) && (backToKw cpos (keywordEach [] X.env)).all (fun x=>x.1.isSome)
      && decide ((e :: es).length + ([]:List Keyword).length + (if ([]:List Keyword).isEmpty then 0 else 1) < 30)) = true:=by rfl)
    (hline:(apos.endLine == cpos.line) = true:=by rfl) (hs:starEach (e :: es) X.env = (false,eval e X.env) :: starEach es X.env:=by rfl) (hplain:(backTo cpos (starEach es X.env)).any (·.1) = false:=by rfl) :
    PE X (.Call (.Attribute o name apos) (e :: es) [] cpos) (tBM X.K T r to t):=by
  intro pins s σ H Q I h
  refine wpAny_Call_method_late hbase hfew hline rfl (thn (ho pins s σ H _ I h) fun v s1 ⟨x,H1,I1,r1,ty,q1⟩=>?_)
  obtain ⟨h1,h2⟩:=tyV_is I1 r1 ty
  refine ⟨T,id,pa,slot,hty,h1,h2,?_⟩
  have hA:=ha cpos pins s1 σ H1 _ I1 q1
  rw [hs] at hA ⊢
  refine Calls.callWith_builtin (by show (false || (backTo cpos (starEach es X.env)).any (·.1)) = false; rw [hplain] <;> rfl) (Calls.evalArgs_plain ?_)
  exact thn hA fun us s2 ⟨vs,H2,I2,r2,q2⟩=>hm pins s2 σ H2 x vs v us Q I2 r1 r2 q2
end
end L2
namespace L2
open PySem PySem.Spec PyProof.Rows
def MtM (X:Cx) (id:String) (r:V→List V→Hp→VK→Prop):Prop :=
  ∀ (pins:List (Addr×Obj)) (s:Shared) (σ:St) (H:Hp) (x:V) (xs:List V) (v:Value) (us:List Value) (Q:VK),Inv X pins σ H s→RelV x v→Vals xs us→r x xs H Q →
    wpAny (model X.prog X.w) X.A (call (.builtin id) (v :: us)) (EP X pins σ Q) X.xe s
theorem Vals.one:∀ {x:V} {us:List Value},Vals [x] us→∃ u,us = [u]∧RelV x u
  | _,_,.cons r .nil=>⟨_,rfl,r⟩
theorem Vals.eraseIdx:∀ {xs:List V} {us:List Value} (i:Nat),Vals xs us→Vals (xs.eraseIdx i) (us.eraseIdx i)
  | _,_,_,.nil=>.nil
  | _,_,0,.cons _ t=>t
  | _,_,i + 1,.cons r t=>.cons r (Vals.eraseIdx i t)
theorem len_erase {α:Type}:∀ (l:List α) (i:Nat),(l.eraseIdx i).length ≤ l.length
  | [],_=>Nat.le_refl _
  | _ :: _,0=>Nat.le_succ _
  | _ :: r,i + 1=>Nat.succ_le_succ (len_erase r i)
section
variable {X:Cx} {pins:List (Addr×Obj)} {σ:St} {H:Hp} {s:Shared} {l b:Addr} {xs ys zs:List V}
theorem Inv.lset {its its':List Value} {n:Nat} {f:Array Value→Array Value} {t':Nat} (I:Inv X pins σ H s) (hH:H l = some (.lst xs))
    (e:s.heap.get? l = some { cls:=.type "list", data:=.seq its.toArray n }) (hf:f its.toArray = its'.toArray) (hv:Vals ys its') (hz:ys.length ≤ sizeLine) :
    Inv X pins σ (upd H l (.lst ys)) { s with heap:=s.heap.update l (Obj.mapSeq f),toks:=t' }:=by
  have q:=PySem.IsL.update e f
  rw [hf] at q
  refine I.write (x:=l) (e:=l) (by rw [hH]; exact trivial) (.inl rfl) (fun b' u hb hu=>(Heap.get?_update_other s.heap (Obj.mapSeq f) (Ne.symm hb)).trans hu) ⟨_,q⟩ ?_
  exact ⟨hz,its',_,hv,q⟩
theorem Inv.lnew {its:List Value} {t':Nat} (I:Inv X pins σ H s) (hv:Vals ys its) (hz:ys.length ≤ sizeLine) :
    Inv X pins σ (upd H s.heap.objs.size (.lst ys)) { s with heap:=s.heap.push { cls:=.type "list", data:=.seq its.toArray },toks:=t' } :=
  I.laid (fun _ _ q=>Heap.get?_push_of_some _ q) (Nat.le_refl _) ⟨hz,its,0,hv,Heap.get?_push_size _ rfl⟩
theorem Inv.fresh (I:Inv X pins σ H s):H s.heap.objs.size = none:=I.hok.fresh (Nat.le_refl _)
theorem Inv.lstM (I:Inv X pins σ H s) (hH:H l = some (.lst xs)):xs.length ≤ sizeLine∧∃ (its:List Value) (n:Nat),Vals xs its∧xs.length = its.length∧s.heap.get? l = some { cls:=.type "list", data:=.seq its.toArray n }:=by
  obtain ⟨z,its,n,r,e⟩:=I.hok l _ hH
  exact ⟨z,its,n,r,r.length,e⟩
end
section
variable {X:Cx}
def rAppend:V→List V→Hp→VK→Prop:=fun x vs H Q=>∃ l xs y,x = .ref l∧vs = [y]∧H l = some (.lst xs)∧xs.length < sizeLine∧Q .non (upd H l (.lst (xs ++ [y])))
theorem mt_append:MtM X "list.append" rAppend:=by
  intro pins s σ H x vs v us Q I rx rv h
  obtain ⟨l,xs,y,rfl,rfl,hH,hz,q⟩:=h
  cases rx
  obtain ⟨u,rfl,ru⟩:=rv.one
  obtain ⟨z,its,n,r,hl,e⟩:=I.lstM hH
  refine call_meets F.slot_list_append ⟨_,e,rfl⟩ F.entry_list_append (F.args_list_append_2 _ _) (PySem.list_append l its.toArray n u (by rw [List.size_toArray]; omega)) ⟨e,?_⟩
  refine ⟨.non,_,I.lset (its':=its ++ [u]) hH e (by simp) (r.append (.cons ru .nil)) ?_,rfl,q⟩
  rw [List.length_append,List.length_singleton]
  omega
def rPopAt:V→List V→Hp→VK→Prop:=fun x vs H Q=>∃ l xs i k y,x = .ref l∧vs = [.int i]∧H l = some (.lst xs)∧-(2 ^ 63) ≤ i∧i < 2 ^ 63∧seqIndex? i xs.length = some k∧xs[k]? = some y∧Q y (upd H l (.lst (xs.eraseIdx k)))
theorem mt_popAt:MtM X "list.pop" rPopAt:=by
  intro pins s σ H x vs v us Q I rx rv h
  obtain ⟨l,xs,i,k,y,rfl,rfl,hH,h1,h2,hk,hy,q⟩:=h
  cases rx
  obtain ⟨u,rfl,ru⟩:=rv.one
  obtain ⟨t,rfl⟩:=ru
  obtain ⟨z,its,n,r,hl,e⟩:=I.lstM hH
  obtain ⟨w,hw,rw'⟩:=r.get hy
  refine call_meets F.slot_list_pop ⟨_,e,rfl⟩ F.entry_list_pop (F.args_list_pop_2 _ _)
    (MeetsSeq.list_pop_at l its.toArray n i t k w (fitsIndex_both h1 h2) (by rw [List.size_toArray,← hl]; exact hk) (by rw [← Array.getElem?_toList]; exact hw) (by rw [List.size_toArray]; omega)) ⟨e,?_⟩
  refine ⟨y,_,I.lset (its':=its.eraseIdx k) hH e ?_ (r.eraseIdx k) ?_,rw',q⟩
  · show its.toArray.eraseIdxIfInBounds k = (its.eraseIdx k).toArray
    rw [List.eraseIdxIfInBounds_toArray]
  · have:=len_erase xs k
    omega
def rCat:R2:=fun x y H Q=>∃ l b xs zs,x = .ref l∧y = .ref b∧H l = some (.lst xs)∧H b = some (.lst zs)∧xs.length + zs.length ≤ sizeLine∧∀ p,H p = none→Q (.ref p) (upd H p (.lst (xs ++ zs)))
theorem op_cat:OpR X (binaryOp .Add) rCat:=by
  intro pins s σ H x y v u Q I rx ry h
  obtain ⟨l,b,xs,zs,rfl,rfl,hH,hB,hz,q⟩:=h
  cases rx
  cases ry
  obtain ⟨z,its,n,r,hl,e⟩:=I.lstM hH
  obtain ⟨z2,its2,n2,r2,hl2,e2⟩:=I.lstM hB
  refine PySem.P.add_list e e2 ?_ (by rw [List.size_toArray,List.size_toArray]; omega)
  have ea:its.toArray ++ its2.toArray = (its ++ its2).toArray:=by simp
  rw [ea]
  exact ⟨.ref _,_,I.lnew (t':=s.toks) (r.append r2) (by rw [List.length_append]; omega),rfl,q _ I.fresh⟩
end
section
variable {prog:Program} {w:World} {A:Around} {E:Value→Shared→Prop} {s:Shared}
end
section
variable {X:Cx}
end
end L2
namespace Att
open PySem PySem.W PySem.Calls PyProof.Rows
theorem ints_of_wellAll {P:Params} {h:Heap}:∀ (ns:List Int) (vs:List Value),WellAll P h vs (ns.map WData.int)→IntsAre vs ns:=by
  intro ns
  induction ns with
  | nil =>
    intro vs w
    rw [List.map_nil] at w
    cases w
    exact .nil
  | cons n ns ih =>
    intro vs w
    rw [List.map_cons] at w
    cases w with
    | cons a b =>
      cases a
      exact .cons _ _ (ih _ b)
theorem script_of {l:OpenLaw} {n:Nat} (hn:l.most = some n) {P:Params} {h:Heap} {args:List WData} {vals:List Value}
    (hpre:l.row.toRowW.claim.pre args = true) (hwl:WellAll P h vals args) :
    ∃ a vs ns,vals = [Value.ref a]∧args = [WData.list (ns.map WData.int)]∧h.get? a = some { cls:=.type "list", data:=.seq vs.toArray }∧IntsAre vs ns∧ns.length ≤ n:=by
  have hsh:WShape.hasAll [] args [.list .int] = true:=(pre_splitW hpre).1
  have hc:l.pre.holds [] { args:=args } = true:=(pre_splitW hpre).2
  obtain ⟨d,r,rfl,h1,h2⟩:=hasAllW_cons hsh
  obtain rfl:=hasAllW_nil h2
  obtain ⟨xs,rfl,h3⟩:=hasW_list h1
  obtain ⟨ns,rfl⟩:=items_int h3
  have hlen:ns.length ≤ n:=by
    unfold OpenLaw.pre at hc
    have h4:(WTm.not (.lt (.lit (.int (n:Int))) (.len (.arg 0)))).holds [] { args:=[.list (ns.map .int)] } = true:=by
      have h4:=(holds_andW hc).1
      rw [hn] at h4
      exact h4
    have h5:=condW_of h4 (w_not (w_lt w_lit (w_len_list (w_arg rfl))))
    rw [List.length_map] at h5
    refine Nat.le_of_not_lt fun q=>?_
    have q':(n:Int) < ((ns.length:Nat):Int):=by omega
    first
      | (rw [decide_eq_true q'] at h5; exact absurd h5 (by decide))
      | (simp at h5; omega)
  cases hwl with
  | cons w1 w2 =>
    cases w2
    cases w1 with
    | list ho hall=>exact ⟨_,_,ns,rfl,rfl,ho,ints_of_wellAll ns _ hall,hlen⟩
theorem post_true (l:OpenLaw) (args:List WData):l.row.toRowW.claim.post args (.bool true) args = true :=
  postW_of (r:=l.row.toRowW) (X:=(true == true))
    (show WShape.has [] (.bool true) .bool = true by first | rfl | decide | simp [WShape.has,WShape.arms,WShape.armsAll])
    (show (WTm.eq .res (.lit (.bool true))).value [] { args:=args,res:=some (.bool true),after:=args } = some (.bool (true == true)) from w_eq_bool (w_res rfl) w_lit) rfl
theorem attach_call {l:OpenLaw} {n:Nat} {q:Program} {loose:List Str} {XP:(Str→Option Value)→Heap→Prop} {YP:World→Heap→Prop} {d:DefRec}
    (hn:l.most = some n) (hdf:d.params.defaults = [])
    (call:∀ (w:World) (s₀ s₁:Shared) (mg mb:Str→Option Value) (fa:Addr) (o:Obj) (pm cd doc:Value) (a:Addr) (vs:List Value) (ns:List Int),
      Ground q loose [] XP w s₀ mg mb s₁.heap→YP w s₁.heap →
      s₁.heap.get? fa = some o→o.data = .func (docDef d.name d.params d.body d.scope pm cd doc)→s₁.heap.CodeRec cd d.name→mg d.name = some (.ref fa) →
      s₁.heap.get? a = some { cls:=.type "list", data:=.seq vs.toArray }→IntsAre vs ns→ns.length ≤ n→s₁.gens = #[] →
      codeAny (model l.prog w) callerA (.call (.ref fa) ⟨[.ref a],[]⟩) (fun r s'=>r = .ok (.ret (.bool true))∧OldK s₁.heap s'.heap∧s'.os = s₁.os∧AllBare s'.gens) s₁) :
    WalkO q loose XP YP l.row.toRowW d [] (fun f vs=>PySem.call f vs):=by
  intro w s₀ s₁ mg mb G Y fa o pm cd doc dV kV ho hd hcd hD hmg hg args vals as hpre hlay hrd hwl hlo
  obtain rfl:dV = .none:=Dflts.none hD hdf
  obtain rfl:kV = .none:=Dflts.noKw hD
  obtain ⟨a,vs,ns,rfl,rfl,hobj,hints,hlen⟩:=script_of hn hpre hwl
  refine enter_call (codeAny_mono (call w s₀ s₁ mg mb fa o pm cd doc a vs ns G Y ho (fd_plain hd) hcd hmg hobj hints hlen hg) fun r s' hq=>?_)
  obtain ⟨rfl,h2,h3,h4⟩:=hq
  exact ⟨.inl ⟨.bool true,.bool true,[],rfl,fun _=>rfl,.bool true,post_true l _,fun _=>⟨List.Pairwise.nil,fun _ hm=>(nomatch hm)⟩⟩,h2,h3,h4⟩
section
variable {prog:Program} {w:World} {A:Around} {E:Value→Shared→Prop} {s:Shared} {K:Frag}
end
end Att
namespace L2
open PySem PySem.Spec PyProof.Rows
theorem vals_ints:∀ {vs:List Value} {ns:List Int},IntsAre vs ns→Vals (ns.map V.int) vs
  | _,_,.nil=>.nil
  | _,_,.cons n t h=>.cons ⟨t,rfl⟩ (vals_ints h)
end L2
namespace L2
open PySem PySem.Spec PyProof.Rows
end L2
namespace L2
open PySem PySem.Spec PyProof.Rows
def defArgs (s:Stmt):Arguments:=match s with
  | .FunctionDef _ a _ _ _ _ _ _ _ _=>a
  | _=>{ posonlyargs:=[],args:=[],vararg:=none,kwonlyargs:=[],kw_defaults:=[],kwarg:=none,defaults:=[] }
def defBody (s:Stmt):List Stmt:=match s with
  | .FunctionDef _ _ b _ _ _ _ _ _ _=>b
  | _=>[]
def defScope (s:Stmt):Scope:=match s with
  | .FunctionDef _ _ _ _ _ _ sc _ _ _=>sc
  | _=>{ kind:=.function,names:=[],isGenerator:=false,isCoroutine:=false }
abbrev CX0:CXT:=fun _ _ _ _ _ _=>False
abbrev E0:XK:=fun _ _ _=>False
theorem pass0 {X:Cx}:Passes CX0 X E0:=fun _ _ _ _ _ _ _ h=>h.elim
structure Fun (K:PySem.W.Frag) (x qual:Str) (st:Stmt) (f:Addr) (fd:FuncData):Prop where
  ex:∃ (oc:Value) (od:Option Addr) (kV doc pm:Value) (an:Option Addr) (cdv ct:Value) (osl:Array (Option Value)),
    fd = PySem.W.fnOf x qual (defArgs st) (defBody st) (defScope st) .none kV doc pm an cdv ct∧K.lookup f = some ⟨oc,od,.func fd,osl⟩∧PySem.W.codeIn K cdv qual = true
  kp:PySem.W.keepIn K (.ref f) = true
section
variable {P:Program} {w:World} {K:PySem.W.Frag} {mg:Str→Option Value} {base:Heap}
theorem Fun.ok {x qual:Str} {st:Stmt} {f:Addr} {fd:FuncData} {N ps:List Str} {k:Nat} {sp:Sp} (F:Fun K x qual st f fd) (S:FnScope N ps (defScope st)) (len:∀ vs H Q E,sp vs H Q E→vs.length = ps.length)
    (hbody:∀ (cdv:Value) (A:Around) (outer:List Env) (s:Shared) (H:Hp) (vs:List V) (Q:VK) (E:XK),Room k (A.deeper (envOfC qual (defScope st) s.heap.objs.size f cdv))→sp vs H Q E →
      ∃ t,PSs (cxOf CX0 P w K mg base N qual (defScope st) f cdv A outer s H E).nox (defBody st) t∧t { nx:=fun _ H'=>Q .non H',rt:=Q } (start N vs) H):FnOk P w K mg base CX0 (k + 1) f fd ps sp:=by
  obtain ⟨oc,od,kV,doc,pm,an,cdv,ct,osl,rfl,lk,hcd⟩:=F.ex
  refine fn_of lk hcd S len fun A outer s H vs Q E hr hsp=>?_
  obtain ⟨t,h,q⟩:=hbody cdv A outer s H vs Q E hr hsp
  exact ⟨t,h.nox,q⟩
theorem Fun.binds {x qual:Str} {st:Stmt} {f:Addr} {fd:FuncData} {ps:List Str} (F:Fun K x qual st f fd)
    (h:∀ (kV doc pm:Value) (an:Option Addr) (cdv ct:Value) (us:List Value),us.length = ps.length→bindArgs (PySem.W.fnOf x qual (defArgs st) (defBody st) (defScope st) .none kV doc pm an cdv ct) ⟨us,[]⟩ = pure (ps.zip us)):Binds K fd ps []:=by
  obtain ⟨oc,od,kV,doc,pm,an,cdv,ct,osl,rfl,lk,hcd⟩:=F.ex
  exact .all (h kV doc pm an cdv ct)
theorem fun_mk {x qual:Str} {st:Stmt} {f:Addr} {oc:Value} {od an:Option Addr} {osl:Array (Option Value)} {kV doc pm cdv ct:Value} (l:K.lookup f = some ⟨oc,od,.func (PySem.W.fnOf x qual (defArgs st) (defBody st) (defScope st) .none kV doc pm an cdv ct),osl⟩)
    (c:PySem.W.codeIn K cdv qual = true) (k:PySem.W.keepIn K (.ref f) = true):Fun K x qual st f (PySem.W.fnOf x qual (defArgs st) (defBody st) (defScope st) .none kV doc pm an cdv ct):=⟨⟨oc,od,kV,doc,pm,an,cdv,ct,osl,rfl,l,c⟩,k⟩
end
section
variable {X:Cx}
theorem pv (i:Nat) {x:Str} {pos:Pos} (hN:X.N[i]? = some x:=by rfl) (hv:Vis X.env.scope x:=by first | exact Or.inl rfl | exact Or.inr (Or.inl rfl) | exact Or.inr (Or.inr rfl)) (hd:(x == ("__debug__" : Str)) = false:=by decide)
    (hcd:(x == ("__classdict__" : Str)) = false:=by decide):PE X (.Name x pos) (tVar i):=pe_var hN hv hd hcd
end
theorem iteF {A B:Prop} (h:B):if false = true then A else B:=by
  rw [if_neg Bool.false_ne_true]
  exact h
theorem iteT {A B:Prop} (h:A):if true = true then A else B:=by
  rw [if_pos rfl]
  exact h
theorem ite2 {c A B:Prop} [Decidable c] (h1:c→A) (h2:¬ c→B):if c then A else B:=by
  by_cases h:c
  · rw [if_pos h]
    exact h1 h
  · rw [if_neg h]
    exact h2 h
def Same (H H':Hp):Prop:=∀ b o,H b = some o→H' b = some o
theorem Same.refl (H:Hp):Same H H:=fun _ _ h=>h
theorem Same.trans {H H1 H2:Hp} (a:Same H H1) (b:Same H1 H2):Same H H2:=fun c o h=>b c o (a c o h)
theorem Same.free {H H':Hp} (e:Same H H') {l:Addr} (h:H' l = Option.none):H l = Option.none:=by
  cases q:H l with
  | none=>rfl
  | some o =>
    rw [e l o q] at h
    cases h
end L2
namespace L2
open PySem PySem.Spec PyProof.Rows
def cloOf (cells:List (Str×Addr)):List (Str×NameKind)→List (Str×Addr)→List (Str×Addr)
  | [],acc=>acc
  | (n,k) :: r,acc=>cloOf cells r (if (k == NameKind.free) = true then (n,(cells.lookup n).getD 0) :: acc else acc)
theorem cloOf_mem {cells:List (Str×Addr)} {x:Str} {c:Addr}:∀ {ns:List (Str×NameKind)} {acc:List (Str×Addr)},(x,c) ∈ cloOf cells ns acc→((x,NameKind.free) ∈ ns∧c = (cells.lookup x).getD 0)∨(x,c) ∈ acc
  | [],_,h=>.inr h
  | (n,k) :: r,acc,h=>by
    have q:=cloOf_mem (ns:=r) h
    rcases q with ⟨q1,q2⟩ | q
    · exact .inl ⟨List.mem_cons_of_mem _ q1,q2⟩
    · by_cases hk:(k == NameKind.free) = true
      · rw [if_pos hk] at q
        have ek:k = NameKind.free:=by simpa using hk
        rcases List.mem_cons.mp q with e | q
        · cases e
          subst ek
          exact .inl ⟨List.mem_cons_self,rfl⟩
        · exact .inr q
      · rw [if_neg hk] at q
        exact .inr q
theorem cloOf_sub {cells:List (Str×Addr)} {p:Str×Addr}:∀ {ns:List (Str×NameKind)} {acc:List (Str×Addr)},p ∈ acc→p ∈ cloOf cells ns acc
  | [],_,h=>h
  | (n,k) :: r,acc,h=>by
    refine cloOf_sub (ns:=r) ?_
    split
    · exact List.mem_cons_of_mem _ h
    · exact h
theorem cloOf_has {cells:List (Str×Addr)} {x:Str}:∀ {ns:List (Str×NameKind)} {acc:List (Str×Addr)},(x,NameKind.free) ∈ ns→(x,(cells.lookup x).getD 0) ∈ cloOf cells ns acc
  | (n,k) :: r,acc,h=>by
    rcases List.mem_cons.mp h with e | h
    · cases e
      refine cloOf_sub (ns:=r) ?_
      rw [if_pos (by rfl)]
      exact List.mem_cons_self
    · exact cloOf_has (ns:=r) h
theorem lookup_of_mem {x:Str} {c:Addr}:∀ {l:List (Str×Addr)},(x,c) ∈ l→∃ c',l.lookup x = some c'
  | (n,d) :: r,h=>by
    rw [List.lookup_cons]
    cases e:x == n with
    | true=>exact ⟨d,rfl⟩
    | false =>
      rcases List.mem_cons.mp h with q | q
      · cases q
        simp at e
      · exact lookup_of_mem q
theorem forIn_clo {env:Env} (f:(Str×NameKind)→List (Str×Addr)→Sem (ForInStep (List (Str×Addr)))) (hf1:∀ n acc c,env.cells.lookup n = some c→f (n,.free) acc = pure (.yield ((n,c) :: acc)))
    (hf2:∀ n k acc,(k == NameKind.free) = false→f (n,k) acc = pure (.yield acc)):∀ (ns:List (Str×NameKind)) (acc:List (Str×Addr)),(∀ y ∈ ns,y.2 = .free→∃ c,env.cells.lookup y.1 = some c)→forIn ns acc f = pure (cloOf env.cells ns acc)
  | [],_,_=>rfl
  | (n,k) :: r,acc,h=>by
    have ih:=fun acc'=>forIn_clo f hf1 hf2 r acc' fun y hy=>h y (List.mem_cons_of_mem _ hy)
    rw [List.forIn_cons]
    cases hk:k == NameKind.free with
    | true =>
      have ek:k = NameKind.free:=by simpa using hk
      subst ek
      obtain ⟨c,e⟩:=h (n,.free) List.mem_cons_self rfl
      have e':env.cells.lookup n = some c:=e
      rw [hf1 n acc c e]
      show forIn r ((n,c) :: acc) f = _
      rw [ih]
      show _ = pure (cloOf env.cells r (if (NameKind.free == NameKind.free) = true then (n,(env.cells.lookup n).getD 0) :: acc else acc))
      rw [if_pos (by rfl),e']
      rfl
    | false =>
      rw [hf2 n k acc hk]
      show forIn r acc f = _
      rw [ih]
      show _ = pure (cloOf env.cells r (if (k == NameKind.free) = true then (n,(env.cells.lookup n).getD 0) :: acc else acc))
      rw [if_neg (by rw [hk]; decide)]
theorem closureFor_clo {scope:Scope} {env:Env} (h:∀ y ∈ scope.names,y.2 = .free→∃ c,env.cells.lookup y.1 = some c):closureFor scope env = pure (cloOf env.cells scope.names []):=by
  unfold closureFor
  show (forIn scope.names [] _ >>= _) = _
  rw [forIn_clo (env:=env) _ ?_ ?_ scope.names [] h]
  · rfl
  · intro n acc c e
    show (if (NameKind.free == NameKind.free) = true then _ else _) = _
    rw [if_pos (by rfl)]
    unfold cellOf
    rw [e]
    first | rfl | skip
  · intro n k acc hk
    show (if (k == NameKind.free) = true then _ else _) = _
    rw [if_neg (by rw [hk]; decide)]
abbrev compCx (X:Cx) (N':List Str) (sc:Scope) (cl:List (Str×Addr)) (C:Addr) (s:Shared) (H:Hp) (fp:List Addr):Cx :=
  { X with N:=N',s₀:=s,H₀:=H,env:=compEnvC sc cl C X.env,outer:=X.stack,stack:=X.stack,ex:=fp,fn:=fun x=>sc.names.lookup x == some NameKind.local,pn:=[],xe:=fun _ _=>False }
structure CompSc (osc:Scope) (ON N':List Str) (src:List (Option Nat)) (sc:Scope):Prop where
  kind:sc.kind = .function
  okind:osc.kind = .function
  uniq:∀ y ∈ sc.names,sc.names.lookup y.1 = some y.2
  nocell:∀ y ∈ sc.names,y.2 ≠ .cell
  free:∀ y ∈ sc.names,y.2 = .free→osc.names.lookup y.1 = some .cell∨osc.names.lookup y.1 = some .free
  len:src.length = N'.length
  src:∀ (i:Nat) (x:Str) (j:Nat),N'[i]? = some x→src[i]? = some (some j)→ON[j]? = some x∧sc.names.lookup x = some .free
def inSt (src:List (Option Nat)) (σ:St):St:=src.map fun o=>o.bind fun j=>(σ[j]?).bind id
theorem inSt_get {src:List (Option Nat)} {σ:St} {i:Nat} {v:V} (h:(inSt src σ)[i]? = some (some v)):∃ j,src[i]? = some (some j)∧σ[j]? = some (some v):=by
  unfold inSt at h
  rw [List.getElem?_map] at h
  cases e:src[i]? with
  | none=>rw [e] at h; cases h
  | some o =>
    rw [e] at h
    cases o with
    | none=>cases h
    | some j =>
      have h':(σ[j]?).bind id = some v:=Option.some.inj h
      cases e2:σ[j]? with
      | none=>rw [e2] at h'; cases h'
      | some w =>
        rw [e2] at h'
        have h'':w = some v:=h'
        exact ⟨j,rfl,by rw [e2,h'']⟩
def PIfs (X:Cx) (ifs:List Expr) (t:TT):Prop :=
  ∀ (pins:List (Addr×Obj)) (s:Shared) (σ:St) (H:Hp) (Q:Bool→Hp→Prop),Inv X pins σ H s→t σ H Q →
    wpAny (model X.prog X.w) X.A (forIn ifs true fun c r=>if r = true then do let ok ← isTrue c X.env (eval c X.env); pure (ForInStep.yield ok) else pure (ForInStep.yield r)) (TP X pins σ Q) X.xe s
def tNoIf:TT:=fun _ H Q=>Q true H
theorem pifs_nil {X:Cx}:PIfs X [] tNoIf:=fun _ _ _ H _ I h=>wpAny_tests_nil ⟨H,I,h⟩
theorem pifs_one {X:Cx} {c:Expr} {t:TT} (h:PT X c t):PIfs X [c] t:=fun pins s σ H Q I q=>wpAny_tests_one (h pins s σ H Q I q)
def compW (J:It) (g:TG) (tc:TT) (te:TE) (D:Addr) (Q:VK) (W:Nat→Nat→St→List V→Hp→Prop):Prop :=
  ∀ i m σ ys H,W i m σ ys H→H D = some (.lst ys)∧((J.stop i H∧Q (.ref D) H)∨(J.go i H∧ys.length < sizeLine∧∃ N:St→List V→Hp→Prop,(∀ σ' ys' H',N σ' ys' H'→∃ m',m' < m∧W (i + 1) m' σ' ys' H') ∧
    ∀ x H',J.yld i H x H'→g x σ H' fun σ2 H2=>tc σ2 H2 fun b H3 =>
      if b = true then te σ2 H3 fun v H4=>H4 D = some (.lst ys)∧N σ2 (ys ++ [v]) (upd H4 D (.lst (ys ++ [v]))) else N σ2 ys H3))
def tComp (src:List (Option Nat)) (wi:TI) (g:TG) (tc:TT) (te:TE):TE:=fun σ H Q=>wi σ H fun J H1=>∀ D,H1 D = none →
  ∃ W:Nat→Nat→St→List V→Hp→Prop,(∃ m,W 0 m (inSt src σ) [] (upd H1 D (.lst [])))∧compW J g tc te D Q W
section
variable {X:Cx} {elt target iter:Expr} {ifs:List Expr} {sc:Scope} {pos:Pos} {wi:TI} {g:TG} {tc:TT} {te:TE} {N':List Str} {src:List (Option Nat)}
theorem comp_loop {it acc:Value} {env:Env} {prog:Program} {w:World} {A:Around} {s:Shared} {R:Result→Shared→Prop} (Iv:Nat→Shared→Prop)
    (turn:∀ n s,Iv n s→wpAny (model prog w) A (pyNext it) (fun r s₁=>match r with
      | none=>R (.ok .next) s₁
      | some v=>wpAny (model prog w) A (letOwnedTupleGo target it v) (fun _ s₁'=>wpAny (model prog w) A (assign target env v) (fun _ s₂ =>
          wpAny (model prog w) A (forIn ifs true fun c r=>if r = true then do let ok ← isTrue c env (eval c env); pure (ForInStep.yield ok) else pure (ForInStep.yield r)) (fun ok s₃ =>
            if ok = true then wpAny (model prog w) A (eval elt env) (fun x s₄ =>
              wpAny (model prog w) A (call (.builtin "list.append") [acc,x]) (fun _ s₅=>∃ m,m < n∧Iv m s₅) (fun _ _=>False) s₄) (fun _ _=>False) s₃
            else ∃ m,m < n∧Iv m s₃) (fun _ _=>False) s₂) (fun _ _=>False) s₁') (fun _ _=>False) s₁) (fun _ _=>False) s)
    (n:Nat) (h:Iv n s) :
    codeAny (model prog w) A (.compLoop (.ListComp elt [⟨target,iter,ifs,0⟩] sc pos) 0 it acc env) R s:=by
  refine codeAny_loop rfl Iv (fun n s hI=>?_) n h
  show wpAny _ A ((compTurn (.ListComp elt [⟨target,iter,ifs,0⟩] sc pos) 0 it acc env).onRaise (fun x=>do noteFrame x env; theTreesLotGoes x)) _ _ s
  refine wpAny_noted ?_
  rw [compTurn_list]
  refine wpAny_bind (wpAny_standAt (wpAny_bind (wpAny_mono (turn n s hI) (fun r s₁ h₁=>?_) fun _ _ h'=>h'.elim)))
  cases r with
  | none=>exact wpAny_pure h₁
  | some v =>
    refine wpAny_bind (wpAny_mono h₁ (fun _ s₁' h₁'=>wpAny_bind (wpAny_mono h₁' (fun _ s₂ h₂=>wpAny_bind (wpAny_mono h₂ (fun ok s₃ h₃=>?_) fun _ _ h'=>h'.elim)) fun _ _ h'=>h'.elim)) fun _ _ h'=>h'.elim)
    cases ok with
    | false=>exact wpAny_pure ⟨rfl,h₃⟩
    | true =>
      exact wpAny_bind (wpAny_bind (wpAny_mono h₃ (fun x s₄ h₄=>wpAny_bind (wpAny_mono h₄ (fun _ s₅ h₅=>wpAny_pure (wpAny_pure ⟨rfl,h₅⟩)) fun _ _ h'=>h'.elim)) fun _ _ h'=>h'.elim))
theorem comp_start {pins:List (Addr×Obj)} {σ:St} {H:Hp} {s:Shared} {h1:Heap} {fp:List Addr} (S:CompSc X.env.scope X.N N' src sc) (I:Inv X pins σ H s) (f2:∀ b ∈ fp,FpOk X pins H b) (o2:∀ b ∈ fp,b < s.heap.objs.size)
    (ns:h1.Ns s.heap.objs.size fun x=>(([]:List (Str×Value)).reverse.lookup x)) (sb:Heap.SameBut s.heap.objs.size (s.heap.push { cls:=.type "dict", data:=.dict #[] }) h1) {tk:Nat} :
    Inv (compCx X N' sc (cloOf X.env.cells sc.names []) s.heap.objs.size s H fp) [] (inSt src σ) H { s with heap:=h1,toks:=tk }:=by
  have old:∀ b o,s.heap.get? b = some o→h1.get? b = some o:=fun b o e=>(sb.2 b (Nat.ne_of_lt (Heap.lt_size e))).trans (Heap.get?_push_of_some _ e)
  have clo:∀ x c,(cloOf X.env.cells sc.names []).lookup x = some c→X.env.cells.lookup x = some c∧sc.names.lookup x = some .free:=fun x c e=>by
    rcases cloOf_mem (mem_of_lookup e) with ⟨m,q⟩ | z
    · obtain ⟨c',e'⟩:=I.ok.has x (S.free _ m rfl)
      rw [e'] at q
      exact ⟨by rw [e',q]; rfl,S.uniq _ m⟩
    · cases z
  have hasC:∀ x,sc.names.lookup x = some .free→∃ c,(cloOf X.env.cells sc.names []).lookup x = some c:=fun x e=>lookup_of_mem (cloOf_has (mem_of_lookup e))
  have kinds:∀ (x:Str) (k:NameKind),(relabel sc X.env).names.lookup x = some k→(k = .cell∨k = .free)→sc.names.lookup x = some .free:=fun x k e hk=>by
    have gen:∀ ns:List (Str×NameKind),(∀ y ∈ ns,y.2 ≠ .cell)→(ns.map fun (n,k)=>if (k == NameKind.free && X.env.scope.kind == .function && X.env.kindOf n == some .cell) then (n,NameKind.cell) else (n,k)).lookup x = some k→ns.lookup x = some .free:=by
      intro ns
      induction ns with
      | nil=>intro _ h; cases h
      | cons y r ih =>
        obtain ⟨n,k1⟩:=y
        intro hn h
        rw [List.map_cons] at h
        dsimp only at h
        by_cases hc:(k1 == NameKind.free && X.env.scope.kind == .function && X.env.kindOf n == some .cell) = true
        · rw [if_pos hc,List.lookup_cons] at h
          rw [List.lookup_cons]
          cases hx:x == n with
          | true =>
            have:k1 = NameKind.free:=by
              cases hk1:k1 == NameKind.free with
              | true=>simpa using hk1
              | false=>rw [hk1] at hc; simp at hc
            rw [this]
          | false=>rw [hx] at h; exact ih (fun y hy=>hn y (List.mem_cons_of_mem _ hy)) h
        · rw [if_neg hc,List.lookup_cons] at h
          rw [List.lookup_cons]
          cases hx:x == n with
          | true =>
            rw [hx] at h
            have h':k1 = k:=Option.some.inj h
            rcases hk with hk | hk
            · exact absurd (h'.trans hk) (hn (n,k1) List.mem_cons_self)
            · show some k1 = _
              rw [h',hk]
          | false=>rw [hx] at h; exact ih (fun y hy=>hn y (List.mem_cons_of_mem _ hy)) h
    exact gen sc.names S.nocell e
  have relab:∀ x,sc.names.lookup x = some .free→(relabel sc X.env).names.lookup x = some .cell∨(relabel sc X.env).names.lookup x = some .free:=fun x e=>by
    have gen:∀ ns:List (Str×NameKind),ns.lookup x = some .free→(ns.map fun (n,k)=>if (k == NameKind.free && X.env.scope.kind == .function && X.env.kindOf n == some .cell) then (n,NameKind.cell) else (n,k)).lookup x = some .cell ∨
        (ns.map fun (n,k)=>if (k == NameKind.free && X.env.scope.kind == .function && X.env.kindOf n == some .cell) then (n,NameKind.cell) else (n,k)).lookup x = some .free:=by
      intro ns
      induction ns with
      | nil=>intro h; cases h
      | cons y r ih =>
        obtain ⟨n,k1⟩:=y
        intro h
        rw [List.map_cons]
        dsimp only
        rw [List.lookup_cons] at h
        by_cases hc:(k1 == NameKind.free && X.env.scope.kind == .function && X.env.kindOf n == some .cell) = true
        · rw [if_pos hc,List.lookup_cons]
          cases hx:x == n with
          | true=>exact .inl rfl
          | false=>rw [hx] at h; exact ih h
        · rw [if_neg hc,List.lookup_cons]
          cases hx:x == n with
          | true =>
            rw [hx] at h
            exact .inr h
          | false=>rw [hx] at h; exact ih h
    exact gen sc.names e
  refine ⟨⟨I.mod,?_,I.ok.glob,I.ok.blt,Nat.le_refl _,fun x y c h1 h2=>I.ok.inj x y c (clo x c h1).1 (clo y c h2).1,fun x hx=>?_,fun x c hf h=>?_,I.ok.hd,I.ok.frames,.inl rfl,fun b hb=>⟨?_,fun x c h=>?_⟩,I.bs,?_,fun b o e hb=>?_,fun b hb hs=>?_,I.stack,I.stkFree⟩,
    rfl,I.bare,Un.kept old,⟨_,ns,fun i x v h1 h2 h3=>?_⟩,fun x c h=>?_,I.hok.fresh (Nat.le_refl _),fun x c h=>I.freeC x c (clo x c h).1,fun p hp=>absurd (show p ∈ ([]:List (Addr×Obj)) from hp) (by simp),I.hok.kept old,?_⟩
  · show (relabel sc X.env).kind = .function
    exact S.kind
  · obtain hx | hx:=hx
    · exact hasC x (kinds x _ hx (.inl rfl))
    · exact hasC x (kinds x _ hx (.inr rfl))
  · have e2:=(clo x c h).2
    have hf':(sc.names.lookup x == some NameKind.local) = true:=hf
    rw [e2] at hf'
    cases hf'
  · exact Nat.ne_of_lt (o2 b hb)
  · exact (f2 b hb).2.2.2.2.1 x c (clo x c h).1
  · exact Nat.le_trans I.ok.bsz I.sz
  · rcases (f2 b hb).2.2.2.1 with z | z
    · exact I.ok.noex b o e z
    · exact absurd (Nat.lt_of_lt_of_le (Heap.lt_size e) (Nat.le_trans I.ok.bsz z)) (Nat.lt_irrefl _)
  · rcases List.mem_cons.mp (I.stkSub b hs) with z | z
    · exact (f2 b hb).2.1 z
    · exact (f2 b hb).2.2.1 z
  · obtain ⟨j,e1,e2⟩:=inSt_get h2
    obtain ⟨e3,e4⟩:=S.src i x j h1 e1
    obtain ⟨m,hn,hl⟩:=I.loc
    have kx:=S.free _ (mem_of_lookup e4) rfl
    obtain ⟨u,ru,l⟩:=hl j x v e3 e2 (.inr kx)
    refine ⟨u,ru,.inr ⟨relab x e4,?_⟩⟩
    obtain ⟨c,hc⟩:=hasC x e4
    refine ⟨c,hc,?_⟩
    have hc':=(clo x c hc).1
    rcases l with ⟨lk,_⟩ | ⟨_,c',lc,z⟩
    · have lk':X.env.scope.names.lookup x = some .local:=lk
      rcases kx with q | q
      · have q':X.env.scope.names.lookup x = some .cell:=q
        rw [lk'] at q'; cases q'
      · have q':X.env.scope.names.lookup x = some .free:=q
        rw [lk'] at q'; cases q'
    · rw [hc'] at lc
      cases lc
      obtain ⟨o,ho,hd⟩:=z
      exact ⟨o,old _ _ ho,hd⟩
  · obtain ⟨v,o,ho,hd⟩:=I.cell x c (clo x c h).1
    exact ⟨v,o,old _ _ ho,hd⟩
  · show (inSt src σ).length = N'.length
    unfold inSt
    rw [List.length_map]
    exact S.len
theorem comp_block {pins:List (Addr×Obj)} {σ:St} {H2:Hp} {s2:Shared} {it:Addr} {fp:List Addr} {tn:Nat→Heap→Prop} {J:It} {Q:VK} {E:Value→Shared→Prop} {RR:Value→Addr→Result→Shared→Prop}
    (hc:X.calm = true) (S:CompSc X.env.scope X.N N' src sc)
    (hg:∀ cl C s H fp,PG (compCx X N' sc cl C s H fp) target g) (ht:∀ cl C s H fp,PIfs (compCx X N' sc cl C s H fp) ifs tc) (he:∀ cl C s H fp,PE (compCx X N' sc cl C s H fp) elt te)
    (I2:Inv X pins σ H2 s2) (T:Turn X.prog X.w X.K target J fp it tn) (st2:tn 0 s2.heap) (f2:∀ b ∈ fp,FpOk X pins H2 b)
    (hW:∀ D,H2 D = none→∃ W:Nat→Nat→St→List V→Hp→Prop,(∃ m,W 0 m (inSt src σ) [] (upd H2 D (.lst [])))∧compW J g tc te D Q W)
    (hRR:∀ D C s5 H' m,Inv X pins σ H' s5→s5.heap.Ns C m→FpOk X pins H' C→Q (.ref D) H'→RR (.ref D) C (.ok .next) s5) :
    wpAny (model X.prog X.w) X.A (newList []) (fun acc s₃=>wpAny (model X.prog X.w) X.A (newFunctionEnv sc X.env.globals (cloOf X.env.cells sc.names []) [] X.env.qual none .none (some X.env)) (fun cenv s₄ =>
      codeAny (model X.prog X.w) X.A (.compStart (.ListComp elt [⟨target,iter,ifs,0⟩] sc pos) 0 (.ref it) acc { cenv with scope:=relabel sc X.env }) (RR acc cenv.locals) s₄) E s₃) E s2:=by
  have o2:∀ b ∈ fp,b < s2.heap.objs.size:=fun b hb=>by
    obtain ⟨o,e,_⟩:=T.obj 0 _ st2 b hb
    exact Heap.lt_size e
  refine wpAny_newObj_type ?_
  have fr2:H2 s2.heap.objs.size = none:=I2.hok.fresh (Nat.le_refl _)
  obtain ⟨W,⟨m0,w0⟩,turn⟩:=hW s2.heap.objs.size fr2
  have I3:Inv X pins σ (upd H2 s2.heap.objs.size (.lst [])) { s2 with heap:=s2.heap.push { cls:=.type "list", dict:=none,data:=.seq ([]:List Value).toArray } } :=
    I2.laid (t':=s2.toks) (fun b u e=>Heap.get?_push_of_some _ e) (Nat.le_refl _) ⟨Nat.zero_le _,[],0,.nil,Heap.get?_push_size _ rfl⟩
  have st3:tn 0 (s2.heap.push { cls:=.type "list", dict:=none,data:=.seq ([]:List Value).toArray }):=T.keep 0 _ _ st2 fun b hb o e=>Heap.get?_push_of_some _ e
  generalize hs3:({ s2 with heap:=s2.heap.push { cls:=.type "list", dict:=none,data:=.seq ([]:List Value).toArray } }:Shared) = s3 at I3
  have hh3:s3.heap = s2.heap.push { cls:=.type "list", dict:=none,data:=.seq ([]:List Value).toArray }:=by rw [← hs3]
  have sz3:s2.heap.objs.size < s3.heap.objs.size:=by rw [hh3,Heap.size_push]; exact Nat.lt_succ_self _
  have o3:∀ b ∈ fp,b < s3.heap.objs.size:=fun b hb=>Nat.lt_trans (o2 b hb) sz3
  have f3:∀ b ∈ fp,FpOk X pins (upd H2 s2.heap.objs.size (.lst [])) b:=fun b hb=>⟨by rw [upd_ne (Nat.ne_of_lt (o2 b hb))]; exact (f2 b hb).1,(f2 b hb).2⟩
  rw [← hh3] at st3
  refine wpAny_newFunctionEnv S.nocell (by intro y hy; simp at hy) (fun h1 hns hsb=>?_) S.kind
  have hsb':Heap.SameBut s3.heap.objs.size (s3.heap.push { cls:=.type "dict", data:=.dict #[] }) h1:=hsb
  have I4:Inv (compCx X N' sc (cloOf X.env.cells sc.names []) s3.heap.objs.size s3 (upd H2 s2.heap.objs.size (.lst [])) fp) [] (inSt src σ) (upd H2 s2.heap.objs.size (.lst [])) { s3 with heap:=h1,toks:=s3.toks + ([]:List (Str×Value)).length } :=
    comp_start S I3 f3 o3 hns hsb'
  have st4:tn 0 h1:=T.keep 0 _ _ st3 fun b hb o e=>(hsb'.2 b (Nat.ne_of_lt (o3 b hb))).trans (Heap.get?_push_of_some _ e)
  have fC:∀ (H':Hp) , H' s3.heap.objs.size = none→FpOk X pins H' s3.heap.objs.size:=fun H' hn=>I3.fpOk (Nat.le_refl _) hn
  have loop:codeAny (model X.prog X.w) X.A (.compLoop (.ListComp elt [⟨target,iter,ifs,0⟩] sc pos) 0 (.ref it) (.ref s2.heap.objs.size) (compEnvC sc (cloOf X.env.cells sc.names []) s3.heap.objs.size X.env))
      (RR (.ref s2.heap.objs.size) s3.heap.objs.size) { s3 with heap:=h1,toks:=s3.toks + ([]:List (Str×Value)).length }:=by
    have stat:∀ {H':Hp},(∀ b ∈ fp,H' b = none)→∀ b ∈ fp,FpOk (compCx X N' sc (cloOf X.env.cells sc.names []) s3.heap.objs.size s3 (upd H2 s2.heap.objs.size (.lst [])) fp) [] H' b:=fun hn b hb =>
      ⟨hn b hb,(I4.ok.exf b hb).1,I4.ok.exfs b hb,.inl hb,(I4.ok.exf b hb).2,fun p hp=>absurd (show p ∈ ([]:List (Addr×Obj)) from hp) (by simp)⟩
    refine comp_loop (fun n s'=>∃ i σ' ys H',Inv (compCx X N' sc (cloOf X.env.cells sc.names []) s3.heap.objs.size s3 (upd H2 s2.heap.objs.size (.lst [])) fp) [] σ' H' s'∧tn i s'.heap∧(∀ b ∈ fp,H' b = none)∧W i n σ' ys H') ?_ m0
      ⟨0,_,[],_,I4,st4,fun b hb=>(f3 b hb).1,w0⟩
    rintro n s5 ⟨i,σ5,ys,H5,I5,st5,fr5,w5⟩
    obtain ⟨hD,alt⟩:=turn i n σ5 ys H5 w5
    rcases alt with ⟨stop,qn⟩ | ⟨go,hsz,N,hN,step⟩
    · refine thn (T.done (compCx X N' sc (cloOf X.env.cells sc.names []) s3.heap.objs.size s3 (upd H2 s2.heap.objs.size (.lst [])) fp) rfl rfl rfl hc i [] s5 σ5 H5 _ I5 (stat fr5) st5 stop) fun r s6 ⟨hr,I6⟩=>?_
      subst hr
      obtain ⟨m6,n6,_⟩:=id I6.loc
      refine hRR _ _ s6 H5 m6 (I3.call' I6.os I6.base I6.hok I6.bare fun b hb=>⟨(f3 b hb).2.2.2.1,(f3 b hb).2.1,(f3 b hb).2.2.2.2.1,(f3 b hb).2.2.2.2.2⟩) n6 (fC _ I6.free) qn
    · refine thn (T.item (compCx X N' sc (cloOf X.env.cells sc.names []) s3.heap.objs.size s3 (upd H2 s2.heap.objs.size (.lst [])) fp) rfl rfl rfl hc i [] s5 σ5 H5 _ I5 (stat fr5) st5 go) fun r s6 ⟨u,hr,h6⟩=>?_
      subst hr
      refine thn h6 fun _ s7 ⟨x,H7,I7,r7,y7,st7,fr7⟩=>?_
      have I7':=I7.pinned (stat fr7) (T.obj _ _ st7)
      refine thn (hg _ _ _ _ _ _ s7 σ5 H7 x u _ I7' r7 (step x H7 y7)) fun _ s8 ⟨σ8,H8,I8,q8⟩=>?_
      refine thn (ht _ _ _ _ _ _ s8 σ8 H8 _ I8 q8) fun b s9 ⟨H9,I9,q9⟩=>?_
      have again:∀ {σ':St} {H':Hp} {s':Shared} {ys':List V} {m':Nat},Inv (compCx X N' sc (cloOf X.env.cells sc.names []) s3.heap.objs.size s3 (upd H2 s2.heap.objs.size (.lst [])) fp) ([] ++ pinsAt fp s7.heap) σ' H' s'→m' < n→W (i + 1) m' σ' ys' H' →
          ∃ m,m < n∧∃ i σ' ys H',Inv (compCx X N' sc (cloOf X.env.cells sc.names []) s3.heap.objs.size s3 (upd H2 s2.heap.objs.size (.lst [])) fp) [] σ' H' s'∧tn i s'.heap∧(∀ b ∈ fp,H' b = none)∧W i m σ' ys H':=fun {σ' H' s' ys' m'} I' hm w'=>by
        refine ⟨m',hm,i + 1,σ',ys',H',I'.unpinned,T.keep _ _ _ st7 fun b hb o e=>(I'.pin (b,o) (List.mem_append_right _ (List.mem_append_right _ (mem_pinsAt hb e)))).1,fun b hb=>?_,w'⟩
        obtain ⟨o,e,d⟩:=T.obj _ _ st7 b hb
        exact (I'.pin (b,o) (List.mem_append_right _ (List.mem_append_right _ (mem_pinsAt hb e)))).2.1
      cases b with
      | false =>
        rw [if_neg Bool.false_ne_true] at q9 ⊢
        obtain ⟨m',hm,w'⟩:=hN _ _ _ q9
        exact again I9 hm w'
      | true =>
        rw [if_pos rfl] at q9 ⊢
        refine thn (he _ _ _ _ _ _ s9 σ8 H9 _ I9 q9) fun xv s10 ⟨v,H10,I10,r10,hD10,w10⟩=>?_
        obtain ⟨m',hm,w'⟩:=hN _ _ _ w10
        have q10:rAppend (.ref s2.heap.objs.size) [v] H10 fun _ H'=>H' = upd H10 s2.heap.objs.size (.lst (ys ++ [v])):=⟨_,ys,v,rfl,rfl,hD10,hsz,rfl⟩
        refine thn (mt_append _ s10 σ8 H10 _ _ _ _ _ I10 (show RelV (.ref s2.heap.objs.size) (.ref s2.heap.objs.size) from rfl) (.cons r10 .nil) q10) fun _ s11 ⟨_,H11,I11,_,e11⟩=>?_
        rw [e11] at I11
        exact again I11 hm w'
  exact codeAny_compStart_list loop (T.self _ 0 _ _ _ st4 loop)
theorem pe_lcomp (hc:X.calm = true) (S:CompSc X.env.scope X.N N' src sc) (hi:PI X target iter wi)
    (hg:∀ cl C s H fp,PG (compCx X N' sc cl C s H fp) target g) (ht:∀ cl C s H fp,PIfs (compCx X N' sc cl C s H fp) ifs tc) (he:∀ cl C s H fp,PE (compCx X N' sc cl C s H fp) elt te)
    (hs:∀ x,foldedSetIterable iter X.env x = pure x:=by intro _; rfl) :
    PE X (.ListComp elt [⟨target,iter,ifs,0⟩] sc pos) (tComp src wi g tc te):=by
  intro pins s σ H Q I h
  rw [eval_ListComp]
  refine wpAny_comprehension_free (use:=none) rfl hs (closureFor_clo fun y hy hk=>I.ok.has y.1 (S.free y hy hk)) S.kind (fun y hy hl=>by rw [← hl]; exact S.uniq y hy) ?_
  refine thn (hi pins s σ H _ I h) fun v s1 h1=>thn h1 fun itv s2 h2=>?_
  obtain ⟨it,fp,tn,J,H2,e,I2,T,st2,f2,hW⟩:=h2
  subst e
  refine comp_block (Q:=Q) (RR:=fun acc C=>compPost (model X.prog X.w) X.A X.xe none (EP X pins σ Q) acc C) hc S hg ht he I2 T st2 f2 hW ?_
  intro D C s5 H' m I5 n5 fC q
  refine ⟨m,n5,fun h' sb=>⟨.ref D,H',?_,rfl,q⟩⟩
  exact I5.turned (t':=s5.toks) (fun b o hb e=>(sb.2 b hb).trans e) fC.1 fC.2.1 fC.2.2.2.1 fC.2.2.2.2.1 fC.2.2.2.2.2
theorem ps_setComp {i:Nat} {x:Str} {pos' spos:Pos} (hN:X.N.Nodup) (hi':X.N[i]? = some x) (hx:Loc X.env.scope x) (hsw:swapsWith (.ListComp elt [⟨target,iter,ifs,0⟩] sc pos) (some (.Name x pos')) spos.line X.env = pure true)
    (hc:X.calm = true) (S:CompSc X.env.scope X.N N' src sc) (hi:PI X target iter wi)
    (hg:∀ cl C s H fp,PG (compCx X N' sc cl C s H fp) target g) (ht:∀ cl C s H fp,PIfs (compCx X N' sc cl C s H fp) ifs tc) (he:∀ cl C s H fp,PE (compCx X N' sc cl C s H fp) elt te)
    (hf:X.fn x = true∨X.env.scope.names.lookup x = some .local:=by first | exact .inl rfl | exact .inr rfl | assumption)
    (hs:∀ x,foldedSetIterable iter X.env x = pure x:=by intro _; rfl) :
    PS X (.Assign [.Name x pos'] (.ListComp elt [⟨target,iter,ifs,0⟩] sc pos) spos) (tAsg (tComp src wi g tc te) (gName i)):=by
  intro pins s σ H D I h
  rw [exec_Assign_Name_used _ _ _ _ hsw]
  refine wpAny_bind (wpAny_standAt (wpAny_bind ?_))
  show wpAny _ _ (comprehension _ _ _ _ _ _ _ _ >>= _) _ _ s
  refine wpAny_bind (wpAny_comprehension_free (use:=some (assign (.Name x pos') X.env)) rfl hs (closureFor_clo fun y hy hk=>I.ok.has y.1 (S.free y hy hk)) S.kind (fun y hy hl=>by rw [← hl]; exact S.uniq y hy) ?_)
  refine thn (hi pins s σ H _ I h) fun v s1 h1=>thn h1 fun itv s2 h2=>?_
  obtain ⟨it,fp,tn,J,H2,e,I2,T,st2,f2,hW⟩:=h2
  subst e
  refine comp_block (Q:=fun y H'=>D.nx (σ.set i (some y)) H') (RR:=fun acc C=>compPost (model X.prog X.w) X.A X.xe (some (assign (.Name x pos') X.env)) _ acc C) hc S hg ht he I2 T st2 f2 hW ?_
  intro D' C s5 H' m I5 n5 fC q
  refine wpAny_assign_Name (store_ok2 I5 hN hi' hx (show RelV (.ref D') (.ref D') from rfl) (fun s6 I6 hsb=>?_) hf)
  obtain ⟨a,sb,ha⟩:=hsb
  have hCa:C ≠ a:=by
    rcases ha with z | z
    · rw [z]; exact fC.2.1
    · exact fun e=>fC.2.2.2.2.1 x a z e.symm
  refine ⟨m,n5.sameBut sb hCa,fun h' sb'=>?_⟩
  refine wpAny_pure (wpAny_pure ?_)
  exact ⟨_,H',I6.turned (t':=s6.toks) (fun b o hb e=>(sb'.2 b hb).trans e) fC.1 fC.2.1 fC.2.2.2.1 fC.2.2.2.2.1 fC.2.2.2.2.2,q⟩
end
def compOkB (osc:Scope) (ON N':List Str) (src:List (Option Nat)) (sc:Scope):Bool :=
  sc.kind == .function && osc.kind == .function && sc.names.all (fun y=>sc.names.lookup y.1 == some y.2 && y.2 != .cell && (y.2 != .free || osc.names.lookup y.1 == some .cell || osc.names.lookup y.1 == some .free)) &&
  src.length == N'.length && (N'.zip src).all fun y=>match y.2 with | none=>true | some j=>ON[j]? == some y.1 && sc.names.lookup y.1 == some .free
theorem CompSc.ofB {osc:Scope} {ON N':List Str} {src:List (Option Nat)} {sc:Scope} (h:compOkB osc ON N' src sc = true):CompSc osc ON N' src sc:=by
  unfold compOkB at h
  simp only [Bool.and_eq_true] at h
  obtain ⟨⟨⟨⟨h1,h2⟩,h3⟩,h4⟩,h5⟩:=h
  have h3':=List.all_eq_true.mp h3
  have h5':=List.all_eq_true.mp h5
  refine ⟨by simpa using h1,by simpa using h2,fun y hy=>?_,fun y hy=>?_,fun y hy hf=>?_,by simpa using h4,fun i x j e1 e2=>?_⟩
  · have:=h3' y hy
    simp only [Bool.and_eq_true] at this
    simpa using this.1.1
  · have:=h3' y hy
    simp only [Bool.and_eq_true] at this
    simpa using this.1.2
  · have:=h3' y hy
    simp only [Bool.and_eq_true,Bool.or_eq_true] at this
    rcases this.2 with (z | z) | z
    · rw [hf] at z; exact absurd z (by decide)
    · exact .inl (by simpa using z)
    · exact .inr (by simpa using z)
  · have m:(x,some j) ∈ N'.zip src:=by
      refine List.mem_of_getElem? (i:=i) ?_
      rw [List.getElem?_zip_eq_some]
      exact ⟨e1,e2⟩
    have:=h5' _ m
    simp only [Bool.and_eq_true] at this
    exact ⟨by simpa using this.1,by simpa using this.2⟩
section
variable {g:TG} {tc:TT} {te:TE} {D:Addr} {Q:VK} {σ0:St} {H0:Hp}
theorem comp_range {lo:Int} {n:Nat} (Pv:Nat→St→List V→Hp→Prop) (h0:Pv 0 σ0 [] H0) (hD:∀ i σ ys H,i ≤ n→Pv i σ ys H→H D = some (.lst ys)∧ys.length ≤ i) (hz:n ≤ sizeLine)
    (hs:∀ i σ ys H,i < n→Pv i σ ys H→g (.int (lo + i)) σ H fun σ2 H2=>tc σ2 H2 fun b H3=>if b = true then te σ2 H3 fun v H4=>H4 D = some (.lst ys)∧Pv (i + 1) σ2 (ys ++ [v]) (upd H4 D (.lst (ys ++ [v]))) else Pv (i + 1) σ2 ys H3)
    (hd:∀ σ ys H,Pv n σ ys H→Q (.ref D) H):∃ W:Nat→Nat→St→List V→Hp→Prop,(∃ m,W 0 m σ0 [] H0)∧compW (Itr lo n) g tc te D Q W:=by
  refine ⟨fun i m σ ys H=>m = n - i∧i ≤ n∧Pv i σ ys H,⟨n,by simp,Nat.zero_le _,h0⟩,?_⟩
  rintro i m σ ys H ⟨rfl,hi,p⟩
  refine ⟨(hD i σ ys H hi p).1,?_⟩
  by_cases hlt:i < n
  · refine .inr ⟨hlt,Nat.lt_of_le_of_lt (hD i σ ys H hi p).2 (Nat.lt_of_lt_of_le hlt hz),Pv (i + 1),fun σ' ys' H' p'=>⟨n - (i + 1),by omega,rfl,hlt,p'⟩,fun x H' y=>?_⟩
    obtain ⟨e,y⟩:=y
    subst e y
    exact hs i σ ys _ hlt p
  · have e:i = n:=by omega
    subst e
    exact .inl ⟨Nat.le_refl _,hd σ ys H p⟩
theorem comp_list {K:PySem.W.Frag} {a:Addr} {xs:List V} (Pv:Nat→St→List V→Hp→Prop) (h0:Pv 0 σ0 [] H0) (hD:∀ i σ ys H,i ≤ xs.length→Pv i σ ys H→H D = some (.lst ys)∧ys.length ≤ i) (hl:∀ i σ ys H,i ≤ xs.length→Pv i σ ys H→SqL K H a xs) (hz:xs.length ≤ sizeLine)
    (hs:∀ i x σ ys H,xs[i]? = some x→Pv i σ ys H→g x σ H fun σ2 H2=>tc σ2 H2 fun b H3=>if b = true then te σ2 H3 fun v H4=>H4 D = some (.lst ys)∧Pv (i + 1) σ2 (ys ++ [v]) (upd H4 D (.lst (ys ++ [v]))) else Pv (i + 1) σ2 ys H3)
    (hd:∀ σ ys H,Pv xs.length σ ys H→Q (.ref D) H):∃ W:Nat→Nat→St→List V→Hp→Prop,(∃ m,W 0 m σ0 [] H0)∧compW (Itl K a) g tc te D Q W:=by
  refine ⟨fun i m σ ys H=>m = xs.length - i∧i ≤ xs.length∧Pv i σ ys H,⟨xs.length,by simp,Nat.zero_le _,h0⟩,?_⟩
  rintro i m σ ys H ⟨rfl,hi,p⟩
  have q:=hl i σ ys H hi p
  refine ⟨(hD i σ ys H hi p).1,?_⟩
  by_cases hlt:i < xs.length
  · refine .inr ⟨⟨xs,xs[i],q,by simp [hlt]⟩,Nat.lt_of_le_of_lt (hD i σ ys H hi p).2 (Nat.lt_of_lt_of_le hlt hz),Pv (i + 1),fun σ' ys' H' p'=>⟨xs.length - (i + 1),by omega,rfl,hlt,p'⟩,fun x H' y=>?_⟩
    obtain ⟨e,y⟩:=y
    subst e
    exact hs i x σ ys _ (y xs q) p
  · have e:i = xs.length:=by omega
    subst e
    exact .inl ⟨⟨xs,q,Nat.le_refl _⟩,hd σ ys H p⟩
theorem comp_tup {K:PySem.W.Frag} {a:Addr} {xs:List V} (Pv:Nat→St→List V→Hp→Prop) (h0:Pv 0 σ0 [] H0) (hD:∀ i σ ys H,i ≤ xs.length→Pv i σ ys H→H D = some (.lst ys)∧ys.length ≤ i) (hl:∀ i σ ys H,i ≤ xs.length→Pv i σ ys H→SqT K H a xs) (hz:xs.length ≤ sizeLine)
    (hs:∀ i x σ ys H,xs[i]? = some x→Pv i σ ys H→g x σ H fun σ2 H2=>tc σ2 H2 fun b H3=>if b = true then te σ2 H3 fun v H4=>H4 D = some (.lst ys)∧Pv (i + 1) σ2 (ys ++ [v]) (upd H4 D (.lst (ys ++ [v]))) else Pv (i + 1) σ2 ys H3)
    (hd:∀ σ ys H,Pv xs.length σ ys H→Q (.ref D) H):∃ W:Nat→Nat→St→List V→Hp→Prop,(∃ m,W 0 m σ0 [] H0)∧compW (Itt K a) g tc te D Q W:=by
  refine ⟨fun i m σ ys H=>m = xs.length - i∧i ≤ xs.length∧Pv i σ ys H,⟨xs.length,by simp,Nat.zero_le _,h0⟩,?_⟩
  rintro i m σ ys H ⟨rfl,hi,p⟩
  have q:=hl i σ ys H hi p
  refine ⟨(hD i σ ys H hi p).1,?_⟩
  by_cases hlt:i < xs.length
  · refine .inr ⟨⟨xs,xs[i],q,by simp [hlt]⟩,Nat.lt_of_le_of_lt (hD i σ ys H hi p).2 (Nat.lt_of_lt_of_le hlt hz),Pv (i + 1),fun σ' ys' H' p'=>⟨xs.length - (i + 1),by omega,rfl,hlt,p'⟩,fun x H' y=>?_⟩
    obtain ⟨e,y⟩:=y
    subst e
    exact hs i x σ ys _ (y xs q) p
  · have e:i = xs.length:=by omega
    subst e
    exact .inl ⟨⟨xs,q,Nat.le_refl _⟩,hd σ ys H p⟩
end
section
variable {X:Cx} {N':List Str} {sc:Scope} {cl:List (Str×Addr)} {C:Addr} {s:Shared} {H:Hp} {fp:List Addr}
theorem relabel_free {env:Env} {x:Str} (e:sc.names.lookup x = some .free):(relabel sc env).names.lookup x = some .cell∨(relabel sc env).names.lookup x = some .free:=by
  have gen:∀ ns:List (Str×NameKind),ns.lookup x = some .free→(ns.map fun (n,k)=>if (k == NameKind.free && env.scope.kind == .function && env.kindOf n == some .cell) then (n,NameKind.cell) else (n,k)).lookup x = some .cell ∨
      (ns.map fun (n,k)=>if (k == NameKind.free && env.scope.kind == .function && env.kindOf n == some .cell) then (n,NameKind.cell) else (n,k)).lookup x = some .free:=by
    intro ns
    induction ns with
    | nil=>intro h; cases h
    | cons y r ih =>
      obtain ⟨n,k1⟩:=y
      intro h
      rw [List.map_cons]
      dsimp only
      rw [List.lookup_cons] at h
      by_cases hc:(k1 == NameKind.free && env.scope.kind == .function && env.kindOf n == some .cell) = true
      · rw [if_pos hc,List.lookup_cons]
        cases hx:x == n with
        | true=>exact .inl rfl
        | false=>rw [hx] at h; exact ih h
      · rw [if_neg hc,List.lookup_cons]
        cases hx:x == n with
        | true =>
          rw [hx] at h
          exact .inr h
        | false=>rw [hx] at h; exact ih h
  exact gen sc.names e
theorem relabel_other {env:Env} {x:Str} {k:NameKind} (hk:(k == NameKind.free) = false) (e:sc.names.lookup x = some k):(relabel sc env).names.lookup x = some k:=by
  have gen:∀ ns:List (Str×NameKind),ns.lookup x = some k→(ns.map fun (n,k)=>if (k == NameKind.free && env.scope.kind == .function && env.kindOf n == some .cell) then (n,NameKind.cell) else (n,k)).lookup x = some k:=by
    intro ns
    induction ns with
    | nil=>intro h; cases h
    | cons y r ih =>
      obtain ⟨n,k1⟩:=y
      intro h
      rw [List.map_cons]
      dsimp only
      rw [List.lookup_cons] at h
      cases hx:x == n with
      | true =>
        rw [hx] at h
        have h':k1 = k:=Option.some.inj h
        subst h'
        rw [if_neg (by rw [hk]; simp),List.lookup_cons,hx]
      | false =>
        rw [hx] at h
        split
        · rw [List.lookup_cons,hx]; exact ih h
        · rw [List.lookup_cons,hx]; exact ih h
  exact gen sc.names e
theorem pvf (i:Nat) {x:Str} {pos:Pos} (hN:N'[i]? = some x:=by rfl) (hv:sc.names.lookup x = some .free:=by rfl) (hd:(x == ("__debug__" : Str)) = false:=by decide) (hcd:(x == ("__classdict__" : Str)) = false:=by decide) :
    PE (compCx X N' sc cl C s H fp) (.Name x pos) (tVar i):=pe_var (X:=compCx X N' sc cl C s H fp) hN (.inr (relabel_free hv)) hd hcd
theorem pvl (i:Nat) {x:Str} {pos:Pos} (hN:N'[i]? = some x:=by rfl) (hv:sc.names.lookup x = some .local:=by rfl) (hd:(x == ("__debug__" : Str)) = false:=by decide) (hcd:(x == ("__classdict__" : Str)) = false:=by decide) :
    PE (compCx X N' sc cl C s H fp) (.Name x pos) (tVar i):=pe_var (X:=compCx X N' sc cl C s H fp) hN (.inl (relabel_other rfl hv)) hd hcd
theorem pgl {i:Nat} {x:Str} {pos:Pos} (hn:N'.Nodup:=by decide +kernel) (hN:N'[i]? = some x:=by rfl) (hv:sc.names.lookup x = some .local:=by rfl) :
    PG (compCx X N' sc cl C s H fp) (.Name x pos) (gName i):=pg_name (X:=compCx X N' sc cl C s H fp) hn hN (.inl (relabel_other rfl hv)) (.inr (relabel_other rfl hv))
theorem glc {x:Str} (hv:sc.names.lookup x = some .globalImplicit:=by rfl):Gl (compCx X N' sc cl C s H fp) x:=relabel_other (env:=X.env) rfl hv
end
end L2
namespace L2
open PySem PySem.Spec PyProof.Rows
section
variable {X:Cx}
theorem call_divmodB:CallR X (.builtin "divmod") (fun xs H Q=>∃ i j,xs = [.int i,.int j]∧(0 < j∧j.natAbs.log2 < 9000)∧∀ p,H p = none→Q (.ref p) (upd H p (.tup [.int (i / j),.int (i % j)]))):=by
  intro pins s σ H xs us Q I r h
  obtain ⟨i,j,rfl,⟨h1,h2⟩,q⟩:=h
  obtain ⟨u,w',rfl,⟨t,rfl⟩,⟨t',rfl⟩⟩:=vals2 r
  refine divmod_int (by omega) ?_ (.inl (PyProof.noPylong_of_log2 h2))
  rw [Int.fdiv_eq_ediv_of_nonneg i (by omega),Int.fmod_eq_emod_of_nonneg i (by omega)]
  have hn:H s.heap.objs.size = none:=I.hok.fresh (Nat.le_refl _)
  refine ⟨.ref s.heap.objs.size,_,?_,rfl,q _ hn⟩
  refine I.laid (fun b o e=>Heap.get?_push_of_some _ e) (Nat.le_refl _) ⟨by simp only [List.length_cons,List.length_nil]; rw [sizeLine_eq]; decide,[.int (i / j) s.toks,.int (i % j) (s.toks + 1)],.cons ⟨_,rfl⟩ (.cons ⟨_,rfl⟩ .nil),?_⟩
  exact ⟨_,Heap.get?_push_size s.heap rfl,rfl,⟨0,rfl⟩,rfl⟩
theorem strsAre_of {ys:List Str}:∀ {us:List Value},Vals (ys.map V.str) us→StrsAre us ys:=by
  induction ys with
  | nil=>intro us r; cases r; exact .nil
  | cons y ys ih =>
    intro us r
    cases r with
    | cons h t =>
      obtain ⟨tk,rfl⟩:=h
      exact .cons _ _ (ih t)
def rJoin (K:PySem.W.Frag):V→List V→Hp→VK→Prop:=fun x vs H Q=>∃ sep p ys,x = .str sep∧vs = [.ref p]∧SqL K H p (ys.map V.str)∧(ys.map (·.length)).sum + ys.length * sep.length ≤ 16777216∧Q (.str (Txt.join sep ys)) H
theorem mt_join:MtR X "str.join" (rJoin X.K):=by
  intro pins s σ H x vs v us Q I rx rv h
  obtain ⟨sep,p,ys,rfl,rfl,hS,hz,q⟩:=h
  obtain ⟨tk,rfl⟩:=rx
  obtain ⟨u,rfl,ru⟩:=vals1 rv
  cases ru
  obtain ⟨its,r,pl,_⟩:=I.list hS
  exact join_list pl.isList (strsAre_of (by simpa using r)) hz fun t' k=>⟨.str (Txt.join sep ys),H,I.tok _,⟨_,rfl⟩,q⟩
end
def PotAt (H:Hp) (p:Addr):Prop:=∃ a b:Int,H p = some (.lst [.int a,.int b,.int 20])∧0 ≤ a∧0 ≤ b∧b ≤ 2147483647
structure Grow (p:Addr) (H H':Hp):Prop where
  keep:∀ b o,b ≠ p→H b = some o→H' b = some o
  pot:PotAt H' p
theorem Grow.refl {p:Addr} {H:Hp} (h:PotAt H p):Grow p H H:=⟨fun _ _ _ e=>e,h⟩
theorem Grow.trans {p:Addr} {H H1 H2:Hp} (a:Grow p H H1) (b:Grow p H1 H2):Grow p H H2:=⟨fun c o n e=>b.keep c o n (a.keep c o n e),b.pot⟩
theorem Grow.same {p:Addr} {H H1:Hp} (h:PotAt H p) (s:Same H H1):Grow p H H1:=⟨fun c o _ e=>s c o e,let ⟨a,b,e,r⟩:=h; ⟨a,b,s _ _ e,r⟩⟩
theorem same_new {H:Hp} {p:Addr} (h:H p = none) (o:HO):Same H (upd H p o):=fun b u q=>by rw [upd_ne (ne_of_none q h)]; exact q
theorem Grow.new {p q:Addr} {H H1:Hp} {o:HO} (a:Grow p H H1) (h:H1 q = none):Grow p H (upd H1 q o):=a.trans (.same a.pot (same_new h o))
def spCell (K:PySem.W.Frag):Sp:=fun vs H Q _=>∃ (a:Addr) (ns:List Int) (k:Int),vs = [.ref a,.int k]∧SqL K H a (ns.map V.int)∧0 ≤ k∧∀ n,Q (.int n) H
def spPot (K:PySem.W.Frag):Sp:=fun vs H Q _=>∃ (a:Addr) (ns:List Int) (k:Int),vs = [.ref a,.int k]∧SqL K H a (ns.map V.int)∧0 ≤ k∧k ≤ 1000∧∀ p H',H p = none→Same H H'→PotAt H' p→Q (.ref p) H'
def spDraw:Sp:=fun vs H Q _=>∃ (p:Addr) (m:Int),vs = [.ref p,.int m]∧PotAt H p∧0 < m∧m.natAbs.log2 < 9000∧∀ d H',Grow p H H'→0 ≤ d→d < m→Q (.int d) H'
def isW (x:Str):Prop:=1 ≤ x.length∧x.length ≤ 8∧∀ c ∈ x.cps.toList,97 ≤ c∧c ≤ 122
theorem ixN_lt {n:Nat} {i:Int} (h0:0 ≤ i) (h1:i < n):ixN n i = some i.toNat:=by
  unfold ixN; rw [if_pos h0,if_pos h1]
theorem atI_lt {xs:List V} {i:Int} (h0:0 ≤ i) (h1:i < xs.length):∃ v,atI xs i = some v∧xs[i.toNat]? = some v:=by
  have e:=ixN_lt h0 h1
  have hj:i.toNat < xs.length:=by omega
  refine ⟨xs[i.toNat],?_,by simp [hj]⟩
  unfold atI; rw [e]
  show xs[i.toNat]? = _
  simp [hj]
theorem atI_mem {xs:List V} {i:Int} (h0:0 ≤ i) (h1:i < xs.length):∃ v,atI xs i = some v∧v ∈ xs:=by
  obtain ⟨v,h,g⟩:=atI_lt h0 h1
  exact ⟨v,h,List.mem_of_getElem? g⟩
theorem atS_mem {z:Str} {i:Int} (h0:0 ≤ i) (h1:i < (z.cps.toList.length:Nat)):∃ c,atI z.cps.toList i = some c∧c ∈ z.cps.toList:=by
  have e:=ixN_lt (n:=z.cps.toList.length) h0 h1
  have hj:i.toNat < z.cps.toList.length:=by omega
  refine ⟨z.cps.toList[i.toNat],?_,List.getElem_mem hj⟩
  unfold atI; rw [e]
  show z.cps.toList[i.toNat]? = _
  simp only [hj,List.getElem?_eq_getElem]
theorem glue_fold (g:Str):∀ (ps:List Str) (acc:Array Nat),(ps.foldl (fun acc p=>acc ++ g.cps ++ p.cps) acc).toList = acc.toList ++ (ps.map fun p=>g.cps.toList ++ p.cps.toList).flatten
  | [],acc=>by simp
  | p :: r,acc=>by
    rw [List.foldl_cons,glue_fold g r]
    simp [List.append_assoc]
theorem join_codes (g:Str) (ps:List Str):(Txt.join g ps).cps.toList = (ps.headD Str.empty).cps.toList ++ ((ps.drop 1).map fun p=>g.cps.toList ++ p.cps.toList).flatten:=by
  unfold Txt.join Builtin.Str.glued
  exact glue_fold g (ps.drop 1) _
def sgn (c:Nat):Str:=⟨#[c]⟩
theorem nosep:(("" : Str).cps).toList = []:=by decide +kernel
theorem noStr:(Str.empty.cps).toList = []:=by decide +kernel
theorem join_signs (zs:List Nat):(Txt.join "" (zs.map sgn)).cps.toList = zs:=by
  rw [join_codes,nosep]
  cases zs with
  | nil=>exact noStr
  | cons z r =>
    show [z] ++ ((r.map sgn).map fun p=>[] ++ p.cps.toList).flatten = z :: r
    have e:((r.map sgn).map fun p=>[] ++ p.cps.toList).flatten = r:=by
      induction r with
      | nil=>rfl
      | cons y r ih =>
        rw [List.map_cons,List.map_cons,List.flatten_cons,ih]
        rfl
    rw [e]
    rfl
theorem sgn_len (zs:List Nat):((zs.map sgn).map (·.length)).sum = zs.length:=by
  induction zs with
  | nil=>rfl
  | cons z r ih=>rw [List.map_cons,List.map_cons,List.sum_cons,ih,List.length_cons]; show 1 + _ = _; omega
theorem isW_of {x:Str} {zs:List Nat} (e:x.cps.toList = zs) (h1:1 ≤ zs.length) (h2:zs.length ≤ 8) (h3:∀ c ∈ zs,97 ≤ c∧c ≤ 122):isW x:=by
  have l:x.length = zs.length:=by show x.cps.size = _; rw [← e]; simp
  exact ⟨by omega,by omega,by rw [e]; exact h3⟩
theorem Grow.put {p D:Addr} {H H3 H4:Hp} {o:HO} (g3:Grow p H H3) (hD:H3 D = none) (n:D ≠ p) (g4:Grow p H H4):Grow p H (upd H4 D o):=by
  refine ⟨fun b u nb e=>?_,?_⟩
  · by_cases hb:b = D
    · subst hb
      exact absurd (g3.keep b u n e) (by rw [hD]; simp)
    · rw [upd_ne hb]
      exact g4.keep b u nb e
  · obtain ⟨x,y,e,r⟩:=g4.pot
    exact ⟨x,y,by rw [upd_ne (Ne.symm n)]; exact e,r⟩
theorem Grow.ne {p D:Addr} {H H3:Hp} (g3:Grow p H H3) (hD:H3 D = none):D ≠ p:=fun e=>by subst e; obtain ⟨_,_,z,_⟩:=g3.pot; rw [z] at hD; cases hD
section
variable {X:Cx} {x:Str} {pos:Pos} {c:Addr} {n:String} {a b:Expr} {ta tb:TE}
theorem pe_bty (hg:Gl X x) (hm:X.mg x = none) (hv:bootBuiltins x = some (.type n)) (hn:x ≠ "__name__":=by decide) (hd:(x == ("__debug__" : Str)) = false:=by decide):PE X (.Name x pos) (tC (.ty n)):=pe_bltn hg hm hv (show RelV (.ty n) (.type n) from rfl) hn hd
end
end L2
namespace My
open PySem L2
def top (i:Nat):Stmt:=PySem.Challenge.pw_rowpipes_k32_whole_rows_together.main.body.getD i (.Pass ⟨0,0,0,0⟩)
abbrev sCell:Stmt:=top 32
abbrev sPot:Stmt:=top 33
abbrev sDraw:Stmt:=top 34
abbrev nCell:List Str:=["_law_script", "_law_k"]
abbrev nPot:List Str:=["_law_script", "_law_k", "_law_cell_here"]
abbrev nDraw:List Str:=["_law_pot_here", "_law_many", "_law_digit"]
theorem scCell:FnScope nCell ["_law_script", "_law_k"] (defScope sCell):=⟨rfl,rfl,rfl,by decide +kernel,rfl,by decide +kernel,by decide +kernel⟩
theorem scPot:FnScope nPot ["_law_script", "_law_k"] (defScope sPot):=⟨rfl,rfl,rfl,by decide +kernel,rfl,by decide +kernel,by decide +kernel⟩
theorem scDraw:FnScope nDraw ["_law_pot_here", "_law_many"] (defScope sDraw):=⟨rfl,rfl,rfl,by decide +kernel,rfl,by decide +kernel,by decide +kernel⟩
structure Blt (mg:Str→Option Value):Prop where
  len:mg "len" = none
  max:mg "max" = none
  abs:mg "abs" = none
  divmod:mg "divmod" = none
  range:mg "range" = none
  tuple:mg "tuple" = none
  list:mg "list" = none
  isinstance:mg "isinstance" = none
section
variable {P:Program} {w:World} {K:PySem.W.Frag} {mg:Str→Option Value} {base:Heap} {f fCell fDraw:Addr} {fd dCell dDraw:FuncData}
theorem ok_cell (B:Blt mg) (F:Fun K "_law_cell_at" "_law_cell_at" sCell f fd):FnOk P w K mg base CX0 1 f fd ["_law_script", "_law_k"] (spCell K):=by
  refine F.ok scCell (fun vs H Q E h=>?_) (fun cdv A outer s H vs Q E hr h=>?_)
  · obtain ⟨a,ns,k,rfl,_⟩:=h
    rfl
  obtain ⟨a,ns,k,rfl,hS,h0,q⟩:=h
  refine ⟨_,pss_cons (ps_if (pt_cmpR op_lt (pv 1) (pe_callB call_len_seq rfl B.len PySem.boot_len (pa_cons (pv 0) pa_nil)) (nomark _)) (pss_one (ps_ret (pe_ix ix_list (pv 0) (pv 1) (fun _ _=>rfl)))) pss_nil)
    (pss_one (ps_ret pe_int)),?_⟩
  refine ⟨_,rfl,_,rfl,a,_,rfl,.inl hS,_,_,rfl,rfl,_,rfl,?_⟩
  refine ite2 (fun c=>?_) (fun c=>?_)
  · have c':k < (((ns.map V.int).length:Nat):Int):=of_decide_eq_true c
    obtain ⟨v,hv,hg⟩:=atI_lt h0 c'
    rw [List.getElem?_map] at hg
    cases e:ns[k.toNat]? with
    | none=>rw [e] at hg; cases hg
    | some n =>
      rw [e] at hg
      have hg':V.int n = v:=Option.some.inj hg
      subst hg'
      exact ⟨_,rfl,_,rfl,a,_,_,_,rfl,rfl,hS,hv,q n⟩
  · exact q 0
theorem ok_pot (B:Blt mg) (F:Fun K "_law_pot" "_law_pot" sPot f fd) (G:FnOk P w K mg base CX0 1 fCell dCell ["_law_script", "_law_k"] (spCell K)) (bG:Binds K dCell ["_law_script", "_law_k"] []) (kG:PySem.W.keepIn K (.ref fCell) = true) (mG:mg "_law_cell_at" = some (.ref fCell)) :
    FnOk P w K mg base CX0 2 f fd ["_law_script", "_law_k"] (spPot K):=by
  refine F.ok scPot (fun vs H Q E h=>?_) (fun cdv A outer s H vs Q E hr h=>?_)
  · obtain ⟨a,ns,k,rfl,_⟩:=h
    rfl
  obtain ⟨a,ns,k,rfl,hS,h0,h1,q⟩:=h
  refine ⟨_,pss_cons (ps_set (i:=2) scPot.nd rfl (Or.inl rfl) (pe_call G hr rfl mG kG bG .nil pass0 (pa_cons (pv 0) (pa_cons (pv 1) pa_nil))))
    (pss_one (ps_ret (pe_lst (pa_cons (pe_callB (call_max2 rfl) rfl B.max PyProof.Rows.boot_max (pa_cons pe_int (pa_cons (pe_op op_sub (pv 2) (pe_op op_pow pe_int pe_int)) pa_nil)))
      (pa_cons (pe_op op_add (pe_op op_mod (pe_op op_add (pe_op op_add (pe_callB call_abs rfl B.abs PyProof.Rows.boot_abs (pa_cons (pv 2) pa_nil)) (pe_op op_mul pe_int (pv 1))) pe_int) pe_int) pe_int) (pa_cons pe_int pa_nil)))))),?_⟩
  refine ⟨_,rfl,_,rfl,a,ns,k,rfl,hS,h0,fun n=>?_⟩
  refine ⟨_,rfl,_,_,rfl,rfl,⟨by decide,by decide,by decide⟩,_,_,rfl,rfl,_,_,rfl,?_⟩
  refine ⟨_,rfl,_,rfl,_,rfl,_,_,rfl,rfl,.inl ⟨by decide,by decide⟩,_,_,rfl,rfl,_,_,rfl,rfl,_,_,rfl,rfl,(by show (0:Int) < 2147483629; decide),_,_,rfl,rfl,(by show 3 ≤ sizeLine; decide),fun p hp=>?_⟩
  refine q p _ hp (same_new hp _) ⟨_,_,upd_same,?_,?_,?_⟩
  · split <;> omega
  · have:=Int.emod_nonneg ((if n < 0 then -n else n) + 7919 * k + 3) (show (2147483629:Int) ≠ 0 by decide)
    omega
  · have:=Int.emod_lt_of_pos ((if n < 0 then -n else n) + 7919 * k + 3) (show (0:Int) < 2147483629 by decide)
    omega
theorem ok_draw (B:Blt mg) (F:Fun K "_law_draw" "_law_draw" sDraw f fd):FnOk P w K mg base CX0 1 f fd ["_law_pot_here", "_law_many"] spDraw:=by
  refine F.ok scDraw (fun vs H Q E h=>?_) (fun cdv A outer s H vs Q E hr h=>?_)
  · obtain ⟨p,m,rfl,_⟩:=h
    rfl
  obtain ⟨p,m,rfl,⟨a,b,hp,ha,hb,hb'⟩,hm,hm',q⟩:=h
  refine ⟨_,pss_cons (ps_if (pt_cmpR op_gt (pe_ix ix_list (pv 0) pe_int (fun _ _=>rfl)) pe_int (nomark _))
      (pss_cons (ps_asg (pe_callB call_divmodB rfl B.divmod PyProof.Rows.boot_divmod (pa_cons (pe_ix ix_list (pv 0) pe_int (fun _ _=>rfl)) (pa_cons (pv 1) pa_nil)))
        (pg_tup rfl (pgs_cons (pg_sub (pv 0) pe_int set_list) (pgs_cons (pg_name (i:=2) scDraw.nd rfl (Or.inl rfl)) pgs_nil))))
      (pss_one (ps_ret (pv 2)))) pss_nil)
    (pss_cons (ps_asg (pe_op op_mod (pe_op op_add (pe_op op_mul (pe_ix ix_list (pv 0) pe_int (fun _ _=>rfl)) pe_int) pe_int) pe_int) (pg_sub (pv 0) pe_int set_list))
    (pss_one (ps_ret (pe_op op_mod (pe_op op_fdiv (pe_op op_mod (pe_op op_mul (pe_ix ix_list (pv 0) pe_int (fun _ _=>rfl)) (pe_ix ix_list (pv 0) pe_int (fun _ _=>rfl))) pe_int) pe_int) (pv 1))))),?_⟩
  refine ⟨_,rfl,p,_,_,_,rfl,rfl,SqL.of hp,rfl,_,_,rfl,rfl,_,rfl,?_⟩
  refine ite2 (fun c=>?_) (fun c=>?_)
  · refine ⟨_,rfl,p,_,_,_,rfl,rfl,SqL.of hp,rfl,_,rfl,_,_,rfl,⟨hm,hm'⟩,fun t ht=>?_⟩
    have np:p ≠ t:=ne_of_none hp ht
    refine ⟨t,_,rfl,SqT.of upd_same,rfl,_,_,rfl,_,rfl,p,_,_,0,rfl,rfl,(by rw [upd_ne np]; exact hp),rfl,_,_,rfl,rfl,?_⟩
    refine ⟨_,rfl,q _ _ ⟨fun c o nc e=>?_,_,_,upd_same,Int.ediv_nonneg ha (by omega),hb,hb'⟩ (Int.emod_nonneg _ (by omega)) (Int.emod_lt_of_pos _ hm)⟩
    rw [upd_ne nc,upd_ne (ne_of_none e ht)]
    exact e
  · have h1:=Int.emod_nonneg (b * 48271 + 11) (show (2147483647:Int) ≠ 0 by decide)
    have h2:=Int.emod_lt_of_pos (b * 48271 + 11) (show (0:Int) < 2147483647 by decide)
    refine ⟨_,rfl,p,_,_,_,rfl,rfl,SqL.of hp,rfl,_,_,rfl,rfl,.inr ⟨by decide,by decide⟩,_,_,rfl,rfl,_,_,rfl,rfl,(by show (0:Int) < 2147483647; decide),_,rfl,p,_,_,1,rfl,rfl,hp,rfl,?_⟩
    refine ⟨_,rfl,p,_,_,_,rfl,rfl,SqL.of upd_same,rfl,_,rfl,p,_,_,_,rfl,rfl,SqL.of upd_same,rfl,_,_,rfl,rfl,.inl ⟨?_,?_⟩,_,_,rfl,rfl,(by show (0:Int) < 2147483629; decide),_,_,rfl,rfl,⟨by decide,by decide⟩,_,rfl,_,_,rfl,rfl,hm,?_⟩
    · have e:((2:Int) ^ 64) = 18446744073709551616:=by decide
      rw [e]; omega
    · have e:((2:Int) ^ 64) = 18446744073709551616:=by decide
      rw [e]; omega
    · exact q _ _ ⟨fun c o nc e=>by rw [upd_ne nc]; exact e,_,_,upd_same,ha,h1,by omega⟩ (Int.emod_nonneg _ (by omega)) (Int.emod_lt_of_pos _ hm)
end
end My
set_option maxHeartbeats 4000000
namespace My
open PySem L2
abbrev sCellL:Stmt:=top 35
abbrev sHead:Stmt:=top 36
theorem scCellL:FnScope ["_law_pot_here", "_law_sort", "_law_way", "_law_letters"] ["_law_pot_here", "_law_sort"] (defScope sCellL):=⟨rfl,rfl,rfl,by decide +kernel,rfl,by decide +kernel,by decide +kernel⟩
theorem scHead:FnScope ["_law_pot_here"] ["_law_pot_here"] (defScope sHead):=⟨rfl,rfl,rfl,by decide +kernel,rfl,by decide +kernel,by decide +kernel⟩
def clOf (t:Str) (v:V):Prop:=if t = "w" then ∃ x,v = .str x∧isW x else ∃ n:Int,v = .int n∧-(10 ^ 60) < n∧n < 10 ^ 60
def spCellL:Sp:=fun vs H Q _=>∃ (p:Addr) (t:Str),vs = [.ref p,.str t]∧PotAt H p∧∀ v H',Grow p H H'→clOf t v→Q v H'
def letters:Str:="abcdefghijklmnopqrstuvwxyz"
theorem letters_ok:∀ c ∈ letters.cps.toList,97 ≤ c∧c ≤ 122:=by decide +kernel
theorem letters_len:letters.cps.toList.length = 26:=by decide +kernel
theorem seq_mid {t1 t2:TS} {D:Ends} {σ:St} {H:Hp} (Pm:St→Hp→Prop) (h:∀ T:St→Hp→Prop,(∀ σ' H',Pm σ' H'→T σ' H')→t1 { D with nx:=T } σ H) (t:∀ σ' H',Pm σ' H'→t2 D σ' H'):tSeq t1 t2 D σ H:=h _ t
theorem gName_go {i:Nat} {v:V} {σ:St} {H:Hp} {k:St→Hp→Prop} (h:k (σ.set i (some v)) H):gName i v σ H k:=h
section
variable {P:Program} {w:World} {K:PySem.W.Frag} {mg:Str→Option Value} {base:Heap} {f g1:Addr} {fd d1:FuncData}
theorem ok_cellL (B:Blt mg) (F:Fun K "_law_cell" "_law_cell" sCellL f fd) (G:FnOk P w K mg base CX0 1 g1 d1 ["_law_pot_here", "_law_many"] spDraw) (bG:Binds K d1 ["_law_pot_here", "_law_many"] []) (kG:PySem.W.keepIn K (.ref g1) = true) (mG:mg "_law_draw" = some (.ref g1)) :
    FnOk P w K mg base CX0 2 f fd ["_law_pot_here", "_law_sort"] spCellL:=by
  refine F.ok scCellL (fun vs H Q E h=>?_) (fun cdv A outer s H vs Q E hr h=>?_)
  · obtain ⟨p,t,rfl,_⟩:=h
    rfl
  obtain ⟨p,t,rfl,hP,q⟩:=h
  refine ⟨_,pss_cons (ps_set (i:=2) scCellL.nd rfl (Or.inl rfl) (pe_call G hr rfl mG kG bG .nil pass0 (pa_cons (pv 0) (pa_cons pe_int pa_nil))))
    (pss_cons (ps_if (pt_cmpR op_eq (pv 1) pe_str (nomark _))
      (pss_cons (ps_set (i:=3) scCellL.nd rfl (Or.inr rfl) pe_str)
      (pss_cons (ps_if (pt_cmpR op_lt (pv 2) pe_int (nomark _)) (pss_one (ps_ret (pe_ix (r:=rIxL K) ix_list (pe_lst (pa_cons pe_str (pa_cons pe_str (pa_cons pe_str (pa_cons pe_str pa_nil))))) (pe_op op_mod (pv 2) pe_int) (fun _ _=>rfl)))) pss_nil)
      (pss_one (ps_ret (pe_bm PySem.F.plainAttrs_str PySem.F.slot_str_join PySem.F.type_str_join mt_join pe_str
        (pa_cons (pe_lcomp (N':=["_law_k", "_law_pot_here", "_law_letters"]) (src:=[none,some 0,some 3]) rfl (CompSc.ofB (by kernel_rfl))
          (pi_range1 rfl B.range (pa_cons (pe_op op_add pe_int (pe_call G hr rfl mG kG bG .nil pass0 (pa_cons (pv 0) (pa_cons pe_int pa_nil)))) pa_nil))
          (fun cl C s H fp=>pgl (i:=0))
          (fun cl C s H fp=>pifs_nil)
          (fun cl C s H fp=>pe_ix ix_str (pvf 2) (pe_call G hr glc mG kG bG .nil pass0 (pa_cons (pvf 1) (pa_cons pe_int pa_nil))) (fun _ _=>rfl))) pa_nil)))))) pss_nil)
    (pss_cons (ps_if (pt_cmpR op_lt (pv 2) pe_int (nomark _)) (pss_one (ps_ret (pe_op op_sub (pe_op op_mod (pv 2) pe_int) pe_int))) pss_nil)
    (pss_one (ps_ret (pe_op op_add (pe_op op_sub (pe_call G hr rfl mG kG bG .nil pass0 (pa_cons (pv 0) (pa_cons (pe_op op_sub (pe_op op_mul pe_int (pe_op op_pow pe_int pe_int)) pe_int) pa_nil))) (pe_op op_pow pe_int pe_int)) pe_int))))),?_⟩
  refine ⟨_,rfl,p,_,rfl,hP,by decide,by decide,fun d H1 g1 a1 b1=>?_⟩
  refine gName_go ?_
  dsimp only
  refine ⟨_,rfl,rfl,_,rfl,?_⟩
  refine ite2 (fun c=>?_) (fun c=>?_)
  · have et:t = "w":=by simpa using c
    subst et
    have fin:∀ x H',Grow p H H'→isW x→Q (.str x) H':=fun x H' g hx=>q _ H' g (by unfold clOf; rw [if_pos rfl]; exact ⟨x,rfl,hx⟩)
    refine ⟨_,rfl,_,_,rfl,rfl,_,rfl,?_⟩
    refine ite2 (fun c2=>?_) (fun c2=>?_)
    · refine ⟨(by show 4 ≤ sizeLine; decide),fun l hl=>?_⟩
      obtain ⟨v,hv,hm⟩:=atI_mem (xs:=[V.str "a", V.str "b", V.str "ab", V.str "c"]) (i:=d % 4) (Int.emod_nonneg _ (by decide)) (Int.emod_lt_of_pos _ (by decide))
      have good:∃ x,v = .str x∧isW x:=by
        simp only [List.mem_cons,List.not_mem_nil,or_false] at hm
        rcases hm with rfl | rfl | rfl | rfl
        · exact ⟨_,rfl,by decide +kernel,by decide +kernel,by decide +kernel⟩
        · exact ⟨_,rfl,by decide +kernel,by decide +kernel,by decide +kernel⟩
        · exact ⟨_,rfl,by decide +kernel,by decide +kernel,by decide +kernel⟩
        · exact ⟨_,rfl,by decide +kernel,by decide +kernel,by decide +kernel⟩
      obtain ⟨x,rfl,hx⟩:=good
      exact ⟨_,rfl,_,_,rfl,rfl,(by show (0:Int) < 4; decide),l,_,_,_,rfl,rfl,SqL.of upd_same,hv,fin x _ (g1.new hl) hx⟩
    · refine ⟨rfl,_,rfl,p,_,rfl,g1.pot,by decide,by decide,fun d2 H2 g2 a2 b2=>⟨_,_,rfl,rfl,_,rfl,?_,?_,fun D hD=>?_⟩⟩
      · have e:((2:Int) ^ 62) = 4611686018427387904:=by decide
        rw [e]; omega
      · have e:((2:Int) ^ 62) = 4611686018427387904:=by decide
        rw [e]; omega
      have g2':=g1.trans g2
      have n2:D ≠ p:=g2'.ne hD
      refine comp_range (n:=(1 + d2).toNat) (fun i σ ys H'=>∃ (o:Option V) (zs:List Nat),σ = [o,some (.ref p),some (.str letters)]∧ys = zs.map (fun c=>V.str (sgn c))∧zs.length = i∧(∀ c ∈ zs,97 ≤ c∧c ≤ 122)∧H' D = some (.lst ys)∧Grow p H H')
        ⟨none,[],rfl,rfl,rfl,(fun _ z=>nomatch z),upd_same,g2'.new hD⟩ ?_ ?_ ?_ ?_
      · rintro i σ ys H' _ ⟨o,zs,_,rfl,rfl,_,h,_⟩
        exact ⟨h,by rw [List.length_map]; exact Nat.le_refl _⟩
      · exact Nat.le_trans (show (1 + d2).toNat ≤ 8 by omega) (by decide)
      · rintro i σ ys H' hi ⟨o,zs,rfl,rfl,rfl,hz,hD',g'⟩
        refine ⟨_,rfl,_,rfl,p,26,rfl,g'.pot,by decide,by decide,fun d H4 g4 a4 b4=>?_⟩
        obtain ⟨c,hc,cm⟩:=atS_mem (z:=letters) a4 (by rw [letters_len]; omega)
        refine ⟨letters,_,c,rfl,rfl,?_,hc,g4.keep D _ n2 hD',some (.int (0 + (zs.length:Nat))),zs ++ [c],rfl,?_,?_,?_,upd_same,?_⟩
        · exact Nat.le_trans (show letters.length ≤ 26 by decide +kernel) (by decide)
        · rw [List.map_append]; rfl
        · rw [List.length_append]; rfl
        · intro y hy
          rcases List.mem_append.mp hy with z | z
          · exact hz y z
          · have:y = c:=by simpa using z
            subst this
            exact letters_ok y cm
        · exact g2'.put hD n2 (g'.trans g4)
      · rintro σ ys H' ⟨o,zs,_,rfl,hl',hz,hD',g'⟩
        refine ⟨"", D,zs.map sgn,rfl,rfl,?_,?_,?_⟩
        · rw [List.map_map]; exact SqL.of hD'
        · rw [sgn_len,List.length_map]
          have:zs.length ≤ 8:=by omega
          have e:("" : Str).length = 0:=by decide +kernel
          rw [e]; omega
        · exact fin _ _ g' (isW_of (join_signs zs) (by omega) (by omega) hz)
  · have et:¬ t = "w":=by simpa using c
    have fin:∀ (n:Int) H',Grow p H H'→-(10 ^ 60) < n→n < 10 ^ 60→Q (.int n) H':=fun n H' g h1 h2=>q _ H' g (by unfold clOf; rw [if_neg et]; exact ⟨n,rfl,h1,h2⟩)
    refine ⟨_,rfl,_,_,rfl,rfl,_,rfl,?_⟩
    refine ite2 (fun c2=>?_) (fun c2=>?_)
    · have h1:=Int.emod_nonneg d (show (5:Int) ≠ 0 by decide)
      have h2:=Int.emod_lt_of_pos d (show (0:Int) < 5 by decide)
      exact ⟨_,rfl,_,_,rfl,rfl,(by show (0:Int) < 5; decide),_,_,rfl,rfl,fin _ _ g1 (by rw [show ((10:Int) ^ (60:Nat)) = 1000000000000000000000000000000000000000000000000000000000000 by decide]; omega) (by rw [show ((10:Int) ^ (60:Nat)) = 1000000000000000000000000000000000000000000000000000000000000 by decide]; omega)⟩
    · have e60:((10:Int) ^ (60:Nat)) = 1000000000000000000000000000000000000000000000000000000000000:=by decide
      have e60':((10:Int) ^ ((60:Int).toNat)) = 1000000000000000000000000000000000000000000000000000000000000:=by decide
      refine ⟨_,rfl,_,_,rfl,rfl,⟨by decide,by decide,by decide⟩,_,_,rfl,rfl,.inl ⟨by decide,by decide⟩,_,_,rfl,rfl,p,_,rfl,g1.pot,by decide +kernel,by decide +kernel,fun d3 H3 g3 a3 b3=>?_⟩
      have b3':d3 < 1999999999999999999999999999999999999999999999999999999999999:=b3
      exact ⟨_,_,rfl,rfl,⟨by decide,by decide,by decide⟩,_,_,rfl,rfl,_,_,rfl,rfl,fin _ _ (g1.trans g3) (by rw [e60,e60']; omega) (by rw [e60,e60']; omega)⟩
end
end My
set_option maxHeartbeats 4000000
namespace My
open PySem L2
def nw (t:Str):Prop:=t = "n"∨t = "w"
def spHead:Sp:=fun vs H Q _=>∃ (p:Addr),vs = [.ref p]∧PotAt H p∧∀ (l:Addr) (ts:List Str) (H':Hp),Grow p H H'→H l = none→l ≠ p→H' l = some (.lst (ts.map V.str))→1 ≤ ts.length→ts.length ≤ 6→(∀ t ∈ ts,nw t)→Q (.ref l) H'
section
variable {P:Program} {w:World} {K:PySem.W.Frag} {mg:Str→Option Value} {base:Heap} {f g1:Addr} {fd d1:FuncData}
theorem ok_head (B:Blt mg) (F:Fun K "_law_head" "_law_head" sHead f fd) (G:FnOk P w K mg base CX0 1 g1 d1 ["_law_pot_here", "_law_many"] spDraw) (bG:Binds K d1 ["_law_pot_here", "_law_many"] []) (kG:PySem.W.keepIn K (.ref g1) = true) (mG:mg "_law_draw" = some (.ref g1)) :
    FnOk P w K mg base CX0 2 f fd ["_law_pot_here"] spHead:=by
  refine F.ok scHead (fun vs H Q E h=>?_) (fun cdv A outer s H vs Q E hr h=>?_)
  · obtain ⟨p,rfl,_⟩:=h
    rfl
  obtain ⟨p,rfl,hP,q⟩:=h
  refine ⟨_,pss_one (ps_ret (pe_lcomp (N':=["_law_k", "_law_pot_here"]) (src:=[none,some 0]) rfl (CompSc.ofB (by kernel_rfl))
    (pi_range1 rfl B.range (pa_cons (pe_op op_add pe_int (pe_call G hr rfl mG kG bG .nil pass0 (pa_cons (pv 0) (pa_cons pe_int pa_nil)))) pa_nil)) (fun cl C s H fp=>pgl (i:=0)) (fun cl C s H fp=>pifs_nil)
    (te:=tOp (rIxL K) (tLst (tCons (tC (.str "n")) (tCons (tC (.str "w")) tNil))) (tCall spDraw [] E0 (tCons (tVar 1) (tCons (tC (.int 2)) tNil))))
    (fun cl C s H fp=>pe_ix (r:=rIxL K) ix_list (pe_lst (pa_cons pe_str (pa_cons pe_str pa_nil))) (pe_call G hr glc mG kG bG .nil pass0 (pa_cons (pvf 1) (pa_cons pe_int pa_nil))) (fun _ _=>rfl)))),?_⟩
  refine ⟨_,rfl,p,_,rfl,hP,by decide,by decide,fun d H1 g1 a1 b1=>⟨_,_,rfl,rfl,_,rfl,?_,?_,fun D hD=>?_⟩⟩
  · have e:((2:Int) ^ 62) = 4611686018427387904:=by decide
    rw [e]; omega
  · have e:((2:Int) ^ 62) = 4611686018427387904:=by decide
    rw [e]; omega
  have nD:D ≠ p:=g1.ne hD
  refine comp_range (n:=(1 + d).toNat) (fun i σ ys H'=>∃ (o:Option V) (ts:List Str),σ = [o,some (.ref p)]∧ys = ts.map V.str∧ts.length = i∧(∀ t ∈ ts,nw t)∧H' D = some (.lst ys)∧Grow p H H')
    ⟨none,[],rfl,rfl,rfl,(fun _ z=>nomatch z),upd_same,g1.new hD⟩ ?_ ?_ ?_ ?_
  · rintro i σ ys H' _ ⟨o,ts,_,rfl,rfl,_,h,_⟩
    exact ⟨h,by rw [List.length_map]; exact Nat.le_refl _⟩
  · exact Nat.le_trans (show (1 + d).toNat ≤ 6 by omega) (by decide)
  · rintro i σ ys H' hi ⟨o,ts,rfl,rfl,rfl,ht,hD',g'⟩
    refine ⟨(by show 2 ≤ sizeLine; decide),fun l hl=>?_⟩
    have nl:l ≠ p:=g'.ne hl
    have gl:=g'.new (o:=.lst [V.str "n", V.str "w"]) hl
    have nDl:D ≠ l:=ne_of_none hD' hl
    refine ⟨_,rfl,p,_,rfl,gl.pot,by decide,by decide,fun d2 H2 g2 a2 b2=>?_⟩
    obtain ⟨v,hv,hm⟩:=atI_mem (xs:=[V.str "n", V.str "w"]) a2 b2
    have good:∃ t,v = .str t∧nw t:=by
      simp only [List.mem_cons,List.not_mem_nil,or_false] at hm
      rcases hm with rfl | rfl
      · exact ⟨_,rfl,.inl rfl⟩
      · exact ⟨_,rfl,.inr rfl⟩
    obtain ⟨t,rfl,hnw⟩:=good
    refine ⟨l,_,_,_,rfl,rfl,SqL.of (g2.keep l _ nl upd_same),hv,g2.keep D _ nD (by rw [upd_ne nDl]; exact hD'),some (.int (0 + (ts.length:Nat))),ts ++ [t],rfl,?_,?_,?_,upd_same,g1.put hD nD (gl.trans g2)⟩
    · rw [List.map_append]; rfl
    · rw [List.length_append]; rfl
    · intro y hy
      rcases List.mem_append.mp hy with z | z
      · exact ht y z
      · rw [List.mem_singleton.mp z]; exact hnw
  · rintro σ ys H' ⟨o,ts,_,rfl,hl',ht,hD',g'⟩
    refine q D ts H' g' ?_ nD hD' (by omega) (by omega) ht
    cases e:H D with
    | none=>rfl
    | some u=>rw [g1.keep D u nD e] at hD; cases hD
end
end My
set_option maxHeartbeats 4000000
namespace My
open PySem L2
abbrev sColumns:Stmt:=top 38
theorem scColumns:FnScope ["_law_pot_here", "_law_wide", "_law_least", "_law_most"] ["_law_pot_here", "_law_wide", "_law_least", "_law_most"] (defScope sColumns):=⟨rfl,rfl,rfl,by decide +kernel,rfl,by decide +kernel,by decide +kernel⟩
theorem log_small {m:Int} (h0:0 < m) (h1:m ≤ 1000):m.natAbs.log2 < 9000:=Nat.lt_of_le_of_lt (Nat.log2_le_self _) (by omega)
def spColumns:Sp:=fun vs H Q _=>∃ (p:Addr) (wd lo hi:Int),vs = [.ref p,.int wd,.int lo,.int hi]∧PotAt H p∧0 < wd∧wd ≤ 100∧0 ≤ lo∧lo ≤ hi∧hi ≤ 100 ∧
  ∀ (t:Addr) (cs:List Int) (H':Hp),Grow p H H'→H' t = some (.tup (cs.map V.int))→lo ≤ cs.length→cs.length ≤ hi→(∀ c ∈ cs,1 ≤ c∧c ≤ wd)→Q (.ref t) H'
section
variable {P:Program} {w:World} {K:PySem.W.Frag} {mg:Str→Option Value} {base:Heap} {f g1:Addr} {fd d1:FuncData}
theorem ok_columns (B:Blt mg) (F:Fun K "_law_columns" "_law_columns" sColumns f fd) (G:FnOk P w K mg base CX0 1 g1 d1 ["_law_pot_here", "_law_many"] spDraw) (bG:Binds K d1 ["_law_pot_here", "_law_many"] []) (kG:PySem.W.keepIn K (.ref g1) = true) (mG:mg "_law_draw" = some (.ref g1)) :
    FnOk P w K mg base CX0 2 f fd ["_law_pot_here", "_law_wide", "_law_least", "_law_most"] spColumns:=by
  refine F.ok scColumns (fun vs H Q E h=>?_) (fun cdv A outer s H vs Q E hr h=>?_)
  · obtain ⟨p,wd,lo,hi,rfl,_⟩:=h
    rfl
  obtain ⟨p,wd,lo,hi,rfl,hP,hw,hw',hlo,hlh,hhi,q⟩:=h
  refine ⟨_,pss_one (ps_ret (pe_callTy call_tuple_of rfl B.tuple PyProof.Rows.boot_tuple (pa_cons (pe_lcomp (N':=["_law_k", "_law_pot_here", "_law_wide"]) (src:=[none,some 0,some 1]) rfl (CompSc.ofB (by kernel_rfl))
    (pi_range1 rfl B.range (pa_cons (pe_op op_add (pv 2) (pe_call G hr rfl mG kG bG .nil pass0 (pa_cons (pv 0) (pa_cons (pe_op op_add (pe_op op_sub (pv 3) (pv 2)) pe_int) pa_nil)))) pa_nil)) (fun cl C s H fp=>pgl (i:=0)) (fun cl C s H fp=>pifs_nil)
    (fun cl C s H fp=>pe_op op_add pe_int (pe_call G hr glc mG kG bG .nil pass0 (pa_cons (pvf 1) (pa_cons (pvf 2) pa_nil))))) pa_nil))),?_⟩
  refine ⟨_,rfl,_,rfl,_,rfl,_,rfl,_,_,rfl,rfl,_,_,rfl,rfl,p,_,rfl,hP,by omega,log_small (by omega) (by omega),fun d H1 g1 a1 b1=>⟨_,_,rfl,rfl,_,rfl,?_,?_,fun D hD=>?_⟩⟩
  · have e:((2:Int) ^ 62) = 4611686018427387904:=by decide
    rw [e]; omega
  · have e:((2:Int) ^ 62) = 4611686018427387904:=by decide
    rw [e]; omega
  have nD:D ≠ p:=g1.ne hD
  refine comp_range (n:=(lo + d).toNat) (fun i σ ys H'=>∃ (o:Option V) (cs:List Int),σ = [o,some (.ref p),some (.int wd)]∧ys = cs.map V.int∧cs.length = i∧(∀ c ∈ cs,1 ≤ c∧c ≤ wd)∧H' D = some (.lst ys)∧Grow p H H')
    ⟨none,[],rfl,rfl,rfl,(fun _ z=>nomatch z),upd_same,g1.new hD⟩ ?_ ?_ ?_ ?_
  · rintro i σ ys H' _ ⟨o,cs,_,rfl,rfl,_,h,_⟩
    exact ⟨h,by rw [List.length_map]; exact Nat.le_refl _⟩
  · exact Nat.le_trans (show (lo + d).toNat ≤ 100 by omega) (by decide)
  · rintro i σ ys H' hi ⟨o,cs,rfl,rfl,rfl,ht,hD',g'⟩
    refine ⟨_,rfl,_,rfl,p,_,rfl,g'.pot,hw,log_small hw (by omega),fun d2 H2 g2 a2 b2=>⟨_,_,rfl,rfl,?_⟩⟩
    refine ⟨g2.keep D _ nD hD',some (.int (0 + (cs.length:Nat))),cs ++ [1 + d2],rfl,?_,?_,?_,upd_same,g1.put hD nD (g'.trans g2)⟩
    · rw [List.map_append]; rfl
    · rw [List.length_append]; rfl
    · intro y hy
      rcases List.mem_append.mp hy with z | z
      · exact ht y z
      · rw [List.mem_singleton.mp z]; omega
  · rintro σ ys H' ⟨o,cs,_,rfl,hl',ht,hD',g'⟩
    refine ⟨D,_,rfl,.inl ⟨SqL.of hD',fun t htt=>?_⟩⟩
    exact q t cs _ (g'.new htt) upd_same (by omega) (by omega) ht
end
end My
set_option maxHeartbeats 4000000
namespace L2
open PySem PySem.Spec PyProof.Rows
section
variable {elt t1 i1 t2 i2:Expr} {f1 f2:List Expr} {sc:Scope} {pos:Pos}
section
variable {it acc:Value} {env:Env} {prog:Program} {w:World} {A:Around} {s:Shared} {R:Result→Shared→Prop}
end
end
section
variable {X:Cx} {elt t1 i1 t2 i2:Expr} {f1 f2:List Expr} {sc:Scope} {pos:Pos} {wi wi2:TI} {g g2:TG} {tc tc2:TT} {te:TE} {N':List Str} {src:List (Option Nat)}
end
end L2
set_option maxHeartbeats 4000000
namespace L2
open PySem PySem.Spec PyProof.Rows
inductive EqT (K:PySem.W.Frag) (H:Hp):Nat→V→V→Prop where
  | flat {n:Nat} {v:V} (f:flatV v = true):EqT K H n v v
  | same {n:Nat} {a:Addr}:EqT K H n (.ref a) (.ref a)
  | lst {n:Nat} {a b:Addr} {xs ys:List V} (ha:SqL K H a xs) (hb:SqL K H b ys) (hl:xs.length = ys.length) (h:∀ (i:Nat) x y,xs[i]? = some x→ys[i]? = some y→EqT K H n x y):EqT K H (n + 1) (.ref a) (.ref b)
  | tup {n:Nat} {a b:Addr} {xs ys:List V} (ha:SqT K H a xs) (hb:SqT K H b ys) (hl:xs.length = ys.length) (h:∀ (i:Nat) x y,xs[i]? = some x→ys[i]? = some y→EqT K H n x y):EqT K H (n + 1) (.ref a) (.ref b)
section
variable {X:Cx} {pins:List (Addr×Obj)} {σ:St} {H:Hp} {s:Shared}
theorem vals_at {xs:List V} {its:List Value} (r:Vals xs its) {j:Nat} (h:j < its.toArray.size):∃ x,xs[j]? = some x∧RelV x its.toArray[j]:=by
  have hj:j < its.length:=by simpa using h
  have hx:j < xs.length:=by rw [r.length]; exact hj
  refine ⟨xs[j],by simp [hx],?_⟩
  obtain ⟨u,e,ru⟩:=r.get (i:=j) (x:=xs[j]) (by simp [hx])
  have e':its[j] = u:=by rw [List.getElem?_eq_getElem hj] at e; exact Option.some.inj e
  show RelV xs[j] its[j]
  rw [e']; exact ru
end
end L2
set_option maxHeartbeats 4000000
namespace HT
open PySem PyProof.Rows
open PySem.AutoSeq1 (wpAny_loadPart')
theorem tuple_addW0 (l b:Addr) (items items2:Array Value) (n n2:Nat) (dd dd2:Option Addr) (sl sl2:Array (Option Value)) (hc0:items.isEmpty = true) :
    Meets (Builtin.«tuple.__add__» ⟨[.ref l,.ref b],[]⟩) (fun _ R s=>s.heap.get? l = some { cls:=.type "tuple", dict:=dd,data:=.seq items n,slots:=sl }∧s.heap.get? b = some { cls:=.type "tuple", dict:=dd2,data:=.seq items2 n2,slots:=sl2 }∧R (.ok (.ret (Value.ref b))) { s with heap:=s.heap,toks:=s.toks }) :=
  .of_wp fun prog w A R s h=>by
    obtain ⟨hp,g,d,tk,os⟩:=s; obtain ⟨hl,hb,h⟩:=h
    have f1:=AutoSeq1.idx_int; have f2:=AutoSeq1.sub_tuple_tuple; have f3:=AutoSeq1.sub_list_list; have f4:=AutoSeq1.sub_tuple_list; have f5:=AutoSeq1.sub_list_tuple
    wp_walk using wpAny_loadPart' hl,wpAny_loadPart' hb
    exact ⟨_,rfl,h⟩
section
variable {prog:Program} {w:World} {A:Around} {E:Value→Shared→Prop} {s:Shared}
theorem cat_tup0 {t b:Addr} {ws:List Value} {Q:Value→Shared→Prop} (ht:IsTup s.heap t #[]) (hb:IsTup s.heap b ws.toArray) (h1:Q (.ref b) s):wpAny (model prog w) A (binaryOp .Add (.ref t) (.ref b)) Q E s:=by
  obtain ⟨⟨cls,dd,data,sl⟩,ho,hc,n,hd⟩:=id ht
  obtain ⟨⟨cls2,dd2,data2,sl2⟩,ho2,hc2,n2,hd2⟩:=id hb
  simp only at hc hd hc2 hd2
  subst hc hd hc2 hd2
  exact concat_meets ⟨_,ho,rfl⟩ ⟨_,ho2,rfl⟩ noFill_tuple_add seq_tuple_add PySem.F.slot_tuple_add PySem.F.entry_tuple_add (PySem.F.args_tuple_add_2 _ _)
      (tuple_addW0 t b #[] ws.toArray n n2 dd dd2 sl sl2 rfl) ⟨ho,ho2,h1⟩
end
end HT
namespace L2
open PySem PySem.Spec PyProof.Rows
section
variable {X:Cx}
theorem op_eqLen (hu:X.A.units < cLine):OpR X (compareOp .Eq) (fun x y H Q=>∃ a b xs ys,x = .ref a∧y = .ref b∧SqL X.K H a xs∧SqL X.K H b ys∧xs.length ≠ ys.length∧Q (.bl false) H):=by
  intro pins s σ H x y v u Q I rx ry h
  obtain ⟨a,b,xs,ys,rfl,rfl,ha,hb,hl,q⟩:=h
  cases rx; cases ry
  obtain ⟨its,r1,p1,_⟩:=I.list ha
  obtain ⟨its',r2,p2,_⟩:=I.list hb
  exact SeqAt.eq_list_lengthsAt p1.isList p2.isList (by simp [← r1.length,← r2.length,hl]) hu ⟨.bl false,H,I,rfl,q⟩
theorem op_neLen (hu:X.A.units < cLine):OpR X (compareOp .NotEq) (fun x y H Q=>∃ a b xs ys,x = .ref a∧y = .ref b∧SqL X.K H a xs∧SqL X.K H b ys∧xs.length ≠ ys.length∧Q (.bl true) H):=by
  intro pins s σ H x y v u Q I rx ry h
  obtain ⟨a,b,xs,ys,rfl,rfl,ha,hb,hl,q⟩:=h
  cases rx; cases ry
  obtain ⟨its,r1,p1,_⟩:=I.list ha
  obtain ⟨its',r2,p2,_⟩:=I.list hb
  exact SeqAt.RcNeAt.lists_lengths p1.isList p2.isList (by simp [← r1.length,← r2.length,hl]) hu _ _ _ _ ⟨.bl true,H,I,rfl,q⟩
theorem op_catT0:OpR X (binaryOp .Add) (fun x y H Q=>∃ a b ys,x = .ref a∧y = .ref b∧SqT X.K H a []∧SqT X.K H b ys∧Q (.ref b) H):=by
  intro pins s σ H x y v u Q I rx ry h
  obtain ⟨a,b,ys,rfl,rfl,ha,hb,q⟩:=h
  cases rx
  cases ry
  obtain ⟨its,r1,p1,_⟩:=I.tuple ha
  obtain ⟨its2,r2,p2,_⟩:=I.tuple hb
  cases r1
  exact HT.cat_tup0 p1 p2 ⟨.ref b,H,I,rfl,q⟩
end
end L2
set_option maxHeartbeats 4000000
namespace L2
open PySem PySem.Spec PyProof.Rows
def Ris (xs:Array Nat):Prop:=xs.toList.Pairwise (· < ·)
structure TabOk (t:SetTable) (b:Bool):Prop where
  ris:Ris t.place
  dum:t.dummies = #[]
  led:t.led = b
section
variable {prog:Program} {w:World} {A:Around} {E:Value→Shared→Prop} {s:Shared}
def kOf:Value→Key
  | .int i _=>.inl i
  | .str x _=>.inr x
  | _=>.inl 0
end
section
variable {prog:Program} {w:World} {A:Around} {R:Result→Shared→Prop} {I:Addr} {fp wr:List Addr} {G:Array GenState→Array GenState→Prop} {n:Nat} {P:Nat→Value→Prop} {St:Nat→Shared→Prop}
end
section
variable {prog:Program} {w:World} {A:Around} {E:Value→Shared→Prop} {s:Shared}
end
end L2
set_option maxHeartbeats 8000000
namespace L2
open PySem PySem.Spec PyProof.Rows
structure SetSrc (prog:Program) (w:World) (T:String) (l:Addr) (items:Array Value):Prop where
  sub1:isSubtype (.type T) (.type "set") = pure false
  sub2:isSubtype (.type T) (.type "frozenset") = pure false
  nd:(Value.type T == Value.type "dict") = false
  it:∀ (A:Around) (s:Shared) (o:Obj),A.handled = none→s.heap.get? l = some o→o.cls = .type T→(∃ n,o.data = .seq items n)→∃ (oI:Obj) (St:Nat→Heap→Prop),
    (∀ (E:Value→Shared→Prop) (Q:Value→Shared→Prop),Q (.ref s.heap.objs.size) { s with heap:=s.heap.push oI }→wpAny (model prog w) A (pyIter (.ref l)) Q E s) ∧
    Walks prog w A s.heap.objs.size [s.heap.objs.size,l] [s.heap.objs.size] items.size (fun i v=>items[i]? = some v) St∧St 0 (s.heap.push oI)
section
variable {prog:Program} {w:World} {A:Around} {E:Value→Shared→Prop} {s:Shared}
end
end L2
set_option maxHeartbeats 8000000
namespace L2
open PySem PySem.Spec PyProof.Rows
section
variable {prog:Program} {w:World} {A:Around} {E:Value→Shared→Prop} {s:Shared}
end
end L2
set_option maxHeartbeats 8000000
namespace L2
open PySem PySem.Spec PyProof.Rows
section
variable {prog:Program} {w:World} {A:Around} {E:Value→Shared→Prop} {s:Shared}
end
end L2
set_option maxHeartbeats 8000000
namespace L2
open PySem PySem.Spec PyProof.Rows
section
variable {prog:Program} {w:World}
end
end L2
set_option maxHeartbeats 8000000
namespace L2
open PySem PySem.Spec PyProof.Rows
section
variable {prog:Program} {w:World} {A:Around} {E:Value→Shared→Prop} {s:Shared}
end
end L2
set_option maxHeartbeats 8000000
namespace L2
open PySem PySem.Spec PyProof.Rows
section
variable {prog:Program} {w:World} {A:Around} {E:Value→Shared→Prop} {s:Shared}
end
section
variable {X:Cx} {e:Expr} {te:TE} {p1 p2 pos pos2:Pos}
end
end L2
set_option maxHeartbeats 4000000
namespace CS
open PySem L2
abbrev Spn:=Option Int×Option Int
def eV:Option Int→V
  | none=>.non
  | some n=>.int n
inductive CSet where
  | num (sps:List Spn)
  | wrd (b:Bool) (ws:List Str)
structure SpansAt (H:Hp) (t:Addr) (as:List Addr) (sps:List Spn):Prop where
  tup:H t = some (.tup (as.map V.ref))
  len:as.length = sps.length
  at_:∀ (i:Nat) a s,as[i]? = some a→sps[i]? = some s→H a = some (.tup [eV s.1,eV s.2])
def inSp (s:Spn) (n:Int):Bool:=s.1.all (fun l=>decide (l ≤ n)) && s.2.all (fun h=>decide (n ≤ h))
def hasV:CSet→V→Bool
  | .num sps,.int n=>sps.any fun s=>inSp s n
  | .num _,_=>false
  | .wrd b ws,.str x=>decide (x ∈ ws) == b
  | .wrd _ _,_=>false
def someSp:Spn→List Int
  | (none,none)=>[0,1]
  | (none,some h)=>[h,h - 1]
  | (some l,hh)=>if hh = some l then [l] else [l,l + 1]
def goW:Nat→Nat→List Nat→List Nat
  | 0,_,w=>w
  | f + 1,l,w=>if l = 0 then w else goW f ((l - 1) / 26) ((97 + (l - 1) % 26) :: w)
def wbn (n:Nat):Str:=⟨(goW (n + 1) (n + 1) []).toArray⟩
def besides (ws:List Str):List Str:=((List.range (ws.length + 2)).map wbn).filter fun x=>!decide (x ∈ ws)
def someV:CSet→List V
  | .num sps=>(sps.flatMap someSp).map V.int
  | .wrd true ws=>ws.map V.str
  | .wrd false ws=>(besides ws).map V.str
def manyGo:Int→List Spn→Int
  | acc,[]=>acc
  | acc,(some l,some h) :: r=>manyGo (acc + if h - l + 1 < 3 then h - l + 1 else 3) r
  | _,_ :: _=>3
def manyS:CSet→Int
  | .num sps=>manyGo 0 sps
  | .wrd b ws=>if b = true then ws.length else 3
def okCellOf:CSet→V→Prop
  | .num _,v=>∃ n,v = .int n
  | .wrd _ _,v=>∃ x,v = .str x∧isW x
structure GoodS (S:CSet):Prop where
  mem:∀ x ∈ someV S,hasV S x = true∧okCellOf S x
  tri:(manyS S = 0∧someV S = []∧∀ v,hasV S v = false)∨(manyS S = 1∧∃ c,someV S = [c]∧∀ v,hasV S v = true→v = c)∨(2 ≤ manyS S∧∃ x ∈ someV S,∃ y ∈ someV S,x ≠ y)
end CS
set_option maxHeartbeats 4000000
namespace My
open PySem L2
abbrev sPicked:Stmt:=top 11
theorem scPicked:FnScope ["row", "columns"] ["row", "columns"] (defScope sPicked):=⟨rfl,rfl,rfl,by decide +kernel,rfl,by decide +kernel,by decide +kernel⟩
abbrev Row:=List V
def pick (r:Row) (cs:List Int):Row:=cs.map fun c=>r.getD (c - 1).toNat .non
def fitC (cs:List Int) (n:Nat):Prop:=∀ c ∈ cs,1 ≤ c∧c ≤ n
def spPicked:Sp:=fun vs H Q _=>∃ (a t:Addr) (r:Row) (cs:List Int),vs = [.ref a,.ref t]∧H a = some (.tup r)∧H t = some (.tup (cs.map V.int))∧fitC cs r.length∧cs.length ≤ 1000 ∧
  ∀ (u:Addr) (H':Hp),Same H H'→H u = none→H' u = some (.tup (pick r cs))→Q (.ref u) H'
theorem atI_col {r:Row} {c:Int} (h:1 ≤ c∧c ≤ r.length):atI r (c - 1) = some (r.getD (c - 1).toNat .non):=by
  have hi:(c - 1).toNat < r.length:=by omega
  have e:(((c - 1).toNat:Nat):Int) = c - 1:=by omega
  have e2:r[(c - 1).toNat]? = some (r.getD (c - 1).toNat .non):=by
    rw [List.getD_eq_getElem?_getD,List.getElem?_eq_getElem hi]
    rfl
  have:=atI_nat e2
  rw [e] at this
  exact this
theorem same_put {H H':Hp} {D:Addr} {o:HO} (hD:H D = none) (s:Same H H'):Same H (upd H' D o):=fun b u e=>by
  rw [upd_ne (ne_of_none e hD)]; exact s _ _ e
theorem take_one {α:Type} {ws:List α} {i:Nat} {w:α} (h:ws[i]? = some w):ws.take (i + 1) = ws.take i ++ [w]:=by
  rw [List.take_add_one,h]; rfl
section
variable {P:Program} {w:World} {K:PySem.W.Frag} {mg:Str→Option Value} {base:Heap} {f g1:Addr} {fd d1:FuncData}
theorem ok_picked (B:Blt mg) (F:Fun K "picked" "picked" sPicked f fd):FnOk P w K mg base CX0 1 f fd ["row", "columns"] spPicked:=by
  refine F.ok scPicked (fun vs H Q E h=>?_) (fun cdv A outer s H vs Q E hr h=>?_)
  · obtain ⟨a,t,r,cs,rfl,_⟩:=h
    rfl
  obtain ⟨a,t,r,cs,rfl,ha,ht,hf,hz,q⟩:=h
  refine ⟨_,pss_one (ps_ret (pe_callTy call_tuple_of rfl B.tuple PyProof.Rows.boot_tuple (pa_cons (pe_lcomp (N':=["column", "row"]) (src:=[none,some 0]) rfl (CompSc.ofB (by kernel_rfl)) (pi_tup (pv 1)) (fun cl C s H fp=>pgl (i:=0)) (fun cl C s H fp=>pifs_nil)
    (te:=tOp (rIxT K) (tVar 1) (tOp (rI0 fun i j=>V.int (i - j)) (tVar 0) (tC (.int 1))))
    (fun cl C s H fp=>pe_ix (r:=rIxT K) ix_tup (pvf 1) (pe_op op_sub (pvl 0) pe_int) (fun _ _=>rfl))) pa_nil))),?_⟩
  refine ⟨_,rfl,t,rfl,⟨_,SqT.of ht⟩,fun D hD=>?_⟩
  refine comp_tup (xs:=cs.map V.int) (fun i σ ys H'=>(∃ o,σ = [o,some (.ref a)])∧ys = pick r (cs.take i)∧H' D = some (.lst ys)∧Same H H') ⟨⟨none,rfl⟩,rfl,upd_same,same_new hD _⟩ ?_ ?_ ?_ ?_ ?_
  · rintro i σ ys H' _ ⟨_,rfl,h,_⟩
    refine ⟨h,?_⟩
    unfold pick
    rw [List.length_map,List.length_take]
    exact Nat.min_le_left _ _
  · rintro i σ ys H' _ ⟨_,_,_,sm⟩
    exact SqT.of (sm _ _ ht)
  · rw [List.length_map]
    exact Nat.le_trans hz (by decide)
  · rintro i x σ ys H' hx ⟨⟨o,rfl⟩,rfl,h,sm⟩
    rw [List.getElem?_map] at hx
    cases e:cs[i]? with
    | none=>rw [e] at hx; cases hx
    | some c =>
      rw [e] at hx
      have hx':V.int c = x:=Option.some.inj hx
      subst hx'
      refine ⟨_,rfl,_,rfl,_,_,rfl,rfl,a,_,_,_,rfl,rfl,SqT.of (sm _ _ ha),atI_col (hf c (List.mem_of_getElem? e)),h,⟨_,rfl⟩,?_,upd_same,same_put hD sm⟩
      unfold pick
      rw [take_one e,List.map_append]
      rfl
  · rintro σ ys H' ⟨_,rfl,h,sm⟩
    rw [List.length_map,List.take_length] at h
    refine ⟨D,_,rfl,.inl ⟨SqL.of h,fun u hu=>?_⟩⟩
    exact q u _ (sm.trans (same_new hu _)) (sm.free hu) upd_same
end
end My
set_option maxHeartbeats 4000000
namespace My
open PySem L2
section
variable {P:Program} {w:World} {K:PySem.W.Frag} {mg:Str→Option Value} {base:Heap} {f g1:Addr} {fd d1:FuncData}
end
end My
set_option maxHeartbeats 4000000
namespace My
open PySem L2
abbrev sRunCut:Stmt:=top 12
theorem scRunCut:FnScope ["worker", "rows", "place"] ["worker", "rows", "place"] (defScope sRunCut):=⟨rfl,rfl,rfl,by decide +kernel,rfl,by decide +kernel,by decide +kernel⟩
structure RowsAt (H:Hp) (l:Addr) (as:List Addr) (rs:List Row):Prop where
  lst:H l = some (.lst (as.map V.ref))
  len:as.length = rs.length
  at_:∀ (i:Nat) a r,as[i]? = some a→rs[i]? = some r→H a = some (.tup r)
theorem RowsAt.same {H H':Hp} {l:Addr} {as:List Addr} {rs:List Row} (s:Same H H') (h:RowsAt H l as rs):RowsAt H' l as rs:=⟨s _ _ h.lst,h.len,fun i a r e1 e2=>s _ _ (h.at_ i a r e1 e2)⟩
theorem RowsAt.get {H:Hp} {l:Addr} {as:List Addr} {rs:List Row} (h:RowsAt H l as rs) {i:Nat} {x:V} (hx:(as.map V.ref)[i]? = some x):∃ (a:Addr) (r:Row),x = .ref a∧rs[i]? = some r∧H a = some (.tup r):=by
  rw [List.getElem?_map] at hx
  cases e:as[i]? with
  | none=>rw [e] at hx; cases hx
  | some b =>
    rw [e] at hx
    have hx':V.ref b = x:=Option.some.inj hx
    subst hx'
    have hi:i < rs.length:=by rw [← h.len]; exact (List.getElem?_eq_some_iff.mp e).1
    have er:rs[i]? = some rs[i]:=List.getElem?_eq_getElem hi
    exact ⟨b,rs[i],rfl,er,h.at_ i b _ e er⟩
structure Found (H:Hp) (as:List Addr) (rs:List Row):Prop where
  len:as.length = rs.length
  at_:∀ (i:Nat) a r,as[i]? = some a→rs[i]? = some r→H a = some (.tup r)
theorem Found.nil {H:Hp}:Found H [] []:=⟨rfl,fun i a r e=>by cases e⟩
theorem Found.same {H H':Hp} {as:List Addr} {rs:List Row} (s:Same H H') (h:Found H as rs):Found H' as rs:=⟨h.len,fun i a r e1 e2=>s _ _ (h.at_ i a r e1 e2)⟩
theorem Found.keep {H H':Hp} {as:List Addr} {rs:List Row} (k:∀ a xs,H a = some (.tup xs)→H' a = some (.tup xs)) (h:Found H as rs):Found H' as rs:=⟨h.len,fun i a r e1 e2=>k _ _ (h.at_ i a r e1 e2)⟩
theorem Found.snoc {H:Hp} {as:List Addr} {rs:List Row} {a:Addr} {r:Row} (h:Found H as rs) (ha:H a = some (.tup r)):Found H (as ++ [a]) (rs ++ [r]):=by
  refine ⟨by rw [List.length_append,List.length_append,h.len]; rfl,fun j b q e1 e2=>?_⟩
  by_cases hj:j < as.length
  · rw [List.getElem?_append_left hj] at e1
    rw [List.getElem?_append_left (by rw [← h.len]; exact hj)] at e2
    exact h.at_ j b q e1 e2
  · rw [List.getElem?_append_right (by omega)] at e1
    rw [List.getElem?_append_right (by rw [← h.len]; omega)] at e2
    have hl:=h.len
    have e0:j - as.length = 0:=by
      have:=(List.getElem?_eq_some_iff.mp e1).1
      simp at this
      exact this
    rw [e0] at e1
    rw [← hl,e0] at e2
    cases e1
    cases e2
    exact ha
theorem tup_upd {H:Hp} {D:Addr} {xs:List V} {o:HO} (h:H D = some (.lst xs)):∀ a ys,H a = some (.tup ys)→(upd H D o) a = some (.tup ys):=fun a ys e=>by
  rw [upd_ne (fun z=>by subst z; rw [h] at e; cases e)]; exact e
def spRunCut:Sp:=fun vs H Q _=>∃ (w t l pl:Addr) (cs:List Int) (as:List Addr) (rs:List Row),vs = [.ref w,.ref l,.ref pl]∧H w = some (.tup [.str "cut", .ref t])∧H t = some (.tup (cs.map V.int))∧RowsAt H l as rs∧(∀ r ∈ rs,fitC cs r.length)∧cs.length ≤ 1000∧rs.length ≤ 100000 ∧
  ∀ (l':Addr) (as':List Addr) (H':Hp),Same H H'→H l' = none→RowsAt H' l' as' (rs.map fun r=>pick r cs)→Q (.ref l') H'
section
variable {P:Program} {w:World} {K:PySem.W.Frag} {mg:Str→Option Value} {base:Heap} {f g1:Addr} {fd d1:FuncData}
theorem ok_runcut (F:Fun K "run_cut" "run_cut" sRunCut f fd) (G:FnOk P w K mg base CX0 1 g1 d1 ["row", "columns"] spPicked) (bG:Binds K d1 ["row", "columns"] []) (kG:PySem.W.keepIn K (.ref g1) = true) (mG:mg "picked" = some (.ref g1)) :
    FnOk P w K mg base CX0 2 f fd ["worker", "rows", "place"] spRunCut:=by
  refine F.ok scRunCut (fun vs H Q E h=>?_) (fun cdv A outer s H vs Q E hr h=>?_)
  · obtain ⟨w,t,l,pl,cs,as,rs,rfl,_⟩:=h
    rfl
  obtain ⟨w,t,l,pl,cs,as,rs,rfl,hw,ht,hR,hf,hz,hz2,q⟩:=h
  refine ⟨_,pss_one (ps_ret (pe_lcomp (N':=["row", "worker"]) (src:=[none,some 0]) rfl (CompSc.ofB (by kernel_rfl)) (pi_list (pv 1)) (fun cl C s H fp=>pgl (i:=0)) (fun cl C s H fp=>pifs_nil)
    (te:=tCall spPicked [] E0 (tCons (tVar 0) (tCons (tOp (rIxT K) (tVar 1) (tC (.int 1))) tNil)))
    (fun cl C s H fp=>pe_call G hr glc mG kG bG .nil pass0 (pa_cons (pvl 0) (pa_cons (pe_ix (r:=rIxT K) ix_tup (pvf 1) pe_int (fun _ _=>rfl)) pa_nil))))),?_⟩
  refine ⟨_,rfl,l,rfl,⟨_,SqL.of hR.lst⟩,fun D hD=>?_⟩
  have hl:(as.map V.ref).length = rs.length:=by rw [List.length_map,hR.len]
  refine comp_list (xs:=as.map V.ref) (fun i σ ys H'=>(∃ o,σ = [o,some (.ref w)])∧(∃ us,ys = us.map V.ref∧us.length = i∧Found H' us ((rs.take i).map fun r=>pick r cs))∧H' D = some (.lst ys)∧Same H H')
    ⟨⟨none,rfl⟩,⟨[],rfl,rfl,Found.nil⟩,upd_same,same_new hD _⟩ ?_ ?_ ?_ ?_ ?_
  · rintro i σ ys H' _ ⟨_,⟨us,rfl,rfl,_⟩,h,_⟩
    exact ⟨h,by rw [List.length_map]; exact Nat.le_refl _⟩
  · rintro i σ ys H' _ ⟨_,_,_,sm⟩
    exact SqL.of (sm _ _ hR.lst)
  · rw [hl]; exact Nat.le_trans hz2 (by decide)
  · rintro i x σ ys H' hx ⟨⟨o,rfl⟩,⟨us,rfl,rfl,hF⟩,h,sm⟩
    obtain ⟨a,r,rfl,er,har⟩:=hR.get hx
    refine ⟨_,rfl,_,rfl,w,_,1,_,rfl,rfl,SqT.of (sm _ _ hw),rfl,a,t,r,cs,rfl,sm _ _ har,sm _ _ ht,hf r (List.mem_of_getElem? er),hz,fun u H2 s2 hu hu2=>?_⟩
    refine ⟨s2 _ _ h,⟨_,rfl⟩,⟨us ++ [u],by rw [List.map_append]; rfl,by rw [List.length_append]; rfl,?_⟩,upd_same,same_put hD (sm.trans s2)⟩
    rw [take_one er,List.map_append]
    exact ((hF.same s2).snoc hu2).keep (tup_upd (s2 _ _ h))
  · rintro σ ys H' ⟨_,⟨us,rfl,_,hF⟩,h,sm⟩
    rw [hl,List.take_length] at hF
    exact q D us H' sm hD ⟨h,hF.len,hF.at_⟩
end
end My
namespace L2
open PySem PySem.Spec PyProof.Rows PySem.W
abbrev lamCx (X:Cx) (N':List Str) (qual:Str) (sc:Scope) (cl:List (Str×Addr)) (f:Addr) (cd:Value) (A:Around) (s:Shared) (H:Hp):Cx :=
  { X with A:=A.deeper (envX qual sc s.heap.objs.size f cd cl),N:=N',s₀:=s,H₀:=H,env:=envX qual sc s.heap.objs.size f cd cl,outer:=X.stack,stack:=envX qual sc s.heap.objs.size f cd cl :: X.stack,ex:=[],
           fn:=fun x=>sc.names.lookup x == some NameKind.local,calm:=true,pn:=[],xe:=fun _ _=>False }
section
variable {X:Cx} {sc:Scope} {N':List Str} {src:List (Option Nat)} {pins:List (Addr×Obj)} {σ:St} {H:Hp} {s:Shared} {p qual:Str} {v:V} {u:Value} {A:Around} {f:Addr} {cd:Value}
theorem lam_start {h1:Heap} (S:CompSc X.env.scope X.N N' src sc) (hp:sc.names.lookup p = some .local) (I:Inv X pins σ H s) (hA:A.handled = none) (hf:A.frames = some X.stack) (rv:RelV v u)
    (ns:h1.Ns s.heap.objs.size fun x=>([(p,u)]:List (Str×Value)).reverse.lookup x) (old:∀ b o,s.heap.get? b = some o→h1.get? b = some o) {tk:Nat} :
    Inv (lamCx X (p :: N') qual sc (cloOf X.env.cells sc.names []) f cd A s H) [] (some v :: inSt src σ) H { s with heap:=h1,toks:=tk }:=by
  have clo:∀ x c,(cloOf X.env.cells sc.names []).lookup x = some c→X.env.cells.lookup x = some c∧sc.names.lookup x = some .free:=fun x c e=>by
    rcases cloOf_mem (mem_of_lookup e) with ⟨m,q⟩ | z
    · obtain ⟨c',e'⟩:=I.ok.has x (S.free _ m rfl)
      rw [e'] at q
      exact ⟨by rw [e',q]; rfl,S.uniq _ m⟩
    · cases z
  have hasC:∀ x,sc.names.lookup x = some .free→∃ c,(cloOf X.env.cells sc.names []).lookup x = some c:=fun x e=>lookup_of_mem (cloOf_has (mem_of_lookup e))
  have noA:∀ b:Addr,b ∉ (lamCx X (p :: N') qual sc (cloOf X.env.cells sc.names []) f cd A s H).ex:=fun b z=>absurd (show b ∈ ([]:List Addr) from z) (by simp)
  refine ⟨⟨I.mod,S.kind,rfl,rfl,Nat.le_refl _,fun x y c h1 h2=>I.ok.inj x y c (clo x c h1).1 (clo y c h2).1,fun x hx=>?_,fun x c hf h=>?_,fun _=>hA,Around.frames_deeper hf,.inr ⟨rfl,rfl⟩,fun b z=>absurd z (noA b),I.bs,Nat.le_trans I.ok.bsz I.sz,fun b _ _=>noA b,fun b z=>absurd z (noA b),I.stack,I.stkFree⟩,
    rfl,I.bare,Un.kept old,⟨_,ns,fun i x v' h1 h2 h3=>?_⟩,fun x c h=>?_,I.hok.fresh (Nat.le_refl _),fun x c h=>I.freeC x c (clo x c h).1,fun p hp=>absurd (show p ∈ ([]:List (Addr×Obj)) from hp) (by simp),I.hok.kept old,?_⟩
  · have hx':sc.names.lookup x = some .cell∨sc.names.lookup x = some .free:=hx
    rcases hx' with hx | hx
    · exact absurd rfl (S.nocell _ (mem_of_lookup hx))
    · exact hasC x hx
  · have e2:=(clo x c h).2
    have hf':(sc.names.lookup x == some NameKind.local) = true:=hf
    rw [e2] at hf'
    cases hf'
  · cases i with
    | zero =>
      have e1:p = x:=Option.some.inj h1
      have e2:v = v':=Option.some.inj (Option.some.inj h2)
      subst e1; subst e2
      refine ⟨u,rv,.inl ⟨hp,?_⟩⟩
      show List.lookup p [(p,u)] = some u
      rw [List.lookup_cons,beq_self_eq_true]
    | succ i =>
      have h1:N'[i]? = some x:=h1
      have h2:(inSt src σ)[i]? = some (some v'):=h2
      obtain ⟨j,e1,e2⟩:=inSt_get h2
      obtain ⟨e3,e4⟩:=S.src i x j h1 e1
      obtain ⟨m,hn,hl⟩:=I.loc
      have kx:=S.free _ (mem_of_lookup e4) rfl
      obtain ⟨u,ru,l⟩:=hl j x v' e3 e2 (.inr kx)
      refine ⟨u,ru,.inr ⟨.inr e4,?_⟩⟩
      obtain ⟨c,hc⟩:=hasC x e4
      refine ⟨c,hc,?_⟩
      have hc':=(clo x c hc).1
      rcases l with ⟨lk,_⟩ | ⟨_,c',lc,z⟩
      · have lk':X.env.scope.names.lookup x = some .local:=lk
        rcases kx with q | q
        · have q':X.env.scope.names.lookup x = some .cell:=q
          rw [lk'] at q'; cases q'
        · have q':X.env.scope.names.lookup x = some .free:=q
          rw [lk'] at q'; cases q'
      · rw [hc'] at lc
        cases lc
        obtain ⟨o,ho,hd⟩:=z
        exact ⟨o,old _ _ ho,hd⟩
  · obtain ⟨v,o,ho,hd⟩:=I.cell x c (clo x c h).1
    exact ⟨v,o,old _ _ ho,hd⟩
  · show (some v :: inSt src σ).length = (p :: N').length
    unfold inSt
    rw [List.length_cons,List.length_map,List.length_cons,S.len]
theorem lam_run {name:Str} {params:Arguments} {body:Expr} {pm ctv:Value} {c':Addr} {te:TE} {Q:VK} {E:Value→Shared→Prop} (S:CompSc X.env.scope X.N N' src sc) (hp:sc.names.lookup p = some .local)
    (hco:sc.isCoroutine = false) (hgen:sc.isGenerator = false) (he:∀ s H,PE (lamCx X (p :: N') qual sc (cloOf X.env.cells sc.names []) f (.ref c') A s H) body te)
    (I:Inv X pins σ H s) (ho:s.heap.get? f = some (kla_obj name qual params body sc (cloOf X.env.cells sc.names []) pm c' ctv)) (hcd:s.heap.CodeRec (.ref c') qual) (hroom:A.depth < recursionLimit) (hA:A.handled = none) (hf:A.frames = some X.stack) (rv:RelV v u)
    (hbind:bindArgs (kla_fn name qual params body sc (cloOf X.env.cells sc.names []) pm (.ref c') ctv) ⟨[u],[]⟩ = pure [(p,u)]) (h:te (some v :: inSt src σ) H Q) :
    wpAny (model X.prog X.w) A (call (.ref f) [u]) (EP X pins σ Q) E s:=by
  have run:codeAny (model X.prog X.w) A (.call (.ref f) ⟨[u],[]⟩) (fun r s'=>match r with | .ok (.ret k)=>EP X pins σ Q k s' | _=>False) s:=by
    refine kla_callFunE hroom ho rfl hco hgen rfl hcd ?_
    rw [hbind]
    refine wpAny_pure (wpAny_newFunctionEnv S.nocell (fun y hy=>?_) (fun h₁ hns hsb=>⟨?_,?_⟩) S.kind)
    · have:y = (p,u):=by simpa using hy
      subst this
      exact hp
    · exact I.nolimit.fresh _ hsb
    · have old:∀ b o,s.heap.get? b = some o→h₁.get? b = some o:=fun b o e=>(hsb.2 b (Nat.ne_of_lt (Heap.lt_size e))).trans (Heap.get?_push_of_some _ e)
      show codeAny _ _ (.expr body (envX qual sc s.heap.objs.size f (.ref c') (cloOf X.env.cells sc.names []))) _ _
      refine kla_codeExpr (wpAny_mono (he s H [] _ _ H Q (lam_start S hp I hA hf rv hns old) h) (fun k s' hk=>?_) fun _ _ z=>False.elim z)
      obtain ⟨kv,H',J,rk,q⟩:=hk
      exact ⟨kv,H',I.call' J.os J.base J.hok J.bare fun b hb=>absurd hb (by simp),rk,q⟩
  refine wpAny_call (codeAny_mono run fun r s' hq=>?_)
  cases r with
  | error e=>exact False.elim hq
  | ok fl =>
    cases fl with
    | ret u=>exact hq
    | next=>exact False.elim hq
    | brk=>exact False.elim hq
    | cont=>exact False.elim hq
end
end L2
namespace L2
open PySem PySem.Spec PyProof.Rows PySem.W
abbrev CodO (oc:Obj):HO:=.frz oc (.ext fun _=>True)
def CodAt (H:Hp) (qual:Str) (v:Value):Prop:=∃ c oc vs t,v = .ref c∧H c = some (CodO oc)∧oc.data = .fields vs∧vs[1]? = some (.str qual t)
def TabAt (H:Hp) (P:Addr) (qual:Str):Prop:=∃ ps,H P = some (.tbl ps)∧TriplesOk ps.toList∧∀ pos v,codeAmong pos ps.toList = some v→CodAt H qual v
def GrowT (P:Addr) (H H':Hp):Prop:=∀ b o,b ≠ P→H b = some o→H' b = some o
theorem TabAt.grow {H H':Hp} {P:Addr} {qual:Str} (h:TabAt H P qual) (g:∀ b o,(∀ xs,o ≠ .lst xs)→H b = some o→H' b = some o):TabAt H' P qual:=by
  obtain ⟨ps,e,t,c⟩:=h
  refine ⟨ps,g _ _ (fun _ z=>by cases z) e,t,fun pos v q=>?_⟩
  obtain ⟨c,oc,vs,t,e1,e2,e3⟩:=c pos v q
  exact ⟨c,oc,vs,t,e1,g _ _ (fun _ z=>by cases z) e2,e3⟩
theorem CodAt.rec {P:Program} {w:World} {H:Hp} {h:Heap} {qual:Str} {v:Value} (x:CodAt H qual v) (hok:HOk P w H h):h.CodeRec v qual:=by
  obtain ⟨c,oc,vs,t,e1,e2,e3,e4⟩:=x
  exact ⟨c,oc,vs,t,e1,(hok c _ e2).1,e3,e4⟩
theorem among_snoc {pos' pos:Pos} {c v:Value}:∀ (l:List Value),TriplesOk l→codeAmong pos' (l ++ [rawInt pos.line,rawInt pos.col,c]) = some v→codeAmong pos' l = some v∨v = c
  | [],_,h=>by
    have h':(if _ then some c else codeAmong pos' []) = some v:=h
    split at h'
    · exact .inr (Option.some.inj h').symm
    · cases h'
  | .int a t :: .int b u :: x :: r,ht,h=>by
    have h':(if _ then some x else codeAmong pos' (r ++ _)) = some v:=h
    show (if _ then some x else codeAmong pos' r) = some v∨_
    split at h'
    · rename_i hc
      exact .inl (by rw [if_pos hc]; exact h')
    · rename_i hc
      rw [if_neg hc]
      exact among_snoc r ht h'
theorem triples_snoc {pos:Pos} {c:Value}:∀ (l:List Value),TriplesOk l→TriplesOk (l ++ [rawInt pos.line,rawInt pos.col,c])
  | [],_=>trivial
  | .int a t :: .int b u :: x :: r,ht=>triples_snoc (pos:=pos) (c:=c) r ht
section
variable {X:Cx} {sc:Scope} {N':List Str} {src:List (Option Nat)} {pins:List (Addr×Obj)} {σ:St} {H:Hp} {s:Shared} {c P:Addr} {params:Arguments} {body:Expr} {pos:Pos} {E:Value→Shared→Prop}
theorem lam_make {Q:Value→Shared→Prop} (S:CompSc X.env.scope X.N N' src sc) (I:Inv X pins σ H s) (T:TabAt H P (X.env.qual ++ "<lambda>")) (hcode:X.env.code = .ref c) (C:CodeHd X.base c P) (hB:X.base.BuiltinsAt X.mg P)
    (hdef:defaultsOf params X.env = ([],[]))
    (h:∀ f c' ctv H' s',Inv X (pins ++ [(f,kla_obj "<lambda>" (X.env.qual ++ "<lambda>") params body sc (cloOf X.env.cells sc.names []) ((X.mg "__name__").getD .none) c' ctv)]) σ H' s'→TabAt H' P (X.env.qual ++ "<lambda>")→GrowT P H H' →
      CodAt H' (X.env.qual ++ "<lambda>") (.ref c')→Q (.ref f) s') :
    wpAny (model X.prog X.w) X.A (eval (.Lambda params body sc pos) X.env) Q E s:=by
  refine kla_eval hdef ?_
  have hcl:closureFor sc X.env = pure (cloOf X.env.cells sc.names []):=closureFor_clo fun y hy hk=>I.ok.has y.1 (S.free y hy hk)
  have hns:s.heap.Ns mainGlobals X.mg:=I.ok.mod.glob.keeps I.bk
  have hb:s.heap.BuiltinsAt X.mg P:=by
    obtain ⟨bm,o,b1,b2,b3,b4,b5,b6⟩:=hB
    exact ⟨bm,o,b1,b2,b3,b4,I.bk _ _ b5,b6⟩
  obtain ⟨ps,hP,ht,hc⟩:=id T
  have hPo:s.heap.get? P = some (tabObj ps):=I.hok P _ hP
  have nP:∀ b,H b = none→b ≠ P:=fun b e z=>by rw [z,hP] at e; cases e
  have nP2:∀ b o,H b = some o→(∀ q,o ≠ .tbl q)→b ≠ P:=fun b o e hn z=>by rw [z,hP] at e; cases e; exact hn _ rfl
  have hgP:mainGlobals ≠ P:=nP _ (by obtain ⟨o,es,ep,e,_⟩:=I.ok.mod.glob; exact (I.bs _ _ e).2)
  have CS:=C.keeps I.bk
  have pinF:∀ {H':Hp} {s':Shared} {f:Addr} {ob:Obj},Inv X pins σ H' s'→s'.heap.get? f = some ob→H' f = none→s.heap.objs.size ≤ f→(∀ v,ob.data ≠ .cell v)→Inv X (pins ++ [(f,ob)]) σ H' s':=fun {H' s' f ob} J e hn hz hd=>by
    refine J.pins_of fun p hp=>?_
    rcases List.mem_append.mp hp with hp | hp
    · exact J.pin p (List.mem_append_right _ hp)
    · have:p = (f,ob):=by simpa using hp
      subst this
      exact ⟨e,hn,Nat.ne_of_gt (Nat.lt_of_lt_of_le I.lt hz),I.nofs hz,hd⟩
  cases ha:codeAmong pos ps.toList with
  | some cv =>
    obtain ⟨c',oc,vs,t,e1,e2,e3,e4⟩:=id (hc pos cv ha)
    subst e1
    refine kla_makeFunctionHit (mg:=X.mg) hcl I.ok.glob hns hcode CS hPo ht ha hb fun ctv h' tk hk hsz=>?_
    have k2:∀ (ob:Obj) b u,s.heap.get? b = some u→(h'.push ob).get? b = some u:=fun ob b u e=>Heap.get?_push_of_some _ (hk b u e)
    refine h h'.objs.size c' ctv H _ (pinF (I.kept (t':=tk) (k2 _)) (Heap.get?_push_size _ rfl) (I.hok.fresh hsz) hsz (fun v z=>by cases z)) T (fun b o _ e=>e) (hc pos _ ha)
  | none =>
    refine kla_makeFunction (mg:=X.mg) hcl I.ok.glob hns hcode CS hPo ht ha hgP hb fun c' ctv h' tk hx hge hlt hrec htb=>?_
    obtain ⟨c2,oc,vs,t,e1,e2,e3,e4⟩:=hrec
    cases e1
    have hcn:H c' = none:=I.hok.fresh hge
    have hcP:c' ≠ P:=nP _ hcn
    let H':Hp:=upd (upd H c' (CodO oc)) P (.tbl (ps ++ #[rawInt pos.line,rawInt pos.col,.ref c']))
    have hH:∀ b,b ≠ P→b ≠ c'→H' b = H b:=fun b h1 h2=>by show upd _ _ _ b = _; rw [upd_ne h1,upd_ne h2]
    have hHP:H' P = some (.tbl (ps ++ #[rawInt pos.line,rawInt pos.col,.ref c'])):=upd_same
    have hHc:H' c' = some (CodO oc):=by show upd _ _ _ c' = _; rw [upd_ne hcP,upd_same]
    have grow:GrowT P H H':=fun b o hb e=>by rw [hH b hb (ne_of_none e hcn)]; exact e
    generalize hob:(kla_obj "<lambda>" (X.env.qual ++ "<lambda>") params body sc (cloOf X.env.cells sc.names []) ((X.mg "__name__").getD .none) c' ctv) = ob
    have hobd:∀ v,ob.data ≠ .cell v:=fun v z=>by rw [← hob] at z; cases z
    have k2:∀ b u,b ≠ P→s.heap.get? b = some u→(h'.push ob).get? b = some u:=fun b u hb e=>Heap.get?_push_of_some _ (hx b u hb e)
    have gP:(h'.push ob).get? P = some (tabObj (ps ++ #[rawInt pos.line,rawInt pos.col,.ref c'])):=Heap.get?_push_of_some _ htb
    have gc:(h'.push ob).get? c' = some oc:=Heap.get?_push_of_some _ e2
    have hok:HOk X.prog X.w H' (h'.push ob):=fun b o e=>by
      by_cases hbP:b = P
      · subst hbP
        rw [hHP] at e; cases e
        exact gP
      · by_cases hbc:b = c'
        · subst hbc
          rw [hHc] at e; cases e
          exact ⟨gc,trivial,⟨_,gc⟩,fun _ _ _ _=>trivial⟩
        · rw [hH b hbP hbc] at e
          refine (I.hok b o e).stay (fun d u hd q=>k2 d u ?_ q) (fun d q=>?_) fun d xs q=>?_
          · rcases hd with rfl | hd
            · exact hbP
            · exact nP2 d _ hd fun _ z=>by cases z
          · exact grow d _ (nP2 d _ q fun _ z=>by cases z) q
          · exact grow d _ (nP2 d _ q fun _ z=>by cases z) q
    have J:Inv X pins σ H' { s with heap:=h'.push ob,toks:=tk }:=by
      refine I.step (g':=s.gens) (d':=s.drawn) (ch:=[]) (fun _ z=>nomatch z) (fun b o _ _ _ e n=>k2 b o (nP b n) e) (fun b o _ _ _ e n=>⟨o.slots,k2 b o (nP b n) e⟩) (fun b o _ e n=>?_) (fun b o _ e=>?_) (fun b xs e=>?_) (fun b o u e=>?_) (fun b q e=>?_) (fun m hm=>?_) hok I.bare
      · rw [hH b (nP b n) (Nat.ne_of_lt (Nat.lt_of_lt_of_le (Heap.lt_size e) hge))]; exact n
      · by_cases hbP:b = P
        · subst hbP; exact ⟨_,gP⟩
        · exact ⟨o,k2 b o hbP e⟩
      · exact grow b _ (nP2 b _ e fun _ z=>by cases z) e
      · exact grow b _ (nP2 b _ e fun _ z=>by cases z) e
      · by_cases hbP:b = P
        · subst hbP
          rw [hP] at e; cases e
          exact ⟨_,hHP⟩
        · exact ⟨#[],by rw [grow b _ hbP e]; simp⟩
      · obtain ⟨o,es,ep,ho,r⟩:=hm
        exact ⟨o,es,ep,k2 _ _ (nP _ I.free) ho,r⟩
    have hz:s.heap.objs.size ≤ h'.objs.size:=Nat.le_of_lt (Nat.lt_of_le_of_lt hge hlt)
    have hfn:H' h'.objs.size = none:=by
      rw [hH _ (fun z=>by have:=Heap.lt_size htb; rw [← z] at this; exact absurd this (Nat.lt_irrefl _)) (Nat.ne_of_gt hlt)]
      exact I.hok.fresh hz
    subst hob
    refine h h'.objs.size c' ctv H' _ (pinF J (Heap.get?_push_size _ rfl) hfn hz hobd) ⟨_,hHP,?_,fun pos' v q=>?_⟩ grow ⟨c',oc,vs,t,rfl,hHc,e3,e4⟩
    · rw [Array.toList_append]
      exact triples_snoc _ ht
    · rw [Array.toList_append] at q
      rcases among_snoc _ ht q with q | q
      · obtain ⟨d,od,vd,td,d1,d2,d3⟩:=hc pos' v q
        exact ⟨d,od,vd,td,d1,grow d _ (nP2 d _ d2 fun _ z=>by cases z) d2,d3⟩
      · exact ⟨c',oc,vs,t,q,hHc,e3,e4⟩
end
end L2
set_option maxHeartbeats 4000000
namespace StS
open PySem.W PyProof.Rows
def run {α:Type} (lt:Nat→Nat→Bool):KasT α→α
  | .ret a=>a
  | .ask i j k=>run lt (k (lt i j))
theorem run_bind {α β:Type} {lt:Nat→Nat→Bool} {f:α→KasT β}:∀ t:KasT α,run lt (t.bind f) = run lt (f (run lt t))
  | .ret a=>rfl
  | .ask i j k=>run_bind (k (lt i j))
structure WO (lt:Nat→Nat→Bool):Prop where
  asym:∀ a b,lt a b = true→lt b a = false
  neg:∀ a b c,lt a b = false→lt b c = false→lt a c = false
variable {lt:Nat→Nat→Bool} {p:Array Nat} {N:Nat}
theorem WO.irr (W:WO lt) (a:Nat):lt a a = false:=by
  cases h:lt a a with
  | false=>rfl
  | true=>exact (W.asym a a h).symm.trans h |>.symm
theorem WO.tr (W:WO lt) {a b c:Nat} (h1:lt a b = true) (h2:lt c b = false):lt a c = true:=by
  cases h:lt a c with
  | true=>rfl
  | false=>rw [W.neg a c b h h2] at h1; cases h1
theorem WO.tl (W:WO lt) {a b c:Nat} (h1:lt b c = true) (h2:lt b a = false):lt a c = true:=by
  cases h:lt a c with
  | true=>rfl
  | false=>rw [W.neg b a c h2 h] at h1; cases h1
def pre (lt:Nat→Nat→Bool) (a b:Nat):Prop:=lt b a = false∧(lt a b = true∨a < b)
theorem pre_l (W:WO lt) {a b:Nat} (h:lt a b = true):pre lt a b:=⟨W.asym _ _ h,.inl h⟩
def Up (lt:Nat→Nat→Bool) (g:Nat→Nat) (n:Nat):Prop:=∀ i j,i < j→j < n→pre lt (g i) (g j)
abbrev at_ (p:Array Nat):Nat→Nat:=fun i=>p.getD i 0
theorem at_eq {p:Array Nat} {i:Nat}:at_ p i = (p[i]?).getD 0:=by
  simp [at_,Array.getD_eq_getD_getElem?]
theorem rev_at {i j:Nat} (hj:j ≤ p.size) (k:Nat):at_ (kas_rev p i j) k = if i ≤ k∧k < j then at_ p (i + j - 1 - k) else at_ p k:=by
  rw [at_eq,at_eq,at_eq]
  unfold kas_rev
  rw [getElem?_mirror_all hj]
  split <;> rfl
theorem rev_size {i j:Nat}:(kas_rev p i j).size = p.size:=mirror_size _ _ _ _
theorem bub_at {k l:Nat} (hk:k < p.size) (hl:l ≤ k) (i:Nat):at_ (bubble p k (k - l)) i = if i = l then at_ p k else if l < i∧i ≤ k then at_ p (i - 1) else at_ p i:=by
  rw [at_eq,at_eq,at_eq,at_eq,getElem?_bubble hk _ (by omega)]
  have e:k - (k - l) = l:=by omega
  rw [e]
  split
  · rfl
  · split <;> rfl
structure Base (N:Nat) (p:Array Nat) (n:Nat):Prop where
  size:p.size = N
  perm:p.Perm (List.toArray (List.range N))
  le:n ≤ N
  hi:∀ i,n ≤ i→i < N→at_ p i = i
  lo:∀ i,i < n→at_ p i < n
theorem Base.succ {n:Nat} (b:Base N p n) (h:n < N):Base N p (n + 1) :=
  ⟨b.size,b.perm,h,fun i h1 h2=>b.hi i (by omega) h2,fun i h1=>by
    by_cases e:i = n
    · subst e; rw [b.hi i (Nat.le_refl _) h]; omega
    · have:=b.lo i (by omega); omega⟩
theorem Base.up {n m:Nat} (b:Base N p n) (h:n ≤ m) (hm:m ≤ N):Base N p m:=by
  obtain ⟨d,rfl⟩:=Nat.exists_eq_add_of_le h
  clear h
  induction d with
  | zero=>exact b
  | succ d ih=>exact (ih (by omega)).succ (by omega)
theorem Base.rev {n i j:Nat} (b:Base N p n) (hj:j ≤ n):Base N (kas_rev p i j) n:=by
  have hjs:j ≤ p.size:=by rw [b.size]; exact Nat.le_trans hj b.le
  refine ⟨rev_size.trans b.size,(mirror_perm _ _ _ _).trans b.perm,b.le,fun k h1 h2=>?_,fun k h1=>?_⟩
  · rw [rev_at hjs,if_neg (by omega)]; exact b.hi k h1 h2
  · rw [rev_at hjs]
    split
    · exact b.lo _ (by omega)
    · exact b.lo _ h1
theorem asc_run:∀ (f n:Nat),∃ m,run lt (kas_asc p f n) = m∧n ≤ m∧m ≤ n + f∧(∀ i,n ≤ i→i < m→lt (at_ p i) (at_ p (i - 1)) = false)∧(m < n + f→lt (at_ p m) (at_ p (m - 1)) = true)
  | 0,n=>⟨n,rfl,Nat.le_refl _,Nat.le_refl _,fun i h1 h2=>by omega,fun h=>by omega⟩
  | f + 1,n=>by
    have e:run lt (kas_asc p (f + 1) n) = run lt (if lt (at_ p n) (at_ p (n - 1)) = true then .ret n else kas_asc p f (n + 1)):=rfl
    cases c:lt (at_ p n) (at_ p (n - 1)) with
    | true =>
      rw [c,if_pos rfl] at e
      exact ⟨n,e,Nat.le_refl _,by omega,fun i h1 h2=>by omega,fun _=>c⟩
    | false =>
      rw [c,if_neg Bool.false_ne_true] at e
      obtain ⟨m,h1,h2,h3,h4,h5⟩:=asc_run f (n + 1)
      refine ⟨m,e.trans h1,by omega,by omega,fun i i1 i2=>?_,fun h=>h5 (by omega)⟩
      by_cases q:i = n
      · subst q; exact c
      · exact h4 i (by omega) i2
theorem up_ext (W:WO lt) {n:Nat} (b:Base N p n) (hn:1 ≤ n) (hN:n < N) (u:Up lt (at_ p) n) (c:lt (at_ p n) (at_ p (n - 1)) = false):Up lt (at_ p) (n + 1):=by
  intro i j hij hj
  by_cases e:j = n
  · subst e
    have h1:lt (at_ p j) (at_ p i) = false:=by
      by_cases q:i = j - 1
      · subst q; exact c
      · exact W.neg _ _ _ c (u i (j - 1) (by omega) (by omega)).1
    refine ⟨h1,.inr ?_⟩
    rw [b.hi j (Nat.le_refl _) hN]
    exact b.lo i hij
  · exact u i j hij (by omega)
theorem up_asc (W:WO lt) {n m:Nat} (b:Base N p n) (hn:1 ≤ n) (h:n ≤ m) (hm:m ≤ N) (u:Up lt (at_ p) n) (c:∀ i,n ≤ i→i < m→lt (at_ p i) (at_ p (i - 1)) = false):Up lt (at_ p) m:=by
  obtain ⟨d,rfl⟩:=Nat.exists_eq_add_of_le h
  clear h
  induction d with
  | zero=>exact u
  | succ d ih =>
    have u':=ih (by omega) fun i i1 i2=>c i i1 (by omega)
    exact up_ext (n:=n + d) W (b.up (Nat.le_add_right n d) (by omega)) (by omega) (by omega) u' (c (n + d) (by omega) (by omega))
structure Dn (lt:Nat→Nat→Bool) (N:Nat) (p:Array Nat) (n q:Nat):Prop where
  base:Base N p n
  qn:q + 1 ≤ n
  d1:∀ i j,i < j→j < n - q - 1→pre lt (at_ p j) (at_ p i)
  d2:∀ i j,i < n - q - 1→n - q - 1 ≤ j→j < n→lt (at_ p j) (at_ p i) = true
  d3:∀ i j,n - q - 1 ≤ i→i < j→j < n→at_ p i < at_ p j∧lt (at_ p i) (at_ p j) = false∧lt (at_ p j) (at_ p i) = false
theorem Dn.last (W:WO lt) {n q:Nat} (d:Dn lt N p n q) {i:Nat} (hi:i < n):lt (at_ p i) (at_ p (n - 1)) = false:=by
  have hq:=d.qn
  by_cases e:i = n - 1
  · subst e; exact W.irr _
  · by_cases h:i < n - q - 1
    · exact W.asym _ _ (d.d2 i (n - 1) h (by omega) (by omega))
    · exact (d.d3 i (n - 1) (by omega) (by omega) (by omega)).2.1
def flip (n q:Nat) (g:Nat→Nat):Nat→Nat:=fun k=>if n - (q + 1) ≤ k∧k < n then g (n - (q + 1) + n - 1 - k) else g k
theorem Dn.fall (W:WO lt) {n q:Nat} (d:Dn lt N p n q):∀ i j,i < j→j < n→pre lt (flip n q (at_ p) j) (flip n q (at_ p) i):=by
  intro i j hij hj
  have hq:=d.qn
  unfold flip
  by_cases h1:n - (q + 1) ≤ i
  · rw [if_pos ⟨by omega,hj⟩,if_pos ⟨h1,by omega⟩]
    have:=d.d3 (n - (q + 1) + n - 1 - j) (n - (q + 1) + n - 1 - i) (by omega) (by omega) (by omega)
    exact ⟨this.2.2,.inr this.1⟩
  · rw [if_neg (c:=n - (q + 1) ≤ i∧i < n) (by omega)]
    by_cases h2:n - (q + 1) ≤ j
    · rw [if_pos ⟨h2,hj⟩]
      exact pre_l W (d.d2 i _ (by omega) (by omega) (by omega))
    · rw [if_neg (by omega)]
      exact d.d1 i j hij (by omega)
theorem flip_lt {n q:Nat} (hq:q + 1 ≤ n) (g:Nat→Nat) {i:Nat} (hi:i < n):∃ k,k < n∧flip n q g i = g k:=by
  unfold flip
  split
  · exact ⟨_,by omega,rfl⟩
  · exact ⟨i,hi,rfl⟩
theorem Dn.next (W:WO lt) {n q:Nat} {p':Array Nat} (d:Dn lt N p n q) (hN:n < N) (c:lt (at_ p n) (at_ p (n - 1)) = true) (b:Base N p' n) (e:∀ k,at_ p' k = flip n q (at_ p) k):Dn lt N p' (n + 1) 0:=by
  have hq:=d.qn
  refine ⟨b.succ hN,by omega,fun i j h1 h2=>?_,fun i j h1 h2 h3=>?_,fun i j h1 h2 h3=>by omega⟩
  · rw [e,e]; exact d.fall W i j h1 (by omega)
  · have hj:j = n:=by omega
    subst hj
    have e1:at_ p' j = at_ p j:=by rw [e]; unfold flip; rw [if_neg (by omega)]
    obtain ⟨k,hk,e2⟩:=flip_lt hq (at_ p) (i:=i) (by omega)
    rw [e1,e,e2]
    exact W.tr c (d.last W hk)
theorem Dn.more (W:WO lt) {n q:Nat} (d:Dn lt N p n q) (hN:n < N) (c:lt (at_ p n) (at_ p (n - 1)) = false) (c':lt (at_ p (n - 1)) (at_ p n) = false):Dn lt N p (n + 1) (q + 1):=by
  have hq:=d.qn
  have en:n + 1 - (q + 1) - 1 = n - q - 1:=by omega
  refine ⟨d.base.succ hN,by omega,fun i j h1 h2=>d.d1 i j h1 (by omega),fun i j h1 h2 h3=>?_,fun i j h1 h2 h3=>?_⟩
  · rw [en] at h1 h2
    by_cases e:j = n
    · subst e
      exact W.tl (d.d2 i (j - 1) h1 (by omega) (by omega)) c'
    · exact d.d2 i j h1 h2 (by omega)
  · rw [en] at h1
    by_cases e:j = n
    · subst e
      refine ⟨?_,?_,?_⟩
      · rw [d.base.hi j (Nat.le_refl _) hN]; exact d.base.lo i h2
      · exact W.neg _ _ _ (d.last W h2) c'
      · refine W.neg _ _ _ c ?_
        by_cases q':i = j - 1
        · subst q'; exact W.irr _
        · exact (d.d3 i (j - 1) h1 (by omega) (by omega)).2.2
    · exact d.d3 i j h1 h2 (by omega)
theorem flip0 {n:Nat} (hn:1 ≤ n) (g:Nat→Nat) (k:Nat):g k = flip n 0 g k:=by
  unfold flip
  split
  · have:n - (0 + 1) + n - 1 - k = k:=by omega
    rw [this]
  · rfl
theorem flip_rev {n q:Nat} (b:Base N p n) (hq:q + 1 ≤ n) (k:Nat):at_ (kas_rev p (n - (q + 1)) n) k = flip n q (at_ p) k:=by
  rw [rev_at (by rw [b.size]; exact b.le)]; rfl
theorem desc_run (W:WO lt):∀ (f:Nat) (p:Array Nat) (n q:Nat),Dn lt N p n q→n + f ≤ N→∃ p' n' q',run lt (kas_desc f p n q) = (p',n',q')∧Dn lt N p' n' q'
  | 0,p,n,q,d,_=>⟨p,n,q,rfl,d⟩
  | f + 1,p,n,q,d,h=>by
    have e:run lt (kas_desc (f + 1) p n q) = run lt (if lt (at_ p n) (at_ p (n - 1)) = true then (if q > 0 then kas_desc f (kas_rev p (n - (q + 1)) n) (n + 1) 0 else kas_desc f p (n + 1) 0)
      else .ask (at_ p (n - 1)) (at_ p n) fun d=>if d = true then .ret (p,n,q) else kas_desc f p (n + 1) (q + 1)):=rfl
    have hq:=d.qn
    cases c:lt (at_ p n) (at_ p (n - 1)) with
    | true =>
      rw [c,if_pos rfl] at e
      by_cases hq0:q > 0
      · rw [if_pos hq0] at e
        obtain ⟨p',n',q',h1,h2⟩:=desc_run W f _ _ _ (d.next W (by omega) c (d.base.rev (Nat.le_refl _)) (flip_rev d.base hq)) (by omega)
        exact ⟨p',n',q',e.trans h1,h2⟩
      · rw [if_neg hq0] at e
        have q0:q = 0:=by omega
        subst q0
        obtain ⟨p',n',q',h1,h2⟩:=desc_run W f _ _ _ (d.next W (by omega) c d.base (flip0 (by omega) _)) (by omega)
        exact ⟨p',n',q',e.trans h1,h2⟩
    | false =>
      rw [c,if_neg Bool.false_ne_true] at e
      have e':run lt (kas_desc (f + 1) p n q) = run lt (if lt (at_ p (n - 1)) (at_ p n) = true then .ret (p,n,q) else kas_desc f p (n + 1) (q + 1)):=e
      cases c':lt (at_ p (n - 1)) (at_ p n) with
      | true =>
        rw [c',if_pos rfl] at e'
        exact ⟨p,n,q,e',d⟩
      | false =>
        rw [c',if_neg Bool.false_ne_true] at e'
        obtain ⟨p',n',q',h1,h2⟩:=desc_run W f _ _ _ (d.more W (by omega) c c') (by omega)
        exact ⟨p',n',q',e'.trans h1,h2⟩
theorem tail3_run (W:WO lt) {n:Nat} (b:Base N p n) (hn:1 ≤ n) (h:∀ i j,i < j→j < n→pre lt (at_ p j) (at_ p i)):∃ m p',run lt (kas_tail3 n N p) = (m,p')∧Base N p' m∧1 ≤ m∧Up lt (at_ p') m:=by
  unfold kas_tail3
  rw [run_bind]
  have b':=b.rev (i:=0) (Nat.le_refl n)
  obtain ⟨m,e,h1,h2,h3,_⟩:=asc_run (lt:=lt) (p:=kas_rev p 0 n) (N - n) n
  rw [e]
  have hle:=b.le
  refine ⟨m,_,rfl,b'.up h1 (by omega),by omega,up_asc W b' hn h1 (by omega) (fun i j hij hj=>?_) h3⟩
  have hs:n ≤ p.size:=by rw [b.size]; exact b.le
  rw [rev_at hs,rev_at hs,if_pos ⟨Nat.zero_le _,by omega⟩,if_pos ⟨Nat.zero_le _,hj⟩]
  exact h _ _ (by omega) (by omega)
theorem descPart_run (W:WO lt) {n:Nat} (d:Dn lt N p (n + 1) 0):∃ m p',run lt (kas_descPart n N p) = (m,p')∧Base N p' m∧1 ≤ m∧Up lt (at_ p') m:=by
  unfold kas_descPart
  rw [run_bind]
  have hle:=d.base.le
  obtain ⟨p',n',q',e,d'⟩:=desc_run W (N - (n + 1)) p (n + 1) 0 d (by omega)
  rw [e]
  dsimp only
  have hq:=d'.qn
  by_cases h:q' > 0
  · rw [if_pos h]
    refine tail3_run W (d'.base.rev (Nat.le_refl _)) (by omega) fun i j h1 h2=>?_
    rw [flip_rev d'.base hq,flip_rev d'.base hq]
    exact d'.fall W i j h1 h2
  · rw [if_neg h]
    have q0:q' = 0:=by omega
    subst q0
    refine tail3_run W d'.base (by omega) fun i j h1 h2=>?_
    rw [flip0 (by omega) (at_ p') j,flip0 (by omega) (at_ p') i]
    exact d'.fall W i j h1 h2
theorem count_run (W:WO lt) (b:Base N p 0) (hN:1 ≤ N):∃ m p',run lt (kas_count N p) = (m,p')∧Base N p' m∧1 ≤ m∧Up lt (at_ p') m:=by
  unfold kas_count
  rw [run_bind]
  obtain ⟨n,e,h1,h2,h3,h4⟩:=asc_run (lt:=lt) (p:=p) (N - 1) 1
  rw [e]
  have b1:=b.up (Nat.zero_le 1) hN
  have bn:=b.up (Nat.zero_le n) (by omega)
  have u:Up lt (at_ p) n:=up_asc W b1 (Nat.le_refl _) h1 (by omega) (fun i j _ _=>by omega) h3
  by_cases en:(n == N) = true
  · rw [if_pos en]
    exact ⟨n,p,rfl,bn,h1,u⟩
  rw [if_neg en]
  have hlt:n < N:=by
    have:n ≠ N:=fun z=>en (by rw [z]; exact beq_self_eq_true _)
    omega
  have c:=h4 (by omega)
  have hid:∀ i,i < N→at_ p i = i:=fun i hi=>b.hi i (Nat.zero_le _) hi
  have go:(∀ x y,x < n→y < n→lt (at_ p x) (at_ p y) = false)→∀ p',Base N p' n→(∀ k,at_ p' k = flip n (n - 1) (at_ p) k)→Dn lt N p' (n + 1) 0:=fun al p' b' ef=>by
    refine ⟨b'.succ hlt,by omega,fun i j i1 i2=>?_,fun i j i1 i2 i3=>?_,fun i j i1 i2 i3=>by omega⟩
    · have ei:at_ p' i = n - 1 - i:=by rw [ef]; unfold flip; rw [if_pos (by omega),hid _ (by omega)]; omega
      have ej:at_ p' j = n - 1 - j:=by rw [ef]; unfold flip; rw [if_pos (by omega),hid _ (by omega)]; omega
      rw [ei,ej]
      have:=al (n - 1 - i) (n - 1 - j) (by omega) (by omega)
      rw [hid _ (by omega),hid _ (by omega)] at this
      exact ⟨this,.inr (by omega)⟩
    · have hj:j = n:=by omega
      subst hj
      have e1:at_ p' j = at_ p j:=by rw [ef]; unfold flip; rw [if_neg (by omega)]
      obtain ⟨k,hk,e2⟩:=flip_lt (q:=j - 1) (by omega) (at_ p) (i:=i) (n:=j) (by omega)
      rw [e1,ef,e2]
      exact W.tr c (al k (j - 1) hk (by omega))
  by_cases hn:n > 1
  · rw [if_pos hn]
    have e':run lt (KasT.ask (p.getD 0 0) (p.getD (n - 1) 0) fun c=>if c = true then .ret (n,p) else kas_descPart n N (kas_rev p 0 n)) = run lt (if lt (at_ p 0) (at_ p (n - 1)) = true then .ret (n,p) else kas_descPart n N (kas_rev p 0 n)):=rfl
    rw [e']
    cases c0:lt (at_ p 0) (at_ p (n - 1)) with
    | true=>rw [if_pos rfl]; exact ⟨n,p,rfl,bn,h1,u⟩
    | false =>
      rw [if_neg Bool.false_ne_true]
      have z0:∀ x,x < n→lt (at_ p x) (at_ p 0) = false:=fun x hx=>by
        by_cases q:x = 0
        · subst q; exact W.irr _
        · exact (u 0 x (by omega) hx).1
      have zl:∀ y,y < n→lt (at_ p (n - 1)) (at_ p y) = false:=fun y hy=>by
        by_cases q:y = n - 1
        · subst q; exact W.irr _
        · exact (u y (n - 1) (by omega) (by omega)).1
      refine descPart_run W (go (fun x y hx hy=>W.neg _ _ _ (W.neg _ _ _ (z0 x hx) c0) (zl y hy)) _ (bn.rev (Nat.le_refl _)) fun k=>?_)
      have:=flip_rev bn (q:=n - 1) (by omega) k
      rwa [show n - (n - 1 + 1) = 0 by omega] at this
  · rw [if_neg hn]
    have n1:n = 1:=by omega
    subst n1
    exact descPart_run W (go (fun x y hx hy=>by
      have:x = 0:=by omega
      have:y = 0:=by omega
      subst x; subst y
      exact W.irr _) p bn (flip0 (Nat.le_refl _) _))
theorem place_run (W:WO lt) {k:Nat} (u:Up lt (at_ p) k):∀ (f l r:Nat),l ≤ r→r ≤ k→r - l ≤ f→(∀ i,i < l→lt (at_ p k) (at_ p i) = false)→(∀ i,r ≤ i→i < k→lt (at_ p k) (at_ p i) = true) →
    ∃ m,run lt (kas_place p k f l r) = m∧m ≤ k∧(∀ i,i < m→lt (at_ p k) (at_ p i) = false)∧∀ i,m ≤ i→i < k→lt (at_ p k) (at_ p i) = true
  | 0,l,r,h1,h2,h3,lo,hi=>⟨l,rfl,by omega,lo,fun i i1 i2=>hi i (by omega) i2⟩
  | f + 1,l,r,h1,h2,h3,lo,hi=>by
    have e:run lt (kas_place p k (f + 1) l r) = run lt (if l ≥ r then .ret l else .ask (at_ p k) (at_ p ((l + r) / 2)) fun c=>if c = true then kas_place p k f l ((l + r) / 2) else kas_place p k f ((l + r) / 2 + 1) r):=rfl
    by_cases hlr:l ≥ r
    · rw [if_pos hlr] at e
      exact ⟨l,e,by omega,lo,fun i i1 i2=>hi i (by omega) i2⟩
    · rw [if_neg hlr] at e
      have e':run lt (kas_place p k (f + 1) l r) = run lt (if lt (at_ p k) (at_ p ((l + r) / 2)) = true then kas_place p k f l ((l + r) / 2) else kas_place p k f ((l + r) / 2 + 1) r):=e
      have hm1:l ≤ (l + r) / 2:=by omega
      have hm2:(l + r) / 2 < r:=by omega
      generalize (l + r) / 2 = m at *
      cases c:lt (at_ p k) (at_ p m) with
      | true =>
        rw [c,if_pos rfl] at e'
        rw [e']
        refine place_run W u f l m hm1 (by omega) (by omega) lo fun i i1 i2=>?_
        by_cases q:i = m
        · subst q; exact c
        · exact W.tr c (u m i (by omega) i2).1
      | false =>
        rw [c,if_neg Bool.false_ne_true] at e'
        rw [e']
        refine place_run W u f (m + 1) r (by omega) h2 (by omega) (fun i i1=>?_) hi
        by_cases q:i = m
        · subst q; exact c
        · exact W.neg _ _ _ c (u i m (by omega) (by omega)).1
theorem bin_run (W:WO lt):∀ (f:Nat) (p:Array Nat) (k:Nat),Base N p k→Up lt (at_ p) k→k + f = N→∃ p',run lt (kas_bin f p k) = p'∧Base N p' N∧Up lt (at_ p') N
  | 0,p,k,b,u,h=>by
    have:k = N:=by omega
    subst this
    exact ⟨p,rfl,b,u⟩
  | f + 1,p,k,b,u,h=>by
    have e:run lt (kas_bin (f + 1) p k) = run lt ((kas_place p k k 0 k).bind fun l=>kas_bin f (bubble p k (k - l)) (k + 1)):=rfl
    rw [e,run_bind]
    obtain ⟨m,h1,h2,h3,h4⟩:=place_run W u k 0 k (Nat.zero_le _) (Nat.le_refl _) (by omega) (fun i hi=>by omega) (fun i i1 i2=>by omega)
    rw [h1]
    have hk:k < p.size:=by rw [b.size]; omega
    have ek:=b.hi k (Nat.le_refl _) (by omega)
    refine bin_run W f _ (k + 1) ⟨(bubble_size _ _ _).trans b.size,(bubble_perm _ _ _).trans b.perm,by omega,fun i i1 i2=>?_,fun i i1=>?_⟩ (fun i j hij hj=>?_) (by omega)
    · rw [bub_at hk h2,if_neg (by omega),if_neg (by omega)]
      exact b.hi i (by omega) i2
    · rw [bub_at hk h2]
      by_cases ci:i = m
      · rw [if_pos ci,ek]; exact Nat.lt_succ_self k
      · rw [if_neg ci]
        by_cases ci2:m < i∧i ≤ k
        · rw [if_pos ci2]; have:=b.lo (i - 1) (by omega); omega
        · rw [if_neg ci2]; have:=b.lo i (by omega); omega
    · rw [bub_at hk h2,bub_at hk h2]
      by_cases ci:i = m
      · rw [if_pos ci,if_neg (by omega),if_pos ⟨by omega,by omega⟩]
        exact pre_l W (h4 (j - 1) (by omega) (by omega))
      · rw [if_neg ci]
        by_cases cj:j = m
        · rw [if_pos cj,if_neg (by omega)]
          refine ⟨h3 i (by omega),.inr ?_⟩
          rw [ek]; exact b.lo i (by omega)
        · rw [if_neg cj]
          by_cases ci2:m < i∧i ≤ k
          · rw [if_pos ci2,if_pos ⟨by omega,by omega⟩]
            exact u _ _ (by omega) (by omega)
          · rw [if_neg ci2]
            by_cases cj2:m < j∧j ≤ k
            · rw [if_pos cj2]
              exact u _ _ (by omega) (by omega)
            · rw [if_neg cj2]
              exact u _ _ hij (by omega)
theorem base0:Base N (List.toArray (List.range N)) 0:=by
  refine ⟨by simp,Array.Perm.refl _,Nat.zero_le _,fun i _ hi=>?_,fun i hi=>by omega⟩
  rw [at_eq]
  simp [hi]
theorem sort_run (W:WO lt) (hN:1 ≤ N):∃ p,run lt (kas_sort N) = p∧Base N p N∧Up lt (at_ p) N:=by
  unfold kas_sort
  rw [run_bind]
  obtain ⟨m,p',e,b,h1,u⟩:=count_run W (base0 (N:=N)) hN
  rw [e]
  dsimp only
  by_cases h:m < N
  · rw [if_pos h,Nat.max_eq_left h1]
    exact bin_run W (N - m) p' m b u (by omega)
  · rw [if_neg h]
    have:m = N:=by have:=b.le; omega
    subst this
    exact ⟨p',rfl,b,u⟩
end StS
namespace StS
open PySem PySem.W PyProof.Rows
def Asks {α:Type} (n:Nat) (R:α→Prop):KasT α→Prop
  | .ret a=>R a
  | .ask i j k=>i < n∧j < n∧∀ b,Asks n R (k b)
theorem Asks.bind {α β:Type} {n:Nat} {R:α→Prop} {R':β→Prop} {f:α→KasT β}:∀ {t:KasT α},Asks n R t→(∀ a,R a→Asks n R' (f a))→Asks n R' (t.bind f)
  | .ret a,h,hf=>hf a h
  | .ask i j k,h,hf=>⟨h.1,h.2.1,fun b=>Asks.bind (t:=k b) (h.2.2 b) hf⟩
def AllLt (n:Nat) (p:Array Nat):Prop:=∀ x ∈ p,x < n
variable {n:Nat} {p:Array Nat}
theorem AllLt.get (h:AllLt n p) (h0:0 < n) (i:Nat):p.getD i 0 < n:=by
  rw [Array.getD_eq_getD_getElem?]
  cases e:p[i]? with
  | none=>exact h0
  | some x=>exact h x (Array.mem_of_getElem? e)
theorem AllLt.perm {q:Array Nat} (h:AllLt n p) (e:q.Perm p):AllLt n q:=fun x hx=>h x (e.mem_iff.mp hx)
theorem AllLt.rev (h:AllLt n p) (i j:Nat):AllLt n (kas_rev p i j):=h.perm (mirror_perm _ _ _ _)
theorem asc_asks (h:AllLt n p) (h0:0 < n):∀ f m,Asks n (fun _:Nat=>True) (kas_asc p f m)
  | 0,m=>trivial
  | f + 1,m=>⟨h.get h0 _,h.get h0 _,fun b=>by
    cases b with
    | true=>exact trivial
    | false=>exact asc_asks h h0 f (m + 1)⟩
theorem desc_asks (h0:0 < n):∀ (f:Nat) (p:Array Nat) (m q:Nat),AllLt n p→Asks n (fun r:Array Nat×Nat×Nat=>AllLt n r.1) (kas_desc f p m q)
  | 0,p,m,q,h=>h
  | f + 1,p,m,q,h=>⟨h.get h0 _,h.get h0 _,fun b=>by
    cases b with
    | true =>
      dsimp only
      rw [if_pos rfl]
      split
      · exact desc_asks h0 f _ _ _ (h.rev _ _)
      · exact desc_asks h0 f _ _ _ h
    | false =>
      dsimp only
      rw [if_neg Bool.false_ne_true]
      refine ⟨h.get h0 _,h.get h0 _,fun d=>?_⟩
      cases d with
      | true=>dsimp only; rw [if_pos rfl]; exact h
      | false=>dsimp only; rw [if_neg Bool.false_ne_true]; exact desc_asks h0 f _ _ _ h⟩
theorem tail3_asks (h0:0 < n) (h:AllLt n p) (m r:Nat):Asks n (fun r:Nat×Array Nat=>AllLt n r.2) (kas_tail3 m r p) :=
  (asc_asks (h.rev _ _) h0 _ _).bind fun _ _=>h.rev _ _
theorem descPart_asks (h0:0 < n) (h:AllLt n p) (m r:Nat):Asks n (fun r:Nat×Array Nat=>AllLt n r.2) (kas_descPart m r p) :=
  (desc_asks h0 _ _ _ _ h).bind fun a ha=>by
    split
    · exact tail3_asks h0 (AllLt.rev ha _ _) _ _
    · exact tail3_asks h0 ha _ _
theorem count_asks (h0:0 < n) (h:AllLt n p) (r:Nat):Asks n (fun r:Nat×Array Nat=>AllLt n r.2) (kas_count r p) :=
  (asc_asks h h0 _ _).bind fun m _=>by
    split
    · exact h
    · split
      · refine ⟨h.get h0 _,h.get h0 _,fun c=>?_⟩
        dsimp only
        split
        · exact h
        · exact descPart_asks h0 (h.rev _ _) _ _
      · exact descPart_asks h0 h _ _
theorem place_asks (h0:0 < n) (h:AllLt n p) (k:Nat):∀ f l r,Asks n (fun _:Nat=>True) (kas_place p k f l r)
  | 0,l,r=>trivial
  | f + 1,l,r=>by
    show Asks n _ (if l ≥ r then _ else _)
    split
    · exact trivial
    · refine ⟨h.get h0 _,h.get h0 _,fun c=>?_⟩
      cases c with
      | true=>dsimp only; rw [if_pos rfl]; exact place_asks h0 h k f _ _
      | false=>dsimp only; rw [if_neg Bool.false_ne_true]; exact place_asks h0 h k f _ _
theorem bin_asks (h0:0 < n):∀ (f:Nat) (p:Array Nat) (k:Nat),AllLt n p→Asks n (fun _:Array Nat=>True) (kas_bin f p k)
  | 0,p,k,h=>trivial
  | f + 1,p,k,h=>(place_asks h0 h k _ _ _).bind fun l _=>bin_asks h0 f _ _ (h.perm (bubble_perm _ _ _))
theorem sort_asks (h0:0 < n):Asks n (fun _:Array Nat=>True) (kas_sort n):=by
  have h:AllLt n (List.toArray (List.range n)):=fun x hx=>by simpa using hx
  refine (count_asks h0 h n).bind fun r hr=>?_
  split
  · exact bin_asks h0 _ _ _ hr
  · exact trivial
theorem wp_of_run {α:Type} {lt:Nat→Nat→Bool} {R:α→Prop} {cmp:Nat→Nat→(Bool→Shared→Prop)→Shared→Prop} {G:α→Shared→Prop} {s:Shared} (hc:∀ i j C,i < n→j < n→C (lt i j) s→cmp i j C s):∀ t:KasT α,Asks n R t→G (run lt t) s→t.kasWp cmp G s
  | .ret a,_,h=>h
  | .ask i j k,ha,h=>hc i j _ ha.1 ha.2.1 (wp_of_run hc (k (lt i j)) (ha.2.2 _) h)
end StS
namespace L2
open PySem PySem.Spec PySem.Calls PyProof.Rows PySem.W
def OneK (ks:List V):Prop:=(∀ k ∈ ks,∃ i,k = .int i)∨∀ k ∈ ks,∃ x,k = .str x
def ltV:V→V→Bool
  | .int a,.int b=>decide (a < b)
  | .str a,.str b=>decide (a.cps.toList < b.cps.toList)
  | .int _,_=>true
  | .str _,.int _=>false
  | .str _,_=>true
  | _,_=>false
def ltK (ks:List V) (i j:Nat):Bool:=ltV (ks.getD i .non) (ks.getD j .non)
def sortIx (ks:List V):List Nat:=if ks.length < 2 then List.range ks.length else (StS.run (ltK ks) (kas_sort ks.length)).toList
def sortK (b:Bool) (ks xs:List V):List V:=katRev b ((sortIx (katRev b ks)).map fun i=>(katRev b xs).getD i .non)
theorem vals_rev:∀ {xs:List V} {us:List Value},Vals xs us→Vals xs.reverse us.reverse
  | _,_,.nil=>.nil
  | _,_,.cons r t=>by
    rw [List.reverse_cons,List.reverse_cons]
    exact (vals_rev t).append (.cons r .nil)
theorem vals_kr {b:Bool} {xs:List V} {us:List Value} (r:Vals xs us):Vals (katRev b xs) (katRev b us):=by
  unfold katRev
  split
  · exact vals_rev r
  · exact r
theorem vals_getD:∀ {xs:List V} {us:List Value} (i:Nat),Vals xs us→RelV (xs.getD i .non) (us.getD i Value.none)
  | _,_,_,.nil=>rfl
  | _,_,0,.cons r _=>r
  | _,_,i + 1,.cons _ t=>by
    rw [List.getD_cons_succ,List.getD_cons_succ]
    exact vals_getD i t
theorem vals_pick {xs:List V} {us:List Value} (r:Vals xs us):∀ l:List Nat,Vals (l.map fun i=>xs.getD i .non) (l.map fun i=>us.getD i Value.none)
  | []=>.nil
  | i :: l=>.cons (vals_getD i r) (vals_pick r l)
theorem kr_kr {α:Type} (b:Bool) (l:List α):katRev b (katRev b l) = l:=by
  unfold katRev
  cases b <;> simp
theorem mem_kr {α:Type} {b:Bool} {l:List α} {x:α} (h:x ∈ katRev b l):x ∈ l:=by
  unfold katRev at h
  split at h
  · exact List.mem_reverse.mp h
  · exact h
theorem range_getD {α:Type} (d:α) (l:List α):(List.range l.length).map (fun i=>l.getD i d) = l:=by
  refine List.ext_getElem (by simp) fun i h1 h2=>?_
  simp [h2]
section
variable {X:Cx} {pins:List (Addr×Obj)} {σ:St} {H:Hp} {s:Shared} {A:Around} {E:Value→Shared→Prop} {D kS:Addr} {xs ks:List V} {us ku:List Value} {e e1:Nat} {b:Bool} {P:PySem.Fin→Shared→Prop}
theorem sk_tail {st:SortSt} {out:List Value} {ys:List V} (I:Inv X (pins ++ [(D,seqObj "list" #[] e1),(kS,seqObj "list" ku.toArray e)]) σ H s) (fD:FpOk X pins H D) (fK:FpOk X pins H kS) (hne:kS ≠ D)
    (hout:(arrOf st).map (·.2) = List.toArray out) (hz:out.length < 64) (hkz:ku.length < 64) (hf:failedOf st = none) (hy:Vals ys (katRev b out))
    (h:∀ s',Inv X pins σ (upd H D (.lst ys)) s'→P (.done (.ret .none)) s'):wpAny (model X.prog X.w) A (ksk_tail D b e1 (.ref kS) st) P E s:=by
  have gD:=(I.pin (D,seqObj "list" #[] e1) (List.mem_append_right _ (List.mem_append_right _ (.head _)))).1
  have gK:=(I.pin (kS,seqObj "list" ku.toArray e) (List.mem_append_right _ (List.mem_append_right _ (.tail _ (.head _))))).1
  have sk1:=Heap.SameBut.update s.heap kS (Obj.mapSeq fun _=>(#[]:Array Value))
  have gD1:(s.heap.update kS (Obj.mapSeq fun _=>(#[]:Array Value))).get? D = some (seqObj "list" #[] e1):=(sk1.2 D hne.symm).trans gD
  have s2:=Heap.SameBut.update (s.heap.update kS (Obj.mapSeq fun _=>(#[]:Array Value))) D (Obj.mapSeq fun _=>List.toArray (katRev b out))
  obtain ⟨c2,hc2⟩ : ∃ c2,((s.heap.update kS (Obj.mapSeq fun _=>(#[]:Array Value))).update D (Obj.mapSeq fun _=>List.toArray (katRev b out))).get? D = some (seqObj "list" (List.toArray (katRev b out)) c2):=⟨_,get?_update_seq gD1 fun _=>List.toArray (katRev b out)⟩
  have hsize:(List.toArray (katRev b out)).size = out.length:=by rw [List.size_toArray,kat_len]
  unfold ksk_tail
  try dsimp only
  rw [hout,kat_outs]
  refine wpAny_bind (listUpdate_at gK rfl ?_ (by rw [List.size_toArray,sizeLine_eq]; omega) (Nat.zero_le _))
  refine wpAny_bind (wpAny_letGo ?_)
  refine wpAny_bind (seqEpoch_at gD1 rfl ?_)
  refine wpAny_bind (listUpdate_at gD1 rfl ?_ (Nat.zero_le _) (Nat.le_trans (Nat.le_of_eq hsize) (by rw [sizeLine_eq]; omega)))
  rw [hf]
  simp only [bne_self_eq_false,Bool.false_eq_true,if_false]
  refine wpAny_pure (h _ ?_)
  have I0:Inv X pins σ H s:=I.pins_of fun p hp=>I.pin p (List.mem_append_right _ (List.mem_append_left _ hp))
  have kp:∀ d o,d ≠ kS→d ≠ D→s.heap.get? d = some o→((s.heap.update kS (Obj.mapSeq fun _=>(#[]:Array Value))).update D (Obj.mapSeq fun _=>List.toArray (katRev b out))).get? d = some o:=fun d o h1 h2 q=>(s2.2 d h2).trans ((sk1.2 d h1).trans q)
  have tr:∀ d o,H d = some o→d ≠ kS∧d ≠ D:=fun d o q=>⟨ne_of_none q fK.1,ne_of_none q fD.1⟩
  have nch:∀ d,d ∉ [kS,D]→d ≠ kS∧d ≠ D:=fun d q=>⟨fun z=>q (by simp [z]),fun z=>q (by simp [z])⟩
  refine I0.step (g':=s.gens) (d':=s.drawn) (t':=s.toks) (ch:=[kS,D]) (fun d hdm=>?_) (fun d o _ _ hc q _=>kp d o (nch d hc).1 (nch d hc).2 q) (fun d o _ _ hc q _=>⟨o.slots,kp d o (nch d hc).1 (nch d hc).2 q⟩)
    (fun d o hc q n=>by rw [upd_ne (nch d hc).2]; exact n) (fun d o hc q=>⟨o,kp d o (nch d hc).1 (nch d hc).2 q⟩) (fun d ys q=>by rw [upd_ne (tr d _ q).2]; exact q) (fun d o u q=>by rw [upd_ne (tr d _ q).2]; exact q)
    (fun d ps q=>⟨#[],by rw [upd_ne (tr d _ q).2,q]; simp⟩) (fun m hm=>?_) (fun d o q=>?_) I0.bare
  · rcases List.mem_cons.mp hdm with rfl | hdm
    · exact ⟨fK.2.2.2.1,fK.2.1,fK.2.2.2.2.1,fK.2.2.2.2.2⟩
    · have:d = D:=by simpa using hdm
      subst this
      exact ⟨fD.2.2.2.1,fD.2.1,fD.2.2.2.2.1,fD.2.2.2.2.2⟩
  · obtain ⟨o,es,ep,ho,r⟩:=hm
    exact ⟨o,es,ep,kp _ _ fK.2.1.symm fD.2.1.symm ho,r⟩
  · by_cases hdm:d = D
    · subst hdm
      rw [upd_same] at q; cases q
      refine ⟨?_,_,c2,hy,hc2⟩
      rw [hy.length,kat_len,sizeLine_eq]; omega
    · rw [upd_ne hdm] at q
      refine (I0.hok d o q).stay (fun g u hg z=>?_) (fun g z=>by rw [upd_ne (tr g _ z).2]; exact z) fun g ys z=>by rw [upd_ne (tr g _ z).2]; exact z
      rcases hg with rfl | hg
      · exact kp _ _ (tr _ _ q).1 hdm z
      · exact kp _ _ (tr _ _ hg).1 (tr _ _ hg).2 z
theorem sk_lt {ks:List V} {ku:List Value} (r:Vals ks ku) (hk:OneK ks) {i j:Nat} (hi:i < ks.length) (hj:j < ks.length) {C:Bool→Shared→Prop} (h:C (ltK ks i j) s):kas_ask X.prog X.w A oneType' ku i j C s:=by
  have r1:=vals_getD i r
  have r2:=vals_getD j r
  have m1:ks.getD i .non ∈ ks:=by rw [List.getD_eq_getElem?_getD,List.getElem?_eq_getElem hi]; exact List.getElem_mem hi
  have m2:ks.getD j .non ∈ ks:=by rw [List.getD_eq_getElem?_getD,List.getElem?_eq_getElem hj]; exact List.getElem_mem hj
  unfold kas_ask
  unfold ltK at h
  rcases hk with hk | hk
  · obtain ⟨a,ea⟩:=hk _ m1
    obtain ⟨c,ec⟩:=hk _ m2
    rw [ea] at r1 h
    rw [ec] at r2 h
    obtain ⟨t1,q1⟩:=r1
    obtain ⟨t2,q2⟩:=r2
    rw [q1,q2]
    exact kat_lt_int h
  · obtain ⟨a,ea⟩:=hk _ m1
    obtain ⟨c,ec⟩:=hk _ m2
    rw [ea] at r1 h
    rw [ec] at r2 h
    obtain ⟨t1,q1⟩:=r1
    obtain ⟨t2,q2⟩:=r2
    rw [q1,q2]
    exact kas_lt_str h
theorem sk_kind {Q:SortKind→Shared→Prop} (r:Vals ks ku) (hk:OneK ks) (h2:2 ≤ ku.length) (h:Q oneType' s):wpAny (model X.prog X.w) A (keyKind' ku.toArray) Q E s:=by
  have mem:∀ {ks:List V} {ku:List Value},Vals ks ku→∀ u ∈ ku,∃ v ∈ ks,RelV v u:=by
    intro ks ku r
    induction r with
    | nil=>intro u hu; cases hu
    | cons q t ih =>
      intro u hu
      rcases List.mem_cons.mp hu with rfl | hu
      · exact ⟨_,List.mem_cons_self,q⟩
      · obtain ⟨v,h1,h2⟩:=ih u hu
        exact ⟨v,List.mem_cons_of_mem _ h1,h2⟩
  rcases hk with hk | hk
  · refine kas_kind (T:=.type "int") h2 (fun v hv=>?_) (by decide) (by decide) h
    obtain ⟨x,h1,h3⟩:=mem r v hv
    obtain ⟨i,rfl⟩:=hk x h1
    obtain ⟨t,rfl⟩:=h3
    exact Looks.of_pure rfl
  · refine kas_kind (T:=.type "str") h2 (fun v hv=>?_) (by decide) (by decide) h
    obtain ⟨x,h1,h3⟩:=mem r v hv
    obtain ⟨i,rfl⟩:=hk x h1
    obtain ⟨t,rfl⟩:=h3
    exact Looks.of_pure rfl
theorem sk_end (I:Inv X (pins ++ [(D,seqObj "list" #[] e1),(kS,seqObj "list" ku.toArray e)]) σ H s) (fD:FpOk X pins H D) (fK:FpOk X pins H kS) (hne:kS ≠ D) (rk:Vals ks ku) (rx:Vals xs us) (hlen:ks.length = xs.length) (h64:xs.length < 64) (hk:OneK ks)
    (h:∀ s',Inv X pins σ (upd H D (.lst (sortK b ks xs))) s'→P (.done (.ret .none)) s'):wpAny (model X.prog X.w) A (ksk_end D b us.toArray e1 (.ref kS) ku.toArray) P E s:=by
  have hl:ku.length = us.length:=by rw [← rk.length,← rx.length,hlen]
  have hu:us.length < 64:=by rw [← rx.length]; exact h64
  have step:∀ t:Sem PySem.Fin,wpAny (model X.prog X.w) A t P E s→wpAny (model X.prog X.w) A (if b = true then (do let _ ← rule "list.sort.reverse"; t) else t) P E s:=by
    intro t htr
    split
    · exact wpAny_bind (wpAny_rule htr)
    · exact htr
  have hlr:(katRev b ku).length = (katRev b us).length:=by rw [kat_len,kat_len,hl]
  unfold ksk_end
  try dsimp only
  refine step _ ?_
  rw [kat_pairs b hl]
  by_cases h2:us.toArray.size < 2
  · rw [if_pos h2,if_pos h2]
    rw [List.size_toArray] at h2
    refine wpAny_bind (wpAny_pure ?_)
    rw [StateT.run_pure]
    refine wpAny_bind (wpAny_pure ?_)
    try dsimp only
    refine sk_tail (out:=katRev b us) (ys:=sortK b ks xs) I fD fK hne ?_ (by rw [kat_len]; exact hu) (by rw [hl]; exact hu) rfl ?_ h
    · show (((List.toArray (katRev b ku)).zip (List.toArray (katRev b us))).map (·.2)) = _
      apply Array.toList_inj.mp
      rw [Array.toList_map,ksk_zip,List.map_snd_zip (Nat.le_of_eq hlr.symm)]
    · have e2:sortK b ks xs = xs:=by
        unfold sortK sortIx
        rw [if_pos (by rw [kat_len,hlen,rx.length]; exact h2),kat_len,hlen,← kat_len b xs,range_getD,kr_kr]
      rw [kr_kr,e2]
      exact rx
  · rw [if_neg h2,if_neg h2]
    rw [List.size_toArray] at h2
    refine wpAny_bind (sk_kind rk hk (by rw [hl]; omega) ?_)
    have hks:OneK (katRev b ks):=hk.imp (fun q k hk=>q k (mem_kr hk)) fun q k hk=>q k (mem_kr hk)
    have n1:(katRev b ks).length = (katRev b us).length:=by rw [kat_len,kat_len,hlen,rx.length]
    refine wpAny_bind (wpAny_mono (kat_run (A:=A) (E:=E) (s:=s) (Q:=fun st' s'=>s' = s∧(arrOf st').map (·.2) = List.toArray ((sortIx (katRev b ks)).map fun i=>(katRev b us).getD i Value.none)∧(sortIx (katRev b ks)).length < 64∧failedOf st' = none)
      (G:=fun p s'=>s' = s∧p.toList = sortIx (katRev b ks)) hlr (by rw [kat_len]; omega) (by rw [kat_len]; exact hu) (fun p st' s' a1 a2 a3 a4=>⟨a4.1,?_,?_,a3⟩) ?_) ?_ fun _ _ z=>z)
    · rw [kat_snds hlr a2,a4.2]
    · rw [← a4.2,Array.length_toList,a1,kat_len]; exact hu
    · refine StS.wp_of_run (lt:=ltK (katRev b ks)) (n:=(katRev b us).length) (fun i j C hi hj hC=>sk_lt (vals_kr rk) hks (by rw [n1]; exact hi) (by rw [n1]; exact hj) hC) _ (StS.sort_asks (by rw [kat_len]; omega)) ⟨rfl,?_⟩
      unfold sortIx
      rw [if_neg (by rw [kat_len,hlen,rx.length]; exact h2),n1]
    · rintro ⟨⟨⟩,st'⟩ s' ⟨rfl,ho,hz,hf⟩
      try dsimp only
      exact sk_tail (ys:=sortK b ks xs) I fD fK hne ho (by rw [List.length_map]; exact hz) (by rw [hl]; exact hu) hf (vals_kr (vals_pick (vals_kr rx) _)) h
end
end L2
namespace L2
open PySem PySem.Spec PySem.Calls PyProof.Rows PySem.W
section
variable {X:Cx} {pins:List (Addr×Obj)} {σ:St} {H:Hp} {s:Shared} {A:Around} {E:Value→Shared→Prop} {D kS:Addr} {xs ks:List V} {us ku:List Value} {e e1:Nat} {b:Bool} {P:PySem.Fin→Shared→Prop} {f:Value}
def KeyCall (X:Cx) (A:Around) (f:Value) (pins:List (Addr×Obj)) (σ:St) (H:Hp) (xs ks:List V):Prop :=
  ∀ (pins':List (Addr×Obj)) (s':Shared) (i:Nat) (v:V) (u:Value),(∀ p ∈ pins,p ∈ pins')→Inv X pins' σ H s'→xs[i]? = some v→RelV v u →
    wpAny (model X.prog X.w) A (call f [u]) (EP X pins' σ fun k H'=>H' = H∧ks[i]? = some k) (fun _ _=>False) s'
theorem sk_keys (fK:FpOk X pins H kS) (hne:kS ≠ D) (hcall:KeyCall X A f pins σ H xs ks) (hlen:ks.length = xs.length) (h64:xs.length < 64) {oD:Obj} {body:Value→PUnit→Sem (ForInStep PUnit)}
    (hb:∀ (x:Value) (Q:Shared→Prop) (s:Shared),wpAny (model X.prog X.w) A (call f [x]) (fun k s'=>wpAny (model X.prog X.w) A (Builtin.List.listUpdate (.ref kS) (·.push k)) (fun _ s''=>Q s'') E s') (fun _ _=>False) s →
      wpAny (model X.prog X.w) A (body x ⟨⟩) (fun r s'=>r = .yield ⟨⟩∧Q s') E s) :
    ∀ (r:List Value) (j:Nat) (ku:List Value) (e:Nat) (s:Shared),Inv X (pins ++ [(D,oD),(kS,seqObj "list" ku.toArray e)]) σ H s→Vals (ks.take j) ku→Vals (xs.drop j) r→j + r.length = xs.length →
      wpAny (model X.prog X.w) A (forIn r PUnit.unit body) (fun _ s'=>∃ ku e,Inv X (pins ++ [(D,oD),(kS,seqObj "list" ku.toArray e)]) σ H s'∧Vals ks ku) E s
  | [],j,ku,e,s,I,rk,rx,hj=>by
    rw [List.forIn_nil]
    rw [List.take_of_length_le (by rw [hlen]; simp at hj; omega)] at rk
    exact wpAny_pure ⟨ku,e,I,rk⟩
  | u :: r,j,ku,e,s,I,rk,rx,hj=>by
    rw [List.length_cons] at hj
    have hjx:j < xs.length:=by omega
    rw [List.drop_eq_getElem_cons hjx] at rx
    cases rx with
    | cons rv rx =>
    rw [List.forIn_cons]
    have hkl:ku.length = j:=by rw [← rk.length,List.length_take,hlen]; omega
    refine wpAny_bind (wpAny_mono (hb u (fun s'=>∃ ku' e',Inv X (pins ++ [(D,oD),(kS,seqObj "list" ku'.toArray e')]) σ H s'∧Vals (ks.take (j + 1)) ku') s ?_) (fun q s' hq=>?_) fun _ _ x=>x)
    · refine wpAny_mono (hcall _ s j _ u (fun p hpm=>List.mem_append_left _ hpm) I (List.getElem?_eq_getElem hjx) rv) (fun k s1 hk=>?_) fun _ _ z=>z
      obtain ⟨kv,H1,I1,rkv,rfl,hkj⟩:=hk
      have gK:=(I1.pin (kS,seqObj "list" ku.toArray e) (List.mem_append_right _ (List.mem_append_right _ (.tail _ (.head _))))).1
      have pD:=I1.pin (D,oD) (List.mem_append_right _ (List.mem_append_right _ (.head _)))
      have s2:=Heap.SameBut.update s1.heap kS (Obj.mapSeq (·.push k))
      have ea:(List.toArray ku).push k = List.toArray (ku ++ [k]):=by simp
      obtain ⟨c2,hc2⟩ : ∃ c2,(s1.heap.update kS (Obj.mapSeq (·.push k))).get? kS = some (seqObj "list" (List.toArray (ku ++ [k])) c2):=⟨_,by rw [← ea]; exact get?_update_seq gK (·.push k)⟩
      refine listUpdate_at gK rfl ?_ (by rw [List.size_toArray,sizeLine_eq]; omega) (Nat.le_trans (Nat.le_of_eq (Array.size_push ..)) (by rw [List.size_toArray,sizeLine_eq]; omega))
      have I0:Inv X pins σ H1 s1:=I1.pins_of fun p hpm=>I1.pin p (List.mem_append_right _ (List.mem_append_left _ hpm))
      have I2:Inv X pins σ H1 { s1 with heap:=s1.heap.update kS (Obj.mapSeq (·.push k)) }:=I0.turned (t':=s1.toks) (fun d o hd q=>(s2.2 d hd).trans q) fK.1 fK.2.1 fK.2.2.2.1 fK.2.2.2.2.1 fK.2.2.2.2.2
      refine ⟨ku ++ [k],c2,I2.pins_of fun p hpm=>?_,?_⟩
      · rcases List.mem_append.mp hpm with hpm | hpm
        · exact I2.pin p (List.mem_append_right _ hpm)
        · rcases List.mem_cons.mp hpm with rfl | hpm
          · exact ⟨(s2.2 D hne.symm).trans pD.1,pD.2⟩
          · have:p = (kS,seqObj "list" (ku ++ [k]).toArray c2):=by simpa using hpm
            subst this
            exact ⟨hc2,fK.1,fK.2.1,fK.2.2.1,fun v z=>by cases z⟩
      · have e3:ks.take (j + 1) = ks.take j ++ [kv]:=by rw [List.take_succ,hkj]; rfl
        rw [e3]
        exact rk.append (.cons rkv .nil)
    · obtain ⟨rfl,ku',e',I',rk'⟩:=hq
      show wpAny (model X.prog X.w) A (forIn r PUnit.unit body) _ E s'
      exact sk_keys fK hne hcall hlen h64 hb r (j + 1) ku' e' s' I' rk' rx (by omega)
theorem sk_rest (I:Inv X (pins ++ [(D,seqObj "list" #[] e1),(kS,seqObj "list" #[] e)]) σ H s) (fD:FpOk X pins H D) (fK:FpOk X pins H kS) (hne:kS ≠ D) (hcall:KeyCall X A f pins σ H xs ks) (rx:Vals xs us) (hlen:ks.length = xs.length) (h64:xs.length < 64) (hk:OneK ks)
    (h:∀ s',Inv X pins σ (upd H D (.lst (sortK b ks xs))) s'→P (.done (.ret .none)) s'):wpAny (model X.prog X.w) A (ksk_rest D f b us.toArray e1 (.ref kS)) P E s:=by
  unfold ksk_rest
  refine wpAny_bind (wpAny_rule ?_)
  first
    | rw [List.forIn_toArray]
    | (rw [← Array.forIn_toList]; simp only [List.toList_toArray])
    | rw [← Array.forIn_toList]
  refine wpAny_bind (wpAny_mono (sk_keys fK hne hcall hlen h64 (fun x Q s' hcal=>?_) us 0 [] e s I .nil rx (by rw [rx.length]; omega)) (fun _ s' hd=>?_) fun _ _ x=>x)
  · refine wpAny_bind (wpAny_attempt (wpAny_mono hcal (fun k s'' hk=>?_) fun _ _ hFalse=>hFalse.elim))
    try dsimp only
    exact wpAny_bind (wpAny_mono hk (fun _ s3 q=>wpAny_pure ⟨rfl,q⟩) fun _ _ x=>x)
  · obtain ⟨ku,e',I',rk⟩:=hd
    try dsimp only
    refine wpAny_bind (listItems_at (I'.pin (kS,seqObj "list" ku.toArray e') (List.mem_append_right _ (List.mem_append_right _ (.tail _ (.head _))))).1 rfl ?_)
    exact sk_end I' fD fK hne rk rx hlen h64 hk h
theorem call_sortK {l:Addr} {kw:List (Str×Value)} {Q:VK} (I:Inv X pins σ H s) (hl:Rd H l (.lst xs)) (hlen:ks.length = xs.length) (h64:xs.length < 64) (hk:OneK ks)
    (args1:argsOk "sorted" ⟨[.ref l],kw⟩) (args2:∀ x,argsOk "list.sort" ⟨[.ref x],kw⟩) (ht:∀ x,Builtin.«list.sort» ⟨[.ref x],kw⟩ = ksk_tree x f b) (hcall:KeyCall X A.in1.in1 f pins σ H xs ks)
    (h:∀ D,H D = none→Q (.ref D) (upd H D (.lst (sortK b ks xs)))) :
    wpAny (model X.prog X.w) A (call (.builtin "sorted") [.ref l] kw) (EP X pins σ Q) E s:=by
  obtain ⟨hz,us,n,rx,hL⟩:=hl.ok I.hok
  have hu:us.length < 64:=by rw [← rx.length]; exact h64
  refine call_function_entry_kw kind_sorted plain_sorted entry_sorted args1 ?_
  unfold Builtin.«sorted»
  refine wpAny_bind (m:=checkCount "sorted" 1 1 _) (wpAny_pure ?_)
  refine wpAny_bind (collect_list ⟨_,hL,rfl,n,rfl⟩ ?_ (by rw [sizeLine_eq]; omega))
  refine wpAny_bind (wpAny_newList ?_ (by rw [sizeLine_eq]; omega))
  have hsize:((s.heap.push (seqObj "list" #[] 0)).update s.heap.objs.size (Obj.mapSeq (· ++ us.toArray))).objs.size = s.heap.objs.size + 1:=by
    rw [Heap.size_update,size_push']
  have gList:(((s.heap.push (seqObj "list" #[] 0)).update s.heap.objs.size (Obj.mapSeq (· ++ us.toArray))).push (seqObj "list" us.toArray 0)).get? (s.heap.objs.size + 1) = some (seqObj "list" us.toArray 0):=by
    rw [← hsize]; exact Heap.get?_push_size _ rfl
  have keep:∀ d o,s.heap.get? d = some o→(((s.heap.push (seqObj "list" #[] 0)).update s.heap.objs.size (Obj.mapSeq (· ++ us.toArray))).push (seqObj "list" us.toArray 0)).get? d = some o:=fun d o q=>by
    have hbel:d < s.heap.objs.size:=Heap.lt_size q
    rw [Heap.get?_push_ne _ _ _ (by rw [hsize]; exact Nat.ne_of_lt (Nat.lt_succ_of_lt hbel)),Heap.get?_update_ne _ _ _ _ (Nat.ne_of_lt hbel),Heap.get?_push_ne _ _ _ (Nat.ne_of_lt hbel)]
    exact q
  show wpAny _ _ _ _ _ { s with heap:=((s.heap.push (seqObj "list" #[] 0)).update s.heap.objs.size (Obj.mapSeq (· ++ us.toArray))).push (seqObj "list" us.toArray 0) }
  rw [hsize]
  have fD:FpOk X pins H (s.heap.objs.size + 1):=I.fpOk (Nat.le_succ _) (I.hok.fresh (Nat.le_succ _))
  generalize hA:((s.heap.push (seqObj "list" #[] 0)).update s.heap.objs.size (Obj.mapSeq (· ++ us.toArray))).push (seqObj "list" us.toArray 0) = hA1 at gList keep
  refine wpAny_bind (wpAny_holding (wpAny_call_entry_kw slot_list_sort ⟨_,gList,rfl⟩ entry_list_sort ?body (args2 _)))
  case body =>
    have ht':=ht (s.heap.objs.size + 1)
    show wpAny (model X.prog X.w) A.in1.in1 (Builtin.«list.sort» ⟨[.ref (s.heap.objs.size + 1)],kw⟩) _ _ _
    rw [ht']
    have s1:=Heap.SameBut.update hA1 (s.heap.objs.size + 1) (Obj.mapSeq fun _=>(#[]:Array Value))
    obtain ⟨e1,ho1⟩ : ∃ e1,(hA1.update (s.heap.objs.size + 1) (Obj.mapSeq fun _=>(#[]:Array Value))).get? (s.heap.objs.size + 1) = some (seqObj "list" #[] e1):=⟨_,get?_update_seq gList fun _=>#[]⟩
    have hbel:=Heap.lt_size gList
    unfold ksk_tree
    refine wpAny_bind (listItems_at gList rfl ?_)
    refine wpAny_bind (listUpdate_at gList rfl ?_ (by rw [List.size_toArray,sizeLine_eq]; omega) (Nat.zero_le _))
    refine wpAny_bind (seqEpoch_at ho1 rfl ?_)
    refine wpAny_bind (wpAny_newTuple ?_ (by show us.length ≤ _; rw [sizeLine_eq]; omega))
    refine wpAny_bind (wpAny_newList ?_ (Nat.zero_le _))
    refine wpAny_holding ?_
    generalize hB:(hA1.update (s.heap.objs.size + 1) (Obj.mapSeq fun _=>(#[]:Array Value))).push (seqObj "tuple" us.toArray 0) = hB1
    have hB2:s.heap.objs.size + 1 < hB1.objs.size:=by rw [← hB,size_push',Heap.size_update]; exact Nat.lt_succ_of_lt hbel
    have keepB:∀ d o,s.heap.get? d = some o→(hB1.push (seqObj "list" #[] 0)).get? d = some o:=fun d o q=>by
      rw [← hB]
      exact Heap.get?_push_of_some _ (Heap.get?_push_of_some _ ((s1.2 d (Nat.ne_of_lt (Nat.lt_succ_of_lt (Heap.lt_size q)))).trans (keep d o q)))
    have hD3:(hB1.push (seqObj "list" #[] 0)).get? (s.heap.objs.size + 1) = some (seqObj "list" #[] e1):=by
      rw [← hB]
      exact Heap.get?_push_of_some _ (Heap.get?_push_of_some _ ho1)
    have hzB:s.heap.objs.size ≤ hB1.objs.size:=Nat.le_of_lt (Nat.lt_of_le_of_lt (Nat.le_succ _) hB2)
    have fK:FpOk X pins H hB1.objs.size:=I.fpOk hzB (I.hok.fresh hzB)
    have IB:Inv X pins σ H { s with heap:=hB1.push (seqObj "list" #[] 0) }:=I.kept (t':=s.toks) keepB
    refine sk_rest (s:={ s with heap:=hB1.push (seqObj "list" #[] 0) }) (e:=0) (IB.pins_of fun p hpm=>?_) fD fK (Nat.ne_of_gt hB2) hcall rx hlen h64 hk fun s' J=>⟨_,rfl,wpAny_pure ⟨_,rfl,V.ref (s.heap.objs.size + 1),_,J,rfl,h _ fD.1⟩⟩
    rcases List.mem_append.mp hpm with hpm | hpm
    · exact IB.pin p (List.mem_append_right _ hpm)
    · rcases List.mem_cons.mp hpm with rfl | hpm
      · exact ⟨hD3,fD.1,fD.2.1,fD.2.2.1,fun v z=>by cases z⟩
      · have:p = (hB1.objs.size,seqObj "list" #[] 0):=by simpa using hpm
        subst this
        exact ⟨Heap.get?_push_size _ rfl,fK.1,fK.2.1,fK.2.2.1,fun v z=>by cases z⟩
end
end L2
namespace L2
open PySem PySem.Spec PySem.Calls PyProof.Rows PySem.W
def tSortK (P:Addr) (qual:Str) (src:List (Option Nat)) (tb:TE) (b:Bool) (t:TA):TE:=fun σ H Q=>t σ H fun vs H1=>∃ l xs ks,vs = [.ref l]∧Rd H1 l (.lst xs)∧l ≠ P∧TabAt H1 P qual∧xs.length < 64∧ks.length = xs.length∧OneK ks ∧
  (∀ (i:Nat) x k H2,xs[i]? = some x→ks[i]? = some k→GrowT P H1 H2→tb (some x :: inSt src σ) H2 fun k' H3=>H3 = H2∧k' = k) ∧
  ∀ H2 D,GrowT P H1 H2→TabAt H2 P qual→H2 D = none→Q (.ref D) (upd H2 D (.lst (sortK b ks xs)))
section
variable {X:Cx} {pins:List (Addr×Obj)} {σ:St} {H:Hp} {s:Shared} {k:Nat} {sc:Scope} {N':List Str} {src:List (Option Nat)} {c P:Addr} {params:Arguments} {body e eb:Expr} {p:Str} {np pos lpos kp kp2 bp:Pos} {tb:TE} {t:TA} {ub:Bool}
theorem sortK_go {f c':Addr} {ctv:Value} {l:Addr} {xs ks:List V} {b:Bool} {kw:List (Str×Value)} {Q:VK} {E:Value→Shared→Prop} (hc:X.calm = true) (hr:Room k X.A) (S:CompSc X.env.scope X.N N' src sc) (hp:sc.names.lookup p = some .local) (hco:sc.isCoroutine = false) (hgen:sc.isGenerator = false)
    (hbody:∀ cl f c' s H,PE (lamCx X (p :: N') (X.env.qual ++ "<lambda>") sc cl f (.ref c') X.A.in1.in1 s H) body tb)
    (hbind:∀ cl pm c' ctv u,bindArgs (kla_fn "<lambda>" (X.env.qual ++ "<lambda>") params body sc cl pm (.ref c') ctv) ⟨[u],[]⟩ = pure [(p,u)])
    (I:Inv X (pins ++ [(f,kla_obj "<lambda>" (X.env.qual ++ "<lambda>") params body sc (cloOf X.env.cells sc.names []) ((X.mg "__name__").getD .none) c' ctv)]) σ H s) (T:TabAt H P (X.env.qual ++ "<lambda>")) (hcd:CodAt H (X.env.qual ++ "<lambda>") (.ref c'))
    (hl:Rd H l (.lst xs)) (hlen:ks.length = xs.length) (h64:xs.length < 64) (hk:OneK ks) (ha1:argsOk "sorted" ⟨[.ref l],kw⟩) (ha2:∀ x,argsOk "list.sort" ⟨[.ref x],kw⟩) (ht:∀ x,Builtin.«list.sort» ⟨[.ref x],kw⟩ = ksk_tree x (.ref f) b)
    (hkey:∀ (i:Nat) x k,xs[i]? = some x→ks[i]? = some k→tb (some x :: inSt src σ) H fun k' H3=>H3 = H∧k' = k)
    (h:∀ D,H D = none→Q (.ref D) (upd H D (.lst (sortK b ks xs)))):wpAny (model X.prog X.w) X.A (call (.builtin "sorted") [.ref l] kw) (EP X pins σ Q) E s:=by
  refine thn (call_sortK (A:=X.A) (Q:=Q) I hl hlen h64 hk ha1 ha2 ht (fun pins' s' i v u hsub I' hx rv=>?_) h) fun u s' ⟨v,H',J,r,q⟩=>⟨v,H',J.unpinned,r,q⟩
  have hi:i < ks.length:=by
    rw [hlen]
    exact (List.getElem?_eq_some_iff.mp hx).1
  have hki:ks[i]? = some ks[i]:=List.getElem?_eq_getElem hi
  have ho:=(I'.pin _ (List.mem_append_right _ (hsub _ (List.mem_append_right _ (.head _))))).1
  refine thn (lam_run (A:=X.A.in1.in1) S hp hco hgen (fun s H=>hbody _ _ _ s H) I' ho (hcd.rec I'.hok) (show X.A.depth < recursionLimit from hr.depth) (I'.ok.hd hc) I'.ok.frames rv (hbind _ _ _ _ _) (hkey i v _ hx hki)) fun kv s1 ⟨v1,H1,J,r1,e1,e2⟩=>⟨v1,H1,J,r1,e1,by rw [e2]; exact hki⟩
theorem pe_sortK (hc:X.calm = true) (hr:Room k X.A) (hg:Gl X "sorted") (hm:X.mg "sorted" = none) (S:CompSc X.env.scope X.N N' src sc) (hp:sc.names.lookup p = some .local) (hco:sc.isCoroutine = false) (hgen:sc.isGenerator = false)
    (hcode:X.env.code = .ref c) (C:CodeHd X.base c P) (hB:X.base.BuiltinsAt X.mg P) (ha:PA X [e] t)
    (hbody:∀ cl f c' s H,PE (lamCx X (p :: N') (X.env.qual ++ "<lambda>") sc cl f (.ref c') X.A.in1.in1 s H) body tb)
    (hbind:∀ cl pm c' ctv u,bindArgs (kla_fn "<lambda>" (X.env.qual ++ "<lambda>") params body sc cl pm (.ref c') ctv) ⟨[u],[]⟩ = pure [(p,u)]:=by intros; rfl) (hdef:defaultsOf params X.env = ([],[]):=by rfl)
    (hs:starEach [e] X.env = [(false,eval e X.env)]:=by rfl) :
    PE X (.Call (.Name "sorted" np) [e] [⟨some "key", .Lambda params body sc lpos,kp⟩] pos) (tSortK P (X.env.qual ++ "<lambda>") src tb false t):=by
  intro pins s σ H Q I h
  refine wpAny_Call_Name_kw (ld_blt I hg hm (show bootBuiltins "sorted" = some (.builtin "sorted") from rfl) ?_ (by decide) (by decide))
  refine callWith_kw (thn (ha pos pins s σ H _ I h) fun us s1 ⟨vs,H1,I1,r,l,xs,ks,e1,hl,hlP,T,h64,hlen,hk,hkey,hq⟩=>?_) (by rw [hs]; rfl) (by rw [hs]; rfl) (by rfl) (by rfl)
  subst e1
  cases r with
  | cons r1 rn =>
  cases rn
  obtain rfl:_ = Value.ref l:=r1
  show wpAny _ _ (evalAll [(do let v ← eval (.Lambda params body sc lpos) X.env; standAt pos; pure v)]) _ _ s1
  refine wpAny_evalAll_cons (wpAny_bind (lam_make S I1 T hcode C hB hdef fun f c' ctv H2 s2 I2 T2 g2 hrec=>wpAny_bind (wpAny_standAt (wpAny_pure (wpAny_evalAll_nil ?_)))))
  have hl2:Rd H2 l (.lst xs):=hl.imp (g2 _ _ hlP) fun ⟨o,q⟩=>⟨o,g2 _ _ hlP q⟩
  exact sortK_go hc hr S hp hco hgen hbody hbind I2 T2 hrec hl2 hlen h64 hk (ksk_s1 _ _) (fun x=>ksk_l1 _ _) (fun x=>ksk_t1 _ _) (fun i x k h1 h2=>hkey i x k H2 h1 h2 g2) fun D hD=>hq H2 D g2 T2 hD
theorem pe_sortKR (hc:X.calm = true) (hr:Room k X.A) (hg:Gl X "sorted") (hm:X.mg "sorted" = none) (S:CompSc X.env.scope X.N N' src sc) (hp:sc.names.lookup p = some .local) (hco:sc.isCoroutine = false) (hgen:sc.isGenerator = false)
    (hcode:X.env.code = .ref c) (C:CodeHd X.base c P) (hB:X.base.BuiltinsAt X.mg P) (ha:PA X [e] t)
    (hbody:∀ cl f c' s H,PE (lamCx X (p :: N') (X.env.qual ++ "<lambda>") sc cl f (.ref c') X.A.in1.in1 s H) body tb)
    (hbl:∀ (s:Shared) (Q:Value→Shared→Prop) (E:Value→Shared→Prop),Q (.bool true) s→wpAny (model X.prog X.w) X.A (eval eb X.env) Q E s)
    (hbind:∀ cl pm c' ctv u,bindArgs (kla_fn "<lambda>" (X.env.qual ++ "<lambda>") params body sc cl pm (.ref c') ctv) ⟨[u],[]⟩ = pure [(p,u)]:=by intros; rfl) (hdef:defaultsOf params X.env = ([],[]):=by rfl)
    (hs:starEach [e] X.env = [(false,eval e X.env)]:=by rfl) :
    PE X (.Call (.Name "sorted" np) [e] [⟨some "key", .Lambda params body sc lpos,kp⟩,⟨some "reverse", eb,kp2⟩] pos) (tSortK P (X.env.qual ++ "<lambda>") src tb true t):=by
  intro pins s σ H Q I h
  refine wpAny_Call_Name_kw (ld_blt I hg hm (show bootBuiltins "sorted" = some (.builtin "sorted") from rfl) ?_ (by decide) (by decide))
  refine callWith_kw (thn (ha pos pins s σ H _ I h) fun us s1 ⟨vs,H1,I1,r,l,xs,ks,e1,hl,hlP,T,h64,hlen,hk,hkey,hq⟩=>?_) (by rw [hs]; rfl) (by rw [hs]; rfl) (by rfl) (by rfl)
  subst e1
  cases r with
  | cons r1 rn =>
  cases rn
  obtain rfl:_ = Value.ref l:=r1
  show wpAny _ _ (evalAll [(do let v ← eval (.Lambda params body sc lpos) X.env; standAt pos; pure v),(do let v ← eval eb X.env; standAt pos; pure v)]) _ _ s1
  refine wpAny_evalAll_cons (wpAny_bind (lam_make S I1 T hcode C hB hdef fun f c' ctv H2 s2 I2 T2 g2 hrec=>wpAny_bind (wpAny_standAt (wpAny_pure (wpAny_evalAll_cons (wpAny_bind (hbl _ _ _ (wpAny_bind (wpAny_standAt (wpAny_pure (wpAny_evalAll_nil ?_)))))))))))
  have hl2:Rd H2 l (.lst xs):=hl.imp (g2 _ _ hlP) fun ⟨o,q⟩=>⟨o,g2 _ _ hlP q⟩
  exact sortK_go hc hr S hp hco hgen hbody hbind I2 T2 hrec hl2 hlen h64 hk (ksk_s2 _ _ _) (fun x=>ksk_l2 _ _ _) (fun x=>ksk_t2 _ _ _) (fun i x k h1 h2=>hkey i x k H2 h1 h2 g2) fun D hD=>hq H2 D g2 T2 hD
end
end L2
namespace StS
structure WOr {α:Type} (lt:α→α→Bool):Prop where
  asym:∀ a b,lt a b = true→lt b a = false
  neg:∀ a b c,lt a b = false→lt b c = false→lt a c = false
variable {α:Type}
def eqv (lt:α→α→Bool) (a b:α):Bool:=!lt a b && !lt b a
theorem eqv_iff {lt:α→α→Bool} {a b:α}:eqv lt a b = true ↔ lt a b = false∧lt b a = false:=by
  unfold eqv
  cases lt a b <;> cases lt b a <;> simp
theorem WOr.irr {lt:α→α→Bool} (W:WOr lt) (a:α):lt a a = false:=by
  cases h:lt a a with
  | false=>rfl
  | true=>exact h.symm.trans (W.asym a a h)
theorem WOr.eqr {lt:α→α→Bool} (W:WOr lt) (a:α):eqv lt a a = true:=eqv_iff.mpr ⟨W.irr a,W.irr a⟩
structure Stab (lt:α→α→Bool) (l S:List α):Prop where
  up:S.Pairwise fun a b=>lt b a = false
  cl:∀ x,S.filter (eqv lt x) = l.filter (eqv lt x)
theorem filter_nil_of {lt:α→α→Bool} (W:WOr lt):∀ {l:List α},(∀ x,l.filter (eqv lt x) = [])→l = []
  | [],_=>rfl
  | a :: l,h=>by
    have:=h a
    rw [List.filter_cons_of_pos (W.eqr a)] at this
    cases this
theorem stab_eq {lt:α→α→Bool} (W:WOr lt):∀ {S T:List α},S.Pairwise (fun a b=>lt b a = false)→T.Pairwise (fun a b=>lt b a = false)→(∀ x,S.filter (eqv lt x) = T.filter (eqv lt x))→S = T
  | [],T,_,_,h=>(filter_nil_of W fun x=>(h x).symm).symm
  | a :: S,[],_,_,h=>filter_nil_of W h
  | a :: S,b :: T,hS,hT,h=>by
    have mem:∀ {S T:List α},(∀ x,S.filter (eqv lt x) = T.filter (eqv lt x))→∀ x ∈ S,x ∈ T:=fun {S T} h x hx=>by
      have:x ∈ S.filter (eqv lt x):=List.mem_filter.mpr ⟨hx,W.eqr x⟩
      rw [h x] at this
      exact (List.mem_filter.mp this).1
    have hba:lt b a = false:=by
      rcases List.mem_cons.mp (mem (fun x=>(h x).symm) b List.mem_cons_self) with e | e
      · rw [e]; exact W.irr a
      · exact (List.pairwise_cons.mp hS).1 b e
    have hab:lt a b = false:=by
      rcases List.mem_cons.mp (mem h a List.mem_cons_self) with e | e
      · rw [e]; exact W.irr b
      · exact (List.pairwise_cons.mp hT).1 a e
    have e:a = b:=by
      have:=h a
      rw [List.filter_cons_of_pos (W.eqr a),List.filter_cons_of_pos (eqv_iff.mpr ⟨hab,hba⟩)] at this
      exact (List.cons.inj this).1
    subst e
    congr 1
    refine stab_eq W (List.pairwise_cons.mp hS).2 (List.pairwise_cons.mp hT).2 fun x=>?_
    have:=h x
    by_cases q:eqv lt x a = true
    · rw [List.filter_cons_of_pos q,List.filter_cons_of_pos q] at this
      exact (List.cons.inj this).2
    · rw [List.filter_cons_of_neg q,List.filter_cons_of_neg q] at this
      exact this
theorem Stab.one {lt:α→α→Bool} {l S T:List α} (W:WOr lt) (h1:Stab lt l S) (h2:Stab lt l T):S = T:=stab_eq W h1.up h2.up fun x=>(h1.cl x).trans (h2.cl x).symm
def lexO (lt2 lt1:α→α→Bool) (a b:α):Bool:=lt2 a b || (!lt2 b a && lt1 a b)
theorem lexO_eqv {lt2 lt1:α→α→Bool} {a b:α}:eqv (lexO lt2 lt1) a b = (eqv lt2 a b && eqv lt1 a b):=by
  unfold eqv lexO
  cases lt2 a b <;> cases lt2 b a <;> cases lt1 a b <;> cases lt1 b a <;> rfl
theorem lexO_wo {lt2 lt1:α→α→Bool} (W2:WOr lt2) (W1:WOr lt1):WOr (lexO lt2 lt1) where
  asym:=fun a b h=>by
    unfold lexO at *
    cases h2:lt2 a b with
    | true=>rw [W2.asym a b h2]; simp
    | false =>
      rw [h2] at h
      cases h3:lt2 b a with
      | true=>rw [h3] at h; cases h
      | false =>
        rw [h3] at h
        have h1:lt1 a b = true:=by simpa using h
        rw [W1.asym a b h1]; rfl
  neg:=fun a b c h1 h2=>by
    unfold lexO at *
    have a1:lt2 a b = false:=by
      cases q:lt2 a b with
      | false=>rfl
      | true=>rw [q] at h1; cases h1
    have a2:lt2 b c = false:=by
      cases q:lt2 b c with
      | false=>rfl
      | true=>rw [q] at h2; cases h2
    rw [a1] at h1
    rw [a2] at h2
    rw [W2.neg a b c a1 a2]
    cases q:lt2 c a with
    | true=>rfl
    | false =>
      have c1:lt2 b a = false:=W2.neg b c a a2 q
      have c2:lt2 c b = false:=W2.neg c a b q a1
      rw [c1] at h1
      rw [c2] at h2
      have d1:lt1 a b = false:=by simpa using h1
      have d2:lt1 b c = false:=by simpa using h2
      rw [W1.neg a b c d1 d2]
      rfl
theorem Stab.lex {lt2 lt1:α→α→Bool} {l S1 S2:List α} (W2:WOr lt2) (h1:Stab lt1 l S1) (h2:Stab lt2 S1 S2):Stab (lexO lt2 lt1) l S2 where
  up:=by
    rw [List.pairwise_iff_forall_sublist]
    intro a b hs
    have u2:lt2 b a = false:=List.pairwise_iff_forall_sublist.mp h2.up hs
    unfold lexO
    rw [u2]
    cases q:lt2 a b with
    | true=>rfl
    | false =>
      have f:List.filter (eqv lt2 a) [a,b] = [a,b]:=by
        rw [List.filter_cons_of_pos (W2.eqr a),List.filter_cons_of_pos (eqv_iff.mpr ⟨q,u2⟩)]
        rfl
      have hs2:=hs.filter (eqv lt2 a)
      rw [f,h2.cl a] at hs2
      have u1:lt1 b a = false:=List.pairwise_iff_forall_sublist.mp h1.up (hs2.trans List.filter_sublist)
      rw [u1]
      rfl
  cl:=fun x=>by
    have e:eqv (lexO lt2 lt1) x = fun y=>eqv lt1 x y && eqv lt2 x y:=by funext y; rw [lexO_eqv,Bool.and_comm]
    have e2:∀ l:List α,l.filter (fun y=>eqv lt1 x y && eqv lt2 x y) = (l.filter (eqv lt2 x)).filter (eqv lt1 x):=fun l=>(List.filter_filter ..).symm
    have e3:∀ l:List α,(l.filter (eqv lt2 x)).filter (eqv lt1 x) = (l.filter (eqv lt1 x)).filter (eqv lt2 x):=fun l=>by
      rw [List.filter_filter,List.filter_filter]
      congr 1
      funext y
      rw [Bool.and_comm]
    rw [e,e2,e2,h2.cl x,e3,h1.cl x,e3]
def flp (lt:α→α→Bool) (a b:α):Bool:=lt b a
theorem flp_wo {lt:α→α→Bool} (W:WOr lt):WOr (flp lt):=⟨fun a b h=>W.asym b a h,fun a b c h1 h2=>W.neg c b a h2 h1⟩
theorem flp_eqv {lt:α→α→Bool} {x:α}:eqv (flp lt) x = eqv lt x:=by funext y; unfold eqv flp; rw [Bool.and_comm]
theorem Stab.rev {lt:α→α→Bool} {l S:List α} (h:Stab lt l.reverse S):Stab (flp lt) l S.reverse where
  up:=by
    rw [List.pairwise_reverse]
    exact h.up
  cl:=fun x=>by
    rw [flp_eqv,List.filter_reverse,h.cl x,List.filter_reverse,List.reverse_reverse]
theorem Stab.nil {lt:α→α→Bool} (l:List α) (h:l.length < 2):Stab lt l l:=by
  refine ⟨?_,fun _=>rfl⟩
  match l,h with
  | [],_=>exact .nil
  | [a],_=>exact List.pairwise_singleton ..
def ins (lt:α→α→Bool) (x:α):List α→List α
  | []=>[x]
  | y :: l=>if lt x y = true then x :: y :: l else y :: ins lt x l
theorem ins_cl {lt:α→α→Bool} (W:WOr lt) (x z:α):∀ {l:List α},l.Pairwise (fun a b=>lt b a = false)→(ins lt x l).filter (eqv lt z) = (l ++ [x]).filter (eqv lt z)
  | [],_=>rfl
  | y :: l,h=>by
    unfold ins
    have hl:=List.pairwise_cons.mp h
    by_cases c:lt x y = true
    · rw [if_pos c]
      by_cases q:eqv lt z x = true
      · have all:∀ w ∈ y :: l,¬ eqv lt z w = true:=fun w hw e=>by
          have hyw:lt w y = false:=by
            rcases List.mem_cons.mp hw with e | e
            · rw [e]; exact W.irr y
            · exact hl.1 w e
          have h1:=(eqv_iff.mp e).1
          have h2:=(eqv_iff.mp q).2
          rw [W.neg x w y (W.neg x z w h2 h1) hyw] at c
          cases c
        rw [List.filter_cons_of_pos q,List.filter_append,List.filter_eq_nil_iff.mpr all,List.filter_cons_of_pos q]
        rfl
      · rw [List.filter_cons_of_neg q,List.filter_append,List.filter_cons_of_neg q]
        simp
    · rw [if_neg c,List.cons_append]
      have ih:=ins_cl W x z hl.2
      by_cases q:eqv lt z y = true
      · rw [List.filter_cons_of_pos q,List.filter_cons_of_pos q,ih]
      · rw [List.filter_cons_of_neg q,List.filter_cons_of_neg q,ih]
theorem ins_mem {lt:α→α→Bool} {x z:α}:∀ {l:List α},z ∈ ins lt x l→z = x∨z ∈ l
  | [],h=>.inl (by have h':z ∈ [x]:=h; simpa using h')
  | y :: l,h=>by
    unfold ins at h
    split at h
    · rcases List.mem_cons.mp h with e | e
      · exact .inl e
      · exact .inr e
    · rcases List.mem_cons.mp h with e | e
      · exact .inr (by rw [e]; exact List.mem_cons_self)
      · exact (ins_mem e).imp id (List.mem_cons_of_mem _)
theorem ins_up {lt:α→α→Bool} (W:WOr lt) (x:α):∀ {l:List α},l.Pairwise (fun a b=>lt b a = false)→(ins lt x l).Pairwise (fun a b=>lt b a = false)
  | [],_=>List.pairwise_singleton ..
  | y :: l,h=>by
    unfold ins
    have hl:=List.pairwise_cons.mp h
    by_cases c:lt x y = true
    · rw [if_pos c]
      refine List.pairwise_cons.mpr ⟨fun w hw=>?_,h⟩
      have hyx:=W.asym x y c
      rcases List.mem_cons.mp hw with e | e
      · rw [e]; exact hyx
      · exact W.neg w y x (hl.1 w e) hyx
    · rw [if_neg c]
      refine List.pairwise_cons.mpr ⟨fun w hw=>?_,ins_up W x hl.2⟩
      rcases ins_mem hw with e | e
      · rw [e]; simpa using c
      · exact hl.1 w e
def insAll (lt:α→α→Bool) (l:List α):List α:=l.foldl (fun acc x=>ins lt x acc) []
theorem Stab.snoc {lt:α→α→Bool} (W:WOr lt) {l S:List α} {x:α} (h:Stab lt l S):Stab lt (l ++ [x]) (ins lt x S) :=
  ⟨ins_up W x h.up,fun z=>by rw [ins_cl W x z h.up,List.filter_append,h.cl z,← List.filter_append]⟩
theorem ins_at {lt:α→α→Bool} (W:WOr lt) {x:α}:∀ {l:List α} (i:Nat),l.Pairwise (fun a b=>lt b a = false)→i ≤ l.length→(∀ (h:0 < i),∀ y,l[i - 1]? = some y→lt x y = false)→(∀ y,l[i]? = some y→lt x y = true)→ins lt x l = l.take i ++ x :: l.drop i
  | [],i,_,hi,_,_=>by
    have:i = 0:=by simpa using hi
    subst this
    rfl
  | y :: l,0,h,_,_,h2=>by
    unfold ins
    rw [if_pos (h2 y rfl)]
    rfl
  | y :: l,i + 1,h,hi,h1,h2=>by
    have hl:=List.pairwise_cons.mp h
    have hxy:lt x y = false:=by
      cases i with
      | zero=>exact h1 (by decide) y rfl
      | succ j =>
        have hj:j < l.length:=by simp at hi; omega
        have e:(y :: l)[j + 1 + 1 - 1]? = some l[j]:=by simp [hj]
        exact W.neg x l[j] y (h1 (by omega) _ e) (hl.1 _ (List.getElem_mem hj))
    unfold ins
    rw [if_neg (by rw [hxy]; decide),List.take_succ_cons,List.drop_succ_cons,List.cons_append]
    congr 1
    refine ins_at W i hl.2 (by simpa using hi) (fun hp z hz=>?_) fun z hz=>h2 z (by simpa using hz)
    refine h1 (by omega) z ?_
    obtain ⟨j,rfl⟩ : ∃ j,i = j + 1:=⟨i - 1,by omega⟩
    simpa using hz
end StS
namespace L2
open PySem PySem.Spec PyProof.Rows PySem.W StS
theorem ltV_asym {a b:V} (h:ltV a b = true):ltV b a = false:=by
  cases a <;> cases b <;> first | rfl | (cases h; done) | skip
  · have e:=of_decide_eq_true h
    exact decide_eq_false (by omega)
  · exact decide_eq_false (List.lt_asymm (of_decide_eq_true h))
theorem ltV_neg {a b c:V} (h1:ltV a b = false) (h2:ltV b c = false):ltV a c = false:=by
  cases a <;> cases b <;> first | rfl | (cases h1; done) | skip
  all_goals (cases c <;> first | rfl | (cases h2; done) | skip)
  · have e1:=of_decide_eq_false h1
    have e2:=of_decide_eq_false h2
    exact decide_eq_false (by omega)
  · have e1:=of_decide_eq_false h1
    have e2:=of_decide_eq_false h2
    exact decide_eq_false (List.not_lt.mpr (List.le_trans (List.not_lt.mp e2) (List.not_lt.mp e1)))
theorem ltK_wo (ks:List V):WO (ltK ks):=⟨fun a b z=>ltV_asym z,fun a b c z1 z2=>ltV_neg z1 z2⟩
section
variable {R:Type} {ky:R→V} {rows:List R} {ks:List V}
theorem wor_of (ky:R→V):WOr fun a b=>ltV (ky a) (ky b):=⟨fun _ _ z=>ltV_asym z,fun a b c=>ltV_neg⟩
theorem sortIx_stab (d:R):Stab (fun a b=>ltV (ky a) (ky b)) rows ((sortIx (rows.map ky)).map fun i=>rows.getD i d):=by
  unfold sortIx
  by_cases h2:(rows.map ky).length < 2
  · rw [if_pos h2,List.length_map,range_getD]
    exact Stab.nil _ (by simpa using h2)
  · rw [if_neg h2]
    rw [List.length_map] at h2 ⊢
    obtain ⟨p,e,hB,hU⟩:=sort_run (ltK_wo (rows.map ky)) (N:=rows.length) (by omega)
    rw [e]
    have at_get:∀ (i:Nat) (hi:i < p.toList.length),p.toList[i] = at_ p i:=fun i hi=>by
      have hi':i < p.size:=by simpa using hi
      rw [at_eq,Array.getElem?_eq_getElem hi',Array.getElem_toList]
      rfl
    have hlen:p.toList.length = rows.length:=by rw [Array.length_toList,hB.size]
    have hP:p.toList.Pairwise (pre (ltK (rows.map ky))):=by
      rw [List.pairwise_iff_getElem]
      intro i j hi hj hij
      rw [at_get i hi,at_get j hj]
      exact hU i j hij (by rw [← hlen]; exact hj)
    have hperm:p.toList.Perm (List.range rows.length):=by
      have:=Array.perm_iff_toList_perm.mp hB.perm
      simpa using this
    have inr:∀ i ∈ p.toList,i < rows.length:=fun i hi=>by simpa using hperm.mem_iff.mp hi
    have lk:∀ i j,i < rows.length→j < rows.length→ltK (rows.map ky) i j = ltV (ky (rows.getD i d)) (ky (rows.getD j d)):=fun i j hi hj=>by
      unfold ltK
      simp [hi,hj]
    refine ⟨?_,fun x=>?_⟩
    · rw [List.pairwise_map]
      refine List.Pairwise.imp_of_mem (fun {a b} ha hb h=>?_) hP
      rw [← lk b a (inr b hb) (inr a ha)]
      exact h.1
    · have key:p.toList.filter (fun i=>eqv (fun a b=>ltV (ky a) (ky b)) x (rows.getD i d)) = (List.range rows.length).filter (fun i=>eqv (fun a b=>ltV (ky a) (ky b)) x (rows.getD i d)):=by
        refine List.Perm.eq_of_pairwise (le:=fun a b=>a ≤ b) (fun a b _ _ h1 h2=>Nat.le_antisymm h1 h2) ?_ ?_ (hperm.filter _)
        · rw [List.pairwise_filter]
          refine List.Pairwise.imp_of_mem (fun {a b} ha hb h e1 e2=>?_) hP
          rcases h.2 with z | z
          · rw [lk a b (inr a ha) (inr b hb)] at z
            have c1:=(eqv_iff.mp e1).2
            have c2:=(eqv_iff.mp e2).1
            have c1':ltV (ky (rows.getD a d)) (ky x) = false:=c1
            rw [ltV_neg c1' c2] at z
            cases z
          · exact Nat.le_of_lt z
        · exact List.Pairwise.filter _ (List.pairwise_lt_range.imp fun h=>Nat.le_of_lt h)
      have e1:rows.filter (eqv (fun a b=>ltV (ky a) (ky b)) x) = ((List.range rows.length).map fun i=>rows.getD i d).filter (eqv (fun a b=>ltV (ky a) (ky b)) x):=by rw [range_getD]
      rw [e1,List.filter_map,List.filter_map]
      exact congrArg _ key
theorem sortK_stab (d:R) (b:Bool):Stab (if b = true then flp fun x y=>ltV (ky x) (ky y) else fun x y=>ltV (ky x) (ky y)) rows (katRev b ((sortIx (katRev b (rows.map ky))).map fun i=>(katRev b rows).getD i d)):=by
  cases b with
  | false=>exact sortIx_stab d
  | true =>
    have e:katRev true (rows.map ky) = (katRev true rows).map ky:=by show (rows.map ky).reverse = rows.reverse.map ky; rw [List.map_reverse]
    rw [e,if_pos rfl]
    exact Stab.rev (sortIx_stab (rows:=rows.reverse) d)
end
end L2
namespace L2
open PySem PySem.Spec PyProof.Rows PySem.W
theorem law_callT {P:Program} {w:World} {K:PySem.W.Frag} {mg mb:Str→Option Value} {CX:CXT} {k:Nat} {fa a c Pt:Addr} {fd:FuncData} {x:Str} {sp:Sp} {s₁:Shared} {vs:List Value} {ns:List Int}
    (KX:K.In s₁.heap) (hns:s₁.heap.Ns mainGlobals mg) (hb:s₁.heap.Ns builtinsNs mb) (hbb:∀ x:Str,x ≠ "__name__"→mb x = bootBuiltins x) (hlim:s₁.heap.NoLimit) (hg:s₁.gens = #[])
    (hbm:∃ bm ob,mg "__builtins__" = some (.ref bm)∧bm ≠ builtinsNs∧s₁.heap.get? bm = some ob∧ob.cls = .type "module"∧ob.dict = some builtinsNs∧ob.data = .plain)
    (hPt:s₁.heap.get? Pt = some (tabObj #[])) (hKP:K.lookup Pt = none) (hC:codeHdIn K c Pt = true)
    (ha:s₁.heap.get? a = some { cls:=.type "list", data:=.seq vs.toArray }) (hi:IntsAre vs ns) (hl:ns.length ≤ sizeLine) (hr:Room k callerA)
    (F:∀ base:Heap,K.In base→base.Ns mainGlobals mg→base.BuiltinsAt mg Pt→CodeHd base c Pt→FnOk P w K mg base CX k fa fd [x] sp) (hbind:∀ (s:Shared) (u:Value),BindsTo s fd ⟨[u],[]⟩ [(x,u)])
    (hsp:∀ H:Hp,H Pt = some (.tbl #[])→SqL K H a (ns.map V.int)→sp [.ref a] H (fun v _=>v = .bl true) fun _ _ _=>False)
    (hCX:∀ H e s',CX [] H s₁ (fun _ _ _=>False) e s'→False) :
    codeAny (model P w) callerA (.call (.ref fa) ⟨[.ref a],[]⟩) (fun r s'=>r = .ok (.ret (.bool true))∧OldK s₁.heap s'.heap∧s'.os = s₁.os∧AllBare s'.gens) s₁:=by
  have rv:=vals_ints hi
  have lenV:=hi.length
  have haP:a ≠ Pt:=fun z=>by rw [z,hPt] at ha; cases ha
  have core:∀ H:Hp,(∀ b,H b = none∨(b = a∧∃ o xs,H b = some (.frz o (.lst xs)))∨(b = Pt∧H b = some (.tbl #[])))→H Pt = some (.tbl #[])→SqL K H a (ns.map V.int)→HOk P w H s₁.heap→(H a ≠ none→K.lookup a = none) →
      codeAny (model P w) callerA (.call (.ref fa) ⟨[.ref a],[]⟩) (fun r s'=>r = .ok (.ret (.bool true))∧OldK s₁.heap s'.heap∧s'.os = s₁.os∧AllBare s'.gens) s₁:=by
    intro H hO hHP hS hok hK
    have hA:∀ b,H b ≠ none→b = a∨b = Pt:=fun b z=>(hO b).elim (fun q=>absurd q z) fun q=>q.imp (·.1) (·.1)
    have base_of:∀ {b:Addr} {o:Obj},s₁.heap.get? b = some o→H b = none→(hidT s₁.heap H).get? b = some o:=fun e n=>hidT_get e n
    have noA:∀ {b:Addr} {o:Obj},s₁.heap.get? b = some o→(∀ xs n,o.data ≠ .seq xs n)→(∀ xs,o.data ≠ .fields xs)→H b = none:=fun {b o} e d1 d2=>by
      cases q:H b with
      | none=>rfl
      | some u =>
        rcases hA b (by rw [q]; simp) with e' | e'
        · subst e'
          rw [ha] at e; cases e
          exact absurd rfl (d1 _ _)
        · subst e'
          rw [hPt] at e; cases e
          exact absurd rfl (d2 _)
    have nsK:∀ {b:Addr} {m:Str→Option Value},s₁.heap.Ns b m→(hidT s₁.heap H).Ns b m:=fun {b m} ⟨o,es,ep,e,d,r⟩=>⟨o,es,ep,base_of e (noA e (fun _ _ z=>by rw [d] at z; cases z) fun _ z=>by rw [d] at z; cases z),d,r⟩
    have hKb:K.In (hidT s₁.heap H):=fun b o e=>base_of (KX b o e) (by
      cases q:H b with
      | none=>rfl
      | some u =>
        rcases hA b (by rw [q]; simp) with e' | e'
        · subst e'
          rw [hK (by rw [q]; simp)] at e; cases e
        · subst e'
          rw [hKP] at e; cases e)
    have hB:(hidT s₁.heap H).BuiltinsAt mg Pt:=by
      obtain ⟨bm,ob,b1,b2,b3,b4,b5,b6⟩:=hbm
      refine ⟨bm,ob,b1,b2,fun z=>?_,fun z=>?_,base_of b3 (noA b3 (fun _ _ z=>by rw [b6] at z; cases z) fun _ z=>by rw [b6] at z; cases z),b4,b5,b6⟩
      · obtain ⟨o,es,ep,e,d,_⟩:=hns
        rw [z,e] at b3; cases b3
        rw [d] at b6; cases b6
      · rw [z,hPt] at b3; cases b3
        cases b6
    have hM:Mod K mg (hidT s₁.heap H):=⟨hKb,nsK hns,⟨mb,nsK hb,hbb⟩,let ⟨mc,h1,h2⟩:=hlim; ⟨mc,nsK h1,h2⟩⟩
    have e0:Env0 P w K mg (hidT s₁.heap H) callerA [] s₁ H:=⟨rfl,hM,fun b o e=>of_hidT e,Nat.le_of_eq (hidT_size _ _),trivial,fun b hb=>absurd (show b ∈ ([]:List Addr) from hb) (by simp),hok,.of_eq hg⟩
    refine codeAny_mono ((F _ hKb (nsK hns) hB (codeHd_of_K hKb hC)).run callerA [] s₁ H ⟨[.ref a],[]⟩ [.ref a] [.ref a] _ _ hr e0 (hbind s₁ (.ref a)) (.cons rfl .nil) (hsp H hHP hS)) fun r s' h=>?_
    cases r with
    | error e=>exact (hCX H e s' h).elim
    | ok fl =>
      cases fl with
      | next=>exact False.elim h
      | brk=>exact False.elim h
      | cont=>exact False.elim h
      | ret u =>
        obtain ⟨v,H',os,bare,un,hok',r',q⟩:=h
        have q':v = .bl true:=q
        subst q'
        obtain rfl:u = Value.bool true:=r'
        refine ⟨rfl,⟨fun b o e=>?_,fun b o e=>un.there b o e (by simp)⟩,os,bare⟩
        rcases hO b with z | ⟨_,ob,xs,z⟩ | ⟨rfl,z⟩
        · exact .inl (un.keep b o e z (by intro z; exact absurd (show b ∈ ([]:List Addr) from z) (by simp)) (by simp))
        · have z2:=un.frzs b ob _ z
          obtain ⟨e1,_⟩:=hok b _ z
          obtain ⟨e2,_⟩:=hok' b _ z2
          rw [e] at e1; cases e1
          exact .inl e2
        · obtain ⟨more,e2⟩:=un.tbls b #[] z
          have e3:=hok' b _ e2
          rw [hPt] at e; cases e
          obtain ⟨oc,vc,_,_,_,_,_,_,_,c1,c2,c3,c4,_⟩:=codeHd_of_K KX hC
          exact .inr (.inl ⟨⟨c,oc,vc,c1,c2,c3,c4⟩,rfl,#[],more,rfl,e3⟩)
  cases hk:K.lookup a with
  | some o =>
    have e:=KX a o hk
    rw [ha] at e
    cases e
    refine core (fun b=>if b = Pt then some (.tbl #[]) else none) (fun b=>?_) (if_pos rfl) (.inr ⟨_,vs.toArray,_,hk,rfl,rfl,rfl,by rw [List.size_toArray,lenV]; exact hl,by simpa using rv⟩) (fun b u z=>?_) fun z=>absurd (if_neg haP) z
    · by_cases hb:b = Pt
      · exact .inr (.inr ⟨hb,if_pos hb⟩)
      · exact .inl (if_neg hb)
    · by_cases hb:b = Pt
      · have z':=(if_pos hb).symm.trans z
        cases z'
        subst hb
        exact hPt
      · have z':=(if_neg hb).symm.trans z
        cases z'
  | none =>
    refine core (fun b=>if b = Pt then some (.tbl #[]) else if b = a then some (.frz { cls:=.type "list", data:=.seq vs.toArray } (.lst (ns.map V.int))) else none) (fun b=>?_) (if_pos rfl) (.inl (.inr ⟨{ cls:=.type "list", data:=.seq vs.toArray },(if_neg haP).trans (if_pos rfl)⟩)) (fun b u z=>?_) fun _=>hk
    · by_cases hb:b = Pt
      · exact .inr (.inr ⟨hb,if_pos hb⟩)
      · by_cases hb2:b = a
        · exact .inr (.inl ⟨hb2,_,_,(if_neg hb).trans (if_pos hb2)⟩)
        · exact .inl ((if_neg hb).trans (if_neg hb2))
    · by_cases hb:b = Pt
      · have z':=(if_pos hb).symm.trans z
        cases z'
        subst hb
        exact hPt
      · by_cases hb2:b = a
        · have z':=((if_neg hb).trans (if_pos hb2)).symm.trans z
          cases z'
          subst hb2
          exact ⟨ha,by rw [List.length_map]; exact hl,vs,_,rv,ha⟩
        · have z':=((if_neg hb).trans (if_neg hb2)).symm.trans z
          cases z'
end L2
namespace L2
open PySem PySem.Spec PyProof.Rows PySem.W
section
variable {P:Program} {w:World} {K:PySem.W.Frag} {mg:Str→Option Value} {base:Heap}
theorem Fun.okC {x qual:Str} {st:Stmt} {f c:Addr} {fd:FuncData} {N ps:List Str} {k:Nat} {sp:Sp} (F:Fun K x qual st f fd) (hfc:fd.code = .ref c) (S:FnScope N ps (defScope st)) (len:∀ vs H Q E,sp vs H Q E→vs.length = ps.length)
    (hbody:∀ (A:Around) (outer:List Env) (s:Shared) (H:Hp) (vs:List V) (Q:VK) (E:XK),Room k (A.deeper (envOfC qual (defScope st) s.heap.objs.size f (.ref c)))→sp vs H Q E →
      ∃ t,PSs (cxOf CX0 P w K mg base N qual (defScope st) f (.ref c) A outer s H E).nox (defBody st) t∧t { nx:=fun _ H'=>Q .non H',rt:=Q } (start N vs) H):FnOk P w K mg base CX0 (k + 1) f fd ps sp:=by
  obtain ⟨oc,od,kV,doc,pm,an,cdv,ct,osl,rfl,lk,hcd⟩:=F.ex
  obtain rfl:cdv = .ref c:=hfc
  refine fn_of lk hcd S len fun A outer s H vs Q E hr hsp=>?_
  obtain ⟨t,h,q⟩:=hbody A outer s H vs Q E hr hsp
  exact ⟨t,h.nox,q⟩
end
theorem walk_ofT {l:PySem.W.OpenLaw} {n k:Nat} {q:Program} {loose:List Str} {XP:(Str→Option Value)→Heap→Prop} {YP:World→Heap→Prop} {d:DefRec} {K:Params→PySem.W.Frag} {CX:World→CXT} {sp:World→Sp} {x:Str} (c Pt:Addr)
    (hn:l.most = some n) (hn2:n ≤ sizeLine) (hdf:d.params.defaults = []) (hr:Room k callerA)
    (hY:∀ (w:World) (h:Heap),YP w h→(K w.params).In h) (hT:∀ (w:World) (h:Heap),YP w h→h.get? Pt = some (tabObj #[])) (hKP:∀ w:World,(K w.params).lookup Pt = none) (hC:∀ w:World,codeHdIn (K w.params) c Pt = true)
    (F:∀ (w:World) (mg:Str→Option Value) (fa:Addr) (h:Heap),(K w.params).In h→h.Ns mainGlobals mg→mg d.name = some (.ref fa) →
      ∃ fd:FuncData,(∀ (s:Shared) (u:Value),BindsTo s fd ⟨[u],[]⟩ [(x,u)]) ∧
        ∀ base:Heap,(K w.params).In base→base.Ns mainGlobals mg→base.BuiltinsAt mg Pt→CodeHd base c Pt→FnOk l.prog w (K w.params) mg base (CX w) k fa fd [x] (sp w))
    (hsp:∀ (w:World) (H:Hp) (a:Addr) (ns:List Int),ns.length ≤ n→H Pt = some (.tbl #[])→SqL (K w.params) H a (ns.map V.int)→sp w [.ref a] H (fun v _=>v = .bl true) fun _ _ _=>False)
    (hCX:∀ (w:World) (H:Hp) (s:Shared) (e:Value) (s':Shared),CX w [] H s (fun _ _ _=>False) e s'→False) :
    PySem.W.WalkO q loose XP YP l.row.toRowW d [] (fun f vs=>PySem.call f vs):=by
  refine Att.attach_call hn hdf fun w s₀ s₁ mg mb fa o pm cd doc a vs ns G Y ho hd hcd hmg hobj hints hlen hg=>?_
  have KX:=hY w _ Y
  obtain ⟨fd,hb,hF⟩:=F w mg fa _ KX G.T.g hmg
  exact law_callT KX G.T.g G.T.b G.T.builtins G.T.nolimit hg G.T.bmain (hT w _ Y) (hKP w) (hC w) hobj hints (Nat.le_trans hlen hn2) hr hF hb (fun H hO hS=>hsp w H a ns hlen hO hS) fun H e s'=>hCX w H s₁ e s'
theorem TabAt.nil {H:Hp} {P:Addr} {qual:Str} (h:H P = some (.tbl #[])):TabAt H P qual:=⟨#[],h,trivial,fun pos v z=>by cases z⟩
end L2
set_option maxHeartbeats 4000000
namespace My
open PySem L2 PySem.W
def colV (r:Row) (c:Int):V:=r.getD (c - 1).toNat .non
theorem paired_rev {α β:Type} {R:α→β→Prop}:∀ {xs:List α} {ys:List β},Paired R xs ys→Paired R xs.reverse ys.reverse
  | _,_,.nil=>.nil
  | _,_,.cons r t=>by
    rw [List.reverse_cons,List.reverse_cons]
    have app:∀ {xs us:List α} {ys ws:List β},Paired R xs ys→Paired R us ws→Paired R (xs ++ us) (ys ++ ws):=by
      intro xs us ys ws p q
      induction p with
      | nil=>exact q
      | cons r _ ih=>exact .cons r ih
    exact app (paired_rev t) (.cons r .nil)
theorem paired_kr {α β:Type} {R:α→β→Prop} {b:Bool} {xs:List α} {ys:List β} (h:Paired R xs ys):Paired R (katRev b xs) (katRev b ys):=by
  unfold katRev
  split
  · exact paired_rev h
  · exact h
theorem paired_getD {α β:Type} {R:α→β→Prop} {d:α} {e:β}:∀ {xs:List α} {ys:List β} {i:Nat},Paired R xs ys→i < xs.length→R (xs.getD i d) (ys.getD i e)
  | _,_,_,.nil,h=>absurd h (Nat.not_lt_zero _)
  | _,_,0,.cons r _,_=>r
  | _,_,i + 1,.cons _ t,h=>by
    rw [List.getD_cons_succ,List.getD_cons_succ]
    exact paired_getD t (by simpa using h)
theorem paired_pick {α β:Type} {R:α→β→Prop} {d:α} {e:β} {xs:List α} {ys:List β} (h:Paired R xs ys):∀ {l:List Nat},(∀ i ∈ l,i < xs.length)→Paired R (l.map fun i=>xs.getD i d) (l.map fun i=>ys.getD i e)
  | [],_=>.nil
  | i :: l,hl=>.cons (paired_getD h (hl i List.mem_cons_self)) (paired_pick h fun j hj=>hl j (List.mem_cons_of_mem _ hj))
theorem paired_len {α β:Type} {R:α→β→Prop} {xs:List α} {ys:List β} (h:Paired R xs ys):xs.length = ys.length:=Paired.length h
theorem paired_at {α β:Type} {R:α→β→Prop}:∀ {xs:List α} {ys:List β},Paired R xs ys→∀ (i:Nat) a r,xs[i]? = some a→ys[i]? = some r→R a r
  | _,_,.nil,_,_,_,e,_=>by cases e
  | _,_,.cons r _,0,_,_,e1,e2=>by cases e1; cases e2; exact r
  | _,_,.cons _ t,i + 1,a,r,e1,e2=>paired_at t i a r (by simpa using e1) (by simpa using e2)
theorem paired_of {α β:Type} {R:α→β→Prop}:∀ {xs:List α} {ys:List β},xs.length = ys.length→(∀ (i:Nat) a r,xs[i]? = some a→ys[i]? = some r→R a r)→Paired R xs ys
  | [],[],_,_=>.nil
  | x :: xs,y :: ys,hl,h=>.cons (h 0 x y rfl rfl) (paired_of (by simpa using hl) fun i a r e1 e2=>h (i + 1) a r (by simpa using e1) (by simpa using e2))
  | [],_ :: _,hl,_=>by simp at hl
  | _ :: _,[],hl,_=>by simp at hl
theorem sortIx_lt {ks:List V}:∀ i ∈ sortIx ks,i < ks.length:=fun i hi=>by
  unfold sortIx at hi
  split at hi
  · simpa using hi
  · rename_i h2
    obtain ⟨p,e,hB,_⟩:=StS.sort_run (ltK_wo ks) (N:=ks.length) (by omega)
    rw [e] at hi
    have:=(Array.perm_iff_toList_perm.mp hB.perm).mem_iff.mp hi
    simpa using this
def sortR (g:Bool) (c:Int) (rs:List Row):List Row:=katRev g ((sortIx (katRev g (rs.map fun r=>colV r c))).map fun i=>(katRev g rs).getD i [])
theorem sortR_stab (g:Bool) (c:Int) (rs:List Row):StS.Stab (if g = true then StS.flp fun x y=>ltV (colV x c) (colV y c) else fun x y=>ltV (colV x c) (colV y c)) rs (sortR g c rs):=sortK_stab [] g
theorem sortR_at {H:Hp} {g:Bool} {c:Int} {as:List Addr} {rs:List Row} (hl:as.length = rs.length) (h:∀ (i:Nat) a r,as[i]? = some a→rs[i]? = some r→H a = some (.tup r)) :
    ∃ as':List Addr,sortK g (rs.map fun r=>colV r c) (as.map V.ref) = as'.map V.ref∧as'.length = (sortR g c rs).length∧∀ (i:Nat) a r,as'[i]? = some a→(sortR g c rs)[i]? = some r→H a = some (.tup r):=by
  have hp:Paired (fun a r=>H a = some (.tup r)) as rs:=paired_of hl h
  have hix:∀ i ∈ sortIx (katRev g (rs.map fun r=>colV r c)),i < (katRev g as).length:=fun i hi=>by
    have:=sortIx_lt i hi
    rw [kat_len,List.length_map] at this
    rw [kat_len,hl]
    exact this
  have hq:=paired_kr (b:=g) (paired_pick (d:=0) (e:=[]) (paired_kr (b:=g) hp) hix)
  refine ⟨katRev g ((sortIx (katRev g (rs.map fun r=>colV r c))).map fun i=>(katRev g as).getD i 0),?_,paired_len hq,paired_at hq⟩
  have hm:∀ l:List Addr,katRev g (l.map V.ref) = (katRev g l).map V.ref:=fun l=>by
    unfold katRev
    split
    · exact List.map_reverse.symm
    · rfl
  unfold sortK
  rw [← hm,hm as,List.map_map]
  congr 1
  refine List.map_congr_left fun i hi=>?_
  have:=hix i hi
  simp [this]
abbrev sSortedBy:Stmt:=top 17
theorem scSortedBy:FnScope ["rows", "column", "greatest_first"] ["rows", "column", "greatest_first"] (defScope sSortedBy):=⟨rfl,rfl,rfl,by decide +kernel,rfl,by decide +kernel,by decide +kernel⟩
def qSB:Str:="sorted_by.<locals>.<lambda>"
def spSortedBy (Pt:Addr):Sp:=fun vs H Q _=>∃ (l:Addr) (c:Int) (g:Bool) (as:List Addr) (rs:List Row),vs = [.ref l,.int c,.bl g]∧TabAt H Pt qSB∧RowsAt H l as rs∧rs.length < 64∧(∀ r ∈ rs,1 ≤ c∧c ≤ r.length)∧OneK (rs.map fun r=>colV r c) ∧
  ∀ (l':Addr) (as':List Addr) (H':Hp),GrowT Pt H H'→H l' = none→TabAt H' Pt qSB→RowsAt H' l' as' (sortR g c rs)→Q (.ref l') H'
section
variable {P:Program} {w:World} {K:PySem.W.Frag} {mg:Str→Option Value} {base:Heap} {f g1 c Pt:Addr} {fd d1:FuncData}
theorem ok_sortedby (hs:mg "sorted" = none) (C:CodeHd base c Pt) (hB:base.BuiltinsAt mg Pt) (F:Fun K "sorted_by" "sorted_by" sSortedBy f fd) (hfc:fd.code = .ref c):FnOk P w K mg base CX0 1 f fd ["rows", "column", "greatest_first"] (spSortedBy Pt):=by
  refine Fun.okC F hfc scSortedBy (fun vs H Q E h=>?_) (fun A outer s H vs Q E hr h=>?_)
  · obtain ⟨l,c,g,as,rs,rfl,_⟩:=h
    rfl
  obtain ⟨l,cn,g,as,rs,rfl,T,hR,h64,hf,hk,q⟩:=h
  refine ⟨_,pss_cons (ps_if (pt_val (pv 2)) (pss_one (ps_ret (pe_sortKR (N':=["column"]) (src:=[some 1]) (p:="row") (c:=c) (P:=Pt) (tb:=tOp (rIxT K) (tVar 0) (tOp (rI0 fun i j=>V.int (i - j)) (tVar 1) (tC (.int 1)))) rfl hr rfl hs (CompSc.ofB (by kernel_rfl)) rfl rfl rfl rfl C hB (pa_cons (pv 0) pa_nil)
      (fun cl f c' s H=>pe_ix (r:=rIxT K) ix_tup (pv 0) (pe_op op_sub (pv 1) pe_int) (fun _ _=>rfl)) (fun s Q E h=>PyProof.Rows.Constant_bool h)))) pss_nil)
    (pss_one (ps_ret (pe_sortK (N':=["column"]) (src:=[some 1]) (p:="row") (c:=c) (P:=Pt) (tb:=tOp (rIxT K) (tVar 0) (tOp (rI0 fun i j=>V.int (i - j)) (tVar 1) (tC (.int 1)))) rfl hr rfl hs (CompSc.ofB (by kernel_rfl)) rfl rfl rfl rfl C hB (pa_cons (pv 0) pa_nil)
      (fun cl f c' s H=>pe_ix (r:=rIxT K) ix_tup (pv 0) (pe_op op_sub (pv 1) pe_int) (fun _ _=>rfl))))),?_⟩
  have hRd:∀ {H':Hp},GrowT Pt H H'→∀ {a:Addr} {xs:List V},H a = some (.tup xs)→H' a = some (.tup xs):=fun {H'} g1 {a xs} e=>g1 a _ (fun z=>by obtain ⟨ps,e2,_⟩:=T; rw [z,e2] at e; cases e) e
  have hlP:l ≠ Pt:=fun z=>by
    obtain ⟨ps,e2,_⟩:=T
    have:=hR.lst
    rw [z,e2] at this
    cases this
  have key:∀ (b:Bool),b = g→∃ l0 xs ks,[V.ref l] = [.ref l0]∧Rd H l0 (.lst xs)∧l0 ≠ Pt∧TabAt H Pt qSB∧xs.length < 64∧ks.length = xs.length∧OneK ks ∧
      (∀ (i:Nat) x k H2,xs[i]? = some x→ks[i]? = some k→GrowT Pt H H2→(tOp (rIxT K) (tVar 0) (tOp (rI0 fun i j=>V.int (i - j)) (tVar 1) (tC (.int 1)))) (some x :: inSt [some 1] [some (.ref l),some (.int cn),some (.bl g)]) H2 fun k' H3=>H3 = H2∧k' = k) ∧
      ∀ H2 D,GrowT Pt H H2→TabAt H2 Pt qSB→H2 D = none→Q (.ref D) (upd H2 D (.lst (sortK b ks xs))):=by
    rintro b rfl
    refine ⟨l,as.map V.ref,rs.map fun r=>colV r cn,rfl,.inl hR.lst,hlP,T,by rw [List.length_map,hR.len]; exact h64,by rw [List.length_map,List.length_map,hR.len],hk,fun i x k H2 hx hki g2=>?_,fun H2 D g2 T2 hD=>?_⟩
    · obtain ⟨a,r,rfl,er,har⟩:=hR.get hx
      have hk2:colV r cn = k:=by
        rw [List.getElem?_map,er] at hki
        exact Option.some.inj hki
      subst hk2
      exact ⟨_,rfl,_,rfl,_,_,rfl,rfl,a,_,_,_,rfl,rfl,SqT.of (hRd g2 har),atI_col (hf r (List.mem_of_getElem? er)),rfl,rfl⟩
    · obtain ⟨as',e1,e2,e3⟩:=sortR_at (g:=b) (c:=cn) hR.len fun i a r h1 h2=>hRd g2 (hR.at_ i a r h1 h2)
      have hDP:D ≠ Pt:=fun z=>by obtain ⟨ps,z2,_⟩:=T2; rw [z,z2] at hD; cases hD
      have nD:∀ a o,H2 a = some o→(upd H2 D (.lst (sortK b (rs.map fun r=>colV r cn) (as.map V.ref)))) a = some o:=fun a o e=>by rw [upd_ne (ne_of_none e hD)]; exact e
      have hD0:H D = none:=by
        cases z:H D with
        | none=>rfl
        | some o=>rw [g2 D o hDP z] at hD; cases hD
      refine q D as' _ (fun a o ha e=>nD a o (g2 a o ha e)) hD0 (T2.grow fun a o _ e=>nD a o e) ⟨by rw [e1]; exact upd_same,e2,fun i a r h1 h2=>nD _ _ (e3 i a r h1 h2)⟩
  refine ⟨_,rfl,g,rfl,?_⟩
  have eq:("sorted_by" ++ ".<locals>." : Str) ++ ("<lambda>" : Str) = qSB:=by rfl
  refine ite2 (fun b=>?_) (fun b=>?_)
  · exact ⟨_,rfl,key true b.symm⟩
  · exact ⟨_,rfl,key false (by cases g with | false=>rfl | true=>exact absurd rfl b)⟩
end
end My
namespace HT
open PySem PySem.Spec PyProof.Rows
section
variable {prog:Program} {w:World} {A:Around} {E:Value→Shared→Prop} {s:Shared}
theorem sliceApplied_rev {sl:Addr} {t:Tok} {n:Nat} {Q:Int×Int×Nat→Shared→Prop} (hs:s.heap.IsSliceOf sl .none .none (.int (-1) t))
    (h:Q ((n:Int) - 1,-1,n) s):wpAny (model prog w) A (Builtin.Slice.sliceApplied (.ref sl) (pure (n:Int))) Q E s:=by
  obtain ⟨os,hos,hcs,hds⟩:=id hs
  unfold Builtin.Slice.sliceApplied Builtin.Slice.sliceFields
  refine wpAny_bind (wpAny_bind (wpAny_field hos hds (x:=.none) rfl (wpAny_bind (wpAny_field hos hds (x:=.none) rfl (wpAny_bind (wpAny_field hos hds (x:=.int (-1) t) rfl (wpAny_pure ?_)))))))
  refine wpAny_bind (slicePart_int ?_)
  show wpAny _ _ (if ((-1:Int) == 0) = true then _ else _) _ _ s
  rw [if_neg (by decide)]
  refine wpAny_bind (slicePart_none (wpAny_bind (slicePart_none (wpAny_bind (wpAny_pure ?_)))))
  show wpAny _ _ (match Builtin.Slice.sliceAdjust none none (-1) (n:Int) with | (lo,hi)=>pure (lo,(-1:Int),Builtin.Slice.slicePlaces lo hi (-1))) _ _ s
  have e:Builtin.Slice.sliceAdjust none none (-1) (n:Int) = ((n:Int) - 1,-1):=rfl
  have e2:Builtin.Slice.slicePlaces ((n:Int) - 1) (-1) (-1) = n:=by
    unfold Builtin.Slice.slicePlaces
    rw [if_neg (by decide)]
    split
    · have:((n:Int) - 1 - -1 - 1) / -(-1) + 1 = n:=by
        rw [show (-(-1):Int) = 1 by decide,Int.ediv_one]; omega
      rw [this]; exact Int.toNat_natCast n
    · have:n = 0:=by omega
      subst this
      rfl
  rw [e]
  show wpAny _ _ (pure ((n:Int) - 1,(-1:Int),Builtin.Slice.slicePlaces ((n:Int) - 1) (-1) (-1))) _ _ s
  rw [e2]
  exact wpAny_pure h
theorem pick_rev (xs:Array Value):((List.range xs.size).filterMap fun (m:Nat)=>xs[(((xs.size:Int) - 1) + (m:Int) * -1).toNat]?).toArray = xs.toList.reverse.toArray:=by
  congr 1
  refine List.ext_getElem? fun i=>?_
  have e:(List.range xs.size).filterMap (fun (m:Nat)=>xs[(((xs.size:Int) - 1) + (m:Int) * -1).toNat]?) = (List.range xs.size).map (fun (m:Nat)=>xs.getD (xs.size - 1 - m) Value.none):=by
    have gen:∀ l:List Nat,(∀ m ∈ l,m < xs.size)→l.filterMap (fun (m:Nat)=>xs[(((xs.size:Int) - 1) + (m:Int) * -1).toNat]?) = l.map (fun (m:Nat)=>xs.getD (xs.size - 1 - m) Value.none):=by
      intro l
      induction l with
      | nil=>intro _; rfl
      | cons m l ih =>
        intro hl
        have hm':m < xs.size:=hl m List.mem_cons_self
        have e1:(((xs.size:Int) - 1) + (m:Int) * -1).toNat = xs.size - 1 - m:=by omega
        have h2:xs.size - 1 - m < xs.size:=by omega
        rw [List.filterMap_cons,e1,Array.getElem?_eq_getElem h2,List.map_cons,ih fun k hk=>hl k (List.mem_cons_of_mem _ hk)]
        simp [h2]
    exact gen _ fun m hm=>by simpa using hm
  rw [e]
  by_cases hi:i < xs.size
  · have h2:xs.size - 1 - i < xs.size:=by omega
    simp [hi,h2]
  · rw [List.getElem?_eq_none (by simp; omega),List.getElem?_eq_none (by simp; omega)]
theorem getItem_tuple_rev {t sl:Addr} {items:Array Value} {tk:Tok} {Q:Value→Shared→Prop} (ht:IsTup s.heap t items) (hs:s.heap.IsSliceOf sl .none .none (.int (-1) tk))
    (h:Q (.ref s.heap.objs.size) { s with heap:=s.heap.push { cls:=.type "tuple", data:=.seq items.toList.reverse.toArray } })
    (hsz:items.size ≤ sizeLine):wpAny (model prog w) A (getItem (.ref t) (.ref sl)) Q E s:=by
  have htake:sizeOk (.seq items.toList.reverse.toArray):=by
    show items.toList.reverse.toArray.size ≤ sizeLine
    rw [List.size_toArray,List.length_reverse,Array.length_toList]
    exact hsz
  obtain ⟨os,hos,hcs,hds⟩:=id hs
  have hTs:s.TypeIs (.ref sl) "slice":=⟨os,hos,hcs⟩
  unfold getItem
  try with_reducible refine wpAny_holding ?_
  first | refine wpAny_bind (wpAny_pure ?_) | skip
  refine wpAny_bind (wpAny_sequenceKey ht.typeIs (by decide) ?_)
  refine wpAny_bind (wpAny_callSpecial?_slot (name:=Str.ofString "__getitem__") ht.typeIs PyProof.Rows.slot_tuple_getitem
    (wpAny_call_entry PyProof.Rows.slot_tuple_getitem ht.typeIs entry_tuple_getitem ?_ (args_tuple_getitem _ _)))
  show wpAny _ _ (Builtin.Tuple.tupleItemsOf (.ref t) >>= _) _ _ s
  refine wpAny_bind (tupleItemsOf_ ht ?_)
  refine wpAny_bind (wpAny_typeOf hTs ?_)
  rw [if_pos (by decide)]
  refine wpAny_bind (sliceApplied_rev hs ?_)
  show wpAny _ _ (if (((items.size:Int) - 1) == 0 && (-1:Int) == 1 && items.size == items.size) = true then _ else _) _ _ s
  rw [if_neg (by simp),pick_rev]
  first
    | exact wpAny_bind (m:=Builtin.Tuple.tupleExact _) (wpAny_newObj_type (wpAny_pure ⟨_,rfl,wpAny_pure h⟩) htake)
    | exact wpAny_bind (m:=Builtin.Tuple.tupleExact _) (wpAny_newObj_type (wpAny_bind (wpAny_pure (wpAny_pure ⟨_,rfl,wpAny_pure h⟩))) htake)
    | exact wpAny_bind (wpAny_bind (m:=Builtin.Tuple.tupleExact _) (wpAny_newObj_type (wpAny_pure (wpAny_pure ⟨_,rfl,wpAny_pure h⟩)) htake))
    | exact wpAny_bind (wpAny_bind (m:=Builtin.Tuple.tupleExact _) (wpAny_newObj_type (wpAny_pure ⟨_,rfl,wpAny_pure h⟩) htake))
end
end HT
namespace L2
open PySem PySem.Spec PyProof.Rows
section
variable {X:Cx} {e es:Expr} {te:TE} {pos p2:Pos}
theorem vals_rev0:∀ {xs:List V} {us:List Value},Vals xs us→Vals xs.reverse us.reverse
  | _,_,.nil=>.nil
  | _,_,.cons r t=>by
    rw [List.reverse_cons,List.reverse_cons]
    exact (vals_rev0 t).append (.cons r .nil)
def tRevT (K:PySem.W.Frag) (te:TE) (ts:TO):TE:=fun σ H Q=>te σ H fun x H1=>ts σ H1 fun o H2=>o = some (-1)∧∃ a xs,x = .ref a∧SqT K H2 a xs∧∀ p,H2 p = none→Q (.ref p) (upd H2 p (.tup xs.reverse))
theorem pe_revT {ts:TO} (he:PE X e te) (hs:PO X (some es) ts):PE X (.Subscript e (.Slice none none (some es) p2) pos) (tRevT X.K te ts):=by
  intro pins s σ H Q I h
  refine Subscript_ (thn (he pins s σ H _ I h) fun v s1 ⟨x,H1,I1,r1,q1⟩=>?_)
  refine wpAny_Slice ?_
  rw [evalPart_none]
  refine wpAny_pure (wpAny_pure ?_)
  refine thn (hs pins s1 σ H1 _ I1 q1) fun vs s3 ⟨o,H3,I3,pu,eo,a,xs,ex,hx,q⟩=>?_
  subst eo ex
  cases r1
  cases pu with
  | int i t =>
  have I4:Inv X pins σ H3 { s3 with heap:=s3.heap.push { cls:=.type "slice", data:=.fields #[.none,.none,.int (-1) t] } }:=I3.kept (t':=s3.toks) fun b ob q=>Heap.get?_push_of_some _ q
  obtain ⟨its,r,ht,hz⟩:=I4.tuple hx
  have hlen:its.toArray.size = xs.length:=by rw [List.size_toArray]; exact r.length.symm
  show wpAny (model X.prog X.w) X.A (subscriptTail e (.Slice none none (some es) p2) (.ref a) (.ref s3.heap.objs.size)) (EP X pins σ Q) X.xe { s3 with heap:=s3.heap.push { cls:=.type "slice", data:=.fields #[.none,.none,.int (-1) t] } }
  refine tail_any (ops:=[.ref a,.ref s3.heap.objs.size]) ht.typeIs PyProof.Rows.slot_tuple_getitem.lookup (HT.getItem_tuple_rev ht (Heap.IsSliceOf.new ..) ?_ (by rw [hlen]; exact hz)) (by with_unfolding_all rfl)
  refine ⟨.ref _,_,I4.laid (t':=s3.toks) (o:=.tup xs.reverse) (fun b ob q=>Heap.get?_push_of_some _ q) (Nat.le_refl _) ?_,rfl,q _ (I4.hok.fresh (Nat.le_refl _))⟩
  exact ⟨by rw [List.length_reverse]; exact hz,_,vals_rev0 r,IsTupN.new _ _⟩
end
end L2
set_option maxHeartbeats 4000000
namespace My
open PySem L2 PySem.W
abbrev sRunSort:Stmt:=top 18
theorem scRunSort:FnScope ["worker", "rows", "place", "found", "column", "greatest_first"] ["worker", "rows", "place"] (defScope sRunSort):=⟨rfl,rfl,rfl,by decide +kernel,rfl,by decide +kernel,by decide +kernel⟩
theorem takeOne {α:Type} {l:List α} {i:Nat} {x:α} (h:l[i]? = some x):l.take (i + 1) = l.take i ++ [x]:=by rw [List.take_succ,h]; rfl
structure OrdAt (H:Hp) (t:Addr) (bs:List Addr) (od:List (Int×Bool)):Prop where
  tup:H t = some (.tup (bs.map V.ref))
  len:bs.length = od.length
  at_:∀ (i:Nat) b p,bs[i]? = some b→od[i]? = some p→H b = some (.tup [.int p.1,.bl p.2])
def KindC (rs:List Row) (c:Int):Prop:=(∀ r ∈ rs,∃ i,colV r c = .int i)∨∀ r ∈ rs,∃ x,colV r c = .str x
theorem KindC.one {rs:List Row} {c:Int} (h:KindC rs c):OneK (rs.map fun r=>colV r c):=by
  rcases h with h | h
  · exact .inl fun k hk=>by obtain ⟨r,hr,rfl⟩:=List.mem_map.mp hk; exact h r hr
  · exact .inr fun k hk=>by obtain ⟨r,hr,rfl⟩:=List.mem_map.mp hk; exact h r hr
theorem KindC.sub {rs rs':List Row} {c:Int} (h:KindC rs c) (hs:∀ r ∈ rs',r ∈ rs):KindC rs' c:=h.imp (fun z r hr=>z r (hs r hr)) fun z r hr=>z r (hs r hr)
theorem sortIx_len (ks:List V):(sortIx ks).length = ks.length:=by
  unfold sortIx
  split
  · simp
  · obtain ⟨p,e,hB,_⟩:=StS.sort_run (ltK_wo ks) (N:=ks.length) (by omega)
    rw [e,Array.length_toList,hB.size]
theorem sortR_len (g:Bool) (c:Int) (rs:List Row):(sortR g c rs).length = rs.length:=by
  unfold sortR
  rw [kat_len,List.length_map,sortIx_len,kat_len,List.length_map]
theorem sortR_mem {g:Bool} {c:Int} {rs:List Row} {r:Row} (h:r ∈ sortR g c rs):r ∈ rs:=by
  unfold sortR at h
  obtain ⟨i,hi,rfl⟩:=List.mem_map.mp (mem_kr h)
  have hl:=sortIx_lt i hi
  rw [kat_len,List.length_map,← kat_len g rs] at hl
  refine mem_kr (b:=g) ?_
  rw [List.getD_eq_getElem?_getD,List.getElem?_eq_getElem hl]
  exact List.getElem_mem hl
def sortAll (od:List (Int×Bool)) (rs:List Row):List Row:=od.reverse.foldl (fun acc p=>sortR p.2 p.1 acc) rs
def sortPre (od:List (Int×Bool)) (rs:List Row) (i:Nat):List Row:=(od.reverse.take i).foldl (fun acc p=>sortR p.2 p.1 acc) rs
theorem sortPre_succ {od:List (Int×Bool)} {rs:List Row} {i:Nat} {p:Int×Bool} (h:od.reverse[i]? = some p):sortPre od rs (i + 1) = sortR p.2 p.1 (sortPre od rs i):=by
  unfold sortPre
  rw [takeOne h,List.foldl_append]
  rfl
theorem foldl_sortR {od:List (Int×Bool)}:∀ {rs:List Row},(od.foldl (fun acc p=>sortR p.2 p.1 acc) rs).length = rs.length∧∀ r ∈ od.foldl (fun acc p=>sortR p.2 p.1 acc) rs,r ∈ rs:=by
  induction od with
  | nil=>intro rs; exact ⟨rfl,fun _ h=>h⟩
  | cons p od ih =>
    intro rs
    have:=ih (rs:=sortR p.2 p.1 rs)
    exact ⟨this.1.trans (sortR_len _ _ _),fun r hr=>sortR_mem (this.2 r hr)⟩
def spRunSort (Pt:Addr):Sp:=fun vs H Q _=>∃ (w t l pl:Addr) (bs:List Addr) (od:List (Int×Bool)) (as:List Addr) (rs:List Row),vs = [.ref w,.ref l,.ref pl]∧H w = some (.tup [.str "sort", .ref t])∧OrdAt H t bs od∧TabAt H Pt qSB∧RowsAt H l as rs∧rs.length < 64 ∧
  od.length ≤ 1000∧(∀ p ∈ od,KindC rs p.1∧∀ r ∈ rs,1 ≤ p.1∧p.1 ≤ r.length) ∧
  ∀ (l':Addr) (as':List Addr) (H':Hp),GrowT Pt H H'→TabAt H' Pt qSB→RowsAt H' l' as' (sortAll od rs)→Q (.ref l') H'
theorem tabNe {H:Hp} {P:Addr} {qual:Str} {a:Addr} {o:HO} (T:TabAt H P qual) (h:H a = some o) (hn:∀ ps,o ≠ .tbl ps):a ≠ P:=fun z=>by
  obtain ⟨ps,e,_⟩:=T
  rw [z,e] at h
  cases h
  exact hn _ rfl
theorem growTrans {P:Addr} {H H1 H2:Hp} (a:GrowT P H H1) (b:GrowT P H1 H2):GrowT P H H2:=fun x o hx e=>b x o hx (a x o hx e)
section
variable {P:Program} {w:World} {K:PySem.W.Frag} {mg:Str→Option Value} {base:Heap} {f g1 c Pt:Addr} {fd d1:FuncData}
theorem ok_runsort (F:Fun K "run_sort" "run_sort" sRunSort f fd) (G:FnOk P w K mg base CX0 1 g1 d1 ["rows", "column", "greatest_first"] (spSortedBy Pt)) (bG:Binds K d1 ["rows", "column", "greatest_first"] []) (kG:PySem.W.keepIn K (.ref g1) = true) (mG:mg "sorted_by" = some (.ref g1)) :
    FnOk P w K mg base CX0 2 f fd ["worker", "rows", "place"] (spRunSort Pt):=by
  refine F.ok scRunSort (fun vs H Q E h=>?_) (fun cdv A outer s H vs Q E hr h=>?_)
  · obtain ⟨w,t,l,pl,bs,od,as,rs,rfl,_⟩:=h
    rfl
  obtain ⟨w,t,l,pl,bs,od,as,rs,rfl,hw,hO,T,hR,h64,hod,hk,q⟩:=h
  refine ⟨_,(pss_cons (ps_asg (pv 1) (pg_name (i:=3) scRunSort.nd rfl (Or.inl rfl)))
    (pss_cons (ps_for PassesOwn.never rfl (pi_tup (pe_revT (pe_ix (r:=rIxT K) ix_tup (pv 0) pe_int (fun _ _=>rfl)) (po_some (pe_un un_neg pe_int)))) (pg_tup rfl (pgs_cons (pg_name (i:=4) scRunSort.nd rfl (Or.inl rfl)) (pgs_cons (pg_name (i:=5) scRunSort.nd rfl (Or.inl rfl)) pgs_nil)))
        (pss_one (ps_asg (pe_call G hr rfl mG kG bG .nil pass0 (pa_cons (pv 3) (pa_cons (pv 4) (pa_cons (pv 5) pa_nil)))) (pg_name (i:=3) scRunSort.nd rfl (Or.inl rfl)))))
      (pss_one (ps_ret (pv 3))))),?_⟩
  refine ⟨_,rfl,gName_go ?_⟩
  dsimp only
  have nt:∀ {H':Hp},GrowT Pt H H'→∀ {a:Addr} {xs:List V},H a = some (.tup xs)→H' a = some (.tup xs):=fun {H'} gr {a xs} e=>gr a _ (tabNe T e fun _ z=>by cases z) e
  refine ⟨_,rfl,w,_,1,_,rfl,rfl,SqT.of hw,rfl,1,rfl,_,rfl,rfl,t,_,rfl,SqT.of hO.tup,fun p hp=>?_⟩
  have hpP:p ≠ Pt:=fun z=>by obtain ⟨ps,e,_⟩:=T; rw [z,e] at hp; cases hp
  have g0:GrowT Pt H (upd H p (.tup (bs.map V.ref).reverse)):=fun a o _ e=>by rw [upd_ne (ne_of_none e hp)]; exact e
  have T0:TabAt (upd H p (.tup (bs.map V.ref).reverse)) Pt qSB:=T.grow fun a o _ e=>by rw [upd_ne (ne_of_none e hp)]; exact e
  refine ⟨p,rfl,⟨_,SqT.of upd_same⟩,?_⟩
  have hlen:(bs.map V.ref).reverse.length = od.length:=by rw [List.length_reverse,List.length_map,hO.len]
  refine for_tup (xs:=(bs.map V.ref).reverse) (fun i σ H'=>(∃ o1 o2 l' as',σ = [some (.ref w),some (.ref l),some (.ref pl),some (.ref l'),o1,o2]∧RowsAt H' l' as' (sortPre od rs i))∧GrowT Pt (upd H p (.tup (bs.map V.ref).reverse)) H'∧TabAt H' Pt qSB)
    ⟨⟨none,none,l,as,rfl,⟨g0 _ _ (tabNe T hR.lst fun _ z=>by cases z) hR.lst,hR.len,fun i a r h1 h2=>nt g0 (hR.at_ i a r h1 h2)⟩⟩,fun _ _ _ e=>e,T0⟩ ?_ ?_ ?_
  · rintro i σ H' _ ⟨_,gr,_⟩
    exact SqT.of (gr _ _ hpP upd_same)
  · rintro i x σ H' hx ⟨⟨o1,o2,l',as',rfl,hR'⟩,gr,T'⟩
    have hp2:Paired (fun b q=>H b = some (.tup [.int q.1,.bl q.2])) bs.reverse od.reverse:=paired_rev (paired_of hO.len hO.at_)
    rw [← List.map_reverse,List.getElem?_map] at hx
    cases eb:bs.reverse[i]? with
    | none=>rw [eb] at hx; cases hx
    | some b =>
    rw [eb] at hx
    obtain rfl:V.ref b = x:=Option.some.inj hx
    have hi:i < od.reverse.length:=by rw [← paired_len hp2]; exact (List.getElem?_eq_some_iff.mp eb).1
    have ep:od.reverse[i]? = some od.reverse[i]:=List.getElem?_eq_getElem hi
    have hb:=nt (growTrans g0 gr) (paired_at hp2 i b _ eb ep)
    have hmem:od.reverse[i] ∈ od:=List.mem_reverse.mp (List.getElem_mem hi)
    generalize od.reverse[i] = pr at ep hb hmem
    obtain ⟨hlen2,hsub⟩:=foldl_sortR (od:=od.reverse.take i) (rs:=rs)
    refine ⟨b,_,rfl,SqT.of hb,rfl,_,_,rfl,gName_go ⟨_,_,rfl,gName_go ⟨rfl,?_⟩⟩⟩
    dsimp only
    refine ⟨_,rfl,_,rfl,_,rfl,l',pr.1,pr.2,as',_,rfl,T',hR',by show (sortPre od rs i).length < 64; unfold sortPre; rw [hlen2]; exact h64,fun r hr'=>(hk pr hmem).2 r (hsub r hr'),((hk pr hmem).1.sub hsub).one,fun l2 as2 H2 g2 _ T2 R2=>?_⟩
    refine gName_go ⟨⟨_,_,l2,as2,rfl,?_⟩,growTrans gr g2,T2⟩
    rw [sortPre_succ ep]
    exact R2
  · rintro σ H' ⟨⟨o1,o2,l',as',rfl,hR'⟩,gr,T'⟩
    refine ⟨_,rfl,q l' as' H' (growTrans g0 gr) T' ?_⟩
    rw [hlen] at hR'
    unfold sortPre at hR'
    rw [List.take_of_length_le (by rw [List.length_reverse]; exact Nat.le_refl _)] at hR'
    exact hR'
end
end My
set_option maxHeartbeats 4000000
namespace My
open PySem L2 PySem.W StS
def ltP (p:Int×Bool):Row→Row→Bool:=if p.2 = true then flp fun x y=>ltV (colV x p.1) (colV y p.1) else fun x y=>ltV (colV x p.1) (colV y p.1)
theorem ltP_wo (p:Int×Bool):WOr (ltP p):=by
  unfold ltP
  split
  · exact flp_wo (wor_of fun r=>colV r p.1)
  · exact wor_of fun r=>colV r p.1
def ltAll:List (Int×Bool)→Row→Row→Bool
  | []=>fun _ _=>false
  | p :: od=>lexO (ltP p) (ltAll od)
theorem ltAll_wo:∀ od,WOr (ltAll od)
  | []=>⟨fun _ _ h=>(by cases h),fun _ _ _ _ _=>rfl⟩
  | p :: od=>lexO_wo (ltP_wo p) (ltAll_wo od)
theorem sortAll_cons (p:Int×Bool) (od:List (Int×Bool)) (rs:List Row):sortAll (p :: od) rs = sortR p.2 p.1 (sortAll od rs):=by
  unfold sortAll
  rw [List.reverse_cons,List.foldl_append]
  rfl
theorem sortAll_stab (rs:List Row):∀ od,Stab (ltAll od) rs (sortAll od rs)
  | []=>⟨List.pairwise_of_forall fun _ _=>rfl,fun _=>rfl⟩
  | p :: od=>by
    rw [sortAll_cons]
    exact Stab.lex (ltP_wo p) (sortAll_stab rs od) (sortR_stab p.2 p.1 _)
theorem insAll_stab {α:Type} {lt:α→α→Bool} (W:WOr lt) (l:List α):Stab lt l (insAll lt l):=by
  have gen:∀ (r l S:List α),Stab lt l S→Stab lt (l ++ r) (r.foldl (fun acc x=>ins lt x acc) S):=by
    intro r
    induction r with
    | nil=>intro l S h; rw [List.append_nil]; exact h
    | cons x r ih =>
      intro l S h
      have:=ih (l ++ [x]) (ins lt x S) (h.snoc W)
      rw [List.append_assoc] at this
      exact this
  exact gen l [] [] ⟨.nil,fun _=>rfl⟩
theorem sortAll_ins (od:List (Int×Bool)) (rs:List Row):sortAll od rs = insAll (ltAll od) rs:=Stab.one (ltAll_wo od) (sortAll_stab rs od) (insAll_stab (ltAll_wo od) rs)
end My
set_option maxHeartbeats 4000000
namespace My
open PySem L2 PySem.W StS
def sameS (x y:V):Prop:=(∃ n m,x = .int n∧y = .int m)∨∃ a b,x = .str a∧y = .str b
theorem sameS.scal {x y:V} (h:sameS x y):scal x y = true:=by
  rcases h with ⟨n,m,rfl,rfl⟩ | ⟨a,b,rfl,rfl⟩ <;> rfl
def rLtV:R2:=fun x y H Q=>sameS x y∧Q (.bl (ltV x y)) H
theorem op_ltV {X:Cx}:OpR X (compareOp .Lt) rLtV:=by
  intro pins s σ H x y v u Q I rx ry h
  obtain ⟨hs,q⟩:=h
  rcases hs with ⟨n,m,rfl,rfl⟩ | ⟨a,b,rfl,rfl⟩
  · exact op_lt pins s σ H _ _ v u Q I rx ry ⟨n,m,rfl,rfl,q⟩
  · exact op_lt_str pins s σ H _ _ v u Q I rx ry ⟨a,b,rfl,rfl,q⟩
theorem cps_inj {a b:Str} (h:a.cps.toList = b.cps.toList):a = b:=by
  cases a with
  | mk x =>
  cases b with
  | mk y =>
  exact congrArg Str.mk (Array.toList_inj.mp h)
theorem ltV_tot {x y:V} (h:sameS x y) (hne:x ≠ y):ltV y x = !ltV x y:=by
  rcases h with ⟨n,m,rfl,rfl⟩ | ⟨a,b,rfl,rfl⟩
  · show decide (m < n) = !decide (n < m)
    have:n ≠ m:=fun z=>hne (by rw [z])
    by_cases c:n < m
    · rw [decide_eq_true c,decide_eq_false (by omega)]; rfl
    · rw [decide_eq_false c,decide_eq_true (by omega)]; rfl
  · show decide (b.cps.toList < a.cps.toList) = !decide (a.cps.toList < b.cps.toList)
    by_cases c:a.cps.toList < b.cps.toList
    · rw [decide_eq_true c,decide_eq_false (List.lt_asymm c)]; rfl
    · rw [decide_eq_false c]
      refine decide_eq_true ?_
      by_cases c2:b.cps.toList < a.cps.toList
      · exact c2
      · exact absurd (congrArg V.str (cps_inj (List.le_antisymm (List.not_lt.mp c2) (List.not_lt.mp c)))) hne
theorem ltV_irr (x:V):ltV x x = false:=by
  cases h:ltV x x with
  | false=>rfl
  | true=>exact h.symm.trans (ltV_asym h)
theorem ltAll_eq {p:Int×Bool} {od:List (Int×Bool)} {a b:Row} (h:colV a p.1 = colV b p.1):ltAll (p :: od) a b = ltAll od a b:=by
  show lexO (ltP p) (ltAll od) a b = _
  unfold lexO ltP flp
  split <;> (dsimp only; rw [h,ltV_irr]; simp)
theorem ltAll_ne {p:Int×Bool} {od:List (Int×Bool)} {a b:Row} (hs:sameS (colV a p.1) (colV b p.1)) (h:colV a p.1 ≠ colV b p.1):ltAll (p :: od) a b = !decide (V.bl (ltV (colV a p.1) (colV b p.1)) = V.bl p.2):=by
  show lexO (ltP p) (ltAll od) a b = _
  have t:=ltV_tot hs h
  unfold lexO ltP flp
  cases hp:p.2 <;> cases hl:ltV (colV a p.1) (colV b p.1) <;> rw [hl] at t <;> simp [hl,t]
abbrev sBefore:Stmt:=top 40
theorem scBefore:FnScope ["_law_one", "_law_other", "_law_order_here", "_law_column", "_law_is_falling"] ["_law_one", "_law_other", "_law_order_here"] (defScope sBefore):=⟨rfl,rfl,rfl,by decide +kernel,rfl,by decide +kernel,by decide +kernel⟩
def spBefore:Sp:=fun vs H Q _=>∃ (a b t:Addr) (bs:List Addr) (od:List (Int×Bool)) (r1 r2:Row),vs = [.ref a,.ref b,.ref t]∧H a = some (.tup r1)∧H b = some (.tup r2)∧OrdAt H t bs od∧(∀ p ∈ od,(1 ≤ p.1∧p.1 ≤ r1.length)∧(1 ≤ p.1∧p.1 ≤ r2.length)∧sameS (colV r1 p.1) (colV r2 p.1))∧Q (.bl (ltAll od r1 r2)) H
section
variable {P:Program} {w:World} {K:PySem.W.Frag} {mg:Str→Option Value} {base:Heap} {f:Addr} {fd:FuncData}
theorem ok_before (F:Fun K "_law_is_before" "_law_is_before" sBefore f fd):FnOk P w K mg base CX0 1 f fd ["_law_one", "_law_other", "_law_order_here"] spBefore:=by
  refine F.ok scBefore (fun vs H Q E h=>?_) (fun cdv A outer s H vs Q E hr h=>?_)
  · obtain ⟨a,b,t,bs,od,r1,r2,rfl,_⟩:=h
    rfl
  obtain ⟨a,b,t,bs,od,r1,r2,rfl,ha,hb,hO,hk,q⟩:=h
  refine ⟨_,(pss_cons (ps_for PassesOwn.never rfl (pi_tup (pv 2)) (pg_tup rfl (pgs_cons (pg_name (i:=3) scBefore.nd rfl (Or.inl rfl)) (pgs_cons (pg_name (i:=4) scBefore.nd rfl (Or.inl rfl)) pgs_nil)))
      (pss_one (ps_if (pt_cmpR op_ne (pe_ix (r:=rIxT K) ix_tup (pv 0) (pe_op op_sub (pv 3) pe_int) (fun _ _=>rfl)) (pe_ix (r:=rIxT K) ix_tup (pv 1) (pe_op op_sub (pv 3) pe_int) (fun _ _=>rfl)) (nomark _))
        (pss_one (ps_ret (pe_cmpR op_ne (pe_cmpR op_ltV (pe_ix (r:=rIxT K) ix_tup (pv 0) (pe_op op_sub (pv 3) pe_int) (fun _ _=>rfl)) (pe_ix (r:=rIxT K) ix_tup (pv 1) (pe_op op_sub (pv 3) pe_int) (fun _ _=>rfl)) (nomark _)) (pv 4) (nomark _)))) pss_nil)))
    (pss_one (ps_ret pe_bl))),?_⟩
  refine ⟨_,rfl,t,rfl,⟨_,SqT.of hO.tup⟩,?_⟩
  have hlen:(bs.map V.ref).length = od.length:=by rw [List.length_map,hO.len]
  refine for_tup (xs:=bs.map V.ref) (fun i σ H'=>(∃ o1 o2,σ = [some (.ref a),some (.ref b),some (.ref t),o1,o2])∧H = H'∧ltAll od r1 r2 = ltAll (od.drop i) r1 r2) ⟨⟨none,none,rfl⟩,rfl,rfl⟩ ?_ ?_ ?_
  · rintro i σ H' _ ⟨_,rfl,_⟩
    exact SqT.of hO.tup
  · rintro i x σ H' hx ⟨⟨o1,o2,rfl⟩,rfl,hn⟩
    rw [List.getElem?_map] at hx
    cases eb:bs[i]? with
    | none=>rw [eb] at hx; cases hx
    | some d =>
    rw [eb] at hx
    obtain rfl:V.ref d = x:=Option.some.inj hx
    have hi:i < od.length:=by rw [← hO.len]; exact (List.getElem?_eq_some_iff.mp eb).1
    have ep:od[i]? = some od[i]:=List.getElem?_eq_getElem hi
    have hd:=hO.at_ i d _ eb ep
    have hdrop:od.drop i = od[i] :: od.drop (i + 1):=List.drop_eq_getElem_cons hi
    obtain ⟨f1,f2,f3⟩:=hk _ (List.getElem_mem hi)
    revert ep hd hdrop f1 f2 f3
    generalize od[i] = p
    intro ep hd hdrop f1 f2 f3
    refine ⟨d,_,rfl,SqT.of hd,rfl,_,_,rfl,gName_go ⟨_,_,rfl,gName_go ⟨rfl,?_⟩⟩⟩
    dsimp only
    refine ⟨_,rfl,_,rfl,_,_,rfl,rfl,a,_,_,_,rfl,rfl,SqT.of ha,atI_col f1,_,rfl,_,rfl,_,_,rfl,rfl,b,_,_,_,rfl,rfl,SqT.of hb,atI_col f2,f3.scal,_,rfl,?_⟩
    refine ite2 (fun c=>?_) (fun c=>?_)
    · have c':colV r1 p.1 ≠ colV r2 p.1:=by
        have c2:(!decide (colV r1 p.1 = colV r2 p.1)) = true:=c
        simpa using c2
      refine ⟨_,rfl,_,rfl,_,_,rfl,rfl,a,_,_,_,rfl,rfl,SqT.of ha,atI_col f1,_,rfl,_,rfl,_,_,rfl,rfl,b,_,_,_,rfl,rfl,SqT.of hb,atI_col f2,f3,_,rfl,rfl,?_⟩
      rw [hn,hdrop,ltAll_ne f3 c'] at q
      exact q
    · have c':colV r1 p.1 = colV r2 p.1:=by
        have c2:¬ (!decide (colV r1 p.1 = colV r2 p.1)) = true:=c
        simpa using c2
      refine ⟨⟨_,_,rfl⟩,rfl,?_⟩
      rw [hn,hdrop,ltAll_eq c']
  · rintro σ H' ⟨_,rfl,hn⟩
    rw [hlen,List.drop_length] at hn
    rw [hn] at q
    exact q
end
end My
set_option maxHeartbeats 4000000
namespace TX
open PySem PySem.Builtin PySem.Builtin.Str PySem.StrLaws
end TX
set_option maxHeartbeats 4000000
namespace L2
open PySem PySem.Spec PyProof.Rows
section
variable {X:Cx}
theorem bools_at {bs:List Bool} {its:List Value} (r:Vals (bs.map V.bl) its) {i:Nat} {v:Value} (h:its.toArray[i]? = some v):∃ b,bs[i]? = some b∧v = .bool b:=by
  have h':its[i]? = some v:=by simpa using h
  have hi:=(List.getElem?_eq_some_iff.mp h').1
  have hb:i < bs.length:=by
    have:=r.length
    rw [List.length_map] at this
    omega
  obtain ⟨u,e,ru⟩:=r.get (i:=i) (x:=.bl bs[i]) (by rw [List.getElem?_map,List.getElem?_eq_getElem hb]; rfl)
  rw [h'] at e
  cases e
  exact ⟨bs[i],List.getElem?_eq_getElem hb,ru⟩
theorem range_any (bs:List Bool):(List.range bs.length).any (fun i=>bs.getD i true) = bs.any id:=by
  induction bs with
  | nil=>rfl
  | cons b r ih =>
    rw [List.length_cons,List.range_succ_eq_map,List.any_cons,List.any_map,List.any_cons]
    show (b || _) = (b || _)
    rw [← ih]
    rfl
theorem call_anyL (hc:X.calm = true):CallR X (.builtin "any") (fun xs H Q=>∃ (p:Addr) (bs:List Bool),xs = [.ref p]∧SqL X.K H p (bs.map V.bl)∧Q (.bl (bs.any id)) H):=by
  intro pins s σ H xs us Q I r h
  obtain ⟨p,bs,rfl,hS,q⟩:=h
  obtain ⟨u,rfl,ru⟩:=vals1 r
  cases ru
  obtain ⟨its,rv,pl,hz⟩:=I.list hS
  have hp:p < s.heap.objs.size:=by obtain ⟨o,e,_⟩:=pl.isList; exact Heap.lt_size e
  have hl:its.toArray.size = bs.length:=by have:=rv.length; rw [List.length_map] at this; simp [this]
  refine call_any_walk (wpAny_pyIter_list pl.isList ?_)
  refine ⟨s.heap.objs.size,_,_,_,_,_,fun i=>bs.getD i true,rfl,Walks.list (A:=X.A.in1) (I.ok.hd hc) _ p (Nat.ne_of_lt hp) its.toArray,⟨⟨_,Heap.get?_push_size _ rfl,rfl,rfl⟩,?_⟩,?_,fun h' tk hk=>?_⟩
  · obtain ⟨o,e,z⟩:=pl.isList
    exact ⟨o,Heap.get?_push_of_some _ e,z⟩
  · intro i v s' Q' E' hv hq
    obtain ⟨b,e,rfl⟩:=bools_at rv hv
    refine wpAny_truthy_bool ?_
    have:bs.getD i true = b:=by rw [List.getD_eq_getElem?_getD,e]; rfl
    rw [← this]
    exact hq
  · rw [hl,range_any]
    have I1:Inv X pins σ H { s with heap:=s.heap.push { cls:=.type "list_iterator", data:=.fields #[.ref p,.int 0 0] } }:=I.kept (t':=s.toks) fun b o e=>Heap.get?_push_of_some _ e
    have f:=I.fpOk (b:=s.heap.objs.size) (H':=H) (Nat.le_refl _) (I.hok.fresh (Nat.le_refl _))
    exact ⟨.bl _,H,I1.turned (fun b o hb e=>hk b o (by simpa using hb) e) f.1 f.2.1 f.2.2.2.1 f.2.2.2.2.1 f.2.2.2.2.2,rfl,q⟩
end
section
variable {X:Cx} {tg:Expr}
end
section
variable {g:TG} {tc:TT} {te:TE} {D:Addr} {Q:VK} {σ0:St} {H0:Hp}
end
end L2
set_option maxHeartbeats 4000000
namespace L2
open PySem PySem.Spec PyProof.Rows
section
variable {X:Cx}
def rInsert:V→List V→Hp→VK→Prop:=fun x vs H Q=>∃ l xs k y,x = .ref l∧vs = [.int k,y]∧H l = some (.lst xs)∧0 ≤ k∧k < 1000000∧xs.length < sizeLine∧Q .non (upd H l (.lst (xs.take k.toNat ++ y :: xs.drop k.toNat)))
theorem mt_insert:MtM X "list.insert" rInsert:=by
  intro pins s σ H x vs v us Q I rx rv h
  obtain ⟨l,xs,k,y,rfl,rfl,hH,h0,h1,hz,q⟩:=h
  cases rx
  obtain ⟨u1,u2,rfl,⟨t,rfl⟩,ru⟩:=vals2 rv
  obtain ⟨z,its,n,r,hl,e⟩:=I.lstM hH
  refine call_meets F.slot_list_insert ⟨_,e,rfl⟩ F.entry_list_insert (F.args_list_insert_3 _ _ _) (PySem.AutoSeq1.list_insert_list_int_val_1 l its.toArray n k t u2 (by rw [fitsIndex_both (by omega) (by omega)]; decide) (by rw [List.size_toArray]; omega)) ⟨e,?_⟩
  refine ⟨.non,_,I.lset (its':=its.take k.toNat ++ u2 :: its.drop k.toNat) hH e ?_ ((r.take _).append (.cons ru (r.drop _))) ?_,rfl,q⟩
  · have hm:∀ a:List Value,a.take (min k.toNat a.length) = a.take k.toNat∧a.drop (min k.toNat a.length) = a.drop k.toNat:=fun a=>by
      by_cases c:k.toNat ≤ a.length
      · rw [Nat.min_eq_left c]; exact ⟨rfl,rfl⟩
      · rw [Nat.min_eq_right (by omega),List.take_of_length_le (Nat.le_refl _),List.take_of_length_le (by omega),List.drop_of_length_le (Nat.le_refl _),List.drop_of_length_le (by omega)]; exact ⟨rfl,rfl⟩
    show ((its.toArray.extract 0 (if k < 0 then (k + ((its.toArray.size:Nat):Int)).toNat else min k.toNat its.toArray.size)).push u2 ++ its.toArray.extract (if k < 0 then (k + ((its.toArray.size:Nat):Int)).toNat else min k.toNat its.toArray.size)) = _
    rw [if_neg (by omega),List.size_toArray]
    apply Array.toList_inj.mp
    rw [Array.toList_append,Array.toList_push,Array.toList_extract,Array.toList_extract]
    simp only [List.extract_eq_take_drop,List.drop_zero,Nat.sub_zero,List.size_toArray]
    rw [(hm its).1,(hm its).2,List.take_of_length_le (l:=List.drop k.toNat its) (by rw [List.length_drop]; omega)]
    simp
  · rw [List.length_append,List.length_cons,List.length_take,List.length_drop]
    omega
end
end L2
set_option maxHeartbeats 4000000
namespace My
open PySem L2 PySem.W StS
theorem insAll_take {α:Type} {lt:α→α→Bool} {l:List α} {i:Nat} {x:α} (h:l[i]? = some x):insAll lt (l.take (i + 1)) = ins lt x (insAll lt (l.take i)):=by
  unfold insAll
  rw [takeOne h,List.foldl_append]
  rfl
theorem ins_len {α:Type} {lt:α→α→Bool} {x:α}:∀ {l:List α},(ins lt x l).length = l.length + 1
  | []=>rfl
  | y :: l=>by
    unfold ins
    split
    · rfl
    · rw [List.length_cons,ins_len,List.length_cons]
theorem insAll_len {α:Type} {lt:α→α→Bool} (l:List α):(insAll lt l).length = l.length:=by
  have gen:∀ (r S:List α),(r.foldl (fun acc x=>ins lt x acc) S).length = S.length + r.length:=by
    intro r
    induction r with
    | nil=>intro S; rfl
    | cons x r ih=>intro S; rw [List.foldl_cons,ih,ins_len,List.length_cons]; omega
  have:=gen l []
  simpa [insAll] using this
theorem stab_mem {α:Type} {lt:α→α→Bool} (W:WOr lt) {l S:List α} (h:Stab lt l S):∀ x ∈ S,x ∈ l:=fun x hx=>by
  have:x ∈ S.filter (eqv lt x):=List.mem_filter.mpr ⟨hx,W.eqr x⟩
  rw [h.cl x] at this
  exact (List.mem_filter.mp this).1
theorem KindC.same {rs:List Row} {c:Int} (h:KindC rs c) {x y:Row} (hx:x ∈ rs) (hy:y ∈ rs):sameS (colV x c) (colV y c):=by
  rcases h with h | h
  · obtain ⟨i,ei⟩:=h x hx
    obtain ⟨j,ej⟩:=h y hy
    exact .inl ⟨i,j,ei,ej⟩
  · obtain ⟨i,ei⟩:=h x hx
    obtain ⟨j,ej⟩:=h y hy
    exact .inr ⟨i,j,ei,ej⟩
theorem paired_take {α β:Type} {R:α→β→Prop} (n:Nat):∀ {xs:List α} {ys:List β},Paired R xs ys→Paired R (xs.take n) (ys.take n):=by
  induction n with
  | zero=>intro xs ys _; rw [List.take_zero,List.take_zero]; exact .nil
  | succ n ih =>
    intro xs ys h
    cases h with
    | nil=>exact .nil
    | cons r t=>rw [List.take_succ_cons,List.take_succ_cons]; exact .cons r (ih t)
theorem paired_drop {α β:Type} {R:α→β→Prop} (n:Nat):∀ {xs:List α} {ys:List β},Paired R xs ys→Paired R (xs.drop n) (ys.drop n):=by
  induction n with
  | zero=>intro xs ys h; exact h
  | succ n ih =>
    intro xs ys h
    cases h with
    | nil=>exact .nil
    | cons r t=>exact ih t
theorem paired_app {α β:Type} {R:α→β→Prop} {xs us:List α} {ys ws:List β} (p:Paired R xs ys) (q:Paired R us ws):Paired R (xs ++ us) (ys ++ ws):=by
  induction p with
  | nil=>exact q
  | cons r _ ih=>exact .cons r ih
theorem OrdAt.same {H H':Hp} {t:Addr} {bs:List Addr} {od:List (Int×Bool)} (s:Same H H') (h:OrdAt H t bs od):OrdAt H' t bs od:=⟨s _ _ h.tup,h.len,fun i b p e1 e2=>s _ _ (h.at_ i b p e1 e2)⟩
abbrev sLSorted:Stmt:=top 41
theorem scLSorted:FnScope ["_law_rows_here", "_law_order_here", "_law_found", "_law_row", "_law_at"] ["_law_rows_here", "_law_order_here"] (defScope sLSorted):=⟨rfl,rfl,rfl,by decide +kernel,rfl,by decide +kernel,by decide +kernel⟩
def spLSorted:Sp:=fun vs H Q _=>∃ (l t:Addr) (bs:List Addr) (od:List (Int×Bool)) (as:List Addr) (rs:List Row),vs = [.ref l,.ref t]∧OrdAt H t bs od∧RowsAt H l as rs∧rs.length ≤ 1000 ∧
  (∀ p ∈ od,KindC rs p.1∧∀ r ∈ rs,1 ≤ p.1∧p.1 ≤ r.length)∧∀ (l':Addr) (as':List Addr) (H':Hp),Same H H'→H l' = none→RowsAt H' l' as' (insAll (ltAll od) rs)→Q (.ref l') H'
section
variable {P:Program} {w:World} {K:PySem.W.Frag} {mg:Str→Option Value} {base:Heap} {f g1:Addr} {fd d1:FuncData}
theorem ok_lsorted (B:Blt mg) (F:Fun K "_law_sorted" "_law_sorted" sLSorted f fd) (G:FnOk P w K mg base CX0 1 g1 d1 ["_law_one", "_law_other", "_law_order_here"] spBefore) (bG:Binds K d1 ["_law_one", "_law_other", "_law_order_here"] []) (kG:PySem.W.keepIn K (.ref g1) = true) (mG:mg "_law_is_before" = some (.ref g1)) :
    FnOk P w K mg base CX0 2 f fd ["_law_rows_here", "_law_order_here"] spLSorted:=by
  refine F.ok scLSorted (fun vs H Q E h=>?_) (fun cdv A outer s H vs Q E hr h=>?_)
  · obtain ⟨l,t,bs,od,as,rs,rfl,_⟩:=h
    rfl
  obtain ⟨l,t,bs,od,as,rs,rfl,hO,hR,hz,hk,q⟩:=h
  refine ⟨_,(pss_cons (ps_set (i:=2) scLSorted.nd rfl (Or.inl rfl) (pe_lst pa_nil))
    (pss_cons (ps_for PassesOwn.never rfl (pi_list (pv 0)) (pg_name (i:=3) scLSorted.nd rfl (Or.inl rfl))
      (pss_cons (ps_set (i:=4) scLSorted.nd rfl (Or.inl rfl) (pe_callB call_len_seq rfl B.len PySem.boot_len (pa_cons (pv 2) pa_nil)))
      (pss_cons (ps_while PassesOwn.never (PW.pt (pw_and (pt_cmpR op_gt (pv 4) pe_int (nomark _)) (pw_and1 (pt_val (pe_call G hr rfl mG kG bG .nil pass0 (pa_cons (pv 3) (pa_cons (pe_ix (r:=rIxL K) ix_list (pv 2) (pe_op op_sub (pv 4) pe_int) (fun _ _=>rfl)) (pa_cons (pv 1) pa_nil))))))))
          (pss_one (ps_set (i:=4) scLSorted.nd rfl (Or.inl rfl) (pe_op op_sub (pv 4) pe_int))))
        (pss_one (ps_expr (pe_bm PySem.F.plainAttrs_list PySem.F.slot_list_insert PySem.F.type_list_insert mt_insert (pv 2) (pa_cons (pv 4) (pa_cons (pv 3) pa_nil))))))))
    (pss_one (ps_ret (pv 2))))),?_⟩
  refine ⟨Nat.zero_le _,fun D hD=>gName_go ?_⟩
  have sm0:Same H (upd H D (.lst [])):=same_new hD _
  refine ⟨_,rfl,l,rfl,⟨_,SqL.of (sm0 _ _ hR.lst)⟩,?_⟩
  have hl:(as.map V.ref).length = rs.length:=by rw [List.length_map,hR.len]
  have W:=ltAll_wo od
  refine for_list (xs:=as.map V.ref) (fun i σ H'=>(∃ o1 o2,σ = [some (.ref l),some (.ref t),some (.ref D),o1,o2])∧(∃ us:List Addr,H' D = some (.lst (us.map V.ref))∧Found H' us (insAll (ltAll od) (rs.take i)))∧Same H H')
    ⟨⟨none,none,rfl⟩,⟨[],upd_same,Found.nil⟩,sm0⟩ ?_ ?_ ?_
  · rintro i σ H' _ ⟨_,_,sm⟩
    exact SqL.of (sm _ _ hR.lst)
  · rintro i x σ H' hx ⟨⟨o1,o2,rfl⟩,⟨us,hus,hF⟩,sm⟩
    obtain ⟨a,r,rfl,er,har⟩:=hR.get hx
    have hrm:=List.mem_of_getElem? er
    have st:=insAll_stab W (rs.take i)
    have hlen:=insAll_len (lt:=ltAll od) (rs.take i)
    rw [List.length_take] at hlen
    rw [insAll_take er]
    have hsub:∀ y ∈ insAll (ltAll od) (rs.take i),y ∈ rs:=fun y hy=>List.mem_of_mem_take (stab_mem W st y hy)
    revert st hlen hsub hF
    generalize insAll (ltAll od) (rs.take i) = S
    intro hF st hlen hsub
    have hul:=hF.len
    refine gName_go ?_
    dsimp only
    refine ⟨_,rfl,D,_,rfl,.inl (SqL.of hus),gName_go ?_⟩
    dsimp only
    refine ⟨fun m σ H2=>H' = H2∧m ≤ S.length∧σ = [some (.ref l),some (.ref t),some (.ref D),some (.ref a),some (.int (m:Nat))]∧∀ y,S[m]? = some y→ltAll od r y = true,
      ⟨S.length,rfl,Nat.le_refl _,by rw [List.length_map,hul]; rfl,fun y e=>by rw [List.getElem?_eq_none (Nat.le_refl _)] at e; cases e⟩,?_⟩
    rintro m σ H2 ⟨rfl,hm,rfl,hy⟩
    have fin:(0 < m→∀ y,S[m - 1]? = some y→ltAll od r y = false) →
        (∃ o1 o2,[some (V.ref l),some (.ref t),some (.ref D),some (.ref a),some (.int (m:Nat))] = [some (V.ref l),some (.ref t),some (.ref D),o1,o2]) ∧
        (∃ us':List Addr,(upd H' D (.lst ((us.map V.ref).take (m:Int).toNat ++ V.ref a :: (us.map V.ref).drop (m:Int).toNat))) D = some (.lst (us'.map V.ref))∧Found (upd H' D (.lst ((us.map V.ref).take (m:Int).toNat ++ V.ref a :: (us.map V.ref).drop (m:Int).toNat))) us' (ins (ltAll od) r S)) ∧
        Same H (upd H' D (.lst ((us.map V.ref).take (m:Int).toNat ++ V.ref a :: (us.map V.ref).drop (m:Int).toNat))):=by
      intro h1
      have e1:=ins_at W m st.up hm h1 hy
      refine ⟨⟨_,_,rfl⟩,⟨us.take m ++ a :: us.drop m,?_,?_⟩,same_put hD sm⟩
      · rw [upd_same,List.map_append,List.map_cons,List.map_take,List.map_drop]
        rfl
      · have hp:Paired (fun b r'=>(upd H' D (.lst ((us.map V.ref).take (m:Int).toNat ++ V.ref a :: (us.map V.ref).drop (m:Int).toNat))) b = some (.tup r')) us S:=paired_of hul fun i b r' h1 h2=>tup_upd hus _ _ (hF.at_ i b r' h1 h2)
        have hp2:=paired_app (paired_take m hp) (.cons (tup_upd hus _ _ (sm _ _ har)) (paired_drop m hp))
        rw [e1]
        exact ⟨paired_len hp2,paired_at hp2⟩
    have sz:us.length < sizeLine:=Nat.lt_of_le_of_lt (show us.length ≤ 1000 by rw [hul,hlen]; omega) (by decide)
    have hm3:m ≤ 1000:=Nat.le_trans hm (by rw [hlen]; omega)
    refine ⟨_,rfl,_,_,rfl,rfl,_,rfl,?_⟩
    refine ite2 (fun c=>?_) (fun c=>?_)
    · have c':(0:Int) < (m:Nat):=of_decide_eq_true c
      have hm0:0 < m:=by omega
      have hm1:m - 1 < S.length:=by omega
      have hm2:m - 1 < us.length:=by rw [hul]; exact hm1
      have ey:S[m - 1]? = some S[m - 1]:=List.getElem?_eq_getElem hm1
      have eu:us[m - 1]? = some us[m - 1]:=List.getElem?_eq_getElem hm2
      have hb:=hF.at_ _ _ _ eu ey
      have hym:=hsub _ (List.getElem_mem hm1)
      revert ey eu hb hym
      generalize S[m - 1] = y
      generalize us[m - 1] = b
      intro ey eu hb hym
      have eat:atI (us.map V.ref) ((m:Nat) - 1:Int) = some (.ref b):=by
        rw [show ((m:Nat) - 1:Int) = ((m - 1:Nat):Int) by omega]
        exact atI_nat (by rw [List.getElem?_map,eu]; rfl)
      refine ⟨_,rfl,_,rfl,_,rfl,_,_,rfl,rfl,D,_,_,_,rfl,rfl,SqL.of hus,eat,_,rfl,a,b,t,bs,od,r,y,rfl,sm _ _ har,hb,hO.same sm,fun p hp=>⟨(hk p hp).2 r hrm,(hk p hp).2 y hym,(hk p hp).1.same hrm hym⟩,_,rfl,?_⟩
      refine ite2 (fun c2=>?_) (fun c2=>?_)
      · refine ⟨fun σ' H2=>H' = H2∧σ' = [some (.ref l),some (.ref t),some (.ref D),some (.ref a),some (.int ((m - 1:Nat):Int))],fun σ' H2 ⟨e1,e2⟩=>⟨m - 1,by omega,e1,by omega,e2,fun y' ey'=>?_⟩,?_⟩
        · rw [ey] at ey'
          rw [← Option.some.inj ey']
          exact c2
        · refine ⟨_,rfl,_,_,rfl,rfl,gName_go ⟨rfl,?_⟩⟩
          show [some (V.ref l),some (.ref t),some (.ref D),some (.ref a),some (.int ((m:Nat) - 1:Int))] = _
          rw [show ((m:Nat) - 1:Int) = ((m - 1:Nat):Int) by omega]
      · refine ⟨_,rfl,.inl ⟨rfl,_,SqL.of hus⟩,_,rfl,_,rfl,D,_,(m:Nat),.ref a,rfl,rfl,hus,by omega,by omega,by rw [List.length_map]; exact sz,fin fun _ y' ey'=>?_⟩
        rw [ey] at ey'
        rw [← Option.some.inj ey']
        simpa using c2
    · have c':¬ (0:Int) < (m:Nat):=fun z=>c (decide_eq_true z)
      exact ⟨_,rfl,.inl ⟨rfl,_,SqL.of hus⟩,_,rfl,_,rfl,D,_,(m:Nat),.ref a,rfl,rfl,hus,by omega,by omega,by rw [List.length_map]; exact sz,fin fun z=>absurd z (by omega)⟩
  · rintro σ H' ⟨⟨o1,o2,rfl⟩,⟨us,hus,hF⟩,sm⟩
    rw [hl,List.take_length] at hF
    exact ⟨_,rfl,q D us H' sm hD ⟨hus,hF.len,hF.at_⟩⟩
end
end My
set_option maxHeartbeats 4000000
namespace My
open PySem L2 PySem.W StS
abbrev sRunFirst:Stmt:=top 24
theorem scRunFirst:FnScope ["worker", "rows", "place"] ["worker", "rows", "place"] (defScope sRunFirst):=⟨rfl,rfl,rfl,by decide +kernel,rfl,by decide +kernel,by decide +kernel⟩
def spRunFirst:Sp:=fun vs H Q _=>∃ (w l pl:Addr) (n:Nat) (as:List Addr) (rs:List Row),vs = [.ref w,.ref l,.ref pl]∧H w = some (.tup [.str "first", .int (n:Nat)])∧RowsAt H l as rs ∧
  ∀ (l':Addr) (as':List Addr) (H':Hp),Same H H'→H l' = none→RowsAt H' l' as' (rs.take n)→Q (.ref l') H'
theorem cutV_take (xs:List V) (n:Nat):cutV xs none (some (n:Int)) = xs.take n:=by
  unfold cutV
  rw [HT.sIx_none,HT.sIx_nat,List.drop_zero,Nat.sub_zero]
  by_cases h:n ≤ xs.length
  · rw [Nat.min_eq_left h]
  · rw [Nat.min_eq_right (by omega),List.take_length,List.take_of_length_le (by omega)]
section
variable {P:Program} {w:World} {K:PySem.W.Frag} {mg:Str→Option Value} {base:Heap} {f:Addr} {fd:FuncData}
theorem ok_runfirst (B:Blt mg) (F:Fun K "run_first" "run_first" sRunFirst f fd):FnOk P w K mg base CX0 1 f fd ["worker", "rows", "place"] spRunFirst:=by
  refine F.ok scRunFirst (fun vs H Q E h=>?_) (fun cdv A outer s H vs Q E hr h=>?_)
  · obtain ⟨w,l,pl,n,as,rs,rfl,_⟩:=h
    rfl
  obtain ⟨w,l,pl,n,as,rs,rfl,hw,hR,q⟩:=h
  refine ⟨_,pss_one (ps_ret (pe_slice sl_list (pv 1) po_none (po_some (pe_callB (call_max2 rfl) rfl B.max PyProof.Rows.boot_max (pa_cons (pe_ix (r:=rIxT K) ix_tup (pv 0) pe_int (fun _ _=>rfl)) (pa_cons pe_int pa_nil)))))),?_⟩
  refine ⟨_,rfl,_,rfl,w,_,_,_,rfl,rfl,SqT.of hw,rfl,_,_,rfl,_,rfl,l,_,rfl,SqL.of hR.lst,fun p hp=>?_⟩
  have e:(if (0:Int) > (n:Nat) then (0:Int) else (n:Nat)) = (n:Nat):=if_neg (by omega)
  rw [e,cutV_take]
  have hp2:Paired (fun a r=>H a = some (.tup r)) as rs:=paired_of hR.len hR.at_
  have hp3:=paired_take n hp2
  refine q p (as.take n) _ (same_new hp _) hp ⟨by rw [upd_same,List.map_take],paired_len hp3,fun i a r h1 h2=>same_new hp _ _ _ (paired_at hp3 i a r h1 h2)⟩
end
end My
namespace L2
open PySem PySem.Spec PyProof.Rows
inductive D where
  | int (i:Int) | str (x:Str) | non | bl (b:Bool) | tup (ds:List D) | lst (ds:List D)
deriving Inhabited
mutual
def DAt (K:PySem.W.Frag) (H:Hp):D→V→Prop
  | .int i,v=>v = .int i
  | .str x,v=>v = .str x
  | .non,v=>v = .non
  | .bl b,v=>v = .bl b
  | .tup ds,v=>∃ a vs,v = .ref a∧SqT K H a vs∧DsAt K H ds vs
  | .lst ds,v=>∃ a vs,v = .ref a∧H a = some (.lst vs)∧DsAt K H ds vs
def DsAt (K:PySem.W.Frag) (H:Hp):List D→List V→Prop
  | [],vs=>vs = []
  | d :: ds,vs=>∃ v r,vs = v :: r∧DAt K H d v∧DsAt K H ds r
end
mutual
def D.depth:D→Nat
  | .tup ds=>1 + depths ds
  | .lst ds=>1 + depths ds
  | _=>0
def depths:List D→Nat
  | []=>0
  | d :: ds=>max d.depth (depths ds)
end
def bI (b:Bool):Int:=if b then 1 else 0
mutual
def eqD:D→D→Bool
  | .int i,.int j=>i == j
  | .int i,.bl b=>i == bI b
  | .bl b,.int j=>bI b == j
  | .bl b,.bl c=>b == c
  | .str x,.str y=>x == y
  | .non,.non=>true
  | .tup ds,.tup es=>eqDs ds es
  | .lst ds,.lst es=>eqDs ds es
  | _,_=>false
def eqDs:List D→List D→Bool
  | [],[]=>true
  | d :: ds,e :: es=>eqD d e && eqDs ds es
  | _,_=>false
end
mutual
theorem eqD_self:∀ d:D,eqD d d = true
  | .int i=>by simp [eqD]
  | .str x=>by simp [eqD]
  | .non=>by simp [eqD]
  | .bl b=>by simp [eqD]
  | .tup ds=>by rw [eqD]; exact eqDs_self ds
  | .lst ds=>by rw [eqD]; exact eqDs_self ds
theorem eqDs_self:∀ ds:List D,eqDs ds ds = true
  | []=>by simp [eqDs]
  | d :: ds=>by rw [eqDs,eqD_self d,eqDs_self ds]; rfl
end
section
variable {K:PySem.W.Frag} {H:Hp}
theorem DsAt.length:∀ {ds:List D} {vs:List V},DsAt K H ds vs→ds.length = vs.length
  | [],vs,h=>by rw [DsAt] at h; rw [h]; rfl
  | d :: ds,vs,h=>by
    rw [DsAt] at h
    obtain ⟨v,r,rfl,_,h⟩:=h
    rw [List.length_cons,List.length_cons,DsAt.length h]
theorem DsAt.get:∀ {ds:List D} {vs:List V} {i:Nat} {v:V},DsAt K H ds vs→vs[i]? = some v→∃ d,ds[i]? = some d∧DAt K H d v
  | [],vs,i,v,h,e=>by rw [DsAt] at h; rw [h] at e; cases e
  | d :: ds,vs,i,v,h,e=>by
    rw [DsAt] at h
    obtain ⟨u,r,rfl,h1,h2⟩:=h
    cases i with
    | zero=>cases e; exact ⟨d,rfl,h1⟩
    | succ i=>obtain ⟨d',e1,e2⟩:=DsAt.get (i:=i) h2 e; exact ⟨d',e1,e2⟩
theorem DsAt.of:∀ {ds:List D} {vs:List V},ds.length = vs.length→(∀ (i:Nat) d v,ds[i]? = some d→vs[i]? = some v→DAt K H d v)→DsAt K H ds vs
  | [],[],_,_=>by rw [DsAt]
  | [],v :: vs,h,_=>by cases h
  | d :: ds,[],h,_=>by cases h
  | d :: ds,v :: vs,h,k=>by
    rw [DsAt]
    exact ⟨v,vs,rfl,k 0 d v rfl rfl,DsAt.of (by simpa using h) fun i d v e1 e2=>k (i + 1) d v e1 e2⟩
theorem DsAt.cons {d:D} {v:V} {ds:List D} {vs:List V} (h1:DAt K H d v) (h2:DsAt K H ds vs):DsAt K H (d :: ds) (v :: vs):=by rw [DsAt]; exact ⟨v,vs,rfl,h1,h2⟩
theorem DsAt.nil:DsAt K H [] []:=by rw [DsAt]
end
theorem eqDs_len:∀ {ds es:List D},ds.length ≠ es.length→eqDs ds es = false
  | [],[],h=>absurd rfl h
  | [],_ :: _,_=>by rw [eqDs]; all_goals simp
  | _ :: _,[],_=>by rw [eqDs]; all_goals simp
  | d :: ds,e :: es,h=>by rw [eqDs,eqDs_len (by simpa using h),Bool.and_false]
theorem eqDs_all:∀ {ds es:List D},ds.length = es.length→(List.range ds.length).all (fun j=>eqD (ds.getD j .non) (es.getD j .non)) = eqDs ds es
  | [],[],_=>by rw [eqDs]; rfl
  | d :: ds,e :: es,h=>by
    rw [eqDs,List.length_cons,List.range_succ_eq_map,List.all_cons,List.all_map,← eqDs_all (by simpa using h)]
    rfl
  | [],_ :: _,h=>by cases h
  | _ :: _,[],h=>by cases h
theorem eqDs_min {ds es:List D}:((List.range (min ds.length es.length)).all (fun j=>eqD (ds.getD j .non) (es.getD j .non)) && ds.length == es.length) = eqDs ds es:=by
  by_cases h:ds.length = es.length
  · rw [← eqDs_all h,h,Nat.min_self]; simp
  · rw [eqDs_len h,beq_eq_false_iff_ne.mpr h,Bool.and_false]
theorem depths_mem:∀ {ds:List D} {i:Nat} {d:D},ds[i]? = some d→d.depth ≤ depths ds
  | [],i,d,e=>by cases e
  | d' :: ds,0,d,e=>by cases e; rw [depths]; exact Nat.le_max_left _ _
  | d' :: ds,i + 1,d,e=>by rw [depths]; exact Nat.le_trans (depths_mem (i:=i) (by simpa using e)) (Nat.le_max_right _ _)
section
variable {X:Cx} {pins:List (Addr×Obj)} {σ:St} {H:Hp} {s:Shared}
theorem getD_of {ds:List D} {j:Nat} {d:D} (h:ds[j]? = some d):ds.getD j .non = d:=by rw [List.getD_eq_getElem?_getD,h]; rfl
def both (A:Around) (s:Shared) (u v:Value) (b:Bool):Prop:=SeqAt.EqAt A s u v b∧SeqAt.RcAt A s u v b∧SeqAt.RcNeAt A s u v (!b)
def seqs:D→D→Bool
  | .tup _,.tup _=>true
  | .lst _,.lst _=>true
  | _,_=>false
theorem both_mixed (I:Inv X pins σ H s) {A:Around} (hu:A.units < cLine):∀ {d e:D} {x y:V} {u v:Value},seqs d e = false→DAt X.K H d x→DAt X.K H e y→RelV x u→RelV y v→both A s u v (eqD d e)
  | .int i,.int j,x,y,u,v,hs,h1,h2,r1,r2=>by
    rw [DAt] at h1; subst h1; obtain ⟨t,rfl⟩:=r1
    rw [DAt] at h2; subst h2; obtain ⟨w,rfl⟩:=r2
    rw [eqD]
    exact ⟨.int_int i t j w,.int_int i t j w,.int_int i t j w⟩
  | .int i,.str j,x,y,u,v,hs,h1,h2,r1,r2=>by
    rw [DAt] at h1; subst h1; obtain ⟨t,rfl⟩:=r1
    rw [DAt] at h2; subst h2; obtain ⟨w,rfl⟩:=r2
    rw [show eqD (.int i) (.str j) = false by simp [eqD]]
    exact ⟨.int_str i t j w,.int_str i t j w,.int_str i t j w⟩
  | .int i,.non,x,y,u,v,hs,h1,h2,r1,r2=>by
    rw [DAt] at h1; subst h1; obtain ⟨t,rfl⟩:=r1
    rw [DAt] at h2; subst h2; cases r2
    rw [show eqD (.int i) (.non) = false by simp [eqD]]
    exact ⟨.int_none i t , .int_none i t , .int_none i t ⟩
  | .int i,.bl j,x,y,u,v,hs,h1,h2,r1,r2=>by
    rw [DAt] at h1; subst h1; obtain ⟨t,rfl⟩:=r1
    rw [DAt] at h2; subst h2; cases r2
    rw [eqD]
    exact ⟨.int_bool i t j,.int_bool i t j,.int_bool i t j⟩
  | .int i,.tup j,x,y,u,v,hs,h1,h2,r1,r2=>by
    rw [DAt] at h1; subst h1; obtain ⟨t,rfl⟩:=r1
    rw [DAt] at h2; obtain ⟨aw,vsw,rfl,q2,_⟩:=h2; cases r2; obtain ⟨itsw,rrw,pw,_⟩:=I.tuple q2
    rw [show eqD (.int i) (.tup j) = false by simp [eqD]]
    exact ⟨.int_tuple i t pw hu,.int_tuple i t pw hu,.int_tuple i t pw hu⟩
  | .int i,.lst j,x,y,u,v,hs,h1,h2,r1,r2=>by
    rw [DAt] at h1; subst h1; obtain ⟨t,rfl⟩:=r1
    rw [DAt] at h2; obtain ⟨aw,vsw,rfl,q2,_⟩:=h2; cases r2; obtain ⟨itsw,rrw,ppw,_⟩:=I.list (SqL.of q2); have pw:=ppw.isList
    rw [show eqD (.int i) (.lst j) = false by simp [eqD]]
    exact ⟨.int_list i t pw hu,.int_list i t pw hu,.int_list i t pw hu⟩
  | .str i,.int j,x,y,u,v,hs,h1,h2,r1,r2=>by
    rw [DAt] at h1; subst h1; obtain ⟨t,rfl⟩:=r1
    rw [DAt] at h2; subst h2; obtain ⟨w,rfl⟩:=r2
    rw [show eqD (.str i) (.int j) = false by simp [eqD]]
    exact ⟨.str_int i t j w,.str_int i t j w,.str_int i t j w⟩
  | .str i,.str j,x,y,u,v,hs,h1,h2,r1,r2=>by
    rw [DAt] at h1; subst h1; obtain ⟨t,rfl⟩:=r1
    rw [DAt] at h2; subst h2; obtain ⟨w,rfl⟩:=r2
    rw [eqD]
    exact ⟨.str_str i t j w,.str_str i t j w,.str_str i t j w⟩
  | .str i,.non,x,y,u,v,hs,h1,h2,r1,r2=>by
    rw [DAt] at h1; subst h1; obtain ⟨t,rfl⟩:=r1
    rw [DAt] at h2; subst h2; cases r2
    rw [show eqD (.str i) (.non) = false by simp [eqD]]
    exact ⟨.str_none i t , .str_none i t , .str_none i t ⟩
  | .str i,.bl j,x,y,u,v,hs,h1,h2,r1,r2=>by
    rw [DAt] at h1; subst h1; obtain ⟨t,rfl⟩:=r1
    rw [DAt] at h2; subst h2; cases r2
    rw [show eqD (.str i) (.bl j) = false by simp [eqD]]
    exact ⟨.str_bool i t j,.str_bool i t j,.str_bool i t j⟩
  | .str i,.tup j,x,y,u,v,hs,h1,h2,r1,r2=>by
    rw [DAt] at h1; subst h1; obtain ⟨t,rfl⟩:=r1
    rw [DAt] at h2; obtain ⟨aw,vsw,rfl,q2,_⟩:=h2; cases r2; obtain ⟨itsw,rrw,pw,_⟩:=I.tuple q2
    rw [show eqD (.str i) (.tup j) = false by simp [eqD]]
    exact ⟨.str_tuple i t pw hu,.str_tuple i t pw hu,.str_tuple i t pw hu⟩
  | .str i,.lst j,x,y,u,v,hs,h1,h2,r1,r2=>by
    rw [DAt] at h1; subst h1; obtain ⟨t,rfl⟩:=r1
    rw [DAt] at h2; obtain ⟨aw,vsw,rfl,q2,_⟩:=h2; cases r2; obtain ⟨itsw,rrw,ppw,_⟩:=I.list (SqL.of q2); have pw:=ppw.isList
    rw [show eqD (.str i) (.lst j) = false by simp [eqD]]
    exact ⟨.str_list i t pw hu,.str_list i t pw hu,.str_list i t pw hu⟩
  | .non,.int j,x,y,u,v,hs,h1,h2,r1,r2=>by
    rw [DAt] at h1; subst h1; cases r1
    rw [DAt] at h2; subst h2; obtain ⟨w,rfl⟩:=r2
    rw [show eqD (.non) (.int j) = false by simp [eqD]]
    exact ⟨.none_int  j w,.none_int  j w,.none_int  j w⟩
  | .non,.str j,x,y,u,v,hs,h1,h2,r1,r2=>by
    rw [DAt] at h1; subst h1; cases r1
    rw [DAt] at h2; subst h2; obtain ⟨w,rfl⟩:=r2
    rw [show eqD (.non) (.str j) = false by simp [eqD]]
    exact ⟨.none_str  j w,.none_str  j w,.none_str  j w⟩
  | .non,.non,x,y,u,v,hs,h1,h2,r1,r2=>by
    rw [DAt] at h1; subst h1; cases r1
    rw [DAt] at h2; subst h2; cases r2
    rw [eqD]
    exact ⟨.same _,.none_none,.none_none⟩
  | .non,.bl j,x,y,u,v,hs,h1,h2,r1,r2=>by
    rw [DAt] at h1; subst h1; cases r1
    rw [DAt] at h2; subst h2; cases r2
    rw [show eqD (.non) (.bl j) = false by simp [eqD]]
    exact ⟨.none_bool  j,.none_bool  j,.none_bool  j⟩
  | .non,.tup j,x,y,u,v,hs,h1,h2,r1,r2=>by
    rw [DAt] at h1; subst h1; cases r1
    rw [DAt] at h2; obtain ⟨aw,vsw,rfl,q2,_⟩:=h2; cases r2; obtain ⟨itsw,rrw,pw,_⟩:=I.tuple q2
    rw [show eqD (.non) (.tup j) = false by simp [eqD]]
    exact ⟨.none_tuple  pw hu,.none_tuple  pw hu,.none_tuple  pw hu⟩
  | .non,.lst j,x,y,u,v,hs,h1,h2,r1,r2=>by
    rw [DAt] at h1; subst h1; cases r1
    rw [DAt] at h2; obtain ⟨aw,vsw,rfl,q2,_⟩:=h2; cases r2; obtain ⟨itsw,rrw,ppw,_⟩:=I.list (SqL.of q2); have pw:=ppw.isList
    rw [show eqD (.non) (.lst j) = false by simp [eqD]]
    exact ⟨.none_list  pw hu,.none_list  pw hu,.none_list  pw hu⟩
  | .bl i,.int j,x,y,u,v,hs,h1,h2,r1,r2=>by
    rw [DAt] at h1; subst h1; cases r1
    rw [DAt] at h2; subst h2; obtain ⟨w,rfl⟩:=r2
    rw [eqD]
    exact ⟨.bool_int i j w,.bool_int i j w,.bool_int i j w⟩
  | .bl i,.str j,x,y,u,v,hs,h1,h2,r1,r2=>by
    rw [DAt] at h1; subst h1; cases r1
    rw [DAt] at h2; subst h2; obtain ⟨w,rfl⟩:=r2
    rw [show eqD (.bl i) (.str j) = false by simp [eqD]]
    exact ⟨.bool_str i j w,.bool_str i j w,.bool_str i j w⟩
  | .bl i,.non,x,y,u,v,hs,h1,h2,r1,r2=>by
    rw [DAt] at h1; subst h1; cases r1
    rw [DAt] at h2; subst h2; cases r2
    rw [show eqD (.bl i) (.non) = false by simp [eqD]]
    exact ⟨.bool_none i , .bool_none i , .bool_none i ⟩
  | .bl i,.bl j,x,y,u,v,hs,h1,h2,r1,r2=>by
    rw [DAt] at h1; subst h1; cases r1
    rw [DAt] at h2; subst h2; cases r2
    rw [eqD]
    exact ⟨.bool_bool i j,.bool_bool i j,.bool_bool i j⟩
  | .bl i,.tup j,x,y,u,v,hs,h1,h2,r1,r2=>by
    rw [DAt] at h1; subst h1; cases r1
    rw [DAt] at h2; obtain ⟨aw,vsw,rfl,q2,_⟩:=h2; cases r2; obtain ⟨itsw,rrw,pw,_⟩:=I.tuple q2
    rw [show eqD (.bl i) (.tup j) = false by simp [eqD]]
    exact ⟨.bool_tuple i pw hu,.bool_tuple i pw hu,.bool_tuple i pw hu⟩
  | .bl i,.lst j,x,y,u,v,hs,h1,h2,r1,r2=>by
    rw [DAt] at h1; subst h1; cases r1
    rw [DAt] at h2; obtain ⟨aw,vsw,rfl,q2,_⟩:=h2; cases r2; obtain ⟨itsw,rrw,ppw,_⟩:=I.list (SqL.of q2); have pw:=ppw.isList
    rw [show eqD (.bl i) (.lst j) = false by simp [eqD]]
    exact ⟨.bool_list i pw hu,.bool_list i pw hu,.bool_list i pw hu⟩
  | .tup i,.int j,x,y,u,v,hs,h1,h2,r1,r2=>by
    rw [DAt] at h1; obtain ⟨a_t,vst,rfl,q1,_⟩:=h1; cases r1; obtain ⟨itst,rrt,pt,_⟩:=I.tuple q1
    rw [DAt] at h2; subst h2; obtain ⟨w,rfl⟩:=r2
    rw [show eqD (.tup i) (.int j) = false by simp [eqD]]
    exact ⟨.tuple_int j w pt hu,.tuple_int j w pt hu,.tuple_int j w pt hu⟩
  | .tup i,.str j,x,y,u,v,hs,h1,h2,r1,r2=>by
    rw [DAt] at h1; obtain ⟨a_t,vst,rfl,q1,_⟩:=h1; cases r1; obtain ⟨itst,rrt,pt,_⟩:=I.tuple q1
    rw [DAt] at h2; subst h2; obtain ⟨w,rfl⟩:=r2
    rw [show eqD (.tup i) (.str j) = false by simp [eqD]]
    exact ⟨.tuple_str j w pt hu,.tuple_str j w pt hu,.tuple_str j w pt hu⟩
  | .tup i,.non,x,y,u,v,hs,h1,h2,r1,r2=>by
    rw [DAt] at h1; obtain ⟨a_t,vst,rfl,q1,_⟩:=h1; cases r1; obtain ⟨itst,rrt,pt,_⟩:=I.tuple q1
    rw [DAt] at h2; subst h2; cases r2
    rw [show eqD (.tup i) (.non) = false by simp [eqD]]
    exact ⟨.tuple_none  pt hu,.tuple_none  pt hu,.tuple_none  pt hu⟩
  | .tup i,.bl j,x,y,u,v,hs,h1,h2,r1,r2=>by
    rw [DAt] at h1; obtain ⟨a_t,vst,rfl,q1,_⟩:=h1; cases r1; obtain ⟨itst,rrt,pt,_⟩:=I.tuple q1
    rw [DAt] at h2; subst h2; cases r2
    rw [show eqD (.tup i) (.bl j) = false by simp [eqD]]
    exact ⟨.tuple_bool j pt hu,.tuple_bool j pt hu,.tuple_bool j pt hu⟩
  | .tup ds,.tup es,x,y,u,v,hs,h1,h2,r1,r2=>by cases hs
  | .tup i,.lst j,x,y,u,v,hs,h1,h2,r1,r2=>by
    rw [DAt] at h1; obtain ⟨a_t,vst,rfl,q1,_⟩:=h1; cases r1; obtain ⟨itst,rrt,pt,_⟩:=I.tuple q1
    rw [DAt] at h2; obtain ⟨aw,vsw,rfl,q2,_⟩:=h2; cases r2; obtain ⟨itsw,rrw,ppw,_⟩:=I.list (SqL.of q2); have pw:=ppw.isList
    rw [show eqD (.tup i) (.lst j) = false by simp [eqD]]
    exact ⟨.tuple_list pt pw hu,.tuple_list pt pw hu,.tuple_list pt pw hu⟩
  | .lst i,.int j,x,y,u,v,hs,h1,h2,r1,r2=>by
    rw [DAt] at h1; obtain ⟨a_t,vst,rfl,q1,_⟩:=h1; cases r1; obtain ⟨itst,rrt,ppt,_⟩:=I.list (SqL.of q1); have pt:=ppt.isList
    rw [DAt] at h2; subst h2; obtain ⟨w,rfl⟩:=r2
    rw [show eqD (.lst i) (.int j) = false by simp [eqD]]
    exact ⟨.list_int j w pt hu,.list_int j w pt hu,.list_int j w pt hu⟩
  | .lst i,.str j,x,y,u,v,hs,h1,h2,r1,r2=>by
    rw [DAt] at h1; obtain ⟨a_t,vst,rfl,q1,_⟩:=h1; cases r1; obtain ⟨itst,rrt,ppt,_⟩:=I.list (SqL.of q1); have pt:=ppt.isList
    rw [DAt] at h2; subst h2; obtain ⟨w,rfl⟩:=r2
    rw [show eqD (.lst i) (.str j) = false by simp [eqD]]
    exact ⟨.list_str j w pt hu,.list_str j w pt hu,.list_str j w pt hu⟩
  | .lst i,.non,x,y,u,v,hs,h1,h2,r1,r2=>by
    rw [DAt] at h1; obtain ⟨a_t,vst,rfl,q1,_⟩:=h1; cases r1; obtain ⟨itst,rrt,ppt,_⟩:=I.list (SqL.of q1); have pt:=ppt.isList
    rw [DAt] at h2; subst h2; cases r2
    rw [show eqD (.lst i) (.non) = false by simp [eqD]]
    exact ⟨.list_none  pt hu,.list_none  pt hu,.list_none  pt hu⟩
  | .lst i,.bl j,x,y,u,v,hs,h1,h2,r1,r2=>by
    rw [DAt] at h1; obtain ⟨a_t,vst,rfl,q1,_⟩:=h1; cases r1; obtain ⟨itst,rrt,ppt,_⟩:=I.list (SqL.of q1); have pt:=ppt.isList
    rw [DAt] at h2; subst h2; cases r2
    rw [show eqD (.lst i) (.bl j) = false by simp [eqD]]
    exact ⟨.list_bool j pt hu,.list_bool j pt hu,.list_bool j pt hu⟩
  | .lst i,.tup j,x,y,u,v,hs,h1,h2,r1,r2=>by
    rw [DAt] at h1; obtain ⟨a_t,vst,rfl,q1,_⟩:=h1; cases r1; obtain ⟨itst,rrt,ppt,_⟩:=I.list (SqL.of q1); have pt:=ppt.isList
    rw [DAt] at h2; obtain ⟨aw,vsw,rfl,q2,_⟩:=h2; cases r2; obtain ⟨itsw,rrw,pw,_⟩:=I.tuple q2
    rw [show eqD (.lst i) (.tup j) = false by simp [eqD]]
    exact ⟨.list_tuple pt pw hu,.list_tuple pt pw hu,.list_tuple pt pw hu⟩
  | .lst ds,.lst es,x,y,u,v,hs,h1,h2,r1,r2=>by cases hs
theorem list_tup_ne (I:Inv X pins σ H s) {a:Addr} {xs ys:List V} (h:SqL X.K H a xs) (h':SqT X.K H a ys):False:=by
  obtain ⟨_,_,p,_⟩:=I.list h
  obtain ⟨_,_,p',_⟩:=I.tuple h'
  exact SeqAt.ne_of_list_tuple p.isList p' rfl
mutual
theorem DAt.inj (I:Inv X pins σ H s):∀ {d e:D} {v:V},DAt X.K H d v→DAt X.K H e v→d = e
  | .int i,.int j,v,h1,h2=>by
    rw [DAt] at h1; rw [DAt] at h2
    subst h1
    injection h2 with h2
    rw [h2]
  | .int i,.str j,v,h1,h2=>by
    rw [DAt] at h1; rw [DAt] at h2
    subst h1
    cases h2
  | .int i,.non,v,h1,h2=>by
    rw [DAt] at h1; rw [DAt] at h2
    subst h1
    cases h2
  | .int i,.bl j,v,h1,h2=>by
    rw [DAt] at h1; rw [DAt] at h2
    subst h1
    cases h2
  | .int i,.tup j,v,h1,h2=>by
    rw [DAt] at h1; rw [DAt] at h2
    obtain ⟨a,vs,rfl,q,g⟩:=h2
    cases h1
  | .int i,.lst j,v,h1,h2=>by
    rw [DAt] at h1; rw [DAt] at h2
    obtain ⟨a,vs,rfl,q,g⟩:=h2
    cases h1
  | .str i,.int j,v,h1,h2=>by
    rw [DAt] at h1; rw [DAt] at h2
    subst h1
    cases h2
  | .str i,.str j,v,h1,h2=>by
    rw [DAt] at h1; rw [DAt] at h2
    subst h1
    injection h2 with h2
    rw [h2]
  | .str i,.non,v,h1,h2=>by
    rw [DAt] at h1; rw [DAt] at h2
    subst h1
    cases h2
  | .str i,.bl j,v,h1,h2=>by
    rw [DAt] at h1; rw [DAt] at h2
    subst h1
    cases h2
  | .str i,.tup j,v,h1,h2=>by
    rw [DAt] at h1; rw [DAt] at h2
    obtain ⟨a,vs,rfl,q,g⟩:=h2
    cases h1
  | .str i,.lst j,v,h1,h2=>by
    rw [DAt] at h1; rw [DAt] at h2
    obtain ⟨a,vs,rfl,q,g⟩:=h2
    cases h1
  | .non,.int j,v,h1,h2=>by
    rw [DAt] at h1; rw [DAt] at h2
    subst h1
    cases h2
  | .non,.str j,v,h1,h2=>by
    rw [DAt] at h1; rw [DAt] at h2
    subst h1
    cases h2
  | .non,.non,v,h1,h2=>rfl
  | .non,.bl j,v,h1,h2=>by
    rw [DAt] at h1; rw [DAt] at h2
    subst h1
    cases h2
  | .non,.tup j,v,h1,h2=>by
    rw [DAt] at h1; rw [DAt] at h2
    obtain ⟨a,vs,rfl,q,g⟩:=h2
    cases h1
  | .non,.lst j,v,h1,h2=>by
    rw [DAt] at h1; rw [DAt] at h2
    obtain ⟨a,vs,rfl,q,g⟩:=h2
    cases h1
  | .bl i,.int j,v,h1,h2=>by
    rw [DAt] at h1; rw [DAt] at h2
    subst h1
    cases h2
  | .bl i,.str j,v,h1,h2=>by
    rw [DAt] at h1; rw [DAt] at h2
    subst h1
    cases h2
  | .bl i,.non,v,h1,h2=>by
    rw [DAt] at h1; rw [DAt] at h2
    subst h1
    cases h2
  | .bl i,.bl j,v,h1,h2=>by
    rw [DAt] at h1; rw [DAt] at h2
    subst h1
    injection h2 with h2
    rw [h2]
  | .bl i,.tup j,v,h1,h2=>by
    rw [DAt] at h1; rw [DAt] at h2
    obtain ⟨a,vs,rfl,q,g⟩:=h2
    cases h1
  | .bl i,.lst j,v,h1,h2=>by
    rw [DAt] at h1; rw [DAt] at h2
    obtain ⟨a,vs,rfl,q,g⟩:=h2
    cases h1
  | .tup i,.int j,v,h1,h2=>by
    rw [DAt] at h1; rw [DAt] at h2
    obtain ⟨a,vs,rfl,q,g⟩:=h1
    cases h2
  | .tup i,.str j,v,h1,h2=>by
    rw [DAt] at h1; rw [DAt] at h2
    obtain ⟨a,vs,rfl,q,g⟩:=h1
    cases h2
  | .tup i,.non,v,h1,h2=>by
    rw [DAt] at h1; rw [DAt] at h2
    obtain ⟨a,vs,rfl,q,g⟩:=h1
    cases h2
  | .tup i,.bl j,v,h1,h2=>by
    rw [DAt] at h1; rw [DAt] at h2
    obtain ⟨a,vs,rfl,q,g⟩:=h1
    cases h2
  | .tup i,.tup j,v,h1,h2=>by
    rw [DAt] at h1; rw [DAt] at h2
    obtain ⟨a,vs,rfl,q,g⟩:=h1
    obtain ⟨b,ws,e,q',g'⟩:=h2
    cases e
    rw [I.tuple_inj q' q] at g'
    rw [DsAt.inj I g g']
  | .tup i,.lst j,v,h1,h2=>by
    rw [DAt] at h1; rw [DAt] at h2
    obtain ⟨a,vs,rfl,q,g⟩:=h1
    obtain ⟨b,ws,e,q',g'⟩:=h2
    cases e
    exact (list_tup_ne I (SqL.of q') q).elim
  | .lst i,.int j,v,h1,h2=>by
    rw [DAt] at h1; rw [DAt] at h2
    obtain ⟨a,vs,rfl,q,g⟩:=h1
    cases h2
  | .lst i,.str j,v,h1,h2=>by
    rw [DAt] at h1; rw [DAt] at h2
    obtain ⟨a,vs,rfl,q,g⟩:=h1
    cases h2
  | .lst i,.non,v,h1,h2=>by
    rw [DAt] at h1; rw [DAt] at h2
    obtain ⟨a,vs,rfl,q,g⟩:=h1
    cases h2
  | .lst i,.bl j,v,h1,h2=>by
    rw [DAt] at h1; rw [DAt] at h2
    obtain ⟨a,vs,rfl,q,g⟩:=h1
    cases h2
  | .lst i,.tup j,v,h1,h2=>by
    rw [DAt] at h1; rw [DAt] at h2
    obtain ⟨a,vs,rfl,q,g⟩:=h1
    obtain ⟨b,ws,e,q',g'⟩:=h2
    cases e
    exact (list_tup_ne I (SqL.of q) q').elim
  | .lst i,.lst j,v,h1,h2=>by
    rw [DAt] at h1; rw [DAt] at h2
    obtain ⟨a,vs,rfl,q,g⟩:=h1
    obtain ⟨b,ws,e,q',g'⟩:=h2
    cases e
    rw [q] at q'
    cases q'
    rw [DsAt.inj I g g']
theorem DsAt.inj (I:Inv X pins σ H s):∀ {ds es:List D} {vs:List V},DsAt X.K H ds vs→DsAt X.K H es vs→ds = es
  | [],[],vs,h1,h2=>rfl
  | [],e :: es,vs,h1,h2=>by
    rw [DsAt] at h1; rw [DsAt] at h2
    obtain ⟨v,r,rfl,_⟩:=h2
    cases h1
  | d :: ds,[],vs,h1,h2=>by
    rw [DsAt] at h1; rw [DsAt] at h2
    obtain ⟨v,r,rfl,_⟩:=h1
    cases h2
  | d :: ds,e :: es,vs,h1,h2=>by
    rw [DsAt] at h1; rw [DsAt] at h2
    obtain ⟨v,r,rfl,a1,a2⟩:=h1
    obtain ⟨v',r',z,b1,b2⟩:=h2
    injection z with z1 z2
    rw [← z1] at b1
    rw [← z2] at b2
    rw [DAt.inj I a1 b1,DsAt.inj I a2 b2]
end
theorem both_D (I:Inv X pins σ H s):∀ (n:Nat) {A:Around} {d e:D} {x y:V} {u v:Value},d.depth ≤ n→A.units + n < cLine→DAt X.K H d x→DAt X.K H e y→RelV x u→RelV y v→both A s u v (eqD d e):=by
  intro n
  induction n with
  | zero =>
    intro A d e x y u v hd hu h1 h2 r1 r2
    refine both_mixed I (by omega) ?_ h1 h2 r1 r2
    cases d <;> cases e <;> first | rfl | (rw [D.depth] at hd; omega)
  | succ n ih =>
    intro A d e x y u v hd hu h1 h2 r1 r2
    cases hs:seqs d e with
    | false=>exact both_mixed I (by omega) hs h1 h2 r1 r2
    | true =>
      have items:∀ {ds es:List D} {vs ws:List V} {its its':List Value},1 + depths ds ≤ n + 1→DsAt X.K H ds vs→DsAt X.K H es ws→Vals vs its→Vals ws its'→∀ j (h1:j < its.toArray.size) (h2:j < its'.toArray.size),SeqAt.EqAt A.in1 s its.toArray[j] its'.toArray[j] (eqD (ds.getD j .non) (es.getD j .non)):=by
        intro ds es vs ws its its' hdd g g' rv rw' j j1 j2
        obtain ⟨x,e1,rx⟩:=vals_at rv j1
        obtain ⟨y,e2,ry⟩:=vals_at rw' j2
        obtain ⟨d,ed,gd⟩:=g.get e1
        obtain ⟨e,ee,ge⟩:=g'.get e2
        rw [getD_of ed,getD_of ee]
        have:=depths_mem ed
        exact (ih (by omega) (by show A.units + 1 + n < cLine; omega) gd ge rx ry).1
      cases d <;> cases e <;> first | cases hs | skip
      · rename_i ds es
        rw [D.depth] at hd
        have g1:=h1
        have g2:=h2
        rw [DAt] at h1; rw [DAt] at h2
        obtain ⟨a,vs,rfl,q,g⟩:=h1
        obtain ⟨b,ws,rfl,q',g'⟩:=h2
        cases r1; cases r2
        obtain ⟨its,rv,p,_⟩:=I.tuple q
        obtain ⟨its',rw',p',_⟩:=I.tuple q'
        have l1:its.toArray.size = ds.length:=by simp [← rv.length,g.length]
        have l2:its'.toArray.size = es.length:=by simp [← rw'.length,g'.length]
        have z1:=SeqAt.RcAt.tuples p p' (by omega) (items hd g g' rv rw')
        have z2:=SeqAt.RcNeAt.tuples p p' (by omega) (items hd g g' rv rw')
        rw [l1,l2,eqDs_min] at z1 z2
        rw [eqD]
        refine ⟨?_,z1,z2⟩
        by_cases hab:a = b
        · subst hab
          have e:=DAt.inj I g1 g2
          injection e with e
          rw [e,eqDs_self]
          exact .same _
        · exact .of_refs hab z1
      · rename_i ds es
        rw [D.depth] at hd
        have g1:=h1
        have g2:=h2
        rw [DAt] at h1; rw [DAt] at h2
        obtain ⟨a,vs,rfl,q,g⟩:=h1
        obtain ⟨b,ws,rfl,q',g'⟩:=h2
        cases r1; cases r2
        obtain ⟨its,rv,p,_⟩:=I.list (SqL.of q)
        obtain ⟨its',rw',p',_⟩:=I.list (SqL.of q')
        have l1:its.toArray.size = ds.length:=by simp [← rv.length,g.length]
        have l2:its'.toArray.size = es.length:=by simp [← rw'.length,g'.length]
        have zz:SeqAt.RcAt A s (.ref a) (.ref b) (eqDs ds es)∧SeqAt.RcNeAt A s (.ref a) (.ref b) (!eqDs ds es):=by
          by_cases hl:ds.length = es.length
          · have z1:=SeqAt.RcAt.lists p.isList p'.isList (by rw [l1,l2,hl]) (by omega) (items hd g g' rv rw')
            have z2:=SeqAt.RcNeAt.lists p.isList p'.isList (by rw [l1,l2,hl]) (by omega) (items hd g g' rv rw')
            rw [l1,eqDs_all hl] at z1 z2
            exact ⟨z1,z2⟩
          · rw [eqDs_len hl]
            exact ⟨SeqAt.RcAt.lists_lengths p.isList p'.isList (by rw [l1,l2]; simpa using hl) (by omega),SeqAt.RcNeAt.lists_lengths p.isList p'.isList (by rw [l1,l2]; simpa using hl) (by omega)⟩
        rw [eqD]
        refine ⟨?_,zz.1,zz.2⟩
        by_cases hab:a = b
        · subst hab
          have e:=DAt.inj I g1 g2
          injection e with e
          rw [e,eqDs_self]
          exact .same _
        · exact .of_refs hab zz.1
def rEqD (K:PySem.W.Frag) (A:Around):R2:=fun x y H Q=>∃ d e,DAt K H d x∧DAt K H e y∧A.units + d.depth < cLine∧Q (.bl (eqD d e)) H
def rNeD (K:PySem.W.Frag) (A:Around):R2:=fun x y H Q=>∃ d e,DAt K H d x∧DAt K H e y∧A.units + d.depth < cLine∧Q (.bl (!eqD d e)) H
theorem op_eqD:OpR X (compareOp .Eq) (rEqD X.K X.A):=by
  intro pins s σ H x y v u Q I rx ry h
  obtain ⟨d,e,h1,h2,hu,q⟩:=h
  exact (both_D I d.depth (Nat.le_refl _) hu h1 h2 rx ry).2.1 _ _ _ _ ⟨.bl _,H,I,rfl,q⟩
theorem op_neD:OpR X (compareOp .NotEq) (rNeD X.K X.A):=by
  intro pins s σ H x y v u Q I rx ry h
  obtain ⟨d,e,h1,h2,hu,q⟩:=h
  exact (both_D I d.depth (Nat.le_refl _) hu h1 h2 rx ry).2.2 _ _ _ _ ⟨.bl _,H,I,rfl,q⟩
end
section
variable {K:PySem.W.Frag} {H H':Hp} {a:Addr}
theorem dat_int (x:Int):DAt K H (.int x) (.int x):=by rw [DAt]
theorem dat_str (x:Str):DAt K H (.str x) (.str x):=by rw [DAt]
theorem dat_tup {vs:List V} {ds:List D} (h:H a = some (.tup vs)) (g:DsAt K H ds vs):DAt K H (.tup ds) (.ref a):=by rw [DAt]; exact ⟨a,vs,rfl,SqT.of h,g⟩
theorem dat_lst {vs:List V} {ds:List D} (h:H a = some (.lst vs)) (g:DsAt K H ds vs):DAt K H (.lst ds) (.ref a):=by rw [DAt]; exact ⟨a,vs,rfl,h,g⟩
end
end L2
namespace L2
open PySem PySem.Spec PyProof.Rows
section
variable {X:Cx} {pins:List (Addr×Obj)} {σ:List (Option V)} {H H':Hp} {s:Shared} {h':Heap}
theorem Inv.turnedNew {t':Nat} {fp:List Addr} {T:Addr} {xs:List V} (I:Inv X pins σ H s) (hf:∀ b ∈ fp,FpOk X pins H b) (k:∀ b o,b ∉ fp→s.heap.get? b = some o→h'.get? b = some o) (hT:s.heap.objs.size ≤ T)
    (new:ObjOk X.prog X.w (upd H T (.tup xs)) h' T (.tup xs)):Inv X pins σ (upd H T (.tup xs)) { s with heap:=h',toks:=t' }:=by
  have nT:H T = none:=I.hok.fresh hT
  have nit:∀ b u,H b = some u→b ∉ fp:=fun b u e z=>by rw [(hf b z).1] at e; cases e
  have nbT:∀ b o,s.heap.get? b = some o→b ≠ T:=fun b o e z=>by
    have:=Heap.lt_size e
    rw [z] at this
    exact absurd (Nat.lt_of_lt_of_le this hT) (Nat.lt_irrefl _)
  refine I.step (g':=s.gens) (d':=s.drawn) (ch:=fp) (fun b hb=>?_) (fun b o _ _ hc e _=>k b o hc e) (fun b o _ _ hc e _=>⟨o.slots,k b o hc e⟩) (fun b o hc e n=>by rw [upd_ne (nbT b o e)]; exact n)
    (fun b o hc e=>⟨o,k b o hc e⟩) (fun b ys e=>by rw [upd_ne (ne_of_none e nT)]; exact e) (fun b o u e=>by rw [upd_ne (ne_of_none e nT)]; exact e) (fun b ps e=>⟨#[],by rw [upd_ne (ne_of_none e nT),e]; simp⟩) (fun m hm=>?_) (fun b u e=>?_) I.bare
  · obtain ⟨f0,f1,f2,f3,f4,f5⟩:=hf b hb
    exact ⟨f3,f1,f4,f5⟩
  · obtain ⟨o,es,ep,ho,r⟩:=hm
    exact ⟨o,es,ep,k _ o (fun z=>(hf _ z).2.1 rfl) ho,r⟩
  · by_cases hb:b = T
    · subst hb; rw [upd_same] at e; cases e; exact new
    · rw [upd_ne hb] at e
      refine (I.hok b u e).stay (fun c v hc q=>k c v ?_ q) (fun c q=>by rw [upd_ne (ne_of_none q nT)]; exact q) fun c ys q=>by rw [upd_ne (ne_of_none q nT)]; exact q
      rcases hc with z | z
      · rw [z]; exact nit b u e
      · exact nit c _ z
theorem Inv.turnedMany {t':Nat} {fp:List Addr} (I:Inv X pins σ H s) (hf:∀ b ∈ fp,FpOk X pins H b) (k:∀ b o,b ∉ fp→s.heap.get? b = some o→h'.get? b = some o):Inv X pins σ H { s with heap:=h',toks:=t' }:=by
  have nit:∀ b u,H b = some u→b ∉ fp:=fun b u e z=>by rw [(hf b z).1] at e; cases e
  refine I.step (g':=s.gens) (d':=s.drawn) (ch:=fp) (fun b hb=>?_) (fun b o _ _ hc e _=>k b o hc e) (fun b o _ _ hc e _=>⟨o.slots,k b o hc e⟩) (fun b o hc e n=>n)
    (fun b o hc e=>⟨o,k b o hc e⟩) (fun b ys e=>e) (fun b o u e=>e) (fun b ps e=>⟨#[],by rw [e]; simp⟩) (fun m hm=>?_) (fun b u e=>?_) I.bare
  · obtain ⟨f0,f1,f2,f3,f4,f5⟩:=hf b hb
    exact ⟨f3,f1,f4,f5⟩
  · obtain ⟨o,es,ep,ho,r⟩:=hm
    exact ⟨o,es,ep,k _ o (fun z=>(hf _ z).2.1 rfl) ho,r⟩
  · refine (I.hok b u e).stay (fun c v hc q=>k c v ?_ q) (fun _ q=>q) fun _ _ q=>q
    rcases hc with z | z
    · rw [z]; exact nit b u e
    · exact nit c _ z
end
end L2
namespace L2
open PySem PySem.Spec PyProof.Rows
section
variable {X:Cx}
end
end L2
set_option maxHeartbeats 4000000
namespace L2
open PySem PySem.Spec PyProof.Rows
section
variable {prog:Program} {w:World} {A:Around} {E:Value→Shared→Prop} {s:Shared}
theorem nextOf_tup {it t:Addr} {i:Nat} {items:Array Value} {x:Value} {Q:Value→Shared→Prop} (hit:s.heap.IsTupleIter it t i) (ht:s.heap.IsTuple t items) (hx:items[i]? = some x)
    (hQ:∀ h',h'.IsTupleIter it t (i + 1)→Heap.SameBut it s.heap h'→Q x { s with heap:=h' }):wpAny (model prog w) A (Builtin.SmallTypes.nextOf (.ref it)) Q E s:=by
  obtain ⟨o,ho,hc,hd⟩:=id hit
  obtain ⟨ol,hol,_,nl,hdl⟩:=ht
  unfold Builtin.SmallTypes.nextOf
  refine wpAny_bind (wpAny_callSpecial?_slot (name:=Str.ofString "__next__") hit.typeIs F.slot_tuple_iterator_next (wpAny_call_entry F.slot_tuple_iterator_next hit.typeIs F.entry_tuple_iterator_next ?_ (F.args_tuple_iterator_next_1 _)))
  show wpAny _ _ (field (.ref it) 0 >>= _) _ _ s
  refine wpAny_bind (wpAny_field ho hd (x:=.ref t) rfl ?_)
  show wpAny _ _ (if (Value.ref t == Value.none) = true then _ else _) _ _ s
  rw [if_neg (show ¬ ((Value.ref t == Value.none) = true) from Bool.false_ne_true)]
  show wpAny _ _ (field (.ref it) 1 >>= _) _ _ s
  refine wpAny_bind (wpAny_field ho hd (x:=.int i 0) rfl ?_)
  show wpAny _ _ (seqItems? (.ref t) >>= _) _ _ s
  refine wpAny_bind (wpAny_seqItems hol hdl ?_)
  simp only [Int.toNat_natCast,hx]
  refine wpAny_bind (wpAny_setField ho hd (by simp) (wpAny_pure ⟨x,rfl,wpAny_pure (hQ _ ?_ (Heap.SameBut.update ..))⟩))
  exact ⟨_,Heap.get?_update_self _ ho (Obj.isFreed_of_fields (Obj.data_mapFields hd _)),(Obj.cls_mapFields ..).trans hc,by rw [Obj.data_mapFields hd]; simp [rawInt]⟩
end
section
variable {X:Cx}
end
end L2
set_option maxHeartbeats 4000000
namespace L2
open PySem PySem.Spec PyProof.Rows
section
variable {prog:Program} {w:World} {A:Around} {E:Value→Shared→Prop} {s:Shared}
theorem nextOf_tup_end {it t:Addr} {i:Nat} {items:Array Value} {Q:Value→Shared→Prop} (hh:A.handled = none) (hit:s.heap.IsTupleIter it t i) (ht:s.heap.IsTuple t items) (hx:items[i]? = none)
    (hE:∀ h' e,Heap.ExtBut it s.heap h'→(∃ o,h'.get? e = some o∧o.cls = .type "StopIteration")→E (.ref e) { s with heap:=h' }):wpAny (model prog w) A (Builtin.SmallTypes.nextOf (.ref it)) Q E s:=by
  obtain ⟨o,ho,hc,hd⟩:=id hit
  obtain ⟨ol,hol,_,nl,hdl⟩:=ht
  unfold Builtin.SmallTypes.nextOf
  refine wpAny_bind (wpAny_callSpecial?_slot (name:=Str.ofString "__next__") hit.typeIs F.slot_tuple_iterator_next (wpAny_call_entry F.slot_tuple_iterator_next hit.typeIs F.entry_tuple_iterator_next ?_ (F.args_tuple_iterator_next_1 _)))
  show wpAny _ _ (field (.ref it) 0 >>= _) _ _ s
  refine wpAny_bind (wpAny_field ho hd (x:=.ref t) rfl ?_)
  show wpAny _ _ (if (Value.ref t == Value.none) = true then _ else _) _ _ s
  rw [if_neg (show ¬ ((Value.ref t == Value.none) = true) from Bool.false_ne_true)]
  show wpAny _ _ (field (.ref it) 1 >>= _) _ _ s
  refine wpAny_bind (wpAny_field ho hd (x:=.int i 0) rfl ?_)
  show wpAny _ _ (seqItems? (.ref t) >>= _) _ _ s
  refine wpAny_bind (wpAny_seqItems hol hdl ?_)
  simp only [Int.toNat_natCast,hx]
  refine wpAny_bind (wpAny_rule (wpAny_bind (wpAny_setField ho hd (by simp) ?_)))
  show wpAny _ _ (newExc (.type "StopIteration") [] >>= _) _ _ _
  refine wpAny_bind ?_
  simp only [newExc,newTuple]
  refine wpAny_bind (wpAny_newObj_type ?_ (by size_fits))
  refine wpAny_bind (m:=firstArgMember _ _) (wpAny_of_eq (a:=Value.none) (by first | rfl | (simp only [firstArgMember]; rfl)) ?_)
  refine wpAny_newObj_type ?_ (by size_fits)
  simp only [raiseNew]
  refine wpAny_bind (wpAny_handled ?_)
  first | rw [show A.in1.handled = none from hh] | rw [hh]
  refine wpAny_bind (wpAny_pure (wpAny_throw ?_))
  exact hE _ _ (((Heap.SameBut.update ..).extBut.push _).push _) ⟨_,Heap.get?_push_size _ rfl,rfl⟩
theorem tupIs_extBut {h h':Heap} {a b:Addr} {xs:Array Value} (x:h.IsTuple a xs) (hs:Heap.ExtBut b h h') (hab:a ≠ b):h'.IsTuple a xs:=let ⟨o,ho,r⟩:=x; ⟨o,hs a o hab ho,r⟩
theorem draws_tup (hh:A.handled = none) (it t:Addr) (hne:t ≠ it) (items:Array Value):Draws prog w A it [it,t] items.size (fun i v=>items[i]? = some v) (fun i h=>h.IsTupleIter it t i∧h.IsTuple t items) where
  live:=fun _ _ st=>let ⟨o,ho,_⟩:=st.1; ⟨o,ho⟩
  frame:=fun _ _ _ st hk=>⟨st.1.at fun o e=>hk it (by simp) o e,let ⟨o,ho,r⟩:=st.2; ⟨o,hk t (by simp) o ho,r⟩⟩
  item:=fun i s Q E hi st hQ=>by
    refine nextOf_tup st.1 st.2 (x:=items[i]) (by simp [hi]) fun h' hit' hs'=>?_
    exact hQ _ h' s.toks (by simp [hi]) ⟨hit',tupIs_extBut st.2 hs'.extBut hne⟩ hs'
  done:=fun s Q E st hE=>nextOf_tup_end hh st.1 st.2 (by simp) hE
abbrev eT1 (h:Heap) (t:Addr):Heap:=h.push { cls:=.type "tuple_iterator", data:=.fields #[.ref t,.int 0 0] }
abbrev eT2 (h:Heap) (t:Addr):Heap:=(eT1 h t).push { cls:=.type "enumerate", data:=.fields #[.none,.bool false,.ref h.objs.size,rawInt 0,.none,.none] }
theorem meets_enumT (t:Addr) (items:Array Value) (n:Nat) (dct:Option Addr) (sl:Array (Option Value)) :
    Meets (Builtin.«enumerate.__new__» ⟨[.type "enumerate", .ref t],[]⟩) (fun _ R s=>s.heap.get? t = some { cls:=.type "tuple", dict:=dct,data:=.seq items n,slots:=sl }∧R (.ok (.ret (.ref (eT1 s.heap t).objs.size))) { s with heap:=eT2 s.heap t }) :=
  .of_wp fun prog w A R s h=>by
    obtain ⟨hp,g,d,tk,os⟩:=s; obtain ⟨hl,h⟩:=h
    have hsub:=sub_enumerate
    have hL:Heap.IsTuple (Shared.heap ⟨hp,g,d,tk,os⟩) t items:=⟨_,hl,rfl,n,rfl⟩
    wp_walk using AutoSeq1.wpAny_loadPart' hl
    refine wpAny_stack_any fun st=>wpAny_pure ?_
    split
    · rename_i c _ _ _ _ _
      cases (c == Value.type "enumerate")
      · wp_walk using AutoSeq1.wpAny_loadPart' hl,wpAny_pyIter_tuple hL
        exact ⟨_,rfl,h⟩
      · wp_walk using AutoSeq1.wpAny_loadPart' hl,wpAny_pyIter_tuple hL
        exact ⟨_,rfl,h⟩
    · wp_walk using AutoSeq1.wpAny_loadPart' hl,wpAny_pyIter_tuple hL
      exact ⟨_,rfl,h⟩
theorem call_enumT {t:Addr} {items:Array Value} {Q:Value→Shared→Prop} (hL:s.heap.IsTuple t items)
    (h:∀ h',IsEnum h' (s.heap.objs.size + 1) s.heap.objs.size 0 .none→h'.IsTupleIter s.heap.objs.size t 0→h'.objs.size = s.heap.objs.size + 2→(∀ b o,s.heap.get? b = some o→h'.get? b = some o)→Q (.ref (s.heap.objs.size + 1)) { s with heap:=h' }) :
    wpAny (model prog w) A (call (.type "enumerate") [.ref t]) Q E s:=by
  obtain ⟨⟨c,dct,dt,sl⟩,hl,hc,n,hd⟩:=hL
  replace hc:c = .type "tuple":=hc
  replace hd:dt = .seq items n:=hd
  subst hc hd
  refine callType_new F.called_enumerate (by decide) (F.typeCall_enumerate_1 _) (F.newCall_enumerate_1 _) (fun obj=>F.args_object_init_2 obj _) F.entry_enumerate_new (meets_enumT t items n dct sl) ⟨hl,?_⟩
  have hz:(eT1 s.heap t).objs.size = s.heap.objs.size + 1:=Heap.size_push ..
  show _∧_
  have he:(eT2 s.heap t).get? (eT1 s.heap t).objs.size = some _:=Heap.get?_push_size _ rfl
  rw [hz] at he
  rw [hz]
  exact ⟨⟨_,he,rfl⟩,h _ he ⟨_,Heap.get?_push_of_some _ (Heap.get?_push_size _ rfl),rfl,rfl⟩ (by rw [Heap.size_push,hz]) fun b o x=>Heap.get?_push_of_some _ (Heap.get?_push_of_some _ x)⟩
end
def Ite (K:PySem.W.Frag) (a:Addr):It :=
  ⟨fun i H=>∃ xs x,SqT K H a xs∧xs[i]? = some x,
   fun i H v H'=>∃ T x,v = .ref T∧H T = none∧H' = upd H T (.tup [.int (i:Nat),x])∧∀ xs,SqT K H a xs→xs[i]? = some x,
   fun i H=>∃ xs,SqT K H a xs∧xs.length ≤ i⟩
theorem turn_enumT {P:Program} {w:World} {K:PySem.W.Frag} {es:List Expr} {x1:Nat} {pos:Pos} (a e it:Addr) (hne:e ≠ it) :
    Turn P w K (.Tuple es x1 pos) (Ite K a) [e,it] e (fun i h=>(∃ old,IsEnum h e it (i:Nat) old)∧h.IsTupleIter it a i) where
  mem:=by simp
  obj:=fun i h st c hc=>by
    obtain ⟨⟨old,h1⟩,⟨o4,e4,c4,d4⟩⟩:=st
    simp only [List.mem_cons,List.not_mem_nil,or_false] at hc
    rcases hc with rfl | rfl
    · exact ⟨_,h1,fun v z=>by cases (show Data.fields _ = Data.cell v from z)⟩
    · exact ⟨o4,e4,fun v z=>by rw [d4] at z; cases z⟩
  keep:=fun i h h' st k=>by
    obtain ⟨⟨old,h1⟩,h4⟩:=st
    exact ⟨⟨old,k e (by simp) _ h1⟩,h4.at fun o q=>k it (by simp) o q⟩
  item:=by
    intro X hP hw hK hc i pins s σ H E I hf st hg
    subst hP hw hK
    obtain ⟨xs,x,hq,hx⟩:=hg
    obtain ⟨its,rv,p,hz⟩:=I.tuple hq
    obtain ⟨u,hu,ru⟩:=rv.get hx
    obtain ⟨⟨old,h1⟩,h4⟩:=st
    have p':s.heap.IsTuple a its.toArray:=p
    have nea:e ≠ a:=fun z=>by obtain ⟨o,eo,co,_⟩:=p'; rw [← z,h1] at eo; cases eo; exact absurd (Value.type.inj co) (by decide)
    have nia:a ≠ it:=fun z=>by obtain ⟨o,eo,co,_⟩:=p'; obtain ⟨o4,e4,c4,_⟩:=h4; rw [z,e4] at eo; cases eo; exact absurd (Value.type.inj (c4.symm.trans co)) (by decide)
    have hu':its.toArray[i]? = some u:=by simpa using hu
    have hlt:i < its.toArray.size:=by
      rcases Nat.lt_or_ge i its.toArray.size with z | z
      · exact z
      · rw [Array.getElem?_eq_none z] at hu'; cases hu'
    refine wpAny_pyNext_enum_itemD (draws_tup (show X.A.in1.handled = none from I.ok.hd hc) it a nia its.toArray) h1 ⟨h4,p'⟩ hlt hne (by simp [hne,nea]) fun y h' tk hy g1 g2 g3 gs g6=>⟨_,rfl,?_⟩
    have hyu:y = u:=by rw [hu'] at hy; exact (Option.some.inj hy).symm
    subst hyu
    refine wpAny_letOwnedTupleGo_enum (show IsEnumOut h' e it ((i:Int) + 1) y s.heap.objs.size from g1) fun h'' f1 fs=>?_
    have elt:e < s.heap.objs.size:=Heap.lt_size h1
    have tne:s.heap.objs.size ≠ e:=Nat.ne_of_gt elt
    have kk:∀ c o,c ∉ [e,it]→s.heap.get? c = some o→h''.get? c = some o:=fun c o hc q=>by
      simp only [List.mem_cons,List.not_mem_nil,or_false,not_or] at hc
      exact fs.extBut _ _ hc.1 (g6 c o hc.1 hc.2 q)
    have pT:=fs.extBut _ _ tne g3
    have I1:Inv X pins σ (upd H s.heap.objs.size (.tup [.int (i:Nat),x])) { s with heap:=h'',toks:=tk + 1 }:=I.turnedNew hf kk (Nat.le_refl _) ⟨by show 2 ≤ sizeLine; decide,[.int (i:Nat) tk,y],.cons ⟨tk,rfl⟩ (.cons ru .nil),⟨_,pT,rfl,⟨_,rfl⟩,rfl⟩⟩
    refine ⟨.ref s.heap.objs.size,_,I1,rfl,⟨_,x,rfl,I.hok.fresh (Nat.le_refl _),rfl,fun ys hy'=>by rw [I.tuple_inj hy' hq]; exact hx⟩,⟨⟨_,f1⟩,g2.1.extBut fs.extBut hne.symm⟩,fun c hc=>?_⟩
    have hn:=(hf c hc).1
    have:c ≠ s.heap.objs.size:=by
      simp only [List.mem_cons,List.not_mem_nil,or_false] at hc
      obtain ⟨o4,e4,_⟩:=h4
      rcases hc with rfl | rfl
      · exact Nat.ne_of_lt elt
      · exact Nat.ne_of_lt (Heap.lt_size e4)
    rw [upd_ne this]; exact hn
  done:=by
    intro X hP hw hK hc i pins s σ H E I hf st hg
    subst hP hw hK
    obtain ⟨xs,hq,hx⟩:=hg
    obtain ⟨its,rv,p,hz⟩:=I.tuple hq
    obtain ⟨⟨old,h1⟩,h4⟩:=st
    have hl:=rv.length
    have hn:its.toArray[i]? = none:=by simp; omega
    unfold pyNext
    have hT:s.TypeIs (.ref e) "enumerate":=⟨_,h1,rfl⟩
    refine wpAny_bind (wpAny_attempt (wpAny_callSpecial?_slot (name:=Str.ofString "__next__") hT F.slot_enumerate_next (wpAny_call_entry F.slot_enumerate_next hT F.entry_enumerate_next ?_ (F.args_enumerate_next_1 _))))
    show wpAny _ _ (field (.ref e) 2 >>= _) _ _ _
    refine wpAny_bind (wpAny_field h1 rfl (x:=.ref it) rfl ?_)
    refine wpAny_bind (nextOf_tup_end (show X.A.in1.handled = none from I.ok.hd hc) h4 (show s.heap.IsTuple a its.toArray from p) hn fun h' x he' hx'=>?_)
    obtain ⟨o,ho,hco⟩:=hx'
    refine wpAny_bind (wpAny_isInstance (T:="StopIteration") (b:=true) ⟨o,ho,hco⟩ isSubtype_stop ?_)
    refine wpAny_pure ⟨rfl,I.turnedMany (t':=s.toks) hf fun c o hc q=>?_⟩
    simp only [List.mem_cons,List.not_mem_nil,or_false,not_or] at hc
    exact he' c o hc.2 q
  self:=fun _ _ _ _ _ st h=>let ⟨⟨_,h1⟩,_⟩:=st; wpAny_pyIter_enum h1 h
section
variable {X:Cx}
def iEnum (K:PySem.W.Frag) (ta:TA):TI:=fun σ H R=>ta σ H fun vs H1=>∃ a,vs = [.ref a]∧(∃ xs,SqT K H1 a xs)∧R (Ite K a) H1
theorem pi_enumT {es:List Expr} {x1:Nat} {tpos:Pos} {a:Expr} {ta:TA} {p pos:Pos} (hg:Gl X "enumerate") (hm:X.mg "enumerate" = none) (ha:PA X [a] ta) (hs:starEach [a] X.env = [(false,eval a X.env)]:=by rfl) :
    PI X (.Tuple es x1 tpos) (.Call (.Name "enumerate" p) [a] [] pos) (iEnum X.K ta):=by
  intro pins s σ H R I h
  refine Call_ (ld_blt I hg hm (by decide +kernel:bootBuiltins "enumerate" = some (.type "enumerate")) (PyProof.Rows.callWith_type1 (thn (ha pos pins s σ H _ I h) fun us s1 ⟨vs,H1,I1,r1,q1⟩=>?_) hs rfl))
  obtain ⟨l1,e,⟨xs,hq1⟩,q⟩:=q1
  subst e
  cases r1 with
  | cons r rr =>
    cases rr
    cases r
    obtain ⟨its,rv,p1,hz⟩:=I1.tuple hq1
    refine call_enumT p1 fun h' he hi hsz hk=>?_
    refine wpAny_pyIter_enum (show IsEnum h' _ _ _ _ from he) ?_
    refine ⟨_,[s1.heap.objs.size + 1,s1.heap.objs.size],_,_,H1,rfl,I1.kept (t':=s1.toks) hk,turn_enumT _ _ _ (Nat.succ_ne_self _),⟨⟨_,he⟩,hi⟩,fun c hc=>?_,q⟩
    simp only [List.mem_cons,List.not_mem_nil,or_false] at hc
    have hle:s1.heap.objs.size ≤ c:=by rcases hc with rfl | rfl <;> first | exact Nat.le_refl _ | exact Nat.le_add_right _ _
    exact I1.fpOk hle (I1.hok.fresh hle)
end
theorem for_enumT {K:PySem.W.Frag} {a:Addr} {xs:List V} {g:TG} {tb:TS} {D:Ends} {σ:St} {H:Hp} (Pv:Nat→St→Hp→Prop) (h0:Pv 0 σ H) (hl:∀ i σ H,i ≤ xs.length→Pv i σ H→SqT K H a xs)
    (hs:∀ i x σ H T,xs[i]? = some x→Pv i σ H→H T = none→g (.ref T) σ (upd H T (.tup [.int (i:Nat),x])) fun σ2 H2=>tb { D with nx:=Pv (i + 1),ct:=Pv (i + 1),bk:=D.nx } σ2 H2) (hd:∀ σ H,Pv xs.length σ H→D.nx σ H) :
    ∃ W:Nat→Nat→St→Hp→Prop,(∃ m,W 0 m σ H)∧∀ i m σ H,W i m σ H →
      ((Ite K a).stop i H∧D.nx σ H)∨((Ite K a).go i H∧∃ N:St→Hp→Prop,(∀ σ' H',N σ' H'→∃ m',m' < m∧W (i + 1) m' σ' H')∧∀ x H',(Ite K a).yld i H x H'→g x σ H' fun σ2 H2=>tb { D with nx:=N,ct:=N,bk:=D.nx } σ2 H2):=by
  refine ⟨fun i m σ H=>m = xs.length - i∧i ≤ xs.length∧Pv i σ H,⟨xs.length,by simp,Nat.zero_le _,h0⟩,?_⟩
  rintro i m σ H ⟨rfl,hi,p⟩
  have q:=hl i σ H hi p
  by_cases hlt:i < xs.length
  · refine .inr ⟨⟨xs,xs[i],q,by simp [hlt]⟩,Pv (i + 1),fun σ' H' p'=>⟨xs.length - (i + 1),by omega,rfl,hlt,p'⟩,fun v H' y=>?_⟩
    obtain ⟨T,x,rfl,hT,rfl,hx⟩:=y
    exact hs i x σ H T (hx xs q) p hT
  · have e:i = xs.length:=by omega
    subst e
    exact .inl ⟨⟨xs,q,Nat.le_refl _⟩,hd σ H p⟩
end L2
set_option maxHeartbeats 4000000
namespace L2
open PySem PySem.Spec PyProof.Rows
def IteL (K:PySem.W.Frag) (a:Addr):It :=
  ⟨fun i H=>∃ xs x,SqL K H a xs∧xs[i]? = some x,
   fun i H v H'=>∃ T x,v = .ref T∧H T = none∧H' = upd H T (.tup [.int (i:Nat),x])∧∀ xs,SqL K H a xs→xs[i]? = some x,
   fun i H=>∃ xs,SqL K H a xs∧xs.length ≤ i⟩
theorem turn_enumL {P:Program} {w:World} {K:PySem.W.Frag} {es:List Expr} {x1:Nat} {pos:Pos} (a e it:Addr) (hne:e ≠ it) :
    Turn P w K (.Tuple es x1 pos) (IteL K a) [e,it] e (fun i h=>(∃ old,IsEnum h e it (i:Nat) old)∧h.IsListIter it a i) where
  mem:=by simp
  obj:=fun i h st c hc=>by
    obtain ⟨⟨old,h1⟩,⟨o4,e4,c4,d4⟩⟩:=st
    simp only [List.mem_cons,List.not_mem_nil,or_false] at hc
    rcases hc with rfl | rfl
    · exact ⟨_,h1,fun v z=>by cases (show Data.fields _ = Data.cell v from z)⟩
    · exact ⟨o4,e4,fun v z=>by rw [d4] at z; cases z⟩
  keep:=fun i h h' st k=>by
    obtain ⟨⟨old,h1⟩,h4⟩:=st
    exact ⟨⟨old,k e (by simp) _ h1⟩,h4.at fun o q=>k it (by simp) o q⟩
  item:=by
    intro X hP hw hK hc i pins s σ H E I hf st hg
    subst hP hw hK
    obtain ⟨xs,x,hq,hx⟩:=hg
    obtain ⟨its,rv,p,hz⟩:=I.list hq
    obtain ⟨u,hu,ru⟩:=rv.get hx
    obtain ⟨⟨old,h1⟩,h4⟩:=st
    have p':s.heap.IsList a its.toArray:=p.isList
    have nea:e ≠ a:=fun z=>by obtain ⟨o,eo,co,_⟩:=p'; rw [← z,h1] at eo; cases eo; exact absurd (Value.type.inj co) (by decide)
    have nia:a ≠ it:=fun z=>by obtain ⟨o,eo,co,_⟩:=p'; obtain ⟨o4,e4,c4,_⟩:=h4; rw [z,e4] at eo; cases eo; exact absurd (Value.type.inj (c4.symm.trans co)) (by decide)
    have hu':its.toArray[i]? = some u:=by simpa using hu
    have hlt:i < its.toArray.size:=by
      rcases Nat.lt_or_ge i its.toArray.size with z | z
      · exact z
      · rw [Array.getElem?_eq_none z] at hu'; cases hu'
    refine wpAny_pyNext_enum_itemD (Draws.list (show X.A.in1.handled = none from I.ok.hd hc) it a nia its.toArray) h1 ⟨h4,p'⟩ hlt hne (by simp [hne,nea]) fun y h' tk hy g1 g2 g3 gs g6=>⟨_,rfl,?_⟩
    have hyu:y = u:=by rw [hu'] at hy; exact (Option.some.inj hy).symm
    subst hyu
    refine wpAny_letOwnedTupleGo_enum (show IsEnumOut h' e it ((i:Int) + 1) y s.heap.objs.size from g1) fun h'' f1 fs=>?_
    have elt:e < s.heap.objs.size:=Heap.lt_size h1
    have tne:s.heap.objs.size ≠ e:=Nat.ne_of_gt elt
    have kk:∀ c o,c ∉ [e,it]→s.heap.get? c = some o→h''.get? c = some o:=fun c o hc q=>by
      simp only [List.mem_cons,List.not_mem_nil,or_false,not_or] at hc
      exact fs.extBut _ _ hc.1 (g6 c o hc.1 hc.2 q)
    have pT:=fs.extBut _ _ tne g3
    have I1:Inv X pins σ (upd H s.heap.objs.size (.tup [.int (i:Nat),x])) { s with heap:=h'',toks:=tk + 1 }:=I.turnedNew hf kk (Nat.le_refl _) ⟨by show 2 ≤ sizeLine; decide,[.int (i:Nat) tk,y],.cons ⟨tk,rfl⟩ (.cons ru .nil),⟨_,pT,rfl,⟨_,rfl⟩,rfl⟩⟩
    refine ⟨.ref s.heap.objs.size,_,I1,rfl,⟨_,x,rfl,I.hok.fresh (Nat.le_refl _),rfl,fun ys hy'=>by rw [I.list_inj hy' hq]; exact hx⟩,⟨⟨_,f1⟩,g2.1.extBut fs.extBut hne.symm⟩,fun c hc=>?_⟩
    have hn:=(hf c hc).1
    have:c ≠ s.heap.objs.size:=by
      simp only [List.mem_cons,List.not_mem_nil,or_false] at hc
      obtain ⟨o4,e4,_⟩:=h4
      rcases hc with rfl | rfl
      · exact Nat.ne_of_lt elt
      · exact Nat.ne_of_lt (Heap.lt_size e4)
    rw [upd_ne this]; exact hn
  done:=by
    intro X hP hw hK hc i pins s σ H E I hf st hg
    subst hP hw hK
    obtain ⟨xs,hq,hx⟩:=hg
    obtain ⟨its,rv,p,hz⟩:=I.list hq
    obtain ⟨⟨old,h1⟩,h4⟩:=st
    have hl:=rv.length
    have hn:its.toArray[i]? = none:=by simp; omega
    unfold pyNext
    have hT:s.TypeIs (.ref e) "enumerate":=⟨_,h1,rfl⟩
    refine wpAny_bind (wpAny_attempt (wpAny_callSpecial?_slot (name:=Str.ofString "__next__") hT F.slot_enumerate_next (wpAny_call_entry F.slot_enumerate_next hT F.entry_enumerate_next ?_ (F.args_enumerate_next_1 _))))
    show wpAny _ _ (field (.ref e) 2 >>= _) _ _ _
    refine wpAny_bind (wpAny_field h1 rfl (x:=.ref it) rfl ?_)
    refine wpAny_bind (wpAny_nextOf_list_end (show X.A.in1.handled = none from I.ok.hd hc) h4 p.isList hn fun h' x he' hx'=>?_)
    obtain ⟨o,ho,hco⟩:=hx'
    refine wpAny_bind (wpAny_isInstance (T:="StopIteration") (b:=true) ⟨o,ho,hco⟩ isSubtype_stop ?_)
    refine wpAny_pure ⟨rfl,I.turnedMany (t':=s.toks) hf fun c o hc q=>?_⟩
    simp only [List.mem_cons,List.not_mem_nil,or_false,not_or] at hc
    exact he' c o hc.2 q
  self:=fun _ _ _ _ _ st h=>let ⟨⟨_,h1⟩,_⟩:=st; wpAny_pyIter_enum h1 h
section
variable {X:Cx}
def iEnumL (K:PySem.W.Frag) (ta:TA):TI:=fun σ H R=>ta σ H fun vs H1=>∃ a,vs = [.ref a]∧(∃ xs,SqL K H1 a xs)∧R (IteL K a) H1
theorem pi_enumL {es:List Expr} {x1:Nat} {tpos:Pos} {a:Expr} {ta:TA} {p pos:Pos} (hg:Gl X "enumerate") (hm:X.mg "enumerate" = none) (ha:PA X [a] ta) (hs:starEach [a] X.env = [(false,eval a X.env)]:=by rfl) :
    PI X (.Tuple es x1 tpos) (.Call (.Name "enumerate" p) [a] [] pos) (iEnumL X.K ta):=by
  intro pins s σ H R I h
  refine Call_ (ld_blt I hg hm (by decide +kernel:bootBuiltins "enumerate" = some (.type "enumerate")) (PyProof.Rows.callWith_type1 (thn (ha pos pins s σ H _ I h) fun us s1 ⟨vs,H1,I1,r1,q1⟩=>?_) hs rfl))
  obtain ⟨l1,e,⟨xs,hq1⟩,q⟩:=q1
  subst e
  cases r1 with
  | cons r rr =>
    cases rr
    cases r
    obtain ⟨its,rv,p1,hz⟩:=I1.list hq1
    refine call_enumerate_list p1.isList fun h' he hi hsz hk=>?_
    refine wpAny_pyIter_enum (show IsEnum h' _ _ _ _ from he) ?_
    refine ⟨_,[s1.heap.objs.size + 1,s1.heap.objs.size],_,_,H1,rfl,I1.kept (t':=s1.toks) hk,turn_enumL _ _ _ (Nat.succ_ne_self _),⟨⟨_,he⟩,hi⟩,fun c hc=>?_,q⟩
    simp only [List.mem_cons,List.not_mem_nil,or_false] at hc
    have hle:s1.heap.objs.size ≤ c:=by rcases hc with rfl | rfl <;> first | exact Nat.le_refl _ | exact Nat.le_add_right _ _
    exact I1.fpOk hle (I1.hok.fresh hle)
end
section
variable {g:TG} {tc:TT} {te:TE} {D:Addr} {Q:VK} {σ0:St} {H0:Hp}
theorem comp_enumL {K:PySem.W.Frag} {a:Addr} {xs:List V} (Pv:Nat→St→List V→Hp→Prop) (h0:Pv 0 σ0 [] H0) (hD:∀ i σ ys H,i ≤ xs.length→Pv i σ ys H→H D = some (.lst ys)∧ys.length ≤ i) (hl:∀ i σ ys H,i ≤ xs.length→Pv i σ ys H→SqL K H a xs) (hz:xs.length ≤ sizeLine)
    (hs:∀ i x σ ys H T,xs[i]? = some x→Pv i σ ys H→H T = none→g (.ref T) σ (upd H T (.tup [.int (i:Nat),x])) fun σ2 H2=>tc σ2 H2 fun b H3=>if b = true then te σ2 H3 fun v H4=>H4 D = some (.lst ys)∧Pv (i + 1) σ2 (ys ++ [v]) (upd H4 D (.lst (ys ++ [v]))) else Pv (i + 1) σ2 ys H3)
    (hd:∀ σ ys H,Pv xs.length σ ys H→Q (.ref D) H):∃ W:Nat→Nat→St→List V→Hp→Prop,(∃ m,W 0 m σ0 [] H0)∧compW (IteL K a) g tc te D Q W:=by
  refine ⟨fun i m σ ys H=>m = xs.length - i∧i ≤ xs.length∧Pv i σ ys H,⟨xs.length,by simp,Nat.zero_le _,h0⟩,?_⟩
  rintro i m σ ys H ⟨rfl,hi,p⟩
  have q:=hl i σ ys H hi p
  refine ⟨(hD i σ ys H hi p).1,?_⟩
  by_cases hlt:i < xs.length
  · refine .inr ⟨⟨xs,xs[i],q,by simp [hlt]⟩,Nat.lt_of_le_of_lt (hD i σ ys H hi p).2 (Nat.lt_of_lt_of_le hlt hz),Pv (i + 1),fun σ' ys' H' p'=>⟨xs.length - (i + 1),by omega,rfl,hlt,p'⟩,fun v H' y=>?_⟩
    obtain ⟨T,x,rfl,hT,rfl,hx⟩:=y
    exact hs i x σ ys H T (hx xs q) p hT
  · have e:i = xs.length:=by omega
    subst e
    exact .inl ⟨⟨xs,q,Nat.le_refl _⟩,hd σ ys H p⟩
end
end L2
set_option maxHeartbeats 4000000
namespace My
open PySem L2 PySem.W StS
def isCl (v:V):Prop:=(∃ n,v = .int n)∨∃ x,v = .str x
def cellD:V→D
  | .int n=>.int n
  | .str x=>.str x
  | _=>.non
def rowD (r:Row):D:=.tup (r.map cellD)
def clRow (r:Row):Prop:=∀ v ∈ r,isCl v
theorem cell_at {K:PySem.W.Frag} {H:Hp} {v:V} (h:isCl v):DAt K H (cellD v) v:=by
  rcases h with ⟨n,rfl⟩ | ⟨x,rfl⟩
  · exact dat_int n
  · exact dat_str x
theorem cells_at {K:PySem.W.Frag} {H:Hp}:∀ {r:Row},clRow r→DsAt K H (r.map cellD) r
  | [],_=>DsAt.nil
  | v :: r,h=>DsAt.cons (cell_at (h v List.mem_cons_self)) (cells_at fun u hu=>h u (List.mem_cons_of_mem _ hu))
theorem row_at {K:PySem.W.Frag} {H:Hp} {a:Addr} {r:Row} (h:clRow r) (ha:H a = some (.tup r)):DAt K H (rowD r) (.ref a):=dat_tup ha (cells_at h)
theorem depths_le {n:Nat}:∀ {ds:List D},(∀ d ∈ ds,d.depth ≤ n)→depths ds ≤ n
  | [],_=>by rw [depths]; exact Nat.zero_le _
  | d :: ds,h=>by
    rw [depths]
    exact Nat.max_le.mpr ⟨h d List.mem_cons_self,depths_le fun e he=>h e (List.mem_cons_of_mem _ he)⟩
theorem cellD_depth (v:V):(cellD v).depth = 0:=by
  cases v <;> simp [cellD,D.depth]
theorem rowD_depth (r:Row):(rowD r).depth ≤ 1:=by
  unfold rowD
  rw [D.depth]
  have:depths (r.map cellD) ≤ 0:=depths_le fun d hd=>by
    obtain ⟨v,_,rfl⟩:=List.mem_map.mp hd
    rw [cellD_depth]; exact Nat.le_refl _
  omega
theorem cell_eq {x y:V} (hx:isCl x) (hy:isCl y):eqD (cellD x) (cellD y) = decide (x = y):=by
  rcases hx with ⟨n,rfl⟩ | ⟨a,rfl⟩ <;> rcases hy with ⟨m,rfl⟩ | ⟨b,rfl⟩
  · by_cases h:n = m <;> simp [cellD,eqD,h]
  · simp [cellD,eqD]
  · simp [cellD,eqD]
  · by_cases h:a = b <;> simp [cellD,eqD,h]
theorem cells_eq:∀ {r q:Row},clRow r→clRow q→eqDs (r.map cellD) (q.map cellD) = decide (r = q)
  | [],[],_,_=>by simp [eqDs]
  | [],_ :: _,_,_=>by simp [eqDs]
  | _ :: _,[],_,_=>by simp [eqDs]
  | x :: r,y :: q,h1,h2=>by
    rw [List.map_cons,List.map_cons,eqDs,cell_eq (h1 x List.mem_cons_self) (h2 y List.mem_cons_self),cells_eq (fun u hu=>h1 u (List.mem_cons_of_mem _ hu)) fun u hu=>h2 u (List.mem_cons_of_mem _ hu)]
    by_cases e1:x = y <;> by_cases e2:r = q <;> simp [e1,e2]
theorem row_eq {r q:Row} (h1:clRow r) (h2:clRow q):eqD (rowD r) (rowD q) = decide (r = q):=by
  unfold rowD
  rw [eqD,cells_eq h1 h2]
def apartAt (rs:List Row) (i:Nat) (r:Row):Bool:=decide (i = 0) || !decide (some r = rs[i - 1]?)
def apartI (rs:List Row):Nat→List Row
  | 0=>[]
  | i + 1=>apartI rs i ++ match rs[i]? with
    | some r=>if apartAt rs i r = true then [r] else []
    | none=>[]
def apart (rs:List Row):List Row:=apartI rs rs.length
abbrev sRunApart:Stmt:=top 19
theorem scRunApart:FnScope ["worker", "rows", "place"] ["worker", "rows", "place"] (defScope sRunApart):=⟨rfl,rfl,rfl,by decide +kernel,rfl,by decide +kernel,by decide +kernel⟩
def spRunApart:Sp:=fun vs H Q _=>∃ (w l pl:Addr) (as:List Addr) (rs:List Row),vs = [.ref w,.ref l,.ref pl]∧RowsAt H l as rs∧rs.length ≤ 1000∧(∀ r ∈ rs,clRow r) ∧
  ∀ (l':Addr) (as':List Addr) (H':Hp),Same H H'→H l' = none→RowsAt H' l' as' (apart rs)→Q (.ref l') H'
section
variable {P:Program} {w:World} {K:PySem.W.Frag} {mg:Str→Option Value} {base:Heap} {f:Addr} {fd:FuncData}
theorem ok_runapart (mE:mg "enumerate" = none) (F:Fun K "run_apart" "run_apart" sRunApart f fd):FnOk P w K mg base CX0 1 f fd ["worker", "rows", "place"] spRunApart:=by
  refine F.ok scRunApart (fun vs H Q E h=>?_) (fun cdv A outer s H vs Q E hr h=>?_)
  · obtain ⟨w,l,pl,as,rs,rfl,_⟩:=h
    rfl
  have hu:(A.deeper (PyProof.Rows.envOfC "run_apart" (defScope sRunApart) s.heap.objs.size f cdv)).units + 8 < cLine:=by have:=hr.units; omega
  obtain ⟨w,l,pl,as,rs,rfl,hR,hz,hc,q⟩:=h
  refine ⟨_,pss_one (ps_ret (pe_lcomp (N':=["at", "row", "rows"]) (src:=[none,none,some 1]) rfl (CompSc.ofB (by kernel_rfl)) (pi_enumL rfl mE (pa_cons (pv 1) pa_nil)) (g:=gTup K 2 (gCons (gName 0) (gCons (gName 1) gNil))) (fun cl C s H fp=>pg_tup rfl (pgs_cons (pgl (i:=0)) (pgs_cons (pgl (i:=1)) pgs_nil)))
    (tc:=tOr (tTest (tOp rEq (tVar 0) (tC (.int 0)))) (tTest (tOp (rNeD K (A.deeper (PyProof.Rows.envOfC "run_apart" (defScope sRunApart) s.heap.objs.size f cdv))) (tVar 1) (tOp (rIxL K) (tVar 2) (tOp (rI0 fun i j=>V.int (i - j)) (tVar 0) (tC (.int 1)))))))
    (fun cl C s H fp=>pifs_one (PW.pt (pw_or (pt_cmpR op_eq (pvl 0) pe_int (nomark _)) (pw_or1 (pt_cmpR op_neD (pvl 1) (pe_ix (r:=rIxL K) ix_list (pvf 2) (pe_op op_sub (pvl 0) pe_int) (fun _ _=>rfl)) (nomark _))))))
    (fun cl C s H fp=>pvl 1))),?_⟩
  refine ⟨_,rfl,l,rfl,⟨_,SqL.of hR.lst⟩,fun D hD=>?_⟩
  have hl:(as.map V.ref).length = rs.length:=by rw [List.length_map,hR.len]
  refine comp_enumL (xs:=as.map V.ref) (fun i σ ys H'=>(∃ o1 o2,σ = [o1,o2,some (.ref l)])∧(∃ us,ys = us.map V.ref∧us.length ≤ i∧Found H' us (apartI rs i))∧H' D = some (.lst ys)∧Same H H')
    ⟨⟨none,none,rfl⟩,⟨[],rfl,Nat.le_refl _,Found.nil⟩,upd_same,same_new hD _⟩ ?_ ?_ ?_ ?_ ?_
  · rintro i σ ys H' _ ⟨_,⟨us,rfl,hu,_⟩,h,_⟩
    exact ⟨h,by rw [List.length_map]; exact hu⟩
  · rintro i σ ys H' _ ⟨_,_,_,sm⟩
    exact SqL.of (sm _ _ hR.lst)
  · rw [hl]; exact Nat.le_trans hz (by decide)
  · rintro i x σ ys H' T hx ⟨⟨o1,o2,rfl⟩,⟨us,rfl,hul,hF⟩,h,sm⟩ hT
    obtain ⟨a,r,rfl,er,har⟩:=hR.get hx
    have sT:=same_new hT (.tup [.int (i:Nat),.ref a])
    have h2:(upd H' T (.tup [.int (i:Nat),.ref a])) D = some (.lst (us.map V.ref)):=sT _ _ h
    have ea:apartI rs (i + 1) = apartI rs i ++ if apartAt rs i r = true then [r] else []:=by
      show apartI rs i ++ _ = _
      rw [er]
    have har2:=sT _ _ (sm _ _ har)
    refine ⟨T,_,rfl,SqT.of upd_same,rfl,_,_,rfl,gName_go ⟨_,_,rfl,gName_go ⟨rfl,?_⟩⟩⟩
    dsimp only
    have yes:apartAt rs i r = true→(upd H' T (.tup [.int (i:Nat),.ref a])) D = some (.lst (us.map V.ref)) ∧
        ((∃ o1 o2,[some (V.int (i:Nat)),some (V.ref a),some (V.ref l)] = [o1,o2,some (.ref l)])∧(∃ us':List Addr,us.map V.ref ++ [.ref a] = us'.map V.ref∧us'.length ≤ i + 1∧Found (upd (upd H' T (.tup [.int (i:Nat),.ref a])) D (.lst (us.map V.ref ++ [.ref a]))) us' (apartI rs (i + 1))) ∧
        (upd (upd H' T (.tup [.int (i:Nat),.ref a])) D (.lst (us.map V.ref ++ [.ref a]))) D = some (.lst (us.map V.ref ++ [.ref a]))∧Same H (upd (upd H' T (.tup [.int (i:Nat),.ref a])) D (.lst (us.map V.ref ++ [.ref a])))):=fun hy=>by
      refine ⟨h2,⟨_,_,rfl⟩,⟨us ++ [a],by rw [List.map_append]; rfl,by rw [List.length_append]; simp; exact hul,?_⟩,upd_same,same_put hD (sm.trans sT)⟩
      rw [ea,if_pos hy]
      exact ((hF.same sT).snoc har2).keep (tup_upd h2)
    have no:¬ apartAt rs i r = true→(∃ o1 o2,[some (V.int (i:Nat)),some (V.ref a),some (V.ref l)] = [o1,o2,some (.ref l)])∧(∃ us':List Addr,us.map V.ref = us'.map V.ref∧us'.length ≤ i + 1∧Found (upd H' T (.tup [.int (i:Nat),.ref a])) us' (apartI rs (i + 1))) ∧
        (upd H' T (.tup [.int (i:Nat),.ref a])) D = some (.lst (us.map V.ref))∧Same H (upd H' T (.tup [.int (i:Nat),.ref a])):=fun hy=>by
      refine ⟨⟨_,_,rfl⟩,⟨us,rfl,by omega,?_⟩,h2,sm.trans sT⟩
      rw [ea,if_neg hy,List.append_nil]
      exact hF.same sT
    refine ⟨_,rfl,rfl,_,rfl,?_⟩
    refine ite2 (fun c=>?_) (fun c=>?_)
    · have c':i = 0:=by
        have:V.int (i:Nat) = V.int 0:=of_decide_eq_true c
        injection this with z
        omega
      refine iteT ⟨_,rfl,yes ?_⟩
      unfold apartAt
      rw [decide_eq_true c']; rfl
    · have c':i ≠ 0:=fun z=>c (decide_eq_true (by rw [z]; rfl))
      have hi:i < rs.length:=(List.getElem?_eq_some_iff.mp er).1
      have hi1:i - 1 < rs.length:=by omega
      have hi2:i - 1 < as.length:=by rw [hR.len]; exact hi1
      have eb:=hR.at_ (i - 1) _ _ (List.getElem?_eq_getElem hi2) (List.getElem?_eq_getElem hi1)
      have eat:atI (as.map V.ref) ((i:Nat) - 1:Int) = some (.ref as[i - 1]):=by
        rw [show ((i:Nat) - 1:Int) = ((i - 1:Nat):Int) by omega]
        exact atI_nat (by rw [List.getElem?_map,List.getElem?_eq_getElem hi2]; rfl)
      have hap:apartAt rs i r = !decide (r = rs[i - 1]):=by
        unfold apartAt
        rw [decide_eq_false c',List.getElem?_eq_getElem hi1]
        simp
      refine ⟨_,rfl,_,rfl,_,rfl,_,_,rfl,rfl,l,_,_,_,rfl,rfl,SqL.of (sT _ _ (sm _ _ hR.lst)),eat,rowD r,rowD rs[i - 1],row_at (hc r (List.mem_of_getElem? er)) har2,row_at (hc _ (List.getElem_mem hi1)) (sT _ _ (sm _ _ eb)),?_,_,rfl,?_⟩
      · have:=rowD_depth r
        omega
      · rw [row_eq (hc r (List.mem_of_getElem? er)) (hc _ (List.getElem_mem hi1)),← hap]
        refine ite2 (fun b=>⟨_,rfl,yes b⟩) (fun b=>no b)
  · rintro σ ys H' ⟨_,⟨us,rfl,_,hF⟩,h,sm⟩
    rw [hl] at hF
    exact q D us H' sm hD ⟨h,hF.len,hF.at_⟩
end
end My
set_option maxHeartbeats 4000000
namespace L2
open PySem
def rNil (neg:Bool):R2:=fun x y H Q=>∃ a b xs,x = .ref a∧y = .ref b∧H a = some (.lst xs)∧H b = some (.lst [])∧Q (.bl (if neg then !xs.isEmpty else xs.isEmpty)) H
theorem op_neNil {X:Cx} (hu:X.A.units + 8 < cLine):OpR X (compareOp .NotEq) (rNil true):=by
  intro pins s σ H x y v u Q I rx ry h
  obtain ⟨a,b,xs,rfl,rfl,ha,hb,q⟩:=h
  cases xs with
  | nil =>
    refine op_neD pins s σ H _ _ v u Q I rx ry ⟨.lst [],.lst [],dat_lst ha DsAt.nil,dat_lst hb DsAt.nil,?_,?_⟩
    · have:(D.lst []).depth ≤ 8:=by simp [D.depth,depths]
      omega
    · have e:eqD (.lst []) (.lst []) = true:=eqD_self _
      rw [e]; exact q
  | cons z zs=>exact op_neLen (by omega) pins s σ H _ _ v u Q I rx ry ⟨a,b,_,_,rfl,rfl,SqL.of ha,SqL.of hb,by simp,q⟩
theorem op_eqNil {X:Cx} (hu:X.A.units + 8 < cLine):OpR X (compareOp .Eq) (rNil false):=by
  intro pins s σ H x y v u Q I rx ry h
  obtain ⟨a,b,xs,rfl,rfl,ha,hb,q⟩:=h
  cases xs with
  | nil =>
    refine op_eqD pins s σ H _ _ v u Q I rx ry ⟨.lst [],.lst [],dat_lst ha DsAt.nil,dat_lst hb DsAt.nil,?_,?_⟩
    · have:(D.lst []).depth ≤ 8:=by simp [D.depth,depths]
      omega
    · have e:eqD (.lst []) (.lst []) = true:=eqD_self _
      rw [e]; exact q
  | cons z zs=>exact op_eqLen (by omega) pins s σ H _ _ v u Q I rx ry ⟨a,b,_,_,rfl,rfl,SqL.of ha,SqL.of hb,by simp,q⟩
end L2
set_option maxHeartbeats 4000000
namespace My
open PySem L2
def fitR (hd:List Str) (r:Row):Prop:=r.length = hd.length∧∀ (i:Nat) t v,hd[i]? = some t→r[i]? = some v→clOf t v
abbrev sRows:Stmt:=top 37
theorem scRows:FnScope ["_law_pot_here", "_law_head_here", "_law_most", "_law_rows_here", "_law_k"] ["_law_pot_here", "_law_head_here", "_law_most"] (defScope sRows):=⟨rfl,rfl,rfl,by decide +kernel,rfl,by decide +kernel,by decide +kernel⟩
def KeepT (H H':Hp):Prop:=∀ a xs,H a = some (.tup xs)→H' a = some (.tup xs)
theorem p62a {j:Int} (h:0 ≤ j) (h1:j ≤ 1000):-(2 ^ 62) ≤ j∧j < 2 ^ 62:=by
  have e:((2:Int) ^ 62) = 4611686018427387904:=by decide
  rw [e]; omega
theorem pot_ne_tup {H:Hp} {p a:Addr} {xs:List V} (hP:PotAt H p) (e:H a = some (.tup xs)):a ≠ p:=fun z=>by
  obtain ⟨x,y,h,_⟩:=hP
  rw [z,h] at e
  cases e
theorem keepG {p:Addr} {H H':Hp} (hP:PotAt H p) (g:Grow p H H'):KeepT H H':=fun a xs e=>g.keep a _ (pot_ne_tup hP e) e
theorem RowsAt.grow {p:Addr} {H H':Hp} {l:Addr} {as:List Addr} {rs:List Row} (hP:PotAt H p) (n:l ≠ p) (g:Grow p H H') (h:RowsAt H l as rs):RowsAt H' l as rs:=⟨g.keep _ _ n h.lst,h.len,fun i a r e1 e2=>keepG hP g _ _ (h.at_ i a r e1 e2)⟩
theorem RowsAt.snoc {H:Hp} {L:Addr} {as:List Addr} {rs:List Row} {a:Addr} {r:Row} (h:RowsAt H L as rs) (ha:H a = some (.tup r)):RowsAt (upd H L (.lst (as.map V.ref ++ [.ref a]))) L (as ++ [a]) (rs ++ [r]):=by
  have hF:Found H (as ++ [a]) (rs ++ [r]):=(Found.mk h.len h.at_).snoc ha
  have hF2:=hF.keep (tup_upd (o:=.lst (as.map V.ref ++ [.ref a])) h.lst)
  exact ⟨by rw [upd_same,List.map_append]; rfl,hF2.len,hF2.at_⟩
theorem fitR.snoc {ts:List Str} {r:Row} {t:Str} {v:V} {i:Nat} (h:fitR (ts.take i) r) (e:ts[i]? = some t) (hv:clOf t v):fitR (ts.take (i + 1)) (r ++ [v]):=by
  rw [take_one e]
  have hl:r.length = (ts.take i).length:=h.1
  refine ⟨by rw [List.length_append,List.length_append,h.1]; rfl,fun j t' v' e1 e2=>?_⟩
  by_cases hj:j < (ts.take i).length
  · rw [List.getElem?_append_left hj] at e1
    rw [List.getElem?_append_left (by rw [hl]; exact hj)] at e2
    exact h.2 j t' v' e1 e2
  · rw [List.getElem?_append_right (by omega)] at e1
    rw [List.getElem?_append_right (by omega),hl] at e2
    have e0:j - (ts.take i).length = 0:=by
      have:=(List.getElem?_eq_some_iff.mp e1).1
      simp only [List.length_singleton] at this
      omega
    rw [e0] at e1 e2
    cases e1
    cases e2
    exact hv
def spRows:Sp:=fun vs H Q _=>∃ (p l:Addr) (mo:Int) (ts:List Str),vs = [.ref p,.ref l,.int mo]∧PotAt H p∧H l = some (.lst (ts.map V.str))∧l ≠ p∧ts.length ≤ 100∧0 ≤ mo∧mo ≤ 100 ∧
  ∀ (L:Addr) (as:List Addr) (rs:List Row) (H':Hp),Grow p H H'→H L = none→L ≠ p→RowsAt H' L as rs→rs.length ≤ mo→(∀ r ∈ rs,fitR ts r)→Q (.ref L) H'
section
variable {P:Program} {w:World} {K:PySem.W.Frag} {mg:Str→Option Value} {base:Heap} {f g1 g2:Addr} {fd d1 d2:FuncData}
theorem ok_rows (B:Blt mg) (F:Fun K "_law_rows" "_law_rows" sRows f fd) (G:FnOk P w K mg base CX0 2 g1 d1 ["_law_pot_here", "_law_many"] spDraw) (bG:Binds K d1 ["_law_pot_here", "_law_many"] []) (kG:PySem.W.keepIn K (.ref g1) = true) (mG:mg "_law_draw" = some (.ref g1))
    (G2:FnOk P w K mg base CX0 2 g2 d2 ["_law_pot_here", "_law_sort"] spCellL) (b2:Binds K d2 ["_law_pot_here", "_law_sort"] []) (k2:PySem.W.keepIn K (.ref g2) = true) (m2:mg "_law_cell" = some (.ref g2)) :
    FnOk P w K mg base CX0 3 f fd ["_law_pot_here", "_law_head_here", "_law_most"] spRows:=by
  refine F.ok scRows (fun vs H Q E h=>?_) (fun cdv A outer s H vs Q E hr h=>?_)
  · obtain ⟨p,l,mo,ts,rfl,_⟩:=h
    rfl
  have hu:(A.deeper (PyProof.Rows.envOfC "_law_rows" (defScope sRows) s.heap.objs.size f cdv)).units + 8 < cLine:=by have:=hr.units; omega
  obtain ⟨p,l,mo,ts,rfl,hP,hl,nl,tl,m0,m1,q⟩:=h
  refine ⟨_,pss_cons (ps_set (i:=3) scRows.nd rfl (Or.inl rfl) (pe_lst pa_nil))
    (pss_cons (ps_for PassesOwn.never rfl (pi_range1 rfl B.range (pa_cons (pe_call G hr rfl mG kG bG .nil pass0 (pa_cons (pv 0) (pa_cons (pe_op op_add (pv 2) pe_int) pa_nil))) pa_nil)) (pg_name (i:=4) scRows.nd rfl (Or.inl rfl))
      (pss_one (ps_if (PW.pt (pw_and (pt_cmpR (op_neNil hu) (pv 3) (pe_lst pa_nil) (nomark _)) (pw_and1 (pt_cmpR op_eq (pe_call G hr rfl mG kG bG .nil pass0 (pa_cons (pv 0) (pa_cons pe_int pa_nil))) pe_int (nomark _)))))
        (pss_one (ps_expr (pe_bm PySem.F.plainAttrs_list PySem.F.slot_list_append PySem.F.type_list_append mt_append (pv 3) (pa_cons (pe_ix (r:=rIxL K) ix_list (pv 3) (pe_call G hr rfl mG kG bG .nil pass0 (pa_cons (pv 0) (pa_cons (pe_callB call_len_seq rfl B.len PySem.boot_len (pa_cons (pv 3) pa_nil)) pa_nil))) (fun _ _=>rfl)) pa_nil))))
        (pss_one (ps_expr (pe_bm PySem.F.plainAttrs_list PySem.F.slot_list_append PySem.F.type_list_append mt_append (pv 3) (pa_cons (pe_callTy call_tuple_of rfl B.tuple PyProof.Rows.boot_tuple (pa_cons (pe_lcomp (N':=["_law_sort", "_law_pot_here"]) (src:=[none,some 0]) rfl (CompSc.ofB (by kernel_rfl)) (pi_list (pv 1)) (fun cl C s H fp=>pgl (i:=0)) (fun cl C s H fp=>pifs_nil)
          (fun cl C s H fp=>pe_call G2 hr glc m2 k2 b2 .nil pass0 (pa_cons (pvf 1) (pa_cons (pvl 0) pa_nil)))) pa_nil)) pa_nil)))))))
    (pss_one (ps_ret (pv 3)))),?_⟩
  refine ⟨Nat.zero_le _,fun L hL=>gName_go ?_⟩
  have nL:L ≠ p:=(Grow.refl hP).ne hL
  have g0:=(Grow.refl hP).new (o:=.lst []) hL
  have hl0:upd H L (.lst []) l = some (.lst (ts.map V.str)):=by rw [upd_ne (ne_of_none hl hL)]; exact hl
  have nlL:l ≠ L:=ne_of_none hl hL
  refine ⟨_,rfl,_,rfl,_,_,rfl,rfl,p,_,rfl,g0.pot,by omega,log_small (by omega) (by omega),fun d H1 g1 a1 b1=>⟨d,rfl,(p62a a1 (by omega)).1,(p62a a1 (by omega)).2,?_⟩⟩
  have ng:∀ {H':Hp} {o:HO},Grow p H H'→Grow p H (upd H' L o):=fun {H' o} g'=>(Grow.refl hP).put hL nL g'
  refine for_range (n:=d.toNat) (fun i σ H'=>∃ (o:Option V) (as:List Addr) (rs:List Row),σ = [some (.ref p),some (.ref l),some (.int mo),some (.ref L),o]∧RowsAt H' L as rs∧rs.length = i∧(∀ r ∈ rs,fitR ts r)∧Grow p H H'∧H' l = some (.lst (ts.map V.str)))
    ⟨none,[],[],rfl,⟨g1.keep _ _ nL upd_same,rfl,fun i a r e=>by cases e⟩,rfl,(fun _ z=>nomatch z),g0.trans g1,g1.keep _ _ nl hl0⟩ ?_ ?_
  · rintro i σ H' hi ⟨o,as,rs,rfl,hR,rfl,hf,g',hl'⟩
    refine gName_go ?_
    have big:∀ n:Nat,n ≤ 200→n < sizeLine:=fun n hn=>Nat.lt_of_le_of_lt hn (by decide)
    have app:∀ (H5:Hp) (a:Addr) (r:Row),RowsAt H5 L as rs→H5 a = some (.tup r)→fitR ts r→Grow p H H5→H5 l = some (.lst (ts.map V.str))→∃ (o:Option V) (as':List Addr) (rs':List Row),[some (V.ref p),some (.ref l),some (.int mo),some (.ref L),some (.int (0 + (rs.length:Nat)))] = [some (.ref p),some (.ref l),some (.int mo),some (.ref L),o]∧RowsAt (upd H5 L (.lst (as.map V.ref ++ [.ref a]))) L as' rs'∧rs'.length = rs.length + 1∧(∀ r ∈ rs',fitR ts r)∧Grow p H (upd H5 L (.lst (as.map V.ref ++ [.ref a])))∧(upd H5 L (.lst (as.map V.ref ++ [.ref a]))) l = some (.lst (ts.map V.str)):=by
      intro H5 a r hR5 ha hfr g5 hl5
      refine ⟨_,as ++ [a],rs ++ [r],rfl,hR5.snoc ha,by rw [List.length_append]; rfl,fun r' hr'=>?_,ng g5,by rw [upd_ne nlL]; exact hl5⟩
      rcases List.mem_append.mp hr' with z | z
      · exact hf r' z
      · rw [List.mem_singleton.mp z]; exact hfr
    have els:∀ H5:Hp,RowsAt H5 L as rs→Grow p H H5→H5 l = some (.lst (ts.map V.str))→∀ R:St→Hp→Prop,(∀ (a:Addr) (r:Row) (H6:Hp),RowsAt H6 L as rs→H6 a = some (.tup r)→fitR ts r→Grow p H H6→H6 l = some (.lst (ts.map V.str))→R [some (V.ref p),some (.ref l),some (.int mo),some (.ref L),some (.int (0 + (rs.length:Nat)))] (upd H6 L (.lst (as.map V.ref ++ [.ref a])))) →
        ∀ D':Ends,D'.nx = R→tDrop (tBM K "list" rAppend (tVar 3) (tCons (tCB (fun xs H Q=>∃ p ys,xs = [.ref p]∧((SqL K H p ys∧∀ l,H l = none→Q (.ref l) (upd H l (.tup ys)))∨(SqT K H p ys∧Q (.ref p) H))) (tCons (tComp [none,some 0] (iList K (tVar 1)) (gName 0) tNoIf (tCall spCellL [] E0 (tCons (tVar 1) (tCons (tVar 0) tNil)))) tNil)) tNil)) D' [some (V.ref p),some (.ref l),some (.int mo),some (.ref L),some (.int (0 + (rs.length:Nat)))] H5:=by
      intro H5 hR5 g5 hl5 R hRR D' eD
      refine ⟨_,rfl,.inl ⟨rfl,_,SqL.of hR5.lst⟩,_,rfl,l,rfl,⟨_,SqL.of hl5⟩,fun D hD=>?_⟩
      have nD:D ≠ p:=g5.ne hD
      have nDL:L ≠ D:=ne_of_none hR5.lst hD
      have nDl:l ≠ D:=ne_of_none hl5 hD
      have hlm:(ts.map V.str).length = ts.length:=List.length_map _
      refine comp_list (xs:=ts.map V.str) (fun j σ ys H'=>(∃ o,σ = [o,some (.ref p)])∧fitR (ts.take j) ys∧H' D = some (.lst ys)∧Grow p H5 H')
        ⟨⟨none,rfl⟩,⟨rfl,fun i t v e=>by cases e⟩,upd_same,(Grow.refl g5.pot).new hD⟩ ?_ ?_ ?_ ?_ ?_
      · rintro j σ ys H' hj ⟨_,hfy,h,_⟩
        refine ⟨h,?_⟩
        rw [hfy.1,List.length_take]
        exact Nat.min_le_left _ _
      · rintro j σ ys H' _ ⟨_,_,_,g⟩
        exact SqL.of (g.keep _ _ nl hl5)
      · rw [hlm]; exact Nat.le_trans tl (by decide)
      · rintro j x σ ys H' hx ⟨⟨o,rfl⟩,hfy,h,g⟩
        rw [List.getElem?_map] at hx
        cases et:ts[j]? with
        | none=>rw [et] at hx; cases hx
        | some t =>
          rw [et] at hx
          have hx':V.str t = x:=Option.some.inj hx
          subst hx'
          refine ⟨_,rfl,_,rfl,p,t,rfl,g.pot,fun v H7 g7 hv=>⟨g7.keep _ _ nD h,⟨_,rfl⟩,hfy.snoc et hv,upd_same,(Grow.refl g5.pot).put hD nD (g.trans g7)⟩⟩
      · rintro σ ys H' ⟨_,hfy,h,g⟩
        rw [hlm,List.take_length] at hfy
        refine ⟨D,_,rfl,.inl ⟨SqL.of h,fun u hu'=>?_⟩⟩
        have su:=same_new hu' (.tup ys)
        have g6:=g.new (o:=.tup ys) hu'
        have hR6:=hR5.grow g5.pot nL g6
        refine ⟨L,_,_,rfl,rfl,hR6.lst,by rw [List.length_map,hR5.len]; exact big _ (by omega),?_⟩
        rw [eD]
        exact hRR u ys _ hR6 upd_same hfy (g5.trans g6) (g6.keep _ _ nl hl5)
    refine ⟨_,rfl,Nat.zero_le _,fun z hz=>?_⟩
    have sz:=same_new hz (.lst [])
    have gz:=g'.new (o:=.lst []) hz
    have hRz:=hR.same sz
    have hlz:=sz _ _ hl'
    refine ⟨L,z,_,rfl,rfl,hRz.lst,upd_same,_,rfl,?_⟩
    refine ite2 (fun c=>?_) (fun c=>?_)
    · have hne:0 < rs.length:=by
        cases as with
        | nil=>cases c
        | cons a as'=>rw [← hR.len]; exact Nat.succ_pos _
      refine ⟨_,rfl,p,_,rfl,gz.pot,by decide,by decide,fun d3 H5 g5 a5 b5=>⟨rfl,_,rfl,?_⟩⟩
      have hR5:=hRz.grow gz.pot nL g5
      have hl5:=g5.keep _ _ nl hlz
      refine ite2 (fun c3=>?_) (fun c3=>?_)
      · refine ⟨_,rfl,.inl ⟨rfl,_,SqL.of hR5.lst⟩,_,rfl,_,rfl,_,rfl,L,_,rfl,.inl (SqL.of hR5.lst),p,_,rfl,g5.pot,?_,?_,fun d4 H6 g6 a6 b6=>?_⟩
        · rw [List.length_map,hR.len]; omega
        · rw [List.length_map,hR.len]; exact log_small (by omega) (by omega)
        have hR6:=hR5.grow g5.pot nL g6
        rw [List.length_map,hR.len] at b6
        obtain ⟨v,hv,hg⟩:=atI_lt (xs:=as.map V.ref) a6 (by rw [List.length_map,hR.len]; exact b6)
        obtain ⟨a,r,rfl,er,har⟩:=hR6.get hg
        refine ⟨L,_,_,_,rfl,rfl,SqL.of hR6.lst,hv,L,_,_,rfl,rfl,hR6.lst,by rw [List.length_map,hR.len]; exact big _ (by omega),?_⟩
        exact app _ a r hR6 har (hf r (List.mem_of_getElem? er)) (gz.trans (g5.trans g6)) (g6.keep _ _ nl hl5)
      · exact els H5 hR5 (gz.trans g5) hl5 _ (fun a r H6 z1 z2 z3 z4 z5=>app H6 a r z1 z2 z3 z4 z5) _ rfl
    · exact els _ hRz gz hlz _ (fun a r H6 z1 z2 z3 z4 z5=>app H6 a r z1 z2 z3 z4 z5) _ rfl
  · rintro σ H' ⟨o,as,rs,rfl,hR,hlen,hf,g',hl'⟩
    exact ⟨_,rfl,q L as rs H' g' hL nL hR (by omega) hf⟩
end
end My
namespace L2
open PySem PySem.Spec PyProof.Rows
def numsV (lo hi:Int):List V:=(List.range (hi - lo).toNat).map fun i=>V.int (lo + (i:Nat))
section
variable {X:Cx}
theorem call_rng:CallR X (.type "range") (fun xs H Q=>∃ i j,xs = [.int i,.int j]∧∀ r,H r = none→Q (.ref r) (upd H r (.rng i j))):=by
  intro pins s σ H xs us Q I r h
  obtain ⟨i,j,rfl,q⟩:=h
  obtain ⟨u1,u2,rfl,⟨t,rfl⟩,⟨t',rfl⟩⟩:=vals2 r
  refine call_range_2 ?_
  refine ⟨.ref s.heap.objs.size,_,I.laid (t':=_) (o:=.rng i j) (fun b ob q=>Heap.get?_push_of_some _ q) (Nat.le_refl _) ⟨_,_,_,Heap.get?_push_size _ rfl⟩,rfl,q _ (I.hok.fresh (Nat.le_refl _))⟩
theorem call_list_rng (hc:X.calm = true):CallR X (.type "list") (fun xs H Q=>∃ p lo hi,xs = [.ref p]∧H p = some (.rng lo hi)∧0 ≤ lo∧lo ≤ hi∧hi ≤ 1000∧∀ l,H l = none→Q (.ref l) (upd H l (.lst (numsV lo hi)))):=by
  intro pins s σ H xs us Q I r h
  obtain ⟨p,lo,hi,rfl,hp,h0,h1,h2,q⟩:=h
  obtain ⟨u,rfl,rx⟩:=vals1 r
  cases rx
  obtain ⟨t,u,v,e⟩:=I.hok p _ hp
  have hsize:Builtin.Range.rangeSize lo hi 1 = ((hi - lo).toNat:Int):=by
    unfold Builtin.Range.rangeSize
    rw [if_pos (by decide),Int.ediv_one]
    split <;> omega
  refine call_list_range (I.ok.hd hc) e ?_ hsize (by omega) fun h' tk acc' c' hk hl hi'=>?_
  · unfold Builtin.Range.small
    rw [hsize]
    have f:∀ z:Int,0 ≤ z→z ≤ 1001→Builtin.Range.rangeFitsLong z = true:=fun z a b=>by
      unfold Builtin.Range.rangeFitsLong
      simp
      omega
    rw [f lo (by omega) (by omega),f hi (by omega) (by omega),f 1 (by omega) (by omega),f _ (by omega) (by omega),if_pos (by decide),f (hi + (1 - 1)) (by omega) (by omega)]
    simp
  · have hV:Vals (numsV lo hi) acc'.toList:=by
      have hlen:acc'.toList.length = (hi - lo).toNat:=by rw [Array.length_toList]; exact hi'.1
      have gen:∀ (us:List Value) (k:Nat),(∀ j v,us[j]? = some v→∃ t,v = Value.int (lo + ((k + j:Nat):Int)) t)→Vals ((List.range' k us.length).map fun i=>V.int (lo + (i:Nat))) us:=by
        intro us
        induction us with
        | nil=>intro k _; exact .nil
        | cons w us ih =>
          intro k hw
          rw [List.length_cons,List.range'_succ,List.map_cons]
          exact .cons (by obtain ⟨t,z⟩:=hw 0 w rfl; exact ⟨t,z⟩) (ih (k + 1) fun j v hj=>by
            obtain ⟨t,z⟩:=hw (j + 1) v (by simpa using hj)
            exact ⟨t,by rw [z]; congr 1; omega⟩)
      have:=gen acc'.toList 0 fun j v hj=>by
        obtain ⟨t,z⟩:=hi'.2 j v (by simpa using hj)
        exact ⟨t,by rw [z,Nat.zero_add,Int.mul_one]⟩
      unfold numsV
      rw [hlen,← List.range_eq_range'] at this
      exact this
    refine ⟨.ref s.heap.objs.size,_,I.laid (t':=tk) (o:=.lst (numsV lo hi)) hk (Nat.le_refl _) ⟨?_,acc'.toList,c',hV,by simpa using hl⟩,rfl,q _ (I.hok.fresh (Nat.le_refl _))⟩
    unfold numsV
    rw [List.length_map,List.length_range]
    exact Nat.le_trans (show (hi - lo).toNat ≤ 1000 by omega) (by decide)
end
end L2
set_option maxHeartbeats 4000000
namespace My
open PySem L2
theorem erase_map {α β:Type} (g:α→β):∀ (l:List α) (k:Nat),(l.map g).eraseIdx k = (l.eraseIdx k).map g
  | [],_=>rfl
  | _ :: _,0=>rfl
  | x :: l,k + 1=>congrArg (g x :: ·) (erase_map g l k)
abbrev sOrder:Stmt:=top 39
theorem scOrder:FnScope ["_law_pot_here", "_law_wide", "_law_left", "_law_found", "_law_k"] ["_law_pot_here", "_law_wide"] (defScope sOrder):=⟨rfl,rfl,rfl,by decide +kernel,rfl,by decide +kernel,by decide +kernel⟩
def spOrder:Sp:=fun vs H Q _=>∃ (p:Addr) (wd:Nat),vs = [.ref p,.int (wd:Nat)]∧PotAt H p∧1 ≤ wd∧wd ≤ 100 ∧
  ∀ (t:Addr) (bs:List Addr) (od:List (Int×Bool)) (H':Hp),Grow p H H'→OrdAt H' t bs od→od.length ≤ wd→(∀ q ∈ od,1 ≤ q.1∧q.1 ≤ wd)→Q (.ref t) H'
section
variable {P:Program} {w:World} {K:PySem.W.Frag} {mg:Str→Option Value} {base:Heap} {f g1:Addr} {fd d1:FuncData}
theorem ok_order (B:Blt mg) (F:Fun K "_law_order" "_law_order" sOrder f fd) (G:FnOk P w K mg base CX0 2 g1 d1 ["_law_pot_here", "_law_many"] spDraw) (bG:Binds K d1 ["_law_pot_here", "_law_many"] []) (kG:PySem.W.keepIn K (.ref g1) = true) (mG:mg "_law_draw" = some (.ref g1)) :
    FnOk P w K mg base CX0 3 f fd ["_law_pot_here", "_law_wide"] spOrder:=by
  refine F.ok scOrder (fun vs H Q E h=>?_) (fun cdv A outer s H vs Q E hr h=>?_)
  · obtain ⟨p,wd,rfl,_⟩:=h
    rfl
  obtain ⟨p,wd,rfl,hP,w1,w2,q⟩:=h
  refine ⟨_,(pss_cons (ps_set (i:=2) scOrder.nd rfl (Or.inl rfl) (pe_callTy (call_list_rng rfl) rfl B.list PyProof.Rows.boot_list (pa_cons (pe_callTy call_rng rfl B.range PyProof.Rows.boot_range (pa_cons pe_int (pa_cons (pe_op op_add (pv 1) pe_int) pa_nil))) pa_nil)))
    (pss_cons (ps_set (i:=3) scOrder.nd rfl (Or.inl rfl) (pe_lst pa_nil))
    (pss_cons (ps_for PassesOwn.never rfl (pi_range1 rfl B.range (pa_cons (pe_op op_add pe_int (pe_call G hr rfl mG kG bG .nil pass0 (pa_cons (pv 0) (pa_cons (pv 1) pa_nil)))) pa_nil)) (pg_name (i:=4) scOrder.nd rfl (Or.inl rfl))
      (pss_one (ps_expr (pe_bm PySem.F.plainAttrs_list PySem.F.slot_list_append PySem.F.type_list_append mt_append (pv 3) (pa_cons (pe_tup (pa_cons (pe_bm PySem.F.plainAttrs_list PySem.F.slot_list_pop PySem.F.type_list_pop mt_popAt (pv 2) (pa_cons (pe_call G hr rfl mG kG bG .nil pass0 (pa_cons (pv 0) (pa_cons (pe_callB call_len_seq rfl B.len PySem.boot_len (pa_cons (pv 2) pa_nil)) pa_nil))) pa_nil)) (pa_cons (pe_cmpR op_eq (pe_call G hr rfl mG kG bG .nil pass0 (pa_cons (pv 0) (pa_cons pe_int pa_nil))) pe_int (nomark _)) pa_nil))) pa_nil)))))
    (pss_one (ps_ret (pe_callTy call_tuple_of rfl B.tuple PyProof.Rows.boot_tuple (pa_cons (pv 3) pa_nil))))))),?_⟩
  refine ⟨_,rfl,_,_,rfl,rfl,_,_,rfl,fun r hr1=>⟨r,_,_,rfl,upd_same,by omega,by omega,by omega,fun L hL=>gName_go ?_⟩⟩
  dsimp only
  refine ⟨Nat.zero_le _,fun D hD=>gName_go ?_⟩
  dsimp only
  have g1:Grow p H (upd H r (.rng 1 ((wd:Nat) + 1))):=(Grow.refl hP).new hr1
  have g2:Grow p H (upd (upd H r (.rng 1 ((wd:Nat) + 1))) L (.lst (numsV 1 ((wd:Nat) + 1)))):=g1.trans ((Grow.refl g1.pot).new hL)
  have g3:Grow p H (upd (upd (upd H r (.rng 1 ((wd:Nat) + 1))) L (.lst (numsV 1 ((wd:Nat) + 1)))) D (.lst [])):=g2.trans ((Grow.refl g2.pot).new hD)
  have nL:L ≠ p:=(Grow.refl g1.pot).ne hL
  have nD:D ≠ p:=(Grow.refl g2.pot).ne hD
  have nLD:L ≠ D:=fun z=>by rw [← z,upd_same] at hD; cases hD
  have hL0:(upd (upd (upd H r (.rng 1 ((wd:Nat) + 1))) L (.lst (numsV 1 ((wd:Nat) + 1)))) D (.lst [])) L = some (.lst (((List.range wd).map fun i=>(1:Int) + (i:Nat)).map V.int)):=by
    rw [upd_ne nLD,upd_same,List.map_map]
    unfold numsV
    rw [show (((wd:Nat):Int) + 1 - 1).toNat = wd by omega]
    rfl
  have hD0:(upd (upd (upd H r (.rng 1 ((wd:Nat) + 1))) L (.lst (numsV 1 ((wd:Nat) + 1)))) D (.lst [])) D = some (.lst []):=upd_same
  have hLn:H L = none:=by
    cases z:H L with
    | none=>rfl
    | some o=>rw [upd_ne (ne_of_none z hr1),z] at hL; cases hL
  have hDn:H D = none:=by
    cases z:H D with
    | none=>rfl
    | some o =>
      by_cases e:D = L
      · exact absurd e.symm nLD
      · rw [upd_ne e,upd_ne (ne_of_none z hr1),z] at hD; cases hD
  revert g3 hL0 hD0
  generalize (upd (upd (upd H r (.rng 1 ((wd:Nat) + 1))) L (.lst (numsV 1 ((wd:Nat) + 1)))) D (.lst [])) = H0
  intro g3 hL0 hD0
  have ng:∀ {H':Hp} {o:HO} {a:Addr},H a = none→a ≠ p→Grow p H H'→Grow p H (upd H' a o):=fun {H' o a} ha na g'=>(Grow.refl hP).put ha na g'
  refine ⟨_,rfl,_,rfl,p,_,rfl,g3.pot,by omega,log_small (by omega) (by omega),fun d H1 gd a1 b1=>⟨_,_,rfl,rfl,_,rfl,(p62a (j:=1 + d) (by omega) (by omega)).1,(p62a (j:=1 + d) (by omega) (by omega)).2,?_⟩⟩
  refine for_range (n:=(1 + d).toNat) (fun i σ H'=>∃ (o:Option V) (ms:List Int) (bs:List Addr) (od:List (Int×Bool)),σ = [some (.ref p),some (.int (wd:Nat)),some (.ref L),some (.ref D),o]∧H' L = some (.lst (ms.map V.int))∧ms.length + i = wd∧(∀ m ∈ ms,1 ≤ m∧m ≤ wd) ∧
      H' D = some (.lst (bs.map V.ref))∧bs.length = od.length∧(∀ (i:Nat) b q,bs[i]? = some b→od[i]? = some q→H' b = some (.tup [.int q.1,.bl q.2]))∧od.length = i∧(∀ q ∈ od,1 ≤ q.1∧q.1 ≤ wd)∧Grow p H H')
    ⟨none,_,[],[],rfl,gd.keep _ _ nL hL0,by simp,fun m hm=>?_,gd.keep _ _ nD hD0,rfl,(fun i b q e=>by cases e),rfl,(fun _ z=>nomatch z),g3.trans gd⟩ ?_ ?_
  · obtain ⟨i,hi,rfl⟩:=List.mem_map.mp hm
    have:i < wd:=by simpa using hi
    omega
  · rintro i σ H' hi ⟨o,ms,bs,od,rfl,hL',hml,hmb,hD',hbl,hbt,hol,hob,g'⟩
    have hms:1 ≤ ms.length:=by omega
    have hln:(ms.map V.int).length = ms.length:=List.length_map ..
    refine gName_go ?_
    dsimp only
    refine ⟨_,rfl,.inl ⟨rfl,_,SqL.of hD'⟩,_,rfl,.inl ⟨rfl,_,SqL.of hL'⟩,_,rfl,_,rfl,L,_,rfl,.inl (SqL.of hL'),p,_,rfl,g'.pot,by rw [hln]; omega,log_small (by rw [hln]; omega) (by rw [hln]; omega),fun d1 H2 g2' a2 b2=>?_⟩
    rw [hln] at b2
    have hL2:=g2'.keep _ _ nL hL'
    have hk:d1.toNat < ms.length:=by omega
    refine ⟨L,_,d1,d1.toNat,V.int ms[d1.toNat],rfl,rfl,hL2,?_,?_,?_,by simp [hk],?_⟩
    · have e:((2:Int) ^ 63) = 9223372036854775808:=by decide
      rw [e]; omega
    · have e:((2:Int) ^ 63) = 9223372036854775808:=by decide
      rw [e]; omega
    · rw [hln]
      exact PySem.seqIndex_of a2 b2
    · have gA:Grow p H (upd H2 L (.lst ((ms.map V.int).eraseIdx d1.toNat))):=ng hLn nL (g'.trans g2')
      refine ⟨_,rfl,p,_,rfl,gA.pot,by omega,log_small (by omega) (by omega),fun d2 H4 g4 a4 b4=>⟨rfl,by show 2 ≤ sizeLine; decide,fun T hT=>?_⟩⟩
      have hL4:H4 L = some (.lst ((ms.eraseIdx d1.toNat).map V.int)):=by
        have:=g4.keep _ _ nL upd_same
        rw [this,erase_map]
      have hD3:(upd H2 L (.lst ((ms.map V.int).eraseIdx d1.toNat))) D = some (.lst (bs.map V.ref)):=by rw [upd_ne nLD.symm]; exact g2'.keep _ _ nD hD'
      have hD4:=g4.keep _ _ nD hD3
      have sT:=same_new hT (.tup [.int ms[d1.toNat],.bl (decide (V.int d2 = V.int 1))])
      have tp:∀ b xs,H' b = some (.tup xs)→H4 b = some (.tup xs):=fun b xs e=>by
        have nb:b ≠ p:=pot_ne_tup g'.pot e
        have nbL:b ≠ L:=fun z=>by rw [z,hL'] at e; cases e
        exact g4.keep _ _ nb (by rw [upd_ne nbL]; exact g2'.keep _ _ nb e)
      have hDT:=sT _ _ hD4
      have nTL:L ≠ T:=ne_of_none hL4 hT
      refine ⟨D,_,.ref T,rfl,rfl,hDT,?_,?_⟩
      · rw [List.length_map,hbl]
        exact Nat.lt_of_le_of_lt (show od.length ≤ 1000 by omega) (by decide)
      · refine ⟨_,ms.eraseIdx d1.toNat,bs ++ [T],od ++ [(ms[d1.toNat],decide (V.int d2 = V.int 1))],rfl,?_,?_,fun m hm=>hmb m (List.mem_of_mem_eraseIdx hm),by rw [upd_same,List.map_append]; rfl,by rw [List.length_append,List.length_append,hbl]; rfl,?_,by rw [List.length_append,hol]; rfl,fun q' hq'=>?_,ng hDn nD ((gA.trans g4).trans ((Grow.refl (gA.trans g4).pot).new hT))⟩
        · rw [upd_ne nLD]
          exact sT _ _ hL4
        · rw [List.length_eraseIdx_of_lt hk]; omega
        · have hp:Paired (fun b q'=>(upd (upd H4 T (.tup [.int ms[d1.toNat],.bl (decide (V.int d2 = V.int 1))])) D (.lst (bs.map V.ref ++ [.ref T]))) b = some (.tup [.int q'.1,.bl q'.2])) bs od:=paired_of hbl fun j b q' e1 e2=>tup_upd hDT _ _ (sT _ _ (tp _ _ (hbt j b q' e1 e2)))
          exact paired_at (paired_app hp (.cons (tup_upd hDT _ _ upd_same) .nil))
        · rcases List.mem_append.mp hq' with z | z
          · exact hob q' z
          · rw [List.mem_singleton.mp z]
            exact hmb _ (List.getElem_mem hk)
  · rintro σ H' ⟨o,ms,bs,od,rfl,hL',hml,hmb,hD',hbl,hbt,hol,hob,g'⟩
    refine ⟨_,rfl,D,_,rfl,.inl ⟨SqL.of hD',fun t ht=>?_⟩⟩
    refine q t bs od _ (g'.trans ((Grow.refl g'.pot).new ht)) ⟨upd_same,hbl,fun i b q' e1 e2=>?_⟩ (by omega) hob
    have hb:=hbt i b q' e1 e2
    rw [upd_ne (ne_of_none hb ht)]
    exact hb
end
end My
set_option maxHeartbeats 4000000
namespace L2
open PySem PySem.Spec PyProof.Rows
open Sem (wp)
theorem eK_tc (a b:Value):checkTypeCall "enumerate" ⟨[a],[("start", b)]⟩ = pure ():=by kernel_rfl
theorem eK_nc (a b:Value):checkBuiltinCall "enumerate.__new__" ⟨[.type "enumerate", a],[("start", b)]⟩ = pure ():=by kernel_rfl
theorem eK_oi (o a b:Value):argsOk "object.__init__" ⟨[o,a],[("start", b)]⟩:=by
  unfold argsOk; rw [signature?_of (id:="object.__init__") (n:=['_','_','t','i','n','i','_','_']) (o:=['t','c','e','j','b','o']) (by kernel_rfl) F.owner_object]; kernel_rfl
theorem eK_init {x:Value} {a b:Value}:Meets (Builtin.«object.__init__» ⟨[x,a],[("start", b)]⟩) (fun _ R s=>s.TypeIs x "enumerate"∧R (.ok (.ret .none)) s):=by
  refine Meets.of_wp fun prog w A R s hs=>?_
  obtain ⟨hT,hq⟩:=hs
  have hl:=F.called_enumerate.init.lookup
  have hm:=F.called_enumerate.made
  have hne:(some "enumerate.__new__" != some "object.__new__") = true:=by decide
  repeat (any_goals (first | assumption | wp_step))
  exact ⟨_,rfl,hq⟩
theorem eK_new (l:Addr) (xs:Array Value) (n:Nat) (k:Int) (t:Tok) (dc:Option Addr) (sl:Array (Option Value)) (hk:Builtin.SmallTypes.fitsIndex k = true) :
    Meets (Builtin.«enumerate.__new__» ⟨[.type "enumerate", .ref l],[("start", .int k t)]⟩) (fun _ R s=>s.heap.get? l = some ⟨.type "list", dc,.seq xs n,sl⟩ ∧
      R (.ok (.ret (.ref (s.heap.push { cls:=.type "list_iterator", data:=.fields #[.ref l,.int 0 0] }).objs.size)))
        { s with heap:=(s.heap.push { cls:=.type "list_iterator", data:=.fields #[.ref l,.int 0 0] }).push { cls:=.type "enumerate", data:=.fields #[.none,.bool false,.ref s.heap.objs.size,rawInt k,.none,.none] } }) :=
  .of_wp fun prog w A R s h=>by
    obtain ⟨hp,g,d,tk,os⟩:=s
    obtain ⟨hl,h⟩:=h
    have hsub:=sub_enumerate
    have hL:Heap.IsList (Shared.heap ⟨hp,g,d,tk,os⟩) l xs:=⟨_,hl,rfl,n,rfl⟩
    wp_walk using AutoSeq1.wpAny_loadPart' hl
    refine wpAny_stack_any fun st=>wpAny_pure ?_
    split
    · rename_i c _ _ _ _ _
      cases (c == Value.type "enumerate")
      · wp_walk using AutoSeq1.wpAny_loadPart' hl,wpAny_pyIter_list hL
        exact ⟨_,rfl,h⟩
      · wp_walk using AutoSeq1.wpAny_loadPart' hl,wpAny_pyIter_list hL
        exact ⟨_,rfl,h⟩
    · wp_walk using AutoSeq1.wpAny_loadPart' hl,wpAny_pyIter_list hL
      exact ⟨_,rfl,h⟩
section
variable {prog:Program} {w:World} {A:Around} {E:Value→Shared→Prop} {s:Shared}
theorem eK_type {T nid iid:String} {Bn Bi:Builtin} {args:List Value} {kw:List (Str×Value)} {S:PySem.Spec} {Q Q1:Value→Shared→Prop} (ft:TypeCalled T nid iid)
    (hct:checkTypeCall T ⟨args,kw⟩ = pure ()) (hcn:checkBuiltinCall nid ⟨.type T :: args,kw⟩ = pure ()) (eN:entryFor table nid = some Bn) (eI:entryFor table iid = some Bi) (g:Meets (Bn ⟨.type T :: args,kw⟩) S) (h:S A.in1 (wants Q1 E) s)
    (hn:∀ x s1,Q1 x s1→s1.TypeIs x T∧argsOk iid ⟨x :: args,kw⟩∧∃ Si,Meets (Bi ⟨x :: args,kw⟩) Si∧Si A.in1 (wants (fun r s2=>r = .none∧Q x s2) E) s1) :
    wpAny (model prog w) A (call (.type T) args kw) Q E s:=by
  obtain ⟨c,tl,hmro⟩:=ft.mro
  have hmade:=ft.made
  have hsub:=ft.sub
  refine wpAny_call (codeAny_of_tree (show wpAny _ _ (callAny (.type T) _) _ _ _ from ?_))
  refine wpAny_pure ⟨Code.quiet_builtin _ (by decide +kernel),codeAny_builtin F.entry_type_call ?_⟩
  rw [Around.under_plain (weight_type_call_type T args kw) (units_type_call_type T args kw)]
  have h1:=ft.notType
  have h2:=ft.canCreate
  repeat (any_goals (first | assumption | wp_step))
  refine codeAny_mono (codeAny_call_builtin ft.plain eN (wpAny_of_eq hcn (g prog w A.in1 _ s h))) fun r s1 z=>?_
  cases r with
  | error e=>exact z
  | ok fl =>
    cases fl with
    | ret x =>
      obtain ⟨hT,hok,Si,gi,hsi⟩:=hn _ _ z
      have hli:=ft.init.lookup
      have hbi:=ft.init.bind x
      repeat (any_goals (first | assumption | wp_step))
      refine codeAny_mono (codeAny_call_builtin ft.init.plain eI (ft.init.check _ _ _ _ _ _ _ _ hT hok (gi prog w A.in1 _ s1 hsi))) fun r2 s2 z2=>?_
      cases r2 with
      | error e=>exact z2
      | ok fl2 =>
        cases fl2 with
        | ret r =>
          obtain ⟨rfl,hq⟩:=z2
          repeat (any_goals (first | assumption | wp_step))
        | _=>exact z2.elim
    | _=>exact z.elim
theorem eK_call {l:Addr} {xs:Array Value} {k:Int} {t:Tok} {Q:Value→Shared→Prop} (hk:Builtin.SmallTypes.fitsIndex k = true) (hL:s.heap.IsList l xs)
    (h:∀ h',IsEnum h' (s.heap.objs.size + 1) s.heap.objs.size k .none→h'.IsListIter s.heap.objs.size l 0→h'.objs.size = s.heap.objs.size + 2 →
      (∀ b o,s.heap.get? b = some o→h'.get? b = some o)→Q (.ref (s.heap.objs.size + 1)) { s with heap:=h' }) :
    wpAny (model prog w) A (call (.type "enumerate") [.ref l] [("start", .int k t)]) Q E s:=by
  obtain ⟨⟨c,dct,dt,sl⟩,hl,hc,n,hd⟩:=hL
  replace hc:c = .type "list":=hc
  replace hd:dt = .seq xs n:=hd
  subst hc hd
  refine eK_type (Q1:=fun x s1=>s1.TypeIs x "enumerate"∧Q x s1) F.called_enumerate (eK_tc _ _) (eK_nc _ _) F.entry_enumerate_new F.entry_object_init (eK_new l xs n k t dct sl hk) ⟨hl,?_⟩ fun x s1 z=>⟨z.1,eK_oi _ _ _,_,eK_init,z.1,rfl,z.2⟩
  have hz:(s.heap.push { cls:=.type "list_iterator", data:=.fields #[.ref l,.int 0 0] }).objs.size = s.heap.objs.size + 1:=Heap.size_push ..
  show _∧_
  rw [hz]
  have he:=Heap.get?_push_size (s.heap.push { cls:=.type "list_iterator", data:=.fields #[.ref l,.int 0 0] }) (o:={ cls:=.type "enumerate", data:=.fields #[.none,.bool false,.ref s.heap.objs.size,rawInt k,.none,.none] }) rfl
  rw [hz] at he
  refine ⟨⟨_,he,rfl⟩,h _ he ⟨_,Heap.get?_push_of_some _ (Heap.get?_push_size _ rfl),rfl,rfl⟩ (by rw [Heap.size_push,hz]) fun b o x=>Heap.get?_push_of_some _ (Heap.get?_push_of_some _ x)⟩
end
end L2
set_option maxHeartbeats 4000000
namespace L2
open PySem PySem.Spec PyProof.Rows
def IteL1 (K:PySem.W.Frag) (a:Addr):It :=
  ⟨fun i H=>∃ xs x,SqL K H a xs∧xs[i]? = some x,
   fun i H v H'=>∃ T x,v = .ref T∧H T = none∧H' = upd H T (.tup [.int ((i + 1:Nat):Int),x])∧∀ xs,SqL K H a xs→xs[i]? = some x,
   fun i H=>∃ xs,SqL K H a xs∧xs.length ≤ i⟩
theorem drawsL1 {prog:Program} {w:World} {A:Around} (hh:A.handled = none) (it l:Addr) (hne:l ≠ it) (items:Array Value) :
    Draws prog w A it [it,l] (items.size + 1) (fun j v=>∃ i,j = i + 1∧items[i]? = some v) (fun j h=>∃ i,j = i + 1∧h.IsListIter it l i∧h.IsList l items):=by
  have D:=Draws.list (prog:=prog) (w:=w) hh it l hne items
  refine ⟨fun j h ⟨i,_,st⟩=>D.live i h st,fun j h h' ⟨i,e,st⟩ k=>⟨i,e,D.frame i h h' st k⟩,fun j s Q E hj ⟨i,e,st⟩ hQ=>?_,fun s Q E ⟨i,e,st⟩ hE=>?_⟩
  · refine D.item i s Q E (by omega) st fun x h' tk p st' sb=>hQ x h' tk ⟨i,e,p⟩ ⟨i + 1,by rw [e],st'⟩ sb
  · have:i = items.size:=by omega
    subst this
    exact D.done s Q E st hE
theorem turn_enumL1 {P:Program} {w:World} {K:PySem.W.Frag} {es:List Expr} {x1:Nat} {pos:Pos} (a e it:Addr) (hne:e ≠ it) :
    Turn P w K (.Tuple es x1 pos) (IteL1 K a) [e,it] e (fun i h=>(∃ old,IsEnum h e it ((i + 1:Nat):Int) old)∧h.IsListIter it a i) where
  mem:=by simp
  obj:=fun i h st c hc=>by
    obtain ⟨⟨old,h1⟩,⟨o4,e4,c4,d4⟩⟩:=st
    simp only [List.mem_cons,List.not_mem_nil,or_false] at hc
    rcases hc with rfl | rfl
    · exact ⟨_,h1,fun v z=>by cases (show Data.fields _ = Data.cell v from z)⟩
    · exact ⟨o4,e4,fun v z=>by rw [d4] at z; cases z⟩
  keep:=fun i h h' st k=>by
    obtain ⟨⟨old,h1⟩,h4⟩:=st
    exact ⟨⟨old,k e (by simp) _ h1⟩,h4.at fun o q=>k it (by simp) o q⟩
  item:=by
    intro X hP hw hK hc i pins s σ H E I hf st hg
    subst hP hw hK
    obtain ⟨xs,x,hq,hx⟩:=hg
    obtain ⟨its,rv,p,hz⟩:=I.list hq
    obtain ⟨u,hu,ru⟩:=rv.get hx
    obtain ⟨⟨old,h1⟩,h4⟩:=st
    have p':s.heap.IsList a its.toArray:=p.isList
    have nea:e ≠ a:=fun z=>by obtain ⟨o,eo,co,_⟩:=p'; rw [← z,h1] at eo; cases eo; exact absurd (Value.type.inj co) (by decide)
    have nia:a ≠ it:=fun z=>by obtain ⟨o,eo,co,_⟩:=p'; obtain ⟨o4,e4,c4,_⟩:=h4; rw [z,e4] at eo; cases eo; exact absurd (Value.type.inj (c4.symm.trans co)) (by decide)
    have hu':its.toArray[i]? = some u:=by simpa using hu
    have hlt:i < its.toArray.size:=by
      rcases Nat.lt_or_ge i its.toArray.size with z | z
      · exact z
      · rw [Array.getElem?_eq_none z] at hu'; cases hu'
    refine wpAny_pyNext_enum_itemD (drawsL1 (show X.A.in1.handled = none from I.ok.hd hc) it a nia its.toArray) h1 ⟨i,rfl,h4,p'⟩ (by omega) hne (by simp [hne,nea]) fun y h' tk hy g1 g2 g3 gs g6=>⟨_,rfl,?_⟩
    obtain ⟨i',ei,hy⟩:=hy
    obtain ⟨i2,ei2,g2⟩:=g2
    have e1:i' = i:=by omega
    have e2:i2 = i + 1:=by omega
    subst e1
    subst e2
    have hyu:y = u:=by rw [hu'] at hy; exact (Option.some.inj hy).symm
    subst hyu
    refine wpAny_letOwnedTupleGo_enum (show IsEnumOut h' e it (((i' + 1:Nat):Int) + 1) y s.heap.objs.size from g1) fun h'' f1 fs=>?_
    have elt:e < s.heap.objs.size:=Heap.lt_size h1
    have tne:s.heap.objs.size ≠ e:=Nat.ne_of_gt elt
    have kk:∀ c o,c ∉ [e,it]→s.heap.get? c = some o→h''.get? c = some o:=fun c o hc q=>by
      simp only [List.mem_cons,List.not_mem_nil,or_false,not_or] at hc
      exact fs.extBut _ _ hc.1 (g6 c o hc.1 hc.2 q)
    have pT:=fs.extBut _ _ tne g3
    have I1:Inv X pins σ (upd H s.heap.objs.size (.tup [.int ((i' + 1:Nat):Int),x])) { s with heap:=h'',toks:=tk + 1 }:=I.turnedNew hf kk (Nat.le_refl _) ⟨by show 2 ≤ sizeLine; decide,[.int ((i' + 1:Nat):Int) tk,y],.cons ⟨tk,rfl⟩ (.cons ru .nil),⟨_,pT,rfl,⟨_,rfl⟩,rfl⟩⟩
    refine ⟨.ref s.heap.objs.size,_,I1,rfl,⟨_,x,rfl,I.hok.fresh (Nat.le_refl _),rfl,fun ys hy'=>by rw [I.list_inj hy' hq]; exact hx⟩,⟨⟨_,f1⟩,g2.1.extBut fs.extBut hne.symm⟩,fun c hc=>?_⟩
    have hn:=(hf c hc).1
    have:c ≠ s.heap.objs.size:=by
      simp only [List.mem_cons,List.not_mem_nil,or_false] at hc
      obtain ⟨o4,e4,_⟩:=h4
      rcases hc with rfl | rfl
      · exact Nat.ne_of_lt elt
      · exact Nat.ne_of_lt (Heap.lt_size e4)
    rw [upd_ne this]; exact hn
  done:=by
    intro X hP hw hK hc i pins s σ H E I hf st hg
    subst hP hw hK
    obtain ⟨xs,hq,hx⟩:=hg
    obtain ⟨its,rv,p,hz⟩:=I.list hq
    obtain ⟨⟨old,h1⟩,h4⟩:=st
    have hl:=rv.length
    have hn:its.toArray[i]? = none:=by simp; omega
    unfold pyNext
    have hT:s.TypeIs (.ref e) "enumerate":=⟨_,h1,rfl⟩
    refine wpAny_bind (wpAny_attempt (wpAny_callSpecial?_slot (name:=Str.ofString "__next__") hT F.slot_enumerate_next (wpAny_call_entry F.slot_enumerate_next hT F.entry_enumerate_next ?_ (F.args_enumerate_next_1 _))))
    show wpAny _ _ (field (.ref e) 2 >>= _) _ _ _
    refine wpAny_bind (wpAny_field h1 rfl (x:=.ref it) rfl ?_)
    refine wpAny_bind (wpAny_nextOf_list_end (show X.A.in1.handled = none from I.ok.hd hc) h4 p.isList hn fun h' x he' hx'=>?_)
    obtain ⟨o,ho,hco⟩:=hx'
    refine wpAny_bind (wpAny_isInstance (T:="StopIteration") (b:=true) ⟨o,ho,hco⟩ isSubtype_stop ?_)
    refine wpAny_pure ⟨rfl,I.turnedMany (t':=s.toks) hf fun c o hc q=>?_⟩
    simp only [List.mem_cons,List.not_mem_nil,or_false,not_or] at hc
    exact he' c o hc.2 q
  self:=fun _ _ _ _ _ st h=>let ⟨⟨_,h1⟩,_⟩:=st; wpAny_pyIter_enum h1 h
section
variable {X:Cx}
def iEnumL1 (K:PySem.W.Frag) (ta:TA):TI:=fun σ H R=>ta σ H fun vs H1=>∃ a,vs = [.ref a]∧(∃ xs,SqL K H1 a xs)∧R (IteL1 K a) H1
theorem callWith_tyK {M:Model} {A:Around} {E:Value→Shared→Prop} {s:Shared} {env:Env} {pos:Pos} {T:String} {e:Expr} {kws:List Keyword} {Q:Value→Shared→Prop}
    (h:wpAny M A (spliced (backTo pos (starEach [e] env))) (fun vs s1=>wpAny M A (evalAll ((backToKw pos (keywordEach kws env)).map (·.2)))
      (fun ks s2=>wpAny M A (call (.type T) vs (((backToKw pos (keywordEach kws env)).filterMap (·.1)).zip ks)) Q E s2) E s1) E s)
    (he:backTo pos (starEach [e] env) = [(false,eval e env)])
    (hall:(backToKw pos (keywordEach kws env)).all (·.1.isSome) = true) (hkw:(backToKw pos (keywordEach kws env)).any (·.1.isNone) = false) :
    wpAny M A (callWith pos (.type T) [] (backTo pos (starEach [e] env)) (backToKw pos (keywordEach kws env))) Q E s:=by
  rw [he] at h ⊢
  have h2:=evalArgs_kwB (f:=.type T) (Q:=fun a s1=>wpAny M A (call (.type T) ([] ++ a.pos) a.kw) Q E s1) hall h
  unfold callWith
  refine wpAny_bind (wpAny_holding (thn h2 fun a s1 h1=>wpAny_bind (wpAny_standAt ?_)))
  simp only [hkw,List.any_cons,List.any_nil,Bool.or_false]
  exact wpAny_bind (wpAny_pure (wpAny_bind (thn h1 fun r s2 hr=>wpAny_bind (wpAny_holding (wpAny_point (wpAny_pure hr))))))
theorem pi_enumL1 {es:List Expr} {x1 j:Nat} {tpos cp:Pos} {a:Expr} {ta:TA} {p pos kp:Pos} (hg:Gl X "enumerate") (hm:X.mg "enumerate" = none) (ha:PA X [a] ta) (hs:starEach [a] X.env = [(false,eval a X.env)]:=by rfl) :
    PI X (.Tuple es x1 tpos) (.Call (.Name "enumerate" p) [a] [⟨some "start", .Constant (.int 1) j cp,kp⟩] pos) (iEnumL1 X.K ta):=by
  intro pins s σ H R I h
  refine wpAny_Call_Name_kw (ld_blt I hg hm (by decide +kernel:bootBuiltins "enumerate" = some (.type "enumerate")) ?_)
  refine callWith_tyK (thn (ha pos pins s σ H _ I h) fun us s1 ⟨vs,H1,I1,r1,q1⟩=>?_) (by rw [hs]; rfl) (by rfl) (by rfl)
  obtain ⟨l1,e,⟨xs,hq1⟩,q⟩:=q1
  subst e
  cases r1 with
  | cons r rr =>
    cases rr
    cases r
    show wpAny _ _ (evalAll [(do let v ← eval (.Constant (.int 1) j cp) X.env; standAt pos; pure v)]) _ _ s1
    refine wpAny_evalAll_cons (wpAny_bind (wpAny_Constant_int (wpAny_bind (wpAny_standAt (wpAny_pure (wpAny_evalAll_nil ?_))))))
    have I1:=I1.tok (s1.toks + 1)
    obtain ⟨its,rv,p1,hz⟩:=I1.list hq1
    refine eK_call (by decide) p1.isList fun h' he hi hsz hk=>?_
    refine wpAny_pyIter_enum (show IsEnum h' _ _ _ _ from he) ?_
    refine ⟨_,[s1.heap.objs.size + 1,s1.heap.objs.size],_,_,H1,rfl,I1.kept (t':=s1.toks + 1) hk,turn_enumL1 _ _ _ (Nat.succ_ne_self _),⟨⟨_,he⟩,hi⟩,fun c hc=>?_,q⟩
    simp only [List.mem_cons,List.not_mem_nil,or_false] at hc
    have hle:s1.heap.objs.size ≤ c:=by rcases hc with rfl | rfl <;> first | exact Nat.le_refl _ | exact Nat.le_add_right _ _
    exact I1.fpOk hle (I1.hok.fresh hle)
end
section
variable {g:TG} {tc:TT} {te:TE} {D:Addr} {Q:VK} {σ0:St} {H0:Hp}
theorem comp_enumL1 {K:PySem.W.Frag} {a:Addr} {xs:List V} (Pv:Nat→St→List V→Hp→Prop) (h0:Pv 0 σ0 [] H0) (hD:∀ i σ ys H,i ≤ xs.length→Pv i σ ys H→H D = some (.lst ys)∧ys.length ≤ i) (hl:∀ i σ ys H,i ≤ xs.length→Pv i σ ys H→SqL K H a xs) (hz:xs.length ≤ sizeLine)
    (hs:∀ i x σ ys H T,xs[i]? = some x→Pv i σ ys H→H T = none→g (.ref T) σ (upd H T (.tup [.int ((i + 1:Nat):Int),x])) fun σ2 H2=>tc σ2 H2 fun b H3=>if b = true then te σ2 H3 fun v H4=>H4 D = some (.lst ys)∧Pv (i + 1) σ2 (ys ++ [v]) (upd H4 D (.lst (ys ++ [v]))) else Pv (i + 1) σ2 ys H3)
    (hd:∀ σ ys H,Pv xs.length σ ys H→Q (.ref D) H):∃ W:Nat→Nat→St→List V→Hp→Prop,(∃ m,W 0 m σ0 [] H0)∧compW (IteL1 K a) g tc te D Q W:=by
  refine ⟨fun i m σ ys H=>m = xs.length - i∧i ≤ xs.length∧Pv i σ ys H,⟨xs.length,by simp,Nat.zero_le _,h0⟩,?_⟩
  rintro i m σ ys H ⟨rfl,hi,p⟩
  have q:=hl i σ ys H hi p
  refine ⟨(hD i σ ys H hi p).1,?_⟩
  by_cases hlt:i < xs.length
  · refine .inr ⟨⟨xs,xs[i],q,by simp [hlt]⟩,Nat.lt_of_le_of_lt (hD i σ ys H hi p).2 (Nat.lt_of_lt_of_le hlt hz),Pv (i + 1),fun σ' ys' H' p'=>⟨xs.length - (i + 1),by omega,rfl,hlt,p'⟩,fun v H' y=>?_⟩
    obtain ⟨T,x,rfl,hT,rfl,hx⟩:=y
    exact hs i x σ ys H T (hx xs q) p hT
  · have e:i = xs.length:=by omega
    subst e
    exact .inl ⟨⟨xs,q,Nat.le_refl _⟩,hd σ ys H p⟩
end
end L2
set_option maxHeartbeats 4000000
namespace L2
open PySem
def rCatH:R2:=fun x y H Q=>∃ a b xs ys,x = .ref a∧y = .ref b∧H a = some (.tup xs)∧H b = some (.tup ys)∧xs.length + ys.length ≤ sizeLine∧∀ t H',Same H H'→H' t = some (.tup (xs ++ ys))→Q (.ref t) H'
theorem op_catH {X:Cx}:OpR X (binaryOp .Add) rCatH:=by
  intro pins s σ H x y v u Q I rx ry h
  obtain ⟨a,b,xs,ys,rfl,rfl,ha,hb,hz,q⟩:=h
  by_cases hx:xs = []
  · subst hx
    exact op_catT0 pins s σ H _ _ v u Q I rx ry ⟨a,b,ys,rfl,rfl,SqT.of ha,SqT.of hb,q b H (Same.refl _) hb⟩
  · exact op_catT pins s σ H _ _ v u Q I rx ry ⟨a,b,xs,ys,rfl,rfl,SqT.of ha,SqT.of hb,hx,hz,fun z=>q a H (Same.refl _) (by rw [z,List.append_nil]; exact ha),fun _ p hp=>q p _ (fun b' u' e=>by rw [upd_ne (ne_of_none e hp)]; exact e) upd_same⟩
end L2
set_option maxHeartbeats 4000000
namespace L2
open PySem PySem.Spec PyProof.Rows
theorem ints_at {ns:List Int} {its:List Value} (r:Vals (ns.map V.int) its) {i:Nat} {v:Value} (h:its.toArray[i]? = some v):∃ t,v = .int (ns.getD i 0) t:=by
  have h':its[i]? = some v:=by simpa using h
  have hi:=(List.getElem?_eq_some_iff.mp h').1
  have hb:i < ns.length:=by
    have:=r.length
    rw [List.length_map] at this
    omega
  obtain ⟨u,e,ru⟩:=r.get (i:=i) (x:=.int ns[i]) (by rw [List.getElem?_map,List.getElem?_eq_getElem hb]; rfl)
  rw [h'] at e
  cases e
  obtain ⟨t,z⟩:=ru
  exact ⟨t,by rw [z,List.getD_eq_getElem?_getD,List.getElem?_eq_getElem hb]; rfl⟩
theorem preSum_take (ns:List Int):∀ n,n ≤ ns.length→preSum (fun i=>ns.getD i 0) n = (ns.take n).sum
  | 0,_=>rfl
  | n + 1,h=>by
    show preSum (fun i=>ns.getD i 0) n + ns.getD n 0 = _
    have hn:n < ns.length:=h
    rw [preSum_take ns n (by omega),List.take_succ,List.getD_eq_getElem?_getD,List.getElem?_eq_getElem hn,List.sum_append]
    simp
section
variable {X:Cx}
theorem call_sumL (hc:X.calm = true):CallR X (.builtin "sum") (fun xs H Q=>∃ (p:Addr) (ns:List Int),xs = [.ref p]∧SqL X.K H p (ns.map V.int)∧Q (.int ns.sum) H):=by
  intro pins s σ H xs us Q I r h
  obtain ⟨p,ns,rfl,hS,q⟩:=h
  obtain ⟨u,rfl,ru⟩:=vals1 r
  cases ru
  obtain ⟨its,rv,pl,hz⟩:=I.list hS
  have hp:p < s.heap.objs.size:=by obtain ⟨o,e,_⟩:=pl.isList; exact Heap.lt_size e
  have hl:its.toArray.size = ns.length:=by have:=rv.length; rw [List.length_map] at this; simp [this]
  refine call_sum_walkAnyS (wpAny_pyIter_list pl.isList ?_)
  have W:=(Walks.list (prog:=X.prog) (w:=X.w) (A:=X.A.in1) (I.ok.hd hc) s.heap.objs.size p (Nat.ne_of_lt hp) its.toArray).toS
  refine ⟨s.heap.objs.size,_,_,_,_,_,_,fun i=>ns.getD i 0,rfl,W,⟨⟨_,Heap.get?_push_size _ rfl,rfl,rfl⟩,?_⟩,fun b hb=>?_,fun i v hv=>ints_at rv hv,fun s' t' hm=>?_⟩
  · obtain ⟨o,e,z⟩:=pl.isList
    exact ⟨o,Heap.get?_push_of_some _ e,z⟩
  · simp only [List.mem_cons,List.not_mem_nil,or_false] at hb
    show b < (s.heap.push _).objs.size
    rw [Heap.size_push]
    rcases hb with rfl | rfl
    · exact Nat.lt_succ_self _
    · exact Nat.lt_succ_of_lt hp
  · rw [hl,preSum_take ns _ (Nat.le_refl _),List.take_length]
    obtain ⟨h',g',d',tk',os'⟩:=s'
    have e1:g' = s.gens:=hm.gens
    have e2:d' = s.drawn:=hm.drawn
    have e3:os' = s.os:=hm.os
    subst e1 e2 e3
    have I1:Inv X pins σ H { s with heap:=s.heap.push { cls:=.type "list_iterator", data:=.fields #[.ref p,.int 0 0] } }:=I.kept (t':=s.toks) fun b o e=>Heap.get?_push_of_some _ e
    have f:=I.fpOk (b:=s.heap.objs.size) (H':=H) (Nat.le_refl _) (I.hok.fresh (Nat.le_refl _))
    exact ⟨.int _,H,I1.turned (fun b o hb e=>hm.heap b o (by simpa using hb) e) f.1 f.2.1 f.2.2.2.1 f.2.2.2.2.1 f.2.2.2.2.2,⟨t',rfl⟩,q⟩
end
end L2
namespace L2
open PySem
def rLen (K:PySem.W.Frag):List V→Hp→VK→Prop:=fun xs H Q=>∃ p ys,xs = [.ref p]∧(SqL K H p ys∨SqT K H p ys)∧Q (.int ys.length) H
def rSumL (K:PySem.W.Frag):List V→Hp→VK→Prop:=fun xs H Q=>∃ (p:Addr) (ns:List Int),xs = [.ref p]∧SqL K H p (ns.map V.int)∧Q (.int ns.sum) H
def rTupL (K:PySem.W.Frag):List V→Hp→VK→Prop:=fun xs H Q=>∃ p ys,xs = [.ref p]∧((SqL K H p ys∧∀ l,H l = none→Q (.ref l) (upd H l (.tup ys)))∨(SqT K H p ys∧Q (.ref p) H))
variable {X:Cx}
theorem call_lenN:CallR X (.builtin "len") (rLen X.K):=call_len_seq
theorem call_sumN (hc:X.calm = true):CallR X (.builtin "sum") (rSumL X.K):=call_sumL hc
theorem call_tupN:CallR X (.type "tuple") (rTupL X.K):=call_tuple_of
end L2
namespace L2
open PySem PySem.Spec PyProof.Rows
abbrev compCxC (X:Cx) (N':List Str) (sc:Scope) (cl:List (Str×Addr)) (C:Addr) (s:Shared) (H:Hp) (fp:List Addr):Cx :=
  { X with N:=N',s₀:=s,H₀:=H,env:=compEnvC sc cl C X.env,outer:=X.stack,stack:=X.stack,ex:=fp,fn:=fun x=>sc.names.lookup x == some NameKind.local || sc.names.lookup x == some NameKind.cell,pn:=[],xe:=fun _ _=>False }
structure CompScC (osc:Scope) (ON N':List Str) (src:List (Option Nat)) (sc:Scope):Prop where
  kind:sc.kind = .function
  okind:osc.kind = .function
  uniq:∀ y ∈ sc.names,sc.names.lookup y.1 = some y.2
  free:∀ y ∈ sc.names,y.2 = .free→osc.names.lookup y.1 = some .cell∨osc.names.lookup y.1 = some .free
  len:src.length = N'.length
  src:∀ (i:Nat) (x:Str) (j:Nat),N'[i]? = some x→src[i]? = some (some j)→ON[j]? = some x∧sc.names.lookup x = some .free
def compOkC (osc:Scope) (ON N':List Str) (src:List (Option Nat)) (sc:Scope):Bool :=
  sc.kind == .function && osc.kind == .function && sc.names.all (fun y=>sc.names.lookup y.1 == some y.2 && (y.2 != .free || osc.names.lookup y.1 == some .cell || osc.names.lookup y.1 == some .free)) &&
  src.length == N'.length && (N'.zip src).all fun y=>match y.2 with | none=>true | some j=>ON[j]? == some y.1 && sc.names.lookup y.1 == some .free
theorem CompScC.ofB {osc:Scope} {ON N':List Str} {src:List (Option Nat)} {sc:Scope} (h:compOkC osc ON N' src sc = true):CompScC osc ON N' src sc:=by
  unfold compOkC at h
  simp only [Bool.and_eq_true] at h
  obtain ⟨⟨⟨⟨h1,h2⟩,h3⟩,h4⟩,h5⟩:=h
  have h3':=List.all_eq_true.mp h3
  have h5':=List.all_eq_true.mp h5
  refine ⟨by simpa using h1,by simpa using h2,fun y hy=>?_,fun y hy hf=>?_,by simpa using h4,fun i x j e1 e2=>?_⟩
  · have:=h3' y hy
    simp only [Bool.and_eq_true] at this
    simpa using this.1
  · have:=h3' y hy
    simp only [Bool.and_eq_true,Bool.or_eq_true] at this
    rcases this.2 with (z | z) | z
    · rw [hf] at z; exact absurd z (by decide)
    · exact .inl (by simpa using z)
    · exact .inr (by simpa using z)
  · have m:(x,some j) ∈ N'.zip src:=by
      refine List.mem_of_getElem? (i:=i) ?_
      rw [List.getElem?_zip_eq_some]
      exact ⟨e1,e2⟩
    have:=h5' _ m
    simp only [Bool.and_eq_true] at this
    exact ⟨by simpa using this.1,by simpa using this.2⟩
theorem cellsFrom_app:∀ (ns:List (Str×NameKind)) (n:Nat) (acc:List (Str×Addr)),cellsFrom n ns acc = cellsFrom n ns [] ++ acc
  | [],_,_=>rfl
  | (x,k) :: r,n,acc=>by
    unfold cellsFrom
    split
    · rw [cellsFrom_app r (n + 1) ((x,n) :: acc),cellsFrom_app r (n + 1) [(x,n)],List.append_assoc]
      rfl
    · exact cellsFrom_app r n acc
theorem cellsFrom_mem {x:Str} {c:Addr}:∀ {ns:List (Str×NameKind)} {n:Nat},(x,c) ∈ cellsFrom n ns []→(x,NameKind.cell) ∈ ns
  | [],_,h=>nomatch h
  | (y,k) :: r,n,h=>by
    unfold cellsFrom at h
    split at h
    · rename_i hk
      rw [cellsFrom_app] at h
      rcases List.mem_append.mp h with z | z
      · exact List.mem_cons_of_mem _ (cellsFrom_mem z)
      · cases List.mem_singleton.mp z
        have ek:k = NameKind.cell:=by simpa using hk
        rw [ek]
        exact List.mem_cons_self
    · exact List.mem_cons_of_mem _ (cellsFrom_mem h)
theorem cellsFrom_has {x:Str}:∀ {ns:List (Str×NameKind)} {n:Nat},(x,NameKind.cell) ∈ ns→∃ c,(x,c) ∈ cellsFrom n ns []
  | (y,k) :: r,n,h=>by
    unfold cellsFrom
    rcases List.mem_cons.mp h with e | h
    · cases e
      rw [if_pos (by rfl),cellsFrom_app]
      exact ⟨n,List.mem_append_right _ (List.mem_singleton.mpr rfl)⟩
    · split
      · obtain ⟨c,hc⟩:=cellsFrom_has (n:=n + 1) h
        rw [cellsFrom_app]
        exact ⟨c,List.mem_append_left _ hc⟩
      · exact cellsFrom_has h
theorem lookup_app (x:Str):∀ (l1 l2:List (Str×Addr)),(l1 ++ l2).lookup x = match l1.lookup x with | some c=>some c | none=>l2.lookup x
  | [],_=>rfl
  | (y,c) :: r,l2=>by
    rw [List.cons_append,List.lookup_cons,List.lookup_cons]
    cases x == y with
    | true=>rfl
    | false=>exact lookup_app x r l2
theorem newEnvC {M:Model} {A:Around} {E:Value→Shared→Prop} {s:Shared} {sc:Scope} {gl:Addr} {cl:List (Str×Addr)} {qual:Str} {env:Env} {Q:Env→Shared→Prop}
    (h:Q { scope:=sc,locals:=s.heap.objs.size,globals:=gl,cells:=cellsFrom (s.heap.objs.size + 1) sc.names cl,qual:=qual,func:=none,code:=env.code,frame:=env.frame,builtins:=env.builtins } { s with heap:=pushCells (s.heap.push { cls:=.type "dict", data:=.dict #[] }) sc.names }) :
    wpAny M A (newFunctionEnv sc gl cl [] qual none .none (some env)) Q E s:=by
  simp only [newFunctionEnv,Option.isSome_some,if_true]
  refine wpAny_bind (wpAny_alloc ?_)
  refine wpAny_bind (wpAny_layCells _ (fun name kind cells=>by cases hkc:kind == NameKind.cell <;> simp [hkc]) _ _ _ _ ?_)
  rw [show ({ s with heap:=s.heap.push { cls:=.type "dict", data:=.dict #[] } }:Shared).heap.objs.size = s.heap.objs.size + 1 from Heap.size_push ..]
  exact wpAny_bind (wpAny_pure (wpAny_pure h))
section
variable {X:Cx} {elt target iter:Expr} {ifs:List Expr} {sc:Scope} {pos:Pos} {wi:TI} {g:TG} {tc:TT} {te:TE} {N':List Str} {src:List (Option Nat)}
abbrev celC (X:Cx) (sc:Scope) (n:Nat):List (Str×Addr):=cellsFrom (n + 1) sc.names (cloOf X.env.cells sc.names [])
theorem comp_startC {pins:List (Addr×Obj)} {σ:St} {H:Hp} {s:Shared} {fp:List Addr} (S:CompScC X.env.scope X.N N' src sc) (I:Inv X pins σ H s) (f2:∀ b ∈ fp,FpOk X pins H b) (o2:∀ b ∈ fp,b < s.heap.objs.size) {tk:Nat} :
    Inv (compCxC X N' sc (celC X sc s.heap.objs.size) s.heap.objs.size s H fp) [] (inSt src σ) H { s with heap:=pushCells (s.heap.push { cls:=.type "dict", data:=.dict #[] }) sc.names,toks:=tk }:=by
  have old:∀ b o,s.heap.get? b = some o→(pushCells (s.heap.push { cls:=.type "dict", data:=.dict #[] }) sc.names).get? b = some o:=fun b o e=>pushCells_keeps _ _ _ _ (Heap.get?_push_of_some _ e)
  have ns:(pushCells (s.heap.push { cls:=.type "dict", data:=.dict #[] }) sc.names).Ns s.heap.objs.size fun x=>none:=(Heap.Ns.new s.heap (.type "dict")).keeps (pushCells_keeps _ _)
  have ck:CellsOk (pushCells (s.heap.push { cls:=.type "dict", data:=.dict #[] }) sc.names) (s.heap.objs.size + 1) (cellsFrom (s.heap.objs.size + 1) sc.names []):=by
    have:=cellsFrom_ok sc.names (s.heap.push { cls:=.type "dict", data:=.dict #[] }) (s.heap.objs.size + 1) [] ⟨(fun _ _ z=>nomatch z),List.Pairwise.nil⟩ (by rw [Heap.size_push]; exact Nat.le_refl _)
    rwa [Heap.size_push] at this
  have clo:∀ x c,(cloOf X.env.cells sc.names []).lookup x = some c→X.env.cells.lookup x = some c∧sc.names.lookup x = some .free:=fun x c e=>by
    rcases cloOf_mem (mem_of_lookup e) with ⟨m,q⟩ | z
    · obtain ⟨c',e'⟩:=I.ok.has x (S.free _ m rfl)
      rw [e'] at q
      exact ⟨by rw [e',q]; rfl,S.uniq _ m⟩
    · cases z
  have both:∀ x c,(celC X sc s.heap.objs.size).lookup x = some c→((x,c) ∈ cellsFrom (s.heap.objs.size + 1) sc.names []∧sc.names.lookup x = some .cell)∨(X.env.cells.lookup x = some c∧sc.names.lookup x = some .free):=fun x c e=>by
    rw [celC,cellsFrom_app,lookup_app] at e
    cases z:(cellsFrom (s.heap.objs.size + 1) sc.names []).lookup x with
    | some c' =>
      rw [z] at e
      cases e
      have m:=mem_of_lookup z
      exact .inl ⟨m,S.uniq _ (cellsFrom_mem m)⟩
    | none =>
      rw [z] at e
      exact .inr (clo x c e)
  have oldlt:∀ x c,X.env.cells.lookup x = some c→c < s.heap.objs.size:=fun x c e=>by
    obtain ⟨v,h⟩:=I.cell x c e
    exact h.lt
  have hasN:∀ x,sc.names.lookup x = some .cell→∃ c,(celC X sc s.heap.objs.size).lookup x = some c:=fun x e=>by
    obtain ⟨c,hc⟩:=cellsFrom_has (n:=s.heap.objs.size + 1) (mem_of_lookup e)
    refine lookup_of_mem (c:=c) ?_
    rw [celC,cellsFrom_app]
    exact List.mem_append_left _ hc
  have hasC:∀ x,sc.names.lookup x = some .free→∃ c,(celC X sc s.heap.objs.size).lookup x = some c:=fun x e=>by
    refine lookup_of_mem (c:=(X.env.cells.lookup x).getD 0) ?_
    rw [celC,cellsFrom_app]
    exact List.mem_append_right _ (cloOf_has (mem_of_lookup e))
  have kinds:∀ (x:Str) (k:NameKind),(relabel sc X.env).names.lookup x = some k→(k = .cell∨k = .free)→sc.names.lookup x = some .free∨sc.names.lookup x = some .cell:=fun x k e hk=>by
    have gen:∀ ns:List (Str×NameKind),(ns.map fun (n,k)=>if (k == NameKind.free && X.env.scope.kind == .function && X.env.kindOf n == some .cell) then (n,NameKind.cell) else (n,k)).lookup x = some k→ns.lookup x = some .free∨ns.lookup x = some .cell:=by
      intro ns
      induction ns with
      | nil=>intro h; cases h
      | cons y r ih =>
        obtain ⟨n,k1⟩:=y
        intro h
        rw [List.map_cons] at h
        dsimp only at h
        by_cases hc:(k1 == NameKind.free && X.env.scope.kind == .function && X.env.kindOf n == some .cell) = true
        · rw [if_pos hc,List.lookup_cons] at h
          rw [List.lookup_cons]
          cases hx:x == n with
          | true =>
            have:k1 = NameKind.free:=by
              cases hk1:k1 == NameKind.free with
              | true=>simpa using hk1
              | false=>rw [hk1] at hc; simp at hc
            rw [this]
            exact .inl rfl
          | false=>rw [hx] at h; exact ih h
        · rw [if_neg hc,List.lookup_cons] at h
          rw [List.lookup_cons]
          cases hx:x == n with
          | true =>
            rw [hx] at h
            have h':k1 = k:=Option.some.inj h
            rcases hk with hk | hk
            · exact .inr (by show some k1 = _; rw [h',hk])
            · exact .inl (by show some k1 = _; rw [h',hk])
          | false=>rw [hx] at h; exact ih h
    exact gen sc.names e
  have relab:∀ x,sc.names.lookup x = some .free→(relabel sc X.env).names.lookup x = some .cell∨(relabel sc X.env).names.lookup x = some .free:=fun x e=>by
    have gen:∀ ns:List (Str×NameKind),ns.lookup x = some .free→(ns.map fun (n,k)=>if (k == NameKind.free && X.env.scope.kind == .function && X.env.kindOf n == some .cell) then (n,NameKind.cell) else (n,k)).lookup x = some .cell ∨
        (ns.map fun (n,k)=>if (k == NameKind.free && X.env.scope.kind == .function && X.env.kindOf n == some .cell) then (n,NameKind.cell) else (n,k)).lookup x = some .free:=by
      intro ns
      induction ns with
      | nil=>intro h; cases h
      | cons y r ih =>
        obtain ⟨n,k1⟩:=y
        intro h
        rw [List.map_cons]
        dsimp only
        rw [List.lookup_cons] at h
        by_cases hc:(k1 == NameKind.free && X.env.scope.kind == .function && X.env.kindOf n == some .cell) = true
        · rw [if_pos hc,List.lookup_cons]
          cases hx:x == n with
          | true=>exact .inl rfl
          | false=>rw [hx] at h; exact ih h
        · rw [if_neg hc,List.lookup_cons]
          cases hx:x == n with
          | true =>
            rw [hx] at h
            exact .inr h
          | false=>rw [hx] at h; exact ih h
    exact gen sc.names e
  refine ⟨⟨I.mod,?_,I.ok.glob,I.ok.blt,Nat.le_refl _,fun x y c h1 h2=>?_,fun x hx=>?_,fun x c hf h=>?_,I.ok.hd,I.ok.frames,.inl rfl,fun b hb=>⟨?_,fun x c h=>?_⟩,I.bs,?_,fun b o e hb=>?_,fun b hb hs=>?_,I.stack,I.stkFree⟩,
    rfl,I.bare,Un.kept old,⟨_,ns,fun i x v h1 h2 h3=>?_⟩,fun x c h=>?_,I.hok.fresh (Nat.le_refl _),fun x c h=>?_,fun p hp=>absurd (show p ∈ ([]:List (Addr×Obj)) from hp) (by simp),I.hok.kept old,?_⟩
  · show (relabel sc X.env).kind = .function
    exact S.kind
  · rcases both x c h1 with ⟨m1,_⟩ | ⟨e1,_⟩
    · rcases both y c h2 with ⟨m2,_⟩ | ⟨e2,_⟩
      · exact name_of_addr ck.apart m1 m2
      · exact absurd (Nat.le_of_succ_le (ck.empty _ _ m1).2) (Nat.not_le.mpr (oldlt _ _ e2))
    · rcases both y c h2 with ⟨m2,_⟩ | ⟨e2,_⟩
      · exact absurd (Nat.le_of_succ_le (ck.empty _ _ m2).2) (Nat.not_le.mpr (oldlt _ _ e1))
      · exact I.ok.inj x y c e1 e2
  · have:sc.names.lookup x = some .free∨sc.names.lookup x = some .cell:=by
      obtain hx | hx:=hx
      · exact kinds x _ hx (.inl rfl)
      · exact kinds x _ hx (.inr rfl)
    exact this.elim (hasC x) (hasN x)
  · rcases both x c h with ⟨m,_⟩ | ⟨_,e2⟩
    · exact Nat.le_trans (Nat.le_succ _) (ck.empty _ _ m).2
    · have hf':(sc.names.lookup x == some NameKind.local || sc.names.lookup x == some NameKind.cell) = true:=hf
      rw [e2] at hf'
      cases hf'
  · exact Nat.ne_of_lt (o2 b hb)
  · rcases both x c h with ⟨m,_⟩ | ⟨e,_⟩
    · exact Nat.ne_of_gt (Nat.lt_of_lt_of_le (o2 b hb) (Nat.le_of_succ_le (ck.empty _ _ m).2))
    · exact (f2 b hb).2.2.2.2.1 x c e
  · exact Nat.le_trans I.ok.bsz I.sz
  · rcases (f2 b hb).2.2.2.1 with z | z
    · exact I.ok.noex b o e z
    · exact absurd (Nat.lt_of_lt_of_le (Heap.lt_size e) (Nat.le_trans I.ok.bsz z)) (Nat.lt_irrefl _)
  · rcases List.mem_cons.mp (I.stkSub b hs) with z | z
    · exact (f2 b hb).2.1 z
    · exact (f2 b hb).2.2.1 z
  · obtain ⟨j,e1,e2⟩:=inSt_get h2
    obtain ⟨e3,e4⟩:=S.src i x j h1 e1
    obtain ⟨m,hn,hl⟩:=I.loc
    have kx:=S.free _ (mem_of_lookup e4) rfl
    obtain ⟨u,ru,l⟩:=hl j x v e3 e2 (.inr kx)
    refine ⟨u,ru,.inr ⟨relab x e4,?_⟩⟩
    obtain ⟨c,hc⟩:=hasC x e4
    refine ⟨c,hc,?_⟩
    have hc':X.env.cells.lookup x = some c:=by
      rcases both x c hc with ⟨_,z⟩ | ⟨z,_⟩
      · rw [e4] at z; cases z
      · exact z
    rcases l with ⟨lk,_⟩ | ⟨_,c',lc,z⟩
    · have lk':X.env.scope.names.lookup x = some .local:=lk
      rcases kx with q | q
      · have q':X.env.scope.names.lookup x = some .cell:=q
        rw [lk'] at q'; cases q'
      · have q':X.env.scope.names.lookup x = some .free:=q
        rw [lk'] at q'; cases q'
    · rw [hc'] at lc
      cases lc
      obtain ⟨o,ho,hd⟩:=z
      exact ⟨o,old _ _ ho,hd⟩
  · rcases both x c h with ⟨m,_⟩ | ⟨e,_⟩
    · exact ⟨none,(ck.empty _ _ m).1⟩
    · obtain ⟨v,o,ho,hd⟩:=I.cell x c e
      exact ⟨v,o,old _ _ ho,hd⟩
  · rcases both x c h with ⟨m,_⟩ | ⟨e,_⟩
    · exact I.hok.fresh (Nat.le_trans (Nat.le_succ _) (ck.empty _ _ m).2)
    · exact I.freeC x c e
  · show (inSt src σ).length = N'.length
    unfold inSt
    rw [List.length_map]
    exact S.len
theorem comp_blockC {pins:List (Addr×Obj)} {σ:St} {H2:Hp} {s2:Shared} {it:Addr} {fp:List Addr} {tn:Nat→Heap→Prop} {J:It} {Q:VK} {E:Value→Shared→Prop} {RR:Value→Addr→Result→Shared→Prop}
    (hc:X.calm = true) (S:CompScC X.env.scope X.N N' src sc)
    (hg:∀ cl C s H fp,PG (compCxC X N' sc cl C s H fp) target g) (ht:∀ cl C s H fp,PIfs (compCxC X N' sc cl C s H fp) ifs tc) (he:∀ cl C s H fp,PE (compCxC X N' sc cl C s H fp) elt te)
    (I2:Inv X pins σ H2 s2) (T:Turn X.prog X.w X.K target J fp it tn) (st2:tn 0 s2.heap) (f2:∀ b ∈ fp,FpOk X pins H2 b)
    (hW:∀ D,H2 D = none→∃ W:Nat→Nat→St→List V→Hp→Prop,(∃ m,W 0 m (inSt src σ) [] (upd H2 D (.lst [])))∧compW J g tc te D Q W)
    (hRR:∀ D C s5 H' m,Inv X pins σ H' s5→s5.heap.Ns C m→FpOk X pins H' C→Q (.ref D) H'→RR (.ref D) C (.ok .next) s5) :
    wpAny (model X.prog X.w) X.A (newList []) (fun acc s₃=>wpAny (model X.prog X.w) X.A (newFunctionEnv sc X.env.globals (cloOf X.env.cells sc.names []) [] X.env.qual none .none (some X.env)) (fun cenv s₄ =>
      codeAny (model X.prog X.w) X.A (.compStart (.ListComp elt [⟨target,iter,ifs,0⟩] sc pos) 0 (.ref it) acc { cenv with scope:=relabel sc X.env }) (RR acc cenv.locals) s₄) E s₃) E s2:=by
  have o2:∀ b ∈ fp,b < s2.heap.objs.size:=fun b hb=>by
    obtain ⟨o,e,_⟩:=T.obj 0 _ st2 b hb
    exact Heap.lt_size e
  refine wpAny_newObj_type ?_
  have fr2:H2 s2.heap.objs.size = none:=I2.hok.fresh (Nat.le_refl _)
  obtain ⟨W,⟨m0,w0⟩,turn⟩:=hW s2.heap.objs.size fr2
  have I3:Inv X pins σ (upd H2 s2.heap.objs.size (.lst [])) { s2 with heap:=s2.heap.push { cls:=.type "list", dict:=none,data:=.seq ([]:List Value).toArray } } :=
    I2.laid (t':=s2.toks) (fun b u e=>Heap.get?_push_of_some _ e) (Nat.le_refl _) ⟨Nat.zero_le _,[],0,.nil,Heap.get?_push_size _ rfl⟩
  have st3:tn 0 (s2.heap.push { cls:=.type "list", dict:=none,data:=.seq ([]:List Value).toArray }):=T.keep 0 _ _ st2 fun b hb o e=>Heap.get?_push_of_some _ e
  generalize hs3:({ s2 with heap:=s2.heap.push { cls:=.type "list", dict:=none,data:=.seq ([]:List Value).toArray } }:Shared) = s3 at I3
  have hh3:s3.heap = s2.heap.push { cls:=.type "list", dict:=none,data:=.seq ([]:List Value).toArray }:=by rw [← hs3]
  have sz3:s2.heap.objs.size < s3.heap.objs.size:=by rw [hh3,Heap.size_push]; exact Nat.lt_succ_self _
  have o3:∀ b ∈ fp,b < s3.heap.objs.size:=fun b hb=>Nat.lt_trans (o2 b hb) sz3
  have f3:∀ b ∈ fp,FpOk X pins (upd H2 s2.heap.objs.size (.lst [])) b:=fun b hb=>⟨by rw [upd_ne (Nat.ne_of_lt (o2 b hb))]; exact (f2 b hb).1,(f2 b hb).2⟩
  rw [← hh3] at st3
  refine newEnvC ?_
  have I4:Inv (compCxC X N' sc (celC X sc s3.heap.objs.size) s3.heap.objs.size s3 (upd H2 s2.heap.objs.size (.lst [])) fp) [] (inSt src σ) (upd H2 s2.heap.objs.size (.lst [])) { s3 with heap:=pushCells (s3.heap.push { cls:=.type "dict", data:=.dict #[] }) sc.names,toks:=s3.toks } :=
    comp_startC S I3 f3 o3
  have st4:tn 0 (pushCells (s3.heap.push { cls:=.type "dict", data:=.dict #[] }) sc.names):=T.keep 0 _ _ st3 fun b hb o e=>pushCells_keeps _ _ _ _ (Heap.get?_push_of_some _ e)
  have fC:∀ (H':Hp) , H' s3.heap.objs.size = none→FpOk X pins H' s3.heap.objs.size:=fun H' hn=>I3.fpOk (Nat.le_refl _) hn
  have loop:codeAny (model X.prog X.w) X.A (.compLoop (.ListComp elt [⟨target,iter,ifs,0⟩] sc pos) 0 (.ref it) (.ref s2.heap.objs.size) (compEnvC sc (celC X sc s3.heap.objs.size) s3.heap.objs.size X.env))
      (RR (.ref s2.heap.objs.size) s3.heap.objs.size) { s3 with heap:=pushCells (s3.heap.push { cls:=.type "dict", data:=.dict #[] }) sc.names }:=by
    have stat:∀ {H':Hp},(∀ b ∈ fp,H' b = none)→∀ b ∈ fp,FpOk (compCxC X N' sc (celC X sc s3.heap.objs.size) s3.heap.objs.size s3 (upd H2 s2.heap.objs.size (.lst [])) fp) [] H' b:=fun hn b hb =>
      ⟨hn b hb,(I4.ok.exf b hb).1,I4.ok.exfs b hb,.inl hb,(I4.ok.exf b hb).2,fun p hp=>absurd (show p ∈ ([]:List (Addr×Obj)) from hp) (by simp)⟩
    refine comp_loop (fun n s'=>∃ i σ' ys H',Inv (compCxC X N' sc (celC X sc s3.heap.objs.size) s3.heap.objs.size s3 (upd H2 s2.heap.objs.size (.lst [])) fp) [] σ' H' s'∧tn i s'.heap∧(∀ b ∈ fp,H' b = none)∧W i n σ' ys H') ?_ m0
      ⟨0,_,[],_,I4,st4,fun b hb=>(f3 b hb).1,w0⟩
    rintro n s5 ⟨i,σ5,ys,H5,I5,st5,fr5,w5⟩
    obtain ⟨hD,alt⟩:=turn i n σ5 ys H5 w5
    rcases alt with ⟨stop,qn⟩ | ⟨go,hsz,N,hN,step⟩
    · refine thn (T.done (compCxC X N' sc (celC X sc s3.heap.objs.size) s3.heap.objs.size s3 (upd H2 s2.heap.objs.size (.lst [])) fp) rfl rfl rfl hc i [] s5 σ5 H5 _ I5 (stat fr5) st5 stop) fun r s6 ⟨hr,I6⟩=>?_
      subst hr
      obtain ⟨m6,n6,_⟩:=id I6.loc
      refine hRR _ _ s6 H5 m6 (I3.call' I6.os I6.base I6.hok I6.bare fun b hb=>⟨(f3 b hb).2.2.2.1,(f3 b hb).2.1,(f3 b hb).2.2.2.2.1,(f3 b hb).2.2.2.2.2⟩) n6 (fC _ I6.free) qn
    · refine thn (T.item (compCxC X N' sc (celC X sc s3.heap.objs.size) s3.heap.objs.size s3 (upd H2 s2.heap.objs.size (.lst [])) fp) rfl rfl rfl hc i [] s5 σ5 H5 _ I5 (stat fr5) st5 go) fun r s6 ⟨u,hr,h6⟩=>?_
      subst hr
      refine thn h6 fun _ s7 ⟨x,H7,I7,r7,y7,st7,fr7⟩=>?_
      have I7':=I7.pinned (stat fr7) (T.obj _ _ st7)
      refine thn (hg _ _ _ _ _ _ s7 σ5 H7 x u _ I7' r7 (step x H7 y7)) fun _ s8 ⟨σ8,H8,I8,q8⟩=>?_
      refine thn (ht _ _ _ _ _ _ s8 σ8 H8 _ I8 q8) fun b s9 ⟨H9,I9,q9⟩=>?_
      have again:∀ {σ':St} {H':Hp} {s':Shared} {ys':List V} {m':Nat},Inv (compCxC X N' sc (celC X sc s3.heap.objs.size) s3.heap.objs.size s3 (upd H2 s2.heap.objs.size (.lst [])) fp) ([] ++ pinsAt fp s7.heap) σ' H' s'→m' < n→W (i + 1) m' σ' ys' H' →
          ∃ m,m < n∧∃ i σ' ys H',Inv (compCxC X N' sc (celC X sc s3.heap.objs.size) s3.heap.objs.size s3 (upd H2 s2.heap.objs.size (.lst [])) fp) [] σ' H' s'∧tn i s'.heap∧(∀ b ∈ fp,H' b = none)∧W i m σ' ys H':=fun {σ' H' s' ys' m'} I' hm w'=>by
        refine ⟨m',hm,i + 1,σ',ys',H',I'.unpinned,T.keep _ _ _ st7 fun b hb o e=>(I'.pin (b,o) (List.mem_append_right _ (List.mem_append_right _ (mem_pinsAt hb e)))).1,fun b hb=>?_,w'⟩
        obtain ⟨o,e,d⟩:=T.obj _ _ st7 b hb
        exact (I'.pin (b,o) (List.mem_append_right _ (List.mem_append_right _ (mem_pinsAt hb e)))).2.1
      cases b with
      | false =>
        rw [if_neg Bool.false_ne_true] at q9 ⊢
        obtain ⟨m',hm,w'⟩:=hN _ _ _ q9
        exact again I9 hm w'
      | true =>
        rw [if_pos rfl] at q9 ⊢
        refine thn (he _ _ _ _ _ _ s9 σ8 H9 _ I9 q9) fun xv s10 ⟨v,H10,I10,r10,hD10,w10⟩=>?_
        obtain ⟨m',hm,w'⟩:=hN _ _ _ w10
        have q10:rAppend (.ref s2.heap.objs.size) [v] H10 fun _ H'=>H' = upd H10 s2.heap.objs.size (.lst (ys ++ [v])):=⟨_,ys,v,rfl,rfl,hD10,hsz,rfl⟩
        refine thn (mt_append _ s10 σ8 H10 _ _ _ _ _ I10 (show RelV (.ref s2.heap.objs.size) (.ref s2.heap.objs.size) from rfl) (.cons r10 .nil) q10) fun _ s11 ⟨_,H11,I11,_,e11⟩=>?_
        rw [e11] at I11
        exact again I11 hm w'
  exact codeAny_compStart_list loop (T.self _ 0 _ _ _ st4 loop)
theorem pe_lcompC (hc:X.calm = true) (S:CompScC X.env.scope X.N N' src sc) (hi:PI X target iter wi)
    (hg:∀ cl C s H fp,PG (compCxC X N' sc cl C s H fp) target g) (ht:∀ cl C s H fp,PIfs (compCxC X N' sc cl C s H fp) ifs tc) (he:∀ cl C s H fp,PE (compCxC X N' sc cl C s H fp) elt te)
    (hs:∀ x,foldedSetIterable iter X.env x = pure x:=by intro _; rfl) :
    PE X (.ListComp elt [⟨target,iter,ifs,0⟩] sc pos) (tComp src wi g tc te):=by
  intro pins s σ H Q I h
  rw [eval_ListComp]
  refine wpAny_comprehension_free (use:=none) rfl hs (closureFor_clo fun y hy hk=>I.ok.has y.1 (S.free y hy hk)) S.kind (fun y hy hl=>by rw [← hl]; exact S.uniq y hy) ?_
  refine thn (hi pins s σ H _ I h) fun v s1 h1=>thn h1 fun itv s2 h2=>?_
  obtain ⟨it,fp,tn,J,H2,e,I2,T,st2,f2,hW⟩:=h2
  subst e
  refine comp_blockC (Q:=Q) (RR:=fun acc C=>compPost (model X.prog X.w) X.A X.xe none (EP X pins σ Q) acc C) hc S hg ht he I2 T st2 f2 hW ?_
  intro D C s5 H' m I5 n5 fC q
  refine ⟨m,n5,fun h' sb=>⟨.ref D,H',?_,rfl,q⟩⟩
  exact I5.turned (t':=s5.toks) (fun b o hb e=>(sb.2 b hb).trans e) fC.1 fC.2.1 fC.2.2.2.1 fC.2.2.2.2.1 fC.2.2.2.2.2
end
section
variable {X:Cx} {N':List Str} {sc:Scope} {cl:List (Str×Addr)} {C:Addr} {s:Shared} {H:Hp} {fp:List Addr}
theorem pvfC (i:Nat) {x:Str} {pos:Pos} (hN:N'[i]? = some x:=by rfl) (hv:sc.names.lookup x = some .free:=by rfl) (hd:(x == ("__debug__" : Str)) = false:=by decide) (hcd:(x == ("__classdict__" : Str)) = false:=by decide) :
    PE (compCxC X N' sc cl C s H fp) (.Name x pos) (tVar i):=pe_var (X:=compCxC X N' sc cl C s H fp) hN (.inr (relabel_free hv)) hd hcd
theorem pgcC {i:Nat} {x:Str} {pos:Pos} (hn:N'.Nodup:=by decide +kernel) (hN:N'[i]? = some x:=by rfl) (hv:sc.names.lookup x = some .cell:=by rfl) :
    PG (compCxC X N' sc cl C s H fp) (.Name x pos) (gName i):=pg_name (X:=compCxC X N' sc cl C s H fp) hn hN (.inr (relabel_other rfl hv)) (.inl (by show (sc.names.lookup x == some NameKind.local || sc.names.lookup x == some NameKind.cell) = true; rw [hv]; rfl))
theorem glcC {x:Str} (hv:sc.names.lookup x = some .globalImplicit:=by rfl):Gl (compCxC X N' sc cl C s H fp) x:=relabel_other (env:=X.env) rfl hv
end
end L2
set_option maxHeartbeats 4000000
namespace My
open PySem L2
def numU (rs:List Row) (i:Nat):List Row:=(List.range i).map fun j=>rs.getD j [] ++ [.int ((j + 1:Nat):Int)]
theorem numU_succ {rs:List Row} {i:Nat} {r:Row} (h:rs[i]? = some r):numU rs (i + 1) = numU rs i ++ [r ++ [.int ((i + 1:Nat):Int)]]:=by
  unfold numU
  rw [List.range_succ,List.map_append]
  simp [h]
def spRunNumber:Sp:=fun vs H Q _=>∃ (w l pl:Addr) (as:List Addr) (rs:List Row),vs = [.ref w,.ref l,.ref pl]∧RowsAt H l as rs∧rs.length ≤ 1000∧(∀ r ∈ rs,r.length ≤ 1000) ∧
  ∀ (l':Addr) (as':List Addr) (H':Hp),Same H H'→H l' = none→RowsAt H' l' as' (numU rs rs.length)→Q (.ref l') H'
abbrev s_run_number:Stmt:=top 23
theorem sc_run_number:FnScope ["worker", "rows", "place"] ["worker", "rows", "place"] (defScope s_run_number):=⟨rfl,rfl,rfl,by decide +kernel,rfl,by decide +kernel,by decide +kernel⟩
section
variable {P:Program} {w:World} {K:PySem.W.Frag} {mg:Str→Option Value} {base:Heap} {f  : Addr} {fd  : FuncData}
theorem ok_runnumber (mE:mg "enumerate" = none) (F:Fun K "run_number" "run_number" s_run_number f fd)  :
    FnOk P w K mg base CX0 1 f fd ["worker", "rows", "place"] spRunNumber:=by
  refine F.ok sc_run_number (fun vs H Q E h=>?_) (fun cdv A outer s H vs Q E hr h=>?_)
  · obtain ⟨w,l,pl,as,rs,rfl,_⟩:=h
    rfl
  have hu:(A.deeper (PyProof.Rows.envOfC "run_number" (defScope s_run_number) s.heap.objs.size f cdv)).units + 8 < cLine:=by have:=hr.units; omega
  have hu1:(A.deeper (PyProof.Rows.envOfC "run_number" (defScope s_run_number) s.heap.objs.size f cdv)).units + 1 < cLine:=by omega
  obtain ⟨w,l,pl,as,rs,rfl,hR,hz,hw,q⟩:=h
  refine ⟨_,(pss_one (ps_ret (pe_lcomp (N':=["at", "row"]) (src:=[none,none]) rfl (CompSc.ofB (by kernel_rfl)) (pi_enumL1 rfl mE (pa_cons (pv 1) pa_nil)) (g:=(gTup K 2 (gCons (gName 0) (gCons (gName 1) gNil)))) (fun cl C s H fp=>(pg_tup rfl (pgs_cons (pgl (i:=0)) (pgs_cons (pgl (i:=1)) pgs_nil)))) (fun cl C s H fp=>pifs_nil) (te:=(tOp rCatH (tVar 1) (tTup (tCons (tVar 0) tNil)))) (fun cl C s H fp=>(pe_op op_catH (pvl 1) (pe_tup (pa_cons (pvl 0) pa_nil))))))),?_⟩
  have hl:(as.map V.ref).length = rs.length:=by rw [List.length_map,hR.len]
  refine ⟨_,rfl,l,rfl,⟨_,SqL.of hR.lst⟩,fun D hD=>?_⟩
  refine comp_enumL1 (xs:=as.map V.ref) (fun i σ ys H'=>(∃ o1 o2,σ = [o1,o2])∧(∃ us,ys = us.map V.ref∧us.length = i∧Found H' us (numU rs i))∧H' D = some (.lst ys)∧Same H H')
    ⟨⟨none,none,rfl⟩,⟨[],rfl,rfl,Found.nil⟩,upd_same,same_new hD _⟩ ?_ ?_ ?_ ?_ ?_
  · rintro i σ ys H' _ ⟨_,⟨us,rfl,rfl,_⟩,h,_⟩
    exact ⟨h,by rw [List.length_map]; exact Nat.le_refl _⟩
  · rintro i σ ys H' _ ⟨_,_,_,sm⟩
    exact SqL.of (sm _ _ hR.lst)
  · rw [hl]; exact Nat.le_trans hz (by decide)
  · rintro i x σ ys H' T hx ⟨⟨o1,o2,rfl⟩,⟨us,rfl,hul,hF⟩,h,sm⟩ hT
    obtain ⟨a,r,rfl,er,har⟩:=hR.get hx
    have sT:=same_new hT (.tup [.int ((i + 1:Nat):Int),.ref a])
    refine ⟨T,_,rfl,SqT.of upd_same,rfl,_,_,rfl,gName_go ⟨_,_,rfl,gName_go ⟨rfl,?_⟩⟩⟩
    refine ⟨_,rfl,_,rfl,(by show 1 ≤ sizeLine; decide),fun u hu=>?_⟩
    have su:=same_new hu (.tup [.int ((i + 1:Nat):Int)])
    refine ⟨a,u,r,_,rfl,rfl,su _ _ (sT _ _ (sm _ _ har)),upd_same,?_,fun t H2 s2 ht=>?_⟩
    · exact Nat.le_trans (show r.length + 1 ≤ 1001 by have:=hw r (List.mem_of_getElem? er); omega) (by decide)
    have s3:=sT.trans (su.trans s2)
    refine ⟨s3 _ _ h,⟨_,_,rfl⟩,⟨us ++ [t],by rw [List.map_append]; rfl,by rw [List.length_append,hul]; rfl,?_⟩,upd_same,same_put hD (sm.trans s3)⟩
    rw [numU_succ er]
    exact ((hF.same s3).snoc ht).keep (tup_upd (s3 _ _ h))
  · rintro σ ys H' ⟨_,⟨us,rfl,_,hF⟩,h,sm⟩
    rw [hl] at hF
    exact q D us H' sm hD ⟨h,hF.len,hF.at_⟩
end
def addS (cs:List Int) (acc:List (List Row)) (r:Row):List (List Row):=match acc.getLast? with
  | some st=>if pick (st.headD []) cs = pick r cs then acc.dropLast ++ [st ++ [r]] else acc ++ [[r]]
  | none=>[[r]]
def strL (cs:List Int) (rs:List Row):List (List Row):=rs.foldl (addS cs) []
theorem addS_nil {cs:List Int} {r:Row}:addS cs [] r = [[r]]:=rfl
theorem addS_yes {cs:List Int} {acc:List (List Row)} {st:List Row} {r:Row} (h:pick (st.headD []) cs = pick r cs):addS cs (acc ++ [st]) r = acc ++ [st ++ [r]]:=by
  unfold addS
  rw [List.getLast?_concat]
  show (if _ then _ else _) = _
  rw [if_pos h,List.dropLast_concat]
theorem addS_no {cs:List Int} {acc:List (List Row)} {st:List Row} {r:Row} (h:¬ pick (st.headD []) cs = pick r cs):addS cs (acc ++ [st]) r = acc ++ [st] ++ [[r]]:=by
  unfold addS
  rw [List.getLast?_concat]
  show (if _ then _ else _) = _
  rw [if_neg h]
theorem snoc_cases {α:Type} (l:List α):l = []∨∃ l0 b,l = l0 ++ [b]:=by
  rcases e:l.reverse with _ | ⟨b,r⟩
  · exact .inl (List.reverse_eq_nil_iff.mp e)
  · refine .inr ⟨r.reverse,b,?_⟩
    have:=congrArg List.reverse e
    rwa [List.reverse_reverse,List.reverse_cons] at this
def strP (R:Row→Prop) (n:Nat) (acc:List (List Row)):Prop:=acc.length ≤ n∧∀ st ∈ acc,st ≠ []∧st.length ≤ n∧∀ r ∈ st,R r
theorem addS_P {R:Row→Prop} {n:Nat} {cs:List Int} {acc:List (List Row)} {r:Row} (h:strP R n acc) (hr:R r):strP R (n + 1) (addS cs acc r):=by
  have one:∀ st ∈ [[r]],st ≠ []∧st.length ≤ n + 1∧∀ r ∈ st,R r:=fun st hs=>by
    rw [List.mem_singleton.mp hs]
    exact ⟨by simp,by simp,fun q hq=>by rw [List.mem_singleton.mp hq]; exact hr⟩
  rcases snoc_cases acc with rfl | ⟨acc,st,rfl⟩
  · exact ⟨by rw [addS_nil]; simp,one⟩
  · by_cases e:pick (st.headD []) cs = pick r cs
    · rw [addS_yes e]
      refine ⟨by have:=h.1; rw [List.length_append] at this ⊢; simp at this ⊢; omega,fun s hs=>?_⟩
      rcases List.mem_append.mp hs with z | z
      · obtain ⟨h1,h2,h3⟩:=h.2 s (List.mem_append_left _ z)
        exact ⟨h1,by omega,h3⟩
      · rw [List.mem_singleton.mp z]
        obtain ⟨h1,h2,h3⟩:=h.2 st (List.mem_append_right _ (List.mem_singleton.mpr rfl))
        refine ⟨by simp,by rw [List.length_append]; simp; omega,fun q hq=>?_⟩
        rcases List.mem_append.mp hq with y | y
        · exact h3 q y
        · rw [List.mem_singleton.mp y]; exact hr
    · rw [addS_no e]
      refine ⟨by have:=h.1; rw [List.length_append]; simp at this ⊢; omega,fun s hs=>?_⟩
      rcases List.mem_append.mp hs with z | z
      · obtain ⟨h1,h2,h3⟩:=h.2 s z
        exact ⟨h1,by omega,h3⟩
      · exact one s z
theorem strs_P {R:Row→Prop} {cs:List Int}:∀ {rs:List Row} {n:Nat} {acc:List (List Row)},(∀ r ∈ rs,R r)→strP R n acc→strP R (n + rs.length) (rs.foldl (addS cs) acc)
  | [],n,acc,_,h=>h
  | r :: rs,n,acc,hr,h=>by
    have:=strs_P (cs:=cs) (fun q hq=>hr q (List.mem_cons_of_mem _ hq)) (addS_P (cs:=cs) h (hr r List.mem_cons_self))
    rw [List.length_cons,show n + (rs.length + 1) = n + 1 + rs.length by omega]
    exact this
theorem strs_ok {R:Row→Prop} {cs:List Int} {rs:List Row} (h:∀ r ∈ rs,R r):strP R rs.length (strL cs rs):=by
  have:=strs_P (cs:=cs) (n:=0) (acc:=[]) h ⟨Nat.le_refl _,fun st z=>nomatch z⟩
  rwa [Nat.zero_add] at this
theorem strs_take {cs:List Int} {rs:List Row} {i:Nat} {r:Row} (h:rs[i]? = some r):strL cs (rs.take (i + 1)) = addS cs (strL cs (rs.take i)) r:=by
  unfold strL
  rw [take_one h,List.foldl_append]
  rfl
inductive StrAt (H:Hp):List Addr→List (List Row)→Prop
  | nil:StrAt H [] []
  | snoc {ls:List Addr} {sts:List (List Row)} {b:Addr} {as:List Addr} {st:List Row}:StrAt H ls sts→b ∉ ls→RowsAt H b as st→StrAt H (ls ++ [b]) (sts ++ [st])
theorem StrAt.keep {H H':Hp} {ls:List Addr} {sts:List (List Row)} (h:StrAt H ls sts):(∀ b ∈ ls,∀ as st,RowsAt H b as st→RowsAt H' b as st)→StrAt H' ls sts:=by
  induction h with
  | nil=>intro _; exact .nil
  | snoc h hb hR ih=>intro k; exact .snoc (ih fun c hc=>k c (List.mem_append_left _ hc)) hb (k _ (List.mem_append_right _ (List.mem_singleton.mpr rfl)) _ _ hR)
theorem StrAt.same {H H':Hp} {ls:List Addr} {sts:List (List Row)} (s:Same H H') (h:StrAt H ls sts):StrAt H' ls sts:=h.keep fun _ _ _ _ z=>z.same s
theorem StrAt.len {H:Hp} {ls:List Addr} {sts:List (List Row)} (h:StrAt H ls sts):ls.length = sts.length:=by
  induction h with
  | nil=>rfl
  | snoc h hb hR ih=>rw [List.length_append,List.length_append,ih]; rfl
theorem StrAt.get {H:Hp} {ls:List Addr} {sts:List (List Row)} (h:StrAt H ls sts):∀ {i:Nat} {x:V},(ls.map V.ref)[i]? = some x→∃ (a:Addr) (as:List Addr) (st:List Row),x = .ref a∧sts[i]? = some st∧RowsAt H a as st:=by
  induction h with
  | nil=>intro i x hx; cases hx
  | @snoc ls sts b as st h hb hR ih =>
    intro i x hx
    have hl:=h.len
    rw [List.map_append] at hx
    by_cases hi:i < ls.length
    · rw [List.getElem?_append_left (by rw [List.length_map]; exact hi)] at hx
      obtain ⟨a,as',st',e1,e2,e3⟩:=ih hx
      exact ⟨a,as',st',e1,by rw [List.getElem?_append_left (by omega)]; exact e2,e3⟩
    · rw [List.getElem?_append_right (by rw [List.length_map]; omega),List.length_map] at hx
      have e0:i - ls.length = 0:=by
        have:=(List.getElem?_eq_some_iff.mp hx).1
        simp at this
        exact this
      rw [e0] at hx
      cases hx
      refine ⟨b,as,st,rfl,?_,hR⟩
      rw [List.getElem?_append_right (by omega),← hl,e0]
      rfl
theorem rows_upd {H:Hp} {D b:Addr} {as:List Addr} {st:List Row} {xs:List V} {o:HO} (hD:H D = some (.lst xs)) (hb:b ≠ D) (h:RowsAt H b as st):RowsAt (upd H D o) b as st:=⟨by rw [upd_ne hb]; exact h.lst,h.len,fun i a r e1 e2=>tup_upd hD _ _ (h.at_ i a r e1 e2)⟩
theorem pick_cl {r:Row} {cs:List Int} (h:clRow r) (hf:fitC cs r.length):clRow (pick r cs):=fun v hv=>by
  obtain ⟨c,hc,rfl⟩:=List.mem_map.mp hv
  have hi:(c - 1).toNat < r.length:=by have:=hf c hc; omega
  rw [List.getD_eq_getElem?_getD,List.getElem?_eq_getElem hi]
  exact h _ (List.getElem_mem hi)
def spStretches:Sp:=fun vs H Q _=>∃ (l t:Addr) (cs:List Int) (as:List Addr) (rs:List Row),vs = [.ref l,.ref t]∧H t = some (.tup (cs.map V.int))∧RowsAt H l as rs∧(∀ r ∈ rs,fitC cs r.length∧clRow r)∧cs.length ≤ 1000∧rs.length ≤ 1000 ∧
  ∀ (L:Addr) (ls:List Addr) (H':Hp),Same H H'→H L = none→H' L = some (.lst (ls.map V.ref))→StrAt H' ls (strL cs rs)→Q (.ref L) H'
abbrev s_stretches:Stmt:=top 20
theorem sc_stretches:FnScope ["rows", "columns", "found", "row"] ["rows", "columns"] (defScope s_stretches):=⟨rfl,rfl,rfl,by decide +kernel,rfl,by decide +kernel,by decide +kernel⟩
section
variable {P:Program} {w:World} {K:PySem.W.Frag} {mg:Str→Option Value} {base:Heap} {f g_picked:Addr} {fd d_picked:FuncData}
theorem ok_stretches (F:Fun K "stretches" "stretches" s_stretches f fd) 
    (G_picked:FnOk P w K mg base CX0 1 g_picked d_picked ["row", "columns"] spPicked) (b_picked:Binds K d_picked ["row", "columns"] []) (k_picked:PySem.W.keepIn K (.ref g_picked) = true) (m_picked:mg "picked" = some (.ref g_picked)) :
    FnOk P w K mg base CX0 2 f fd ["rows", "columns"] spStretches:=by
  refine F.ok sc_stretches (fun vs H Q E h=>?_) (fun cdv A outer s H vs Q E hr h=>?_)
  · obtain ⟨l,t,cs,as,rs,rfl,_⟩:=h
    rfl
  have hu:(A.deeper (PyProof.Rows.envOfC "stretches" (defScope s_stretches) s.heap.objs.size f cdv)).units + 8 < cLine:=by have:=hr.units; omega
  have hu1:(A.deeper (PyProof.Rows.envOfC "stretches" (defScope s_stretches) s.heap.objs.size f cdv)).units + 1 < cLine:=by omega
  obtain ⟨l,t,cs,as,rs,rfl,ht,hR,hf,hz,hz2,q⟩:=h
  refine ⟨_,(pss_cons (ps_set (i:=2) sc_stretches.nd rfl (Or.inl rfl) (pe_lst pa_nil))
      (pss_cons (ps_for PassesOwn.never rfl (pi_list (pv 0)) (pg_name (i:=3) sc_stretches.nd rfl (Or.inl rfl))
        (pss_one (ps_if (PW.pt (pw_and (pt_truth (pv 2) (by intro _; rfl)) (pw_and1 (pt_cmpR op_eqD (pe_call (G_picked.mono (by omega)) hr rfl m_picked k_picked b_picked .nil pass0 (pa_cons (pe_ix (r:=rIxL K) ix_list (pe_ix (r:=rIxL K) ix_list (pv 2) (pe_un un_neg pe_int) (fun _ _=>rfl)) pe_int (fun _ _=>rfl)) (pa_cons (pv 1) pa_nil))) (pe_call (G_picked.mono (by omega)) hr rfl m_picked k_picked b_picked .nil pass0 (pa_cons (pv 3) (pa_cons (pv 1) pa_nil))) (nomark _)))))
            (pss_one (ps_expr (pe_bm PySem.F.plainAttrs_list PySem.F.slot_list_append PySem.F.type_list_append mt_append (pe_ix (r:=rIxL K) ix_list (pv 2) (pe_un un_neg pe_int) (fun _ _=>rfl)) (pa_cons (pv 3) pa_nil))))
            (pss_one (ps_expr (pe_bm PySem.F.plainAttrs_list PySem.F.slot_list_append PySem.F.type_list_append mt_append (pv 2) (pa_cons (pe_lst (pa_cons (pv 3) pa_nil)) pa_nil)))))))
      (pss_one (ps_ret (pv 2))))),?_⟩
  have hl:(as.map V.ref).length = rs.length:=by rw [List.length_map,hR.len]
  refine ⟨Nat.zero_le _,fun L hL=>gName_go ?_⟩
  have s0:=same_new hL (.lst [])
  refine ⟨_,rfl,l,rfl,⟨_,SqL.of (s0 _ _ hR.lst)⟩,?_⟩
  refine for_list (xs:=as.map V.ref) (fun i σ H'=>∃ (ls:List Addr),(∃ o,σ = [some (.ref l),some (.ref t),some (.ref L),o])∧H' L = some (.lst (ls.map V.ref))∧StrAt H' ls (strL cs (rs.take i))∧(∀ b ∈ ls,H b = none∧b ≠ L)∧Same H H')
    ⟨[],⟨none,rfl⟩,upd_same,.nil,(fun _ z=>nomatch z),s0⟩ ?_ ?_ ?_
  · rintro i σ H' _ ⟨_,_,_,_,_,sm⟩
    exact SqL.of (sm _ _ hR.lst)
  · rintro i x σ H' hx ⟨ls,⟨o,rfl⟩,hL',hS,hn,sm⟩
    obtain ⟨a,r,rfl,er,har⟩:=hR.get hx
    have hi:=(List.getElem?_eq_some_iff.mp er).1
    have hP:=strs_ok (cs:=cs) (rs:=rs.take i) (R:=fun r=>r ∈ rs) (fun q hq=>List.mem_of_mem_take hq)
    have hti:(rs.take i).length ≤ 1000:=by rw [List.length_take]; omega
    have hrr:=List.mem_of_getElem? er
    refine gName_go ?_
    dsimp only
    have new:∀ H2:Hp,Same H' H2→addS cs (strL cs (rs.take i)) r = strL cs (rs.take i) ++ [[r]]→∀ R:St→Hp→Prop,(∀ (ls':List Addr) (H3:Hp),H3 L = some (.lst (ls'.map V.ref))→StrAt H3 ls' (strL cs (rs.take (i + 1)))→(∀ b ∈ ls',H b = none∧b ≠ L)→Same H H3→R [some (.ref l),some (.ref t),some (.ref L),some (.ref a)] H3) →
        ∀ D':Ends,D'.nx = R→tDrop (tBM K "list" rAppend (tVar 2) (tCons (tLst (tCons (tVar 3) tNil)) tNil)) D' [some (.ref l),some (.ref t),some (.ref L),some (.ref a)] H2:=by
      intro H2 s2 ea R hR2 D' eD
      have hL2:=s2 _ _ hL'
      refine ⟨_,rfl,.inl ⟨rfl,_,SqL.of hL2⟩,_,rfl,(by show 1 ≤ sizeLine; decide),fun z hz'=>?_⟩
      have sz:=same_new hz' (.lst [.ref a])
      have hLz:=sz _ _ hL2
      refine ⟨L,_,_,rfl,rfl,hLz,?_,?_⟩
      · rw [List.length_map,hS.len]
        exact Nat.lt_of_le_of_lt (Nat.le_trans hP.1 hti) (by decide)
      rw [eD]
      have nz:z ≠ L:=fun e=>by rw [e,hL2] at hz'; cases hz'
      have hzn:H z = none:=(sm.trans s2).free hz'
      have hzl:z ∉ ls:=fun e=>by
        obtain ⟨j,hj⟩:=List.getElem?_of_mem e
        obtain ⟨a',as',st',e1,_,e3⟩:=hS.get (i:=j) (x:=.ref z) (by rw [List.getElem?_map,hj]; rfl)
        cases e1
        rw [s2 _ _ e3.lst] at hz'
        cases hz'
      refine hR2 (ls ++ [z]) _ (by rw [upd_same,List.map_append]; rfl) ?_ (fun b hb=>?_) (same_put hL (sm.trans (s2.trans sz)))
      · rw [strs_take er,ea]
        refine .snoc (as:=[a]) ((hS.same (s2.trans sz)).keep fun b hb as' st' hR'=>rows_upd hLz (hn b hb).2 hR') hzl (rows_upd hLz nz ⟨upd_same,rfl,fun j b q e1 e2=>?_⟩)
        cases j with
        | zero=>cases e1; cases e2; exact sz _ _ (s2 _ _ (sm _ _ har))
        | succ j=>cases e1
      · rcases List.mem_append.mp hb with y | y
        · exact hn b y
        · rw [List.mem_singleton.mp y]; exact ⟨hzn,nz⟩
    have fin:∀ (ls':List Addr) (H3:Hp),H3 L = some (.lst (ls'.map V.ref))→StrAt H3 ls' (strL cs (rs.take (i + 1)))→(∀ b ∈ ls',H b = none∧b ≠ L)→Same H H3→∃ (ls:List Addr),(∃ o,[some (V.ref l),some (.ref t),some (.ref L),some (.ref a)] = [some (.ref l),some (.ref t),some (.ref L),o])∧H3 L = some (.lst (ls.map V.ref))∧StrAt H3 ls (strL cs (rs.take (i + 1)))∧(∀ b ∈ ls,H b = none∧b ≠ L)∧Same H H3:=fun ls' H3 h1 h2 h3 h4=>⟨ls',⟨_,rfl⟩,h1,h2,h3,h4⟩
    revert hS hP
    generalize hst:strL cs (rs.take i) = sts at *
    intro hS hP
    cases hS with
    | nil=>exact ⟨_,rfl,_,.inl ⟨_,SqL.of hL',rfl⟩,new H' (Same.refl _) rfl _ fin _ rfl⟩
    | @snoc ls sts b bs st hS hb hRb =>
      obtain ⟨hne,hsl,hsm⟩:=hP.2 st (List.mem_append_right _ (List.mem_singleton.mpr rfl))
      cases st with
      | nil=>exact absurd rfl hne
      | cons r0 st =>
      cases bs with
      | nil=>have:=hRb.len; cases this
      | cons a0 bs =>
      have ha0:H' a0 = some (.tup r0):=hRb.at_ 0 a0 r0 rfl rfl
      have hr0:=hsm r0 List.mem_cons_self
      have lst:atI ((ls ++ [b]).map V.ref) (-1) = some (.ref b):=by rw [List.map_append]; exact atI_last _ _
      have tru:(!((ls ++ [b]).map V.ref).isEmpty) = true:=by simp
      refine ⟨_,rfl,true,.inl ⟨_,SqL.of hL',tru.symm⟩,iteT ?_⟩
      refine ⟨_,rfl,_,rfl,L,_,_,_,rfl,rfl,SqL.of hL',lst,b,_,0,_,rfl,rfl,SqL.of hRb.lst,atI_nat (j:=0) rfl,_,rfl,a0,t,r0,cs,rfl,ha0,sm _ _ ht,(hf r0 hr0).1,hz,fun u1 H1 s1 hu1 hu1'=>?_⟩
      refine ⟨_,rfl,_,rfl,a,t,r,cs,rfl,s1 _ _ (sm _ _ har),s1 _ _ (sm _ _ ht),(hf r hrr).1,hz,fun u2 H2 s2 hu2 hu2'=>?_⟩
      have c1:=pick_cl (hf r0 hr0).2 (hf r0 hr0).1
      have c2:=pick_cl (hf r hrr).2 (hf r hrr).1
      refine ⟨rowD (pick r0 cs),rowD (pick r cs),row_at c1 (s2 _ _ hu1'),row_at c2 hu2',?_,_,rfl,?_⟩
      · exact Nat.lt_of_le_of_lt (Nat.add_le_add_left (Nat.le_trans (rowD_depth (pick r0 cs)) (by decide:1 ≤ 8)) _) hu
      rw [row_eq c1 c2]
      have s12:=s1.trans s2
      refine ite2 (fun c=>?_) (fun c=>?_)
      · have c':pick r0 cs = pick r cs:=of_decide_eq_true c
        have hL2:=s12 _ _ hL'
        have hR2:=hRb.same s12
        refine ⟨_,rfl,_,rfl,L,_,_,_,rfl,rfl,SqL.of hL2,lst,.inl ⟨rfl,_,SqL.of hR2.lst⟩,_,rfl,b,_,_,rfl,rfl,hR2.lst,?_,?_⟩
        · rw [List.length_map,hRb.len]
          exact Nat.lt_of_le_of_lt (Nat.le_trans hsl hti) (by decide)
        have nb:=hn b (List.mem_append_right _ (List.mem_singleton.mpr rfl))
        refine fin (ls ++ [b]) _ (by rw [upd_ne nb.2.symm]; exact hL2) ?_ hn (same_put nb.1 (sm.trans s12))
        rw [strs_take er,hst,addS_yes (show pick ((r0 :: st).headD []) cs = pick r cs from c')]
        refine .snoc ((hS.same s12).keep fun d hd as' st' z=>rows_upd hR2.lst (fun e=>hb (by rw [← e]; exact hd)) z) hb (hR2.snoc (s12 _ _ (sm _ _ har)))
      · have c':¬ pick r0 cs = pick r cs:=fun e=>c (decide_eq_true e)
        exact new H2 s12 (addS_no (show ¬ pick ((r0 :: st).headD []) cs = pick r cs from c')) _ fin _ rfl
  · rintro σ H' ⟨ls,⟨o,rfl⟩,hL',hS,hn,sm⟩
    rw [hl,List.take_length] at hS
    exact ⟨_,rfl,q L ls H' sm hL hL' hS⟩
end
def headR (st:List Row):Row:=st.headD []
def spRunCount:Sp:=fun vs H Q _=>∃ (w t l pl:Addr) (cs:List Int) (as:List Addr) (rs:List Row),vs = [.ref w,.ref l,.ref pl]∧H w = some (.tup [.str "count", .ref t])∧H t = some (.tup (cs.map V.int))∧RowsAt H l as rs∧(∀ r ∈ rs,fitC cs r.length∧clRow r)∧cs.length ≤ 1000∧rs.length ≤ 1000 ∧
  ∀ (l':Addr) (as':List Addr) (H':Hp),Same H H'→H l' = none→RowsAt H' l' as' ((strL cs rs).map fun st=>pick (headR st) cs ++ [.int (st.length:Nat)])→Q (.ref l') H'
def numC (r:Row) (c:Int):Int:=match colV r c with | .int n=>n | _=>0
def sumC (st:List Row) (c:Int):Int:=(st.map fun r=>numC r c).sum
def spRunSum:Sp:=fun vs H Q _=>∃ (w t l pl:Addr) (cs:List Int) (c:Int) (as:List Addr) (rs:List Row),vs = [.ref w,.ref l,.ref pl]∧H w = some (.tup [.str "sum", .ref t,.int c])∧H t = some (.tup (cs.map V.int))∧RowsAt H l as rs∧(∀ r ∈ rs,fitC cs r.length∧clRow r)∧(∀ r ∈ rs,(1 ≤ c∧c ≤ r.length)∧∃ n,colV r c = .int n)∧cs.length ≤ 1000∧rs.length ≤ 1000 ∧
  ∀ (l':Addr) (as':List Addr) (H':Hp),Same H H'→H l' = none→RowsAt H' l' as' ((strL cs rs).map fun st=>pick (headR st) cs ++ [.int (sumC st c)])→Q (.ref l') H'
abbrev s_run_count:Stmt:=top 21
theorem sc_run_count:FnScope ["worker", "rows", "place", "columns"] ["worker", "rows", "place"] (defScope s_run_count):=⟨rfl,rfl,rfl,by decide +kernel,rfl,by decide +kernel,by decide +kernel⟩
section
variable {P:Program} {w:World} {K:PySem.W.Frag} {mg:Str→Option Value} {base:Heap} {f g_picked g_stretches:Addr} {fd d_picked d_stretches:FuncData}
theorem ok_runcount (B:Blt mg) (F:Fun K "run_count" "run_count" s_run_count f fd) 
    (G_picked:FnOk P w K mg base CX0 1 g_picked d_picked ["row", "columns"] spPicked) (b_picked:Binds K d_picked ["row", "columns"] []) (k_picked:PySem.W.keepIn K (.ref g_picked) = true) (m_picked:mg "picked" = some (.ref g_picked))
    (G_stretches:FnOk P w K mg base CX0 2 g_stretches d_stretches ["rows", "columns"] spStretches) (b_stretches:Binds K d_stretches ["rows", "columns"] []) (k_stretches:PySem.W.keepIn K (.ref g_stretches) = true) (m_stretches:mg "stretches" = some (.ref g_stretches)) :
    FnOk P w K mg base CX0 3 f fd ["worker", "rows", "place"] spRunCount:=by
  refine F.ok sc_run_count (fun vs H Q E h=>?_) (fun cdv A outer s H vs Q E hr h=>?_)
  · obtain ⟨w,t,l,pl,cs,as,rs,rfl,_⟩:=h
    rfl
  have hu:(A.deeper (PyProof.Rows.envOfC "run_count" (defScope s_run_count) s.heap.objs.size f cdv)).units + 8 < cLine:=by have:=hr.units; omega
  have hu1:(A.deeper (PyProof.Rows.envOfC "run_count" (defScope s_run_count) s.heap.objs.size f cdv)).units + 1 < cLine:=by omega
  obtain ⟨w,t,l,pl,cs,as,rs,rfl,hw,ht,hR,hf,hz,hz2,q⟩:=h
  refine ⟨_,(pss_cons (ps_set (i:=3) sc_run_count.nd rfl (Or.inr rfl) (pe_ix (r:=rIxT K) ix_tup (pv 0) pe_int (fun _ _=>rfl)))
      (pss_one (ps_ret (pe_lcomp (N':=["stretch", "columns"]) (src:=[none,some 3]) rfl (CompSc.ofB (by kernel_rfl)) (pi_list (pe_call (G_stretches.mono (by omega)) hr rfl m_stretches k_stretches b_stretches .nil pass0 (pa_cons (pv 1) (pa_cons (pv 3) pa_nil)))) (fun cl C s H fp=>(pgl (i:=0))) (fun cl C s H fp=>pifs_nil) (te:=(tOp rCatH (tCall spPicked [] E0 (tCons (tOp (rIxL K) (tVar 0) (tC (.int 0))) (tCons (tVar 1) tNil))) (tTup (tCons (tCB (rLen K) (tCons (tVar 0) tNil)) tNil)))) (fun cl C s H fp=>(pe_op op_catH (pe_call (G_picked.mono (by omega)) hr glc m_picked k_picked b_picked .nil pass0 (pa_cons (pe_ix (r:=rIxL K) ix_list (pvl 0) pe_int (fun _ _=>rfl)) (pa_cons (pvf 1) pa_nil))) (pe_tup (pa_cons (pe_callB call_lenN glc B.len PySem.boot_len (pa_cons (pvl 0) pa_nil)) pa_nil)))))))),?_⟩
  have hP:=strs_ok (cs:=cs) (rs:=rs) (R:=fun r=>r ∈ rs) (fun _ h=>h)
  refine ⟨_,rfl,w,_,1,_,rfl,rfl,SqT.of hw,rfl,gName_go ?_⟩
  dsimp only
  refine ⟨_,rfl,_,rfl,l,t,cs,as,rs,rfl,ht,hR,hf,hz,hz2,fun L ls H1 s1 hL hL1 hS=>⟨L,rfl,⟨_,SqL.of hL1⟩,fun D hD=>?_⟩⟩
  have hl:(ls.map V.ref).length = (strL cs rs).length:=by rw [List.length_map,hS.len]
  refine comp_list (xs:=ls.map V.ref) (fun i σ ys H'=>(∃ o,σ = [o,some (.ref t)])∧(∃ us,ys = us.map V.ref∧us.length = i∧Found H' us (((strL cs rs).take i).map fun st=>pick (headR st) cs ++ [.int (st.length:Nat)]))∧H' D = some (.lst ys)∧Same H1 H')
    ⟨⟨none,rfl⟩,⟨[],rfl,rfl,Found.nil⟩,upd_same,same_new hD _⟩ ?_ ?_ ?_ ?_ ?_
  · rintro i σ ys H' _ ⟨_,⟨us,rfl,rfl,_⟩,h,_⟩
    exact ⟨h,by rw [List.length_map]; exact Nat.le_refl _⟩
  · rintro i σ ys H' _ ⟨_,_,_,sm⟩
    exact SqL.of (sm _ _ hL1)
  · rw [hl]; exact Nat.le_trans (Nat.le_trans hP.1 hz2) (by decide)
  · rintro i x σ ys H' hx ⟨⟨o,rfl⟩,⟨us,rfl,rfl,hF⟩,h,sm⟩
    obtain ⟨b,bs,st,rfl,est,hRb⟩:=hS.get hx
    obtain ⟨hne,hsl,hsm⟩:=hP.2 st (List.mem_of_getElem? est)
    cases st with
    | nil=>exact absurd rfl hne
    | cons r0 st =>
    cases bs with
    | nil=>have:=hRb.len; cases this
    | cons a0 bs =>
    have ha0:H1 a0 = some (.tup r0):=hRb.at_ 0 a0 r0 rfl rfl
    have hr0:=hsm r0 List.mem_cons_self
    refine ⟨_,rfl,b,_,0,_,rfl,rfl,SqL.of (sm _ _ hRb.lst),atI_nat (j:=0) rfl,_,rfl,a0,t,r0,cs,rfl,sm _ _ ha0,sm _ _ (s1 _ _ ht),(hf r0 hr0).1,hz,fun u1 H2 s2 hu1 hu1'=>?_⟩
    refine ⟨_,rfl,b,_,rfl,.inl (SqL.of (s2 _ _ (sm _ _ hRb.lst))),(by show 1 ≤ sizeLine; decide),fun u2 hu2=>?_⟩
    have s3:=same_new hu2 (.tup [.int (((a0 :: bs).map V.ref).length:Nat)])
    refine ⟨u1,u2,_,_,rfl,rfl,s3 _ _ hu1',upd_same,?_,fun u H4 s4 hu4=>?_⟩
    · unfold pick
      rw [List.length_map]
      exact Nat.le_trans (show cs.length + 1 ≤ 2000 by omega) (by decide)
    have s24:=s2.trans (s3.trans s4)
    refine ⟨s24 _ _ h,⟨_,rfl⟩,⟨us ++ [u],by rw [List.map_append]; rfl,by rw [List.length_append]; rfl,?_⟩,upd_same,same_put hD (sm.trans s24)⟩
    rw [take_one est,List.map_append]
    refine ((hF.same s24).snoc (r:=pick (headR (r0 :: st)) cs ++ [.int (((r0 :: st).length:Nat):Int)]) ?_).keep (tup_upd (s24 _ _ h))
    rw [hu4,List.length_map,hRb.len]
    rfl
  · rintro σ ys H' ⟨_,⟨us,rfl,_,hF⟩,h,sm⟩
    rw [hl,List.take_length] at hF
    exact q D us H' (s1.trans sm) (s1.free hD) ⟨h,hF.len,hF.at_⟩
end
abbrev s_run_sum:Stmt:=top 22
theorem sc_run_sum:FnScope ["worker", "rows", "place", "columns", "summed"] ["worker", "rows", "place"] (defScope s_run_sum):=⟨rfl,rfl,rfl,by decide +kernel,rfl,by decide +kernel,by decide +kernel⟩
section
variable {P:Program} {w:World} {K:PySem.W.Frag} {mg:Str→Option Value} {base:Heap} {f g_picked g_stretches:Addr} {fd d_picked d_stretches:FuncData}
theorem ok_runsum (mS:mg "sum" = none) (F:Fun K "run_sum" "run_sum" s_run_sum f fd) 
    (G_picked:FnOk P w K mg base CX0 1 g_picked d_picked ["row", "columns"] spPicked) (b_picked:Binds K d_picked ["row", "columns"] []) (k_picked:PySem.W.keepIn K (.ref g_picked) = true) (m_picked:mg "picked" = some (.ref g_picked))
    (G_stretches:FnOk P w K mg base CX0 2 g_stretches d_stretches ["rows", "columns"] spStretches) (b_stretches:Binds K d_stretches ["rows", "columns"] []) (k_stretches:PySem.W.keepIn K (.ref g_stretches) = true) (m_stretches:mg "stretches" = some (.ref g_stretches)) :
    FnOk P w K mg base CX0 3 f fd ["worker", "rows", "place"] spRunSum:=by
  refine F.ok sc_run_sum (fun vs H Q E h=>?_) (fun cdv A outer s H vs Q E hr h=>?_)
  · obtain ⟨w,t,l,pl,cs,c,as,rs,rfl,_⟩:=h
    rfl
  have hu:(A.deeper (PyProof.Rows.envOfC "run_sum" (defScope s_run_sum) s.heap.objs.size f cdv)).units + 8 < cLine:=by have:=hr.units; omega
  have hu1:(A.deeper (PyProof.Rows.envOfC "run_sum" (defScope s_run_sum) s.heap.objs.size f cdv)).units + 1 < cLine:=by omega
  obtain ⟨w,t,l,pl,cs,c,as,rs,rfl,hw,ht,hR,hf,hc,hz,hz2,q⟩:=h
  refine ⟨_,(pss_cons (ps_asg (pe_tup (pa_cons (pe_ix (r:=rIxT K) ix_tup (pv 0) pe_int (fun _ _=>rfl)) (pa_cons (pe_ix (r:=rIxT K) ix_tup (pv 0) pe_int (fun _ _=>rfl)) pa_nil))) (pg_tup rfl (pgs_cons (pg_name (i:=3) sc_run_sum.nd rfl (Or.inr rfl)) (pgs_cons (pg_name (i:=4) sc_run_sum.nd rfl (Or.inr rfl)) pgs_nil))))
      (pss_one (ps_ret (pe_lcomp (N':=["stretch", "columns", "summed"]) (src:=[none,some 3,some 4]) rfl (CompSc.ofB (by kernel_rfl)) (pi_list (pe_call (G_stretches.mono (by omega)) hr rfl m_stretches k_stretches b_stretches .nil pass0 (pa_cons (pv 1) (pa_cons (pv 3) pa_nil)))) (fun cl C s H fp=>(pgl (i:=0))) (fun cl C s H fp=>pifs_nil) (te:=(tOp rCatH (tCall spPicked [] E0 (tCons (tOp (rIxL K) (tVar 0) (tC (.int 0))) (tCons (tVar 1) tNil))) (tTup (tCons (tCB (rSumL K) (tCons (tComp [none,some 2] (iList K (tVar 0)) (gName 0) tNoIf (tOp (rIxT K) (tVar 0) (tOp (rI0 fun i j=>V.int (i - j)) (tVar 1) (tC (.int 1))))) tNil)) tNil)))) (fun cl C s H fp=>(pe_op op_catH (pe_call (G_picked.mono (by omega)) hr glc m_picked k_picked b_picked .nil pass0 (pa_cons (pe_ix (r:=rIxL K) ix_list (pvl 0) pe_int (fun _ _=>rfl)) (pa_cons (pvf 1) pa_nil))) (pe_tup (pa_cons (pe_callB (call_sumN rfl) glc mS PyProof.Rows.boot_sum (pa_cons (pe_lcomp (N':=["row", "summed"]) (src:=[none,some 2]) rfl (CompSc.ofB (by kernel_rfl)) (pi_list (pvl 0)) (fun cl C s H fp=>(pgl (i:=0))) (fun cl C s H fp=>pifs_nil) (te:=(tOp (rIxT K) (tVar 0) (tOp (rI0 fun i j=>V.int (i - j)) (tVar 1) (tC (.int 1))))) (fun cl C s H fp=>(pe_ix (r:=rIxT K) ix_tup (pvl 0) (pe_op op_sub (pvf 1) pe_int) (fun _ _=>rfl)))) pa_nil)) pa_nil)))))))),?_⟩
  have hP:=strs_ok (cs:=cs) (rs:=rs) (R:=fun r=>r ∈ rs) (fun _ h=>h)
  refine ⟨_,rfl,w,_,1,_,rfl,rfl,SqT.of hw,rfl,_,rfl,w,_,2,_,rfl,rfl,SqT.of hw,rfl,(by show 2 ≤ sizeLine; decide),fun T0 hT0=>⟨T0,_,rfl,SqT.of upd_same,rfl,_,_,rfl,gName_go ⟨_,_,rfl,gName_go ⟨rfl,?_⟩⟩⟩⟩
  have s0:=same_new hT0 (.tup [.ref t,.int c])
  dsimp only
  refine ⟨_,rfl,_,rfl,l,t,cs,as,rs,rfl,s0 _ _ ht,hR.same s0,hf,hz,hz2,fun L ls H1 s1' hL hL1 hS=>⟨L,rfl,⟨_,SqL.of hL1⟩,fun D hD=>?_⟩⟩
  have s1:=s0.trans s1'
  have hl:(ls.map V.ref).length = (strL cs rs).length:=by rw [List.length_map,hS.len]
  refine comp_list (xs:=ls.map V.ref) (fun i σ ys H'=>(∃ o,σ = [o,some (.ref t),some (.int c)])∧(∃ us,ys = us.map V.ref∧us.length = i∧Found H' us (((strL cs rs).take i).map fun st=>pick (headR st) cs ++ [.int (sumC st c)]))∧H' D = some (.lst ys)∧Same H1 H')
    ⟨⟨none,rfl⟩,⟨[],rfl,rfl,Found.nil⟩,upd_same,same_new hD _⟩ ?_ ?_ ?_ ?_ ?_
  · rintro i σ ys H' _ ⟨_,⟨us,rfl,rfl,_⟩,h,_⟩
    exact ⟨h,by rw [List.length_map]; exact Nat.le_refl _⟩
  · rintro i σ ys H' _ ⟨_,_,_,sm⟩
    exact SqL.of (sm _ _ hL1)
  · rw [hl]; exact Nat.le_trans (Nat.le_trans hP.1 hz2) (by decide)
  · rintro i x σ ys H' hx ⟨⟨o,rfl⟩,⟨us,rfl,rfl,hF⟩,h,sm⟩
    obtain ⟨b,bs,st,rfl,est,hRb⟩:=hS.get hx
    obtain ⟨hne,hsl,hsm⟩:=hP.2 st (List.mem_of_getElem? est)
    have ha0:∃ a0 bs',bs = a0 :: bs':=by
      cases bs with
      | nil=>exact absurd (List.length_eq_zero_iff.mp hRb.len.symm) hne
      | cons a0 bs'=>exact ⟨a0,bs',rfl⟩
    obtain ⟨a0,bs',eb⟩:=ha0
    have hr0':∃ r0 st',st = r0 :: st':=by
      cases st with
      | nil=>exact absurd rfl hne
      | cons r0 st'=>exact ⟨r0,st',rfl⟩
    obtain ⟨r0,st',es⟩:=hr0'
    have ha0:H1 a0 = some (.tup r0):=hRb.at_ 0 a0 r0 (by rw [eb]; rfl) (by rw [es]; rfl)
    have hr0:=hsm r0 (by rw [es]; exact List.mem_cons_self)
    have hh:headR st = r0:=by rw [es]; rfl
    refine ⟨_,rfl,b,_,0,_,rfl,rfl,SqL.of (sm _ _ hRb.lst),atI_nat (j:=0) (v:=.ref a0) (by rw [eb]; rfl),_,rfl,a0,t,r0,cs,rfl,sm _ _ ha0,sm _ _ (s1 _ _ ht),(hf r0 hr0).1,hz,fun u1 H2 s2 hu1 hu1'=>?_⟩
    have hRb2:=(hRb.same sm).same s2
    have hlb:(bs.map V.ref).length = st.length:=by rw [List.length_map,hRb.len]
    refine ⟨_,rfl,b,rfl,⟨_,SqL.of hRb2.lst⟩,fun D2 hD2=>?_⟩
    refine comp_list (xs:=bs.map V.ref) (fun j σ zs H'=>(∃ o,σ = [o,some (.int c)])∧zs = ((st.take j).map fun r=>numC r c).map V.int∧zs.length = j∧H' D2 = some (.lst zs)∧Same H2 H')
      ⟨⟨none,rfl⟩,rfl,rfl,upd_same,same_new hD2 _⟩ ?_ ?_ ?_ ?_ ?_
    · rintro j σ zs H' _ ⟨_,_,hj,h2,_⟩
      exact ⟨h2,Nat.le_of_eq hj⟩
    · rintro j σ zs H' _ ⟨_,_,_,_,sm2⟩
      exact SqL.of (sm2 _ _ hRb2.lst)
    · rw [hlb]; exact Nat.le_trans (Nat.le_trans hsl hz2) (by decide)
    · rintro j x σ zs H' hx2 ⟨⟨o,rfl⟩,rfl,hj,h2,sm2⟩
      obtain ⟨a,r,rfl,er,har⟩:=hRb2.get hx2
      obtain ⟨hcr,n,hn⟩:=hc r (hsm r (List.mem_of_getElem? er))
      refine ⟨_,rfl,_,rfl,_,_,rfl,rfl,a,_,_,_,rfl,rfl,SqT.of (sm2 _ _ har),atI_col hcr,h2,⟨_,rfl⟩,?_,?_,upd_same,same_put hD2 sm2⟩
      · rw [take_one er,List.map_append,List.map_append]
        show _ = _ ++ [V.int (numC r c)]
        have:r.getD (c - 1).toNat .non = .int (numC r c):=by
          unfold numC
          rw [hn]
          exact hn
        rw [this]
      · rw [List.length_append,hj]; rfl
    · rintro σ zs H3 ⟨_,rfl,_,h2,sm2⟩
      rw [hlb,List.take_length] at h2
      refine ⟨D2,_,rfl,SqL.of h2,(by show 1 ≤ sizeLine; decide),fun u2 hu2=>?_⟩
      have s3:=same_new hu2 (.tup [.int (st.map fun r=>numC r c).sum])
      refine ⟨u1,u2,_,_,rfl,rfl,s3 _ _ (sm2 _ _ hu1'),upd_same,?_,fun u H4 s4 hu4=>?_⟩
      · unfold pick
        rw [List.length_map]
        exact Nat.le_trans (show cs.length + 1 ≤ 2000 by omega) (by decide)
      have s24:=s2.trans (sm2.trans (s3.trans s4))
      refine ⟨s24 _ _ h,⟨_,rfl⟩,⟨us ++ [u],by rw [List.map_append]; rfl,by rw [List.length_append]; rfl,?_⟩,upd_same,same_put hD (sm.trans s24)⟩
      rw [take_one est,List.map_append]
      refine ((hF.same s24).snoc (r:=pick (headR st) cs ++ [.int (sumC st c)]) ?_).keep (tup_upd (s24 _ _ h))
      rw [hu4,hh]
      rfl
  · rintro σ ys H' ⟨_,⟨us,rfl,_,hF⟩,h,sm⟩
    rw [hl,List.take_length] at hF
    exact q D us H' (s1.trans sm) (s1.free hD) ⟨h,hF.len,hF.at_⟩
end
end My
set_option maxHeartbeats 8000000
namespace L2
open PySem
structure EO (X:Cx) (e:Expr) (t:TE):Prop where
  h:PE X e t
structure AO (X:Cx) (es:List Expr) (t:TA):Prop where
  h:PA X es t
structure SO (X:Cx) (sts:List Stmt) (t:TS):Prop where
  h:PSs X sts t
section
variable {X:Cx} {a b e:Expr} {es:List Expr} {ta tb te:TE} {t:TA} {pos pos':Pos}
end
end L2
set_option maxHeartbeats 4000000
namespace L2
open PySem PySem.Spec PyProof.Rows
def DkAt (K:PySem.W.Frag) (d:Addr) (key:Str) (f:Addr):Prop :=
  ∃ (es:Array DictEntry) (ep:Nat) (i:Nat) (x:Int) (t:Tok),K.lookup d = some ⟨.type "dict", none,.dict es ep,#[]⟩∧es.all (fun e=>isExactStrKey e.key) = true∧es.findIdx? (fun e=>e.key.isStr key) = some i∧es[i]? = some ⟨x,.str key t,.ref f⟩
def rIxD (K:PySem.W.Frag):R2:=fun x y H Q=>∃ d k f,x = .ref d∧y = .str k∧DkAt K d k f∧Q (.ref f) H
section
variable {X:Cx}
theorem ix_dictK:IxR X (rIxD X.K):=by
  intro value slice pins s σ H x y v u Q I rx ry h hs
  obtain ⟨d,k,f,rfl,rfl,⟨es,ep,i,hx,te,lk,ha,hi,he⟩,q⟩:=h
  cases rx
  obtain ⟨t,rfl⟩:=ry
  have ho:s.heap.get? d = some ⟨.type "dict", none,.dict es ep,#[]⟩:=I.kIn _ _ lk
  have hT:s.TypeIs (.ref d) "dict":=⟨_,ho,rfl⟩
  have fin:EP X pins σ Q (.ref f) { s with toks:=s.toks + 1 }:=⟨.ref f,H,I.kept (h':=s.heap) (t':=s.toks + 1) fun _ _ e=>e,rfl,q⟩
  refine subscriptTail_builtinR (x:=.ref f) hT slot_dict_getitem.lookup ?_ hs
  unfold getItem
  try with_reducible refine wpAny_holding ?_
  refine wpAny_bind (wpAny_sequenceKey hT (by decide) ?_)
  refine wpAny_bind (wpAny_callSpecial?_slot (name:=Str.ofString "__getitem__") hT slot_dict_getitem
    (wpAny_call_entry slot_dict_getitem hT entry_dict_getitem ?_ (args_dict_getitem _ _)))
  show wpAny _ _ (dictGet d (.str k t) >>= _) _ _ s
  refine wpAny_bind ?_
  unfold dictGet
  try with_reducible refine wpAny_holding ?_
  refine wpAny_bind (wpAny_pyHash_str ?_)
  unfold dictFind
  refine wpAny_bind ?_
  try with_reducible refine wpAny_holding ?_
  refine wpAny_bind (wpAny_dictEntries (s:={ s with toks:=s.toks + 1 }) ho rfl ?_)
  dsimp only
  rw [if_pos ha]
  unfold foundByValue
  rw [hi]
  dsimp only
  rw [he]
  dsimp only
  refine wpAny_bind (wpAny_dictEpoch (s:={ s with toks:=s.toks + 1 }) ho rfl ?_)
  refine wpAny_bind (wpAny_eqBool_str ?_)
  refine wpAny_bind (wpAny_dictEpoch (s:={ s with toks:=s.toks + 1 }) ho rfl ?_)
  rw [if_neg (by simp),decide_eq_true rfl]
  refine wpAny_bind (wpAny_rule (wpAny_pure ?_))
  refine wpAny_bind (wpAny_dictEntries (s:={ s with toks:=s.toks + 1 }) ho rfl (wpAny_pure ?_))
  rw [he]
  refine wpAny_pure ⟨.ref f,rfl,wpAny_pure ⟨rfl,fin⟩⟩
def tCallV (X:Cx) (CX:CXT) (k:Nat) (E:XK) (te:TE) (t:TA):TE:=fun σ H Q=>te σ H fun v H1=>∃ f fd ps sp,v = .ref f∧FnOk X.prog X.w X.K X.mg X.base CX k f fd ps sp∧PySem.W.keepIn X.K (.ref f) = true∧Binds X.K fd ps []∧t σ H1 fun vs H2=>sp vs H2 Q E
variable {CX:CXT} {k:Nat} {E:XK} {x:Str} {p pos:Pos} {e:Expr} {es:List Expr} {te:TE} {t:TA}
theorem pe_callV (hn:PE X (.Name x p) te) (hr:Room k X.A) (hx:Passes CX X E) (ha:PA X (e :: es) t)
    (he:starEach (e :: es) X.env = (false,eval e X.env) :: starEach es X.env:=by rfl) (hpl:(backTo pos (starEach es X.env)).any (·.1) = false:=by rfl) :
    PE X (.Call (.Name x p) (e :: es) [] pos) (tCallV X CX k E te t):=by
  intro pins s σ H Q I h
  refine wpAny_Call_Name_kw (thn (hn pins s σ H _ I h) fun u s1 ⟨v,H1,I1,rv,f,fd,ps,sp,ev,F,hk,hb,q⟩=>?_)
  subst ev
  cases rv
  refine PySem.W.callWith_K (h₀:=X.base) I1.ok.mod.kin hk (thn (ha pos pins s1 σ H1 _ I1 q) fun us s2 ⟨vs,H2,I2,r,q2⟩=>⟨I2.kIn,?_⟩) he hpl
  exact run_fn F hr hb .nil hx I2 r (by rw [List.append_nil]; exact q2)
end
end L2
set_option maxHeartbeats 4000000
namespace My
open PySem L2
def clS (t:Str) (v:V):Prop:=if t = "w" then ∃ x,v = .str x else ∃ n:Int,v = .int n
theorem clOf.toS {t:Str} {v:V} (h:clOf t v):clS t v:=by
  unfold clOf at h
  unfold clS
  split
  · rename_i e
    rw [if_pos e] at h
    obtain ⟨x,hx,_⟩:=h
    exact ⟨x,hx⟩
  · rename_i e
    rw [if_neg e] at h
    obtain ⟨n,hn,_⟩:=h
    exact ⟨n,hn⟩
theorem clS.cl {t:Str} {v:V} (h:clS t v):isCl v:=by
  unfold clS at h
  split at h
  · exact .inr h
  · exact .inl h
def fitS (hd:List Str) (r:Row):Prop:=r.length = hd.length∧∀ (i:Nat) t v,hd[i]? = some t→r[i]? = some v→clS t v
theorem fitR.toS {hd:List Str} {r:Row} (h:fitR hd r):fitS hd r:=⟨h.1,fun i t v e1 e2=>(h.2 i t v e1 e2).toS⟩
def colT (hd:List Str) (c:Int):Str:=hd.getD (c - 1).toNat ""
theorem fitS.col {hd:List Str} {r:Row} {c:Int} (h:fitS hd r) (h1:1 ≤ c) (h2:c ≤ hd.length):clS (colT hd c) (colV r c):=by
  have hi:(c - 1).toNat < hd.length:=by omega
  have hi2:(c - 1).toNat < r.length:=by rw [h.1]; exact hi
  refine h.2 (c - 1).toNat _ _ ?_ ?_
  · unfold colT
    rw [List.getD_eq_getElem?_getD,List.getElem?_eq_getElem hi]
    rfl
  · unfold colV
    rw [List.getD_eq_getElem?_getD,List.getElem?_eq_getElem hi2]
    rfl
theorem fitS.cl {hd:List Str} {r:Row} (h:fitS hd r):clRow r:=fun v hv=>by
  obtain ⟨i,hi,rfl⟩:=List.mem_iff_getElem.mp hv
  have hi2:i < hd.length:=by rw [← h.1]; exact hi
  exact (h.2 i _ _ (List.getElem?_eq_getElem hi2) (List.getElem?_eq_getElem hi)).cl
theorem kindC_of {hd:List Str} {rs:List Row} {c:Int} (h:∀ r ∈ rs,fitS hd r) (h1:1 ≤ c) (h2:c ≤ hd.length):KindC rs c:=by
  by_cases e:colT hd c = "w"
  · refine .inr fun r hr=>?_
    have:=(h r hr).col h1 h2
    unfold clS at this
    rwa [if_pos e] at this
  · refine .inl fun r hr=>?_
    have:=(h r hr).col h1 h2
    unfold clS at this
    rwa [if_neg e] at this
theorem fitS.fitC {hd:List Str} {r:Row} {cs:List Int} (h:fitS hd r) (hc:fitC cs hd.length):fitC cs r.length:=by rw [h.1]; exact hc
theorem pick_fit {hd:List Str} {r:Row} {cs:List Int} (h:fitS hd r) (hc:fitC cs hd.length):fitS (cs.map (colT hd)) (pick r cs):=by
  refine ⟨by unfold pick; rw [List.length_map,List.length_map],fun i t v e1 e2=>?_⟩
  unfold pick at e2
  rw [List.getElem?_map] at e1 e2
  cases e:cs[i]? with
  | none=>rw [e] at e1; cases e1
  | some c =>
    rw [e] at e1 e2
    cases e1
    cases e2
    have:=hc c (List.mem_of_getElem? e)
    exact h.col this.1 this.2
theorem fitS.snoc {hd:List Str} {r:Row} {n:Int} (h:fitS hd r):fitS (hd ++ [("t" : Str)]) (r ++ [.int n]):=by
  refine ⟨by rw [List.length_append,List.length_append,h.1]; rfl,fun i t v e1 e2=>?_⟩
  have hl:=h.1
  by_cases hi:i < hd.length
  · rw [List.getElem?_append_left hi] at e1
    rw [List.getElem?_append_left (by omega)] at e2
    exact h.2 i t v e1 e2
  · rw [List.getElem?_append_right (by omega)] at e1
    rw [List.getElem?_append_right (by omega),hl] at e2
    have e0:i - hd.length = 0:=by
      have:=(List.getElem?_eq_some_iff.mp e1).1
      simp only [List.length_singleton] at this
      omega
    rw [e0] at e1 e2
    cases e1
    cases e2
    unfold clS
    rw [if_neg (by decide)]
    exact ⟨n,rfl⟩
theorem apartI_mem {rs:List Row}:∀ {i:Nat} {r:Row},r ∈ apartI rs i→r ∈ rs
  | 0,r,h=>nomatch h
  | i + 1,r,h=>by
    have h:r ∈ apartI rs i ++ (match rs[i]? with | some r=>if apartAt rs i r = true then [r] else [] | none=>[]):=h
    rcases List.mem_append.mp h with z | z
    · exact apartI_mem z
    · cases e:rs[i]? with
      | none=>rw [e] at z; cases z
      | some q =>
        rw [e] at z
        have z:r ∈ (if apartAt rs i q = true then [q] else []):=z
        split at z
        · rw [List.mem_singleton.mp z]; exact List.mem_of_getElem? e
        · cases z
theorem apartI_len {rs:List Row}:∀ {i:Nat},(apartI rs i).length ≤ i
  | 0=>Nat.le_refl _
  | i + 1=>by
    have h:apartI rs (i + 1) = apartI rs i ++ (match rs[i]? with | some r=>if apartAt rs i r = true then [r] else [] | none=>[]):=rfl
    have:=apartI_len (rs:=rs) (i:=i)
    rw [h,List.length_append]
    cases e:rs[i]? with
    | none=>simp; omega
    | some q =>
      show _ + (if apartAt rs i q = true then [q] else []).length ≤ _
      split <;> simp <;> omega
inductive W2 where
  | sort (od:List (Int×Bool))
  | apart
  | count (cs:List Int)
  | sum (cs:List Int) (c:Int)
  | number
  | first (n:Nat)
  | cut (cs:List Int)
def W2.nm:W2→Str
  | .sort _=>"sort"
  | .apart=>"apart"
  | .count _=>"count"
  | .sum ..=>"sum"
  | .number=>"number"
  | .first _=>"first"
  | .cut _=>"cut"
def W2At (H:Hp) (a:Addr):W2→Prop
  | .sort od=>∃ t bs,H a = some (.tup [.str "sort", .ref t])∧OrdAt H t bs od
  | .apart=>H a = some (.tup [.str "apart"])
  | .count cs=>∃ t,H a = some (.tup [.str "count", .ref t])∧H t = some (.tup (cs.map V.int))
  | .sum cs c=>∃ t,H a = some (.tup [.str "sum", .ref t,.int c])∧H t = some (.tup (cs.map V.int))
  | .number=>H a = some (.tup [.str "number"])
  | .first n=>H a = some (.tup [.str "first", .int (n:Nat)])
  | .cut cs=>∃ t,H a = some (.tup [.str "cut", .ref t])∧H t = some (.tup (cs.map V.int))
theorem W2At.keep {H H':Hp} {a:Addr} {x:W2} (k:KeepT H H') (h:W2At H a x):W2At H' a x:=by
  cases x with
  | sort od=>obtain ⟨t,bs,h1,h2⟩:=h; exact ⟨t,bs,k _ _ h1,k _ _ h2.tup,h2.len,fun i b p e1 e2=>k _ _ (h2.at_ i b p e1 e2)⟩
  | apart=>exact k _ _ h
  | count cs=>obtain ⟨t,h1,h2⟩:=h; exact ⟨t,k _ _ h1,k _ _ h2⟩
  | sum cs c=>obtain ⟨t,h1,h2⟩:=h; exact ⟨t,k _ _ h1,k _ _ h2⟩
  | number=>exact k _ _ h
  | first n=>exact k _ _ h
  | cut cs=>obtain ⟨t,h1,h2⟩:=h; exact ⟨t,k _ _ h1,k _ _ h2⟩
theorem W2At.first {H:Hp} {a:Addr} {x:W2} (h:W2At H a x):∃ xs,H a = some (.tup (.str x.nm :: xs)):=by
  cases x with
  | sort od=>obtain ⟨t,bs,h1,h2⟩:=h; exact ⟨_,h1⟩
  | apart=>exact ⟨_,h⟩
  | count cs=>obtain ⟨t,h1,h2⟩:=h; exact ⟨_,h1⟩
  | sum cs c=>obtain ⟨t,h1,h2⟩:=h; exact ⟨_,h1⟩
  | number=>exact ⟨_,h⟩
  | first n=>exact ⟨_,h⟩
  | cut cs=>obtain ⟨t,h1,h2⟩:=h; exact ⟨_,h1⟩
def run2:W2→List Row→List Row
  | .sort od,rs=>sortAll od rs
  | .apart,rs=>My.apart rs
  | .count cs,rs=>(strL cs rs).map fun st=>pick (headR st) cs ++ [.int (st.length:Nat)]
  | .sum cs c,rs=>(strL cs rs).map fun st=>pick (headR st) cs ++ [.int (sumC st c)]
  | .number,rs=>numU rs rs.length
  | .first n,rs=>rs.take n
  | .cut cs,rs=>rs.map fun r=>pick r cs
def behind2 (hd:List Str):W2→List Str
  | .sort _=>hd
  | .apart=>hd
  | .count cs=>cs.map (colT hd) ++ [("t" : Str)]
  | .sum cs _=>cs.map (colT hd) ++ [("t" : Str)]
  | .number=>hd ++ [("t" : Str)]
  | .first _=>hd
  | .cut cs=>cs.map (colT hd)
def W2Ok (hd:List Str):W2→Prop
  | .sort od=>od.length ≤ 100∧∀ p ∈ od,1 ≤ p.1∧p.1 ≤ hd.length
  | .apart=>True
  | .count cs=>cs.length ≤ 5∧fitC cs hd.length
  | .sum cs c=>cs.length ≤ 5∧fitC cs hd.length∧(1 ≤ c∧c ≤ hd.length)∧colT hd c ≠ "w"
  | .number=>hd.length < 6
  | .first _=>True
  | .cut cs=>1 ≤ cs.length∧cs.length ≤ 6∧fitC cs hd.length
structure HdOk2 (hd:List Str):Prop where
  lo:1 ≤ hd.length
  hi:hd.length ≤ 6
theorem behind2_ok {hd:List Str} {w:W2} (h:HdOk2 hd) (hw:W2Ok hd w):HdOk2 (behind2 hd w):=by
  have l:=h.lo
  have u:=h.hi
  cases w with
  | sort od=>exact h
  | apart=>exact h
  | count cs =>
    have:=hw.1
    refine ⟨?_,?_⟩ <;> (show _ ≤ _; simp only [behind2,List.length_append,List.length_map,List.length_singleton]; omega)
  | sum cs c =>
    have:=hw.1
    refine ⟨?_,?_⟩ <;> (show _ ≤ _; simp only [behind2,List.length_append,List.length_map,List.length_singleton]; omega)
  | number =>
    have hw:hd.length < 6:=hw
    refine ⟨?_,?_⟩ <;> (show _ ≤ _; simp only [behind2,List.length_append,List.length_singleton]; omega)
  | first n=>exact h
  | cut cs =>
    obtain ⟨h1,h2,_⟩:=hw
    refine ⟨?_,?_⟩ <;> (show _ ≤ _; simp only [behind2,List.length_map]; omega)
theorem headR_mem {st:List Row} (h:st ≠ []):headR st ∈ st:=by
  cases st with
  | nil=>exact absurd rfl h
  | cons r st=>exact List.mem_cons_self
theorem run2_fit {hd:List Str} {w:W2} {rs:List Row} (hw:W2Ok hd w) (h:∀ r ∈ rs,fitS hd r):(∀ r ∈ run2 w rs,fitS (behind2 hd w) r)∧(run2 w rs).length ≤ rs.length:=by
  cases w with
  | sort od =>
    have:=foldl_sortR (od:=od.reverse) (rs:=rs)
    exact ⟨fun r hr=>h r (this.2 r hr),Nat.le_of_eq this.1⟩
  | apart=>exact ⟨fun r hr=>h r (apartI_mem hr),apartI_len⟩
  | count cs =>
    have hP:=strs_ok (cs:=cs) (rs:=rs) (R:=fun r=>r ∈ rs) (fun _ h=>h)
    refine ⟨fun r hr=>?_,by show (List.map _ _).length ≤ _; rw [List.length_map]; exact hP.1⟩
    obtain ⟨st,hst,rfl⟩:=List.mem_map.mp hr
    obtain ⟨hne,_,hm⟩:=hP.2 st hst
    exact (pick_fit (h _ (hm _ (headR_mem hne))) hw.2).snoc
  | sum cs c =>
    have hP:=strs_ok (cs:=cs) (rs:=rs) (R:=fun r=>r ∈ rs) (fun _ h=>h)
    refine ⟨fun r hr=>?_,by show (List.map _ _).length ≤ _; rw [List.length_map]; exact hP.1⟩
    obtain ⟨st,hst,rfl⟩:=List.mem_map.mp hr
    obtain ⟨hne,_,hm⟩:=hP.2 st hst
    exact (pick_fit (h _ (hm _ (headR_mem hne))) hw.2.1).snoc
  | number =>
    refine ⟨fun r hr=>?_,by show (numU rs rs.length).length ≤ _; unfold numU; rw [List.length_map,List.length_range]; exact Nat.le_refl _⟩
    obtain ⟨j,hj,rfl⟩:=List.mem_map.mp hr
    have hj:=List.mem_range.mp hj
    refine fitS.snoc ?_
    rw [List.getD_eq_getElem?_getD,List.getElem?_eq_getElem hj]
    exact h _ (List.getElem_mem hj)
  | first n=>exact ⟨fun r hr=>h r (List.mem_of_mem_take hr),by show (rs.take n).length ≤ _; rw [List.length_take]; exact Nat.min_le_right _ _⟩
  | cut cs =>
    refine ⟨fun r hr=>?_,by show (List.map _ _).length ≤ _; rw [List.length_map]; exact Nat.le_refl _⟩
    obtain ⟨q,hq,rfl⟩:=List.mem_map.mp hr
    exact pick_fit (h q hq) hw.2.2
def PipeOk2:List Str→List W2→Prop
  | _,[]=>True
  | hd,w :: ws=>W2Ok hd w∧PipeOk2 (behind2 hd w) ws
def runP2 (ws:List W2) (rs:List Row):List Row:=ws.foldl (fun acc w=>run2 w acc) rs
def behindP2 (hd:List Str) (ws:List W2):List Str:=ws.foldl behind2 hd
theorem PipeOk2.snoc {w:W2}:∀ {ws:List W2} {hd:List Str},PipeOk2 hd ws→W2Ok (behindP2 hd ws) w→PipeOk2 hd (ws ++ [w])
  | [],_,_,h=>⟨h,trivial⟩
  | _ :: ws,_,p,h=>⟨p.1,p.2.snoc (ws:=ws) h⟩
theorem runP2_snoc {ws:List W2} {w:W2} {rs:List Row}:runP2 (ws ++ [w]) rs = run2 w (runP2 ws rs):=by
  unfold runP2
  rw [List.foldl_append]
  rfl
theorem behindP2_snoc {ws:List W2} {w:W2} {hd:List Str}:behindP2 hd (ws ++ [w]) = behind2 (behindP2 hd ws) w:=by
  unfold behindP2
  rw [List.foldl_append]
  rfl
structure ItemsAt {α:Type} (At:Hp→Addr→α→Prop) (H:Hp) (p:Addr) (bs:List Addr) (xs:List α):Prop where
  tup:H p = some (.tup (bs.map V.ref))
  len:bs.length = xs.length
  at_:∀ (i:Nat) a x,bs[i]? = some a→xs[i]? = some x→At H a x
theorem ItemsAt.keep {α:Type} {At:Hp→Addr→α→Prop} {H H':Hp} {p:Addr} {bs:List Addr} {xs:List α} (k:KeepT H H') (kA:∀ a x,At H a x→At H' a x) (h:ItemsAt At H p bs xs):ItemsAt At H' p bs xs:=⟨k _ _ h.tup,h.len,fun i a x e1 e2=>kA _ _ (h.at_ i a x e1 e2)⟩
theorem ItemsAt.get {α:Type} {At:Hp→Addr→α→Prop} {H:Hp} {p:Addr} {bs:List Addr} {xs:List α} (h:ItemsAt At H p bs xs) {i:Nat} {x:V} (hx:(bs.map V.ref)[i]? = some x):∃ (a:Addr) (y:α),x = .ref a∧xs[i]? = some y∧At H a y:=by
  rw [List.getElem?_map] at hx
  cases e:bs[i]? with
  | none=>rw [e] at hx; cases hx
  | some b =>
    rw [e] at hx
    have hx':V.ref b = x:=Option.some.inj hx
    subst hx'
    have hi:i < xs.length:=by rw [← h.len]; exact (List.getElem?_eq_some_iff.mp e).1
    have er:xs[i]? = some xs[i]:=List.getElem?_eq_getElem hi
    exact ⟨b,xs[i],rfl,er,h.at_ i b _ e er⟩
theorem drop_at {α:Type} {l:List α} {i:Nat} {x:α} (h:l[i]? = some x):l.drop i = x :: l.drop (i + 1):=by
  obtain ⟨hi,rfl⟩:=List.getElem?_eq_some_iff.mp h
  exact List.drop_eq_getElem_cons hi
theorem Same.growT {Pt:Addr} {H H':Hp} (s:Same H H'):GrowT Pt H H':=fun b o _ e=>s b o e
theorem tab_same {Pt:Addr} {q:Str} {H H':Hp} (T:TabAt H Pt q) (s:Same H H'):TabAt H' Pt q:=T.grow fun b o _ e=>s b o e
theorem keepT_of {H H':Hp} (s:Same H H'):KeepT H H':=fun a xs e=>s _ _ e
theorem growKeep {Pt:Addr} {q:Str} {H H':Hp} (T:TabAt H Pt q) (g:GrowT Pt H H'):KeepT H H':=fun a xs e=>g a _ (tabNe T e fun _ z=>by cases z) e
theorem RowsAt.growT {Pt:Addr} {q:Str} {H H':Hp} {l:Addr} {as:List Addr} {rs:List Row} (T:TabAt H Pt q) (g:GrowT Pt H H') (h:RowsAt H l as rs):RowsAt H' l as rs:=⟨g _ _ (tabNe T h.lst fun _ z=>by cases z) h.lst,h.len,fun i a r e1 e2=>growKeep T g _ _ (h.at_ i a r e1 e2)⟩
def pre2 (x:W2) (rs:List Row):Prop:=∃ hd,HdOk2 hd∧W2Ok hd x∧∀ r ∈ rs,fitS hd r
def spWk2 (Pt:Addr) (x:W2):Sp:=fun vs H Q _=>∃ (w l pl:Addr) (as:List Addr) (rs:List Row),vs = [.ref w,.ref l,.ref pl]∧W2At H w x∧RowsAt H l as rs∧pre2 x rs∧rs.length ≤ 60∧TabAt H Pt qSB ∧
  ∀ (l':Addr) (as':List Addr) (H':Hp),GrowT Pt H H'→TabAt H' Pt qSB→RowsAt H' l' as' (run2 x rs)→Q (.ref l') H'
def spPipe2 (Pt:Addr):Sp:=fun vs H Q _=>∃ (p l pf:Addr) (bs:List Addr) (xs:List W2) (as:List Addr) (rs:List Row) (ns:List Int),vs = [.ref p,.ref l,.ref pf]∧ItemsAt W2At H p bs xs∧RowsAt H l as rs∧(∃ hd,HdOk2 hd∧PipeOk2 hd xs∧∀ r ∈ rs,fitS hd r)∧rs.length ≤ 60∧H pf = some (.tup (ns.map V.int))∧ns.length ≤ 100∧TabAt H Pt qSB ∧
  ∀ (l':Addr) (as':List Addr) (H':Hp),GrowT Pt H H'→TabAt H' Pt qSB→RowsAt H' l' as' (runP2 xs rs)→Q (.ref l') H'
def WkFn2 (P:Program) (w:World) (K:PySem.W.Frag) (mg:Str→Option Value) (base:Heap) (Pt aR:Addr) (L:Nat) (x:W2):Prop :=
  ∃ (f:Addr) (fd:FuncData),DkAt K aR x.nm f∧FnOk P w K mg base CX0 L f fd ["worker", "rows", "place"] (spWk2 Pt x)∧PySem.W.keepIn K (.ref f) = true∧Binds K fd ["worker", "rows", "place"] []
abbrev s_run_pipe:Stmt:=top 29
theorem sc_run_pipe:FnScope ["pipe", "rows", "prefix", "found", "at", "worker", "run"] ["pipe", "rows", "prefix"] (defScope s_run_pipe):=⟨rfl,rfl,rfl,by decide +kernel,rfl,by decide +kernel,by decide +kernel⟩
section
variable {P:Program} {w:World} {K:PySem.W.Frag} {mg:Str→Option Value} {base:Heap} {f  : Addr} {fd  : FuncData}
theorem ok_runpipe {Pt aR:Addr} {L:Nat} (mE:mg "enumerate" = none) (B:Blt mg) (mR:mg "RUNS" = some (.ref aR)) (G:∀ x,WkFn2 P w K mg base Pt aR L x) (F:Fun K "run_pipe" "run_pipe" s_run_pipe f fd)  :
    FnOk P w K mg base CX0 (L + 1) f fd ["pipe", "rows", "prefix"] (spPipe2 Pt):=by
  refine F.ok sc_run_pipe (fun vs H Q E h=>?_) (fun cdv A outer s H vs Q E hr h=>?_)
  · obtain ⟨p,l,pf,bs,xs,as,rs,ns,rfl,_⟩:=h
    rfl
  have hu:(A.deeper (PyProof.Rows.envOfC "run_pipe" (defScope s_run_pipe) s.heap.objs.size f cdv)).units + 8 < cLine:=by have:=hr.units; omega
  have hu1:(A.deeper (PyProof.Rows.envOfC "run_pipe" (defScope s_run_pipe) s.heap.objs.size f cdv)).units + 1 < cLine:=by omega
  obtain ⟨p,l,pf,bs,xs,as,rs,ns,rfl,hP,hR,hpre,hz,hpf,hns,hT,q⟩:=h
  refine ⟨_,(pss_cons (ps_set (i:=3) sc_run_pipe.nd rfl (Or.inl rfl) (pe_callTy call_list_of rfl B.list PyProof.Rows.boot_list (pa_cons (pv 1) pa_nil)))
      (pss_cons (ps_for PassesOwn.never rfl (pi_enumT rfl mE (pa_cons (pv 0) pa_nil)) (pg_tup rfl (pgs_cons (pg_name (i:=4) sc_run_pipe.nd rfl (Or.inl rfl)) (pgs_cons (pg_name (i:=5) sc_run_pipe.nd rfl (Or.inl rfl)) pgs_nil)))
        (pss_cons (ps_set (i:=6) sc_run_pipe.nd rfl (Or.inl rfl) (pe_ix (r:=rIxD K) ix_dictK (pe_glob rfl mR (show RelV (.ref aR) (.ref aR) from rfl)) (pe_ix (r:=rIxT K) ix_tup (pv 5) pe_int (fun _ _=>rfl)) (fun _ _=>rfl)))
          (pss_one (ps_set (i:=3) sc_run_pipe.nd rfl (Or.inl rfl) (pe_callV (k:=L) (pv 6) hr pass0 (pa_cons (pv 5) (pa_cons (pv 3) (pa_cons (pe_op op_catH (pv 2) (pe_tup (pa_cons (pv 4) pa_nil))) pa_nil))))))))
      (pss_one (ps_ret (pv 3))))),?_⟩
  obtain ⟨hd,ho,hpk,hfit⟩:=hpre
  refine ⟨_,rfl,l,_,rfl,.inl (SqL.of hR.lst),fun fl hfl=>?_⟩
  have s0:=same_new hfl (.lst (as.map V.ref))
  refine gName_go ?_
  dsimp only
  refine ⟨_,rfl,p,rfl,⟨_,SqT.of (s0 _ _ hP.tup)⟩,?_⟩
  have hlx:(bs.map V.ref).length = xs.length:=by rw [List.length_map,hP.len]
  refine for_enumT (xs:=bs.map V.ref) (fun i σ H'=>∃ (fl:Addr) (fas:List Addr) (frs:List Row) (hd':List Str),(∃ o1 o2 o3,σ = [some (.ref p),some (.ref l),some (.ref pf),some (.ref fl),o1,o2,o3])∧GrowT Pt H H'∧TabAt H' Pt qSB∧RowsAt H' fl fas frs∧frs.length ≤ 60∧HdOk2 hd'∧PipeOk2 hd' (xs.drop i)∧(∀ r ∈ frs,fitS hd' r)∧runP2 xs rs = runP2 (xs.drop i) frs)
    ⟨fl,as,rs,hd,⟨none,none,none,rfl⟩,Same.growT s0,tab_same hT s0,⟨upd_same,hR.len,fun i a r e1 e2=>s0 _ _ (hR.at_ i a r e1 e2)⟩,hz,ho,hpk,hfit,rfl⟩ ?_ ?_ ?_
  · rintro i σ H' _ ⟨_,_,_,_,_,gr,_⟩
    exact SqT.of (growKeep hT gr _ _ hP.tup)
  · rintro i x σ H' T hx ⟨fl,fas,frs,hd',⟨o1,o2,o3,rfl⟩,gr,hT',hF,hfz,ho',hpk',hfit',hrun⟩ hTn
    obtain ⟨a,y,rfl,ey,hay⟩:=hP.get hx
    have sT:=same_new hTn (.tup [.int (i:Nat),.ref a])
    have grT:=growTrans gr (Same.growT sT)
    rw [drop_at ey] at hpk' hrun
    have kT:=growKeep hT grT
    have hay':=W2At.keep kT hay
    obtain ⟨xs1,h1⟩:=hay'.first
    obtain ⟨g,gd,hdk,FG,kG,bG⟩:=G y
    refine ⟨T,_,rfl,SqT.of upd_same,rfl,_,_,rfl,gName_go ⟨_,_,rfl,gName_go ⟨rfl,?_⟩⟩⟩
    dsimp only
    refine ⟨_,rfl,a,_,0,_,rfl,rfl,SqT.of h1,atI_nat (j:=0) rfl,aR,y.nm,g,rfl,rfl,hdk,gName_go ?_⟩
    dsimp only
    refine ⟨_,rfl,g,gd,_,spWk2 Pt y,rfl,FG,kG,bG,?_⟩
    refine ⟨_,rfl,_,rfl,_,rfl,_,rfl,(by show 1 ≤ sizeLine; decide),fun u hu=>?_⟩
    have su:=same_new hu (.tup [.int (i:Nat)])
    refine ⟨pf,u,_,_,rfl,rfl,su _ _ (kT _ _ hpf),upd_same,?_,fun t H2 s2 ht=>?_⟩
    · rw [List.length_map]
      exact Nat.le_trans (show ns.length + 1 ≤ 1000 by omega) (by decide)
    have sT2:=sT.trans (su.trans s2)
    have gr2:=growTrans gr (Same.growT sT2)
    refine ⟨a,fl,t,fas,frs,rfl,hay'.keep (keepT_of (su.trans s2)),hF.same sT2,⟨hd',ho',hpk'.1,hfit'⟩,hfz,tab_same hT' sT2,fun l' as' H3 g3 T3 hR'=>gName_go ?_⟩
    obtain ⟨f1,f2⟩:=run2_fit hpk'.1 hfit'
    exact ⟨l',as',run2 y frs,behind2 hd' y,⟨_,_,_,rfl⟩,growTrans gr2 g3,T3,hR',by omega,behind2_ok ho' hpk'.1,hpk'.2,f1,hrun⟩
  · rintro σ H' ⟨fl,fas,frs,hd',⟨o1,o2,o3,rfl⟩,gr,hT',hF,hfz,ho',hpk',hfit',hrun⟩
    rw [hlx,List.drop_length] at hrun
    exact ⟨_,rfl,q fl fas H' gr hT' (by rw [hrun]; exact hF)⟩
end
def spTold2 (Pt:Addr):Sp:=fun vs H Q _=>∃ (p l:Addr) (bs:List Addr) (xs:List W2) (as:List Addr) (rs:List Row),vs = [.ref p,.ref l]∧ItemsAt W2At H p bs xs∧RowsAt H l as rs∧(∃ hd,HdOk2 hd∧PipeOk2 hd xs∧∀ r ∈ rs,fitS hd r)∧rs.length ≤ 60∧TabAt H Pt qSB ∧
  ∀ (l':Addr) (as':List Addr) (H':Hp),GrowT Pt H H'→TabAt H' Pt qSB→RowsAt H' l' as' (runP2 xs rs)→Q (.ref l') H'
abbrev s_told:Stmt:=top 30
theorem sc_told:FnScope ["pipe", "rows"] ["pipe", "rows"] (defScope s_told):=⟨rfl,rfl,rfl,by decide +kernel,rfl,by decide +kernel,by decide +kernel⟩
section
variable {P:Program} {w:World} {K:PySem.W.Frag} {mg:Str→Option Value} {base:Heap} {f g_run_pipe:Addr} {fd d_run_pipe:FuncData}
theorem ok_told {Pt:Addr} {L:Nat} (F:Fun K "told" "told" s_told f fd) 
    (G_run_pipe:FnOk P w K mg base CX0 L g_run_pipe d_run_pipe ["pipe", "rows", "prefix"] (spPipe2 Pt)) (b_run_pipe:Binds K d_run_pipe ["pipe", "rows", "prefix"] []) (k_run_pipe:PySem.W.keepIn K (.ref g_run_pipe) = true) (m_run_pipe:mg "run_pipe" = some (.ref g_run_pipe)) :
    FnOk P w K mg base CX0 (L + 1) f fd ["pipe", "rows"] (spTold2 Pt):=by
  refine F.ok sc_told (fun vs H Q E h=>?_) (fun cdv A outer s H vs Q E hr h=>?_)
  · obtain ⟨p,l,bs,xs,as,rs,rfl,_⟩:=h
    rfl
  have hu:(A.deeper (PyProof.Rows.envOfC "told" (defScope s_told) s.heap.objs.size f cdv)).units + 8 < cLine:=by have:=hr.units; omega
  have hu1:(A.deeper (PyProof.Rows.envOfC "told" (defScope s_told) s.heap.objs.size f cdv)).units + 1 < cLine:=by omega
  obtain ⟨p,l,bs,xs,as,rs,rfl,hP,hR,hpre,hz,hT,q⟩:=h
  refine ⟨_,(pss_one (ps_ret (pe_call (G_run_pipe.mono (by omega)) hr rfl m_run_pipe k_run_pipe b_run_pipe .nil pass0 (pa_cons (pv 0) (pa_cons (pv 1) (pa_cons (pe_tup pa_nil) pa_nil)))))),?_⟩
  refine ⟨_,rfl,_,rfl,Nat.zero_le _,fun u hu=>?_⟩
  have su:=same_new hu (.tup [])
  exact ⟨p,l,u,bs,xs,as,rs,[],rfl,hP.keep (keepT_of su) fun _ _ z=>z.keep (keepT_of su),hR.same su,hpre,hz,upd_same,Nat.zero_le _,tab_same hT su,fun l' as' H' g T hR'=>q l' as' H' (growTrans (Same.growT su) g) T hR'⟩
end
section
variable {P:Program} {w:World} {K:PySem.W.Frag} {mg:Str→Option Value} {base:Heap} {f Pt:Addr} {fd:FuncData} {k:Nat}
theorem sort_wk {od:List (Int×Bool)} (G:FnOk P w K mg base CX0 k f fd ["worker", "rows", "place"] (spRunSort Pt)):FnOk P w K mg base CX0 k f fd ["worker", "rows", "place"] (spWk2 Pt (.sort od)) :=
  G.imp fun vs H Q E h=>by
    obtain ⟨w,l,pl,as,rs,rfl,⟨t,bs,h1,h2⟩,hR,⟨hd,ho,hw,hf⟩,hz,hT,q⟩:=h
    refine ⟨w,t,l,pl,bs,od,as,rs,rfl,h1,h2,hT,hR,by omega,by have:=hw.1; omega,fun p hp=>?_,q⟩
    have:=hw.2 p hp
    exact ⟨kindC_of hf this.1 this.2,fun r hr=>by rw [(hf r hr).1]; exact this⟩
theorem apart_wk (G:FnOk P w K mg base CX0 k f fd ["worker", "rows", "place"] spRunApart):FnOk P w K mg base CX0 k f fd ["worker", "rows", "place"] (spWk2 Pt .apart) :=
  G.imp fun vs H Q E h=>by
    obtain ⟨w,l,pl,as,rs,rfl,h1,hR,⟨hd,ho,hw,hf⟩,hz,hT,q⟩:=h
    exact ⟨w,l,pl,as,rs,rfl,hR,by omega,fun r hr=>(hf r hr).cl,fun l' as' H' s _ hR'=>q l' as' H' (Same.growT s) (tab_same hT s) hR'⟩
theorem count_wk {cs:List Int} (G:FnOk P w K mg base CX0 k f fd ["worker", "rows", "place"] spRunCount):FnOk P w K mg base CX0 k f fd ["worker", "rows", "place"] (spWk2 Pt (.count cs)) :=
  G.imp fun vs H Q E h=>by
    obtain ⟨w,l,pl,as,rs,rfl,⟨t,h1,h2⟩,hR,⟨hd,ho,hw,hf⟩,hz,hT,q⟩:=h
    exact ⟨w,t,l,pl,cs,as,rs,rfl,h1,h2,hR,fun r hr=>⟨(hf r hr).fitC hw.2,(hf r hr).cl⟩,by have:=hw.1; omega,by omega,fun l' as' H' s _ hR'=>q l' as' H' (Same.growT s) (tab_same hT s) hR'⟩
theorem sum_wk {cs:List Int} {c:Int} (G:FnOk P w K mg base CX0 k f fd ["worker", "rows", "place"] spRunSum):FnOk P w K mg base CX0 k f fd ["worker", "rows", "place"] (spWk2 Pt (.sum cs c)) :=
  G.imp fun vs H Q E h=>by
    obtain ⟨w,l,pl,as,rs,rfl,⟨t,h1,h2⟩,hR,⟨hd,ho,⟨w1,w2,w3,w4⟩,hf⟩,hz,hT,q⟩:=h
    refine ⟨w,t,l,pl,cs,c,as,rs,rfl,h1,h2,hR,fun r hr=>⟨(hf r hr).fitC w2,(hf r hr).cl⟩,fun r hr=>⟨by rw [(hf r hr).1]; exact w3,?_⟩,by omega,by omega,fun l' as' H' s _ hR'=>q l' as' H' (Same.growT s) (tab_same hT s) hR'⟩
    have:=(hf r hr).col w3.1 w3.2
    unfold clS at this
    rwa [if_neg w4] at this
theorem number_wk (G:FnOk P w K mg base CX0 k f fd ["worker", "rows", "place"] spRunNumber):FnOk P w K mg base CX0 k f fd ["worker", "rows", "place"] (spWk2 Pt .number) :=
  G.imp fun vs H Q E h=>by
    obtain ⟨w,l,pl,as,rs,rfl,h1,hR,⟨hd,ho,hw,hf⟩,hz,hT,q⟩:=h
    exact ⟨w,l,pl,as,rs,rfl,hR,by omega,fun r hr=>by rw [(hf r hr).1]; have:=ho.hi; omega,fun l' as' H' s _ hR'=>q l' as' H' (Same.growT s) (tab_same hT s) hR'⟩
theorem first_wk {n:Nat} (G:FnOk P w K mg base CX0 k f fd ["worker", "rows", "place"] spRunFirst):FnOk P w K mg base CX0 k f fd ["worker", "rows", "place"] (spWk2 Pt (.first n)) :=
  G.imp fun vs H Q E h=>by
    obtain ⟨w,l,pl,as,rs,rfl,h1,hR,⟨hd,ho,hw,hf⟩,hz,hT,q⟩:=h
    exact ⟨w,l,pl,n,as,rs,rfl,h1,hR,fun l' as' H' s _ hR'=>q l' as' H' (Same.growT s) (tab_same hT s) hR'⟩
theorem cut_wk {cs:List Int} (G:FnOk P w K mg base CX0 k f fd ["worker", "rows", "place"] spRunCut):FnOk P w K mg base CX0 k f fd ["worker", "rows", "place"] (spWk2 Pt (.cut cs)) :=
  G.imp fun vs H Q E h=>by
    obtain ⟨w,l,pl,as,rs,rfl,⟨t,h1,h2⟩,hR,⟨hd,ho,hw,hf⟩,hz,hT,q⟩:=h
    exact ⟨w,t,l,pl,cs,as,rs,rfl,h1,h2,hR,fun r hr=>(hf r hr).fitC hw.2.2,by have:=hw.2.1; omega,by omega,fun l' as' H' s _ hR'=>q l' as' H' (Same.growT s) (tab_same hT s) hR'⟩
theorem wkfn2_all {aR:Addr} {L:Nat} {f1 f2 f3 f4 f5 f6 f7:Addr} {d1 d2 d3 d4 d5 d6 d7:FuncData} (hL:3 ≤ L)
    (t1:DkAt K aR "sort" f1) (t2:DkAt K aR "apart" f2) (t3:DkAt K aR "count" f3) (t4:DkAt K aR "sum" f4) (t5:DkAt K aR "number" f5) (t6:DkAt K aR "first" f6) (t7:DkAt K aR "cut" f7)
    (G1:FnOk P w K mg base CX0 2 f1 d1 ["worker", "rows", "place"] (spRunSort Pt)) (G2:FnOk P w K mg base CX0 1 f2 d2 ["worker", "rows", "place"] spRunApart) (G3:FnOk P w K mg base CX0 3 f3 d3 ["worker", "rows", "place"] spRunCount) (G4:FnOk P w K mg base CX0 3 f4 d4 ["worker", "rows", "place"] spRunSum) (G5:FnOk P w K mg base CX0 1 f5 d5 ["worker", "rows", "place"] spRunNumber) (G6:FnOk P w K mg base CX0 1 f6 d6 ["worker", "rows", "place"] spRunFirst) (G7:FnOk P w K mg base CX0 2 f7 d7 ["worker", "rows", "place"] spRunCut)
    (b1:Binds K d1 ["worker", "rows", "place"] []) (b2:Binds K d2 ["worker", "rows", "place"] []) (b3:Binds K d3 ["worker", "rows", "place"] []) (b4:Binds K d4 ["worker", "rows", "place"] []) (b5:Binds K d5 ["worker", "rows", "place"] []) (b6:Binds K d6 ["worker", "rows", "place"] []) (b7:Binds K d7 ["worker", "rows", "place"] [])
    (k1:PySem.W.keepIn K (.ref f1) = true) (k2:PySem.W.keepIn K (.ref f2) = true) (k3:PySem.W.keepIn K (.ref f3) = true) (k4:PySem.W.keepIn K (.ref f4) = true) (k5:PySem.W.keepIn K (.ref f5) = true) (k6:PySem.W.keepIn K (.ref f6) = true) (k7:PySem.W.keepIn K (.ref f7) = true) :
    ∀ x,WkFn2 P w K mg base Pt aR L x:=by
  intro x
  cases x with
  | sort od=>exact ⟨f1,d1,t1,sort_wk (G1.mono (by omega)),k1,b1⟩
  | apart=>exact ⟨f2,d2,t2,apart_wk (G2.mono (by omega)),k2,b2⟩
  | count cs=>exact ⟨f3,d3,t3,count_wk (G3.mono hL),k3,b3⟩
  | sum cs c=>exact ⟨f4,d4,t4,sum_wk (G4.mono hL),k4,b4⟩
  | number=>exact ⟨f5,d5,t5,number_wk (G5.mono (by omega)),k5,b5⟩
  | first n=>exact ⟨f6,d6,t6,first_wk (G6.mono (by omega)),k6,b6⟩
  | cut cs=>exact ⟨f7,d7,t7,cut_wk (G7.mono (by omega)),k7,b7⟩
end
end My
set_option maxHeartbeats 4000000
namespace My
open PySem L2
theorem next_go {D:Ends} {σ:St} {H:Hp} (h:D.nx σ H):tNext D σ H:=h
inductive FoldAt (cs:List Int) (H:Hp):List Addr→List Addr→List (List Row)→Prop
  | nil:FoldAt cs H [] [] []
  | snoc {ts ls:List Addr} {sts:List (List Row)} {t k b:Addr} {as:List Addr} {st:List Row}:FoldAt cs H ts ls sts→b ∉ ls→H t = some (.tup [.ref k,.ref b])→H k = some (.tup (pick (headR st) cs))→RowsAt H b as st→FoldAt cs H (ts ++ [t]) (ls ++ [b]) (sts ++ [st])
theorem FoldAt.keep {cs:List Int} {H H':Hp} {ts ls:List Addr} {sts:List (List Row)} (kt:KeepT H H') (h:FoldAt cs H ts ls sts):(∀ b ∈ ls,∀ as st,RowsAt H b as st→RowsAt H' b as st)→FoldAt cs H' ts ls sts:=by
  induction h with
  | nil=>intro _; exact .nil
  | snoc h hb h1 h2 hR ih=>intro k; exact .snoc (ih fun c hc=>k c (List.mem_append_left _ hc)) hb (kt _ _ h1) (kt _ _ h2) (k _ (List.mem_append_right _ (List.mem_singleton.mpr rfl)) _ _ hR)
theorem FoldAt.same {cs:List Int} {H H':Hp} {ts ls:List Addr} {sts:List (List Row)} (s:Same H H') (h:FoldAt cs H ts ls sts):FoldAt cs H' ts ls sts:=h.keep (keepT_of s) fun _ _ _ _ z=>z.same s
theorem FoldAt.len {cs:List Int} {H:Hp} {ts ls:List Addr} {sts:List (List Row)} (h:FoldAt cs H ts ls sts):ts.length = sts.length∧ls.length = sts.length:=by
  induction h with
  | nil=>exact ⟨rfl,rfl⟩
  | snoc h hb h1 h2 hR ih=>rw [List.length_append,List.length_append,List.length_append,ih.1,ih.2]; exact ⟨rfl,rfl⟩
theorem FoldAt.mem {cs:List Int} {H:Hp} {ts ls:List Addr} {sts:List (List Row)} (h:FoldAt cs H ts ls sts):∀ b ∈ ls,∃ xs,H b = some (.lst xs):=by
  induction h with
  | nil=>intro b hb; cases hb
  | snoc h hb h1 h2 hR ih =>
    intro c hc
    rcases List.mem_append.mp hc with z | z
    · exact ih c z
    · rw [List.mem_singleton.mp z]; exact ⟨_,hR.lst⟩
theorem FoldAt.get {cs:List Int} {H:Hp} {ts ls:List Addr} {sts:List (List Row)} (h:FoldAt cs H ts ls sts):∀ {i:Nat} {x:V},(ts.map V.ref)[i]? = some x→∃ (t k b:Addr) (as:List Addr) (st:List Row),x = .ref t∧sts[i]? = some st∧H t = some (.tup [.ref k,.ref b])∧H k = some (.tup (pick (headR st) cs))∧RowsAt H b as st:=by
  induction h with
  | nil=>intro i x hx; cases hx
  | @snoc ts ls sts t k b as st h hb h1 h2 hR ih =>
    intro i x hx
    have hl:=h.len.1
    rw [List.map_append] at hx
    by_cases hi:i < ts.length
    · rw [List.getElem?_append_left (by rw [List.length_map]; exact hi)] at hx
      obtain ⟨t',k',b',as',st',e1,e2,e3⟩:=ih hx
      exact ⟨t',k',b',as',st',e1,by rw [List.getElem?_append_left (by omega)]; exact e2,e3⟩
    · rw [List.getElem?_append_right (by rw [List.length_map]; omega),List.length_map] at hx
      have e0:i - ts.length = 0:=by
        have:=(List.getElem?_eq_some_iff.mp hx).1
        simp at this
        exact this
      rw [e0] at hx
      cases hx
      refine ⟨t,k,b,as,st,rfl,?_,h1,h2,hR⟩
      rw [List.getElem?_append_right (by omega),← hl,e0]
      rfl
def foldX (x:W2) (cs:List Int):Prop:=x = .count cs∨∃ c,x = .sum cs c
def spFolded:Sp:=fun vs H Q _=>∃ (w l:Addr) (x:W2) (cs:List Int) (as:List Addr) (rs:List Row),vs = [.ref w,.ref l]∧W2At H w x∧foldX x cs∧RowsAt H l as rs∧pre2 x rs∧rs.length ≤ 60 ∧
  ∀ (l':Addr) (as':List Addr) (H':Hp),Same H H'→H l' = none→RowsAt H' l' as' (run2 x rs)→Q (.ref l') H'
theorem foldX.at_ {x:W2} {cs:List Int} {H:Hp} {w:Addr} (h:foldX x cs) (hw:W2At H w x):∃ t rest,H w = some (.tup (.str x.nm :: .ref t :: rest))∧H t = some (.tup (cs.map V.int)):=by
  rcases h with rfl | ⟨c,rfl⟩
  · obtain ⟨t,h1,h2⟩:=hw; exact ⟨t,[],h1,h2⟩
  · obtain ⟨t,h1,h2⟩:=hw; exact ⟨t,[.int c],h1,h2⟩
theorem foldX.cs {x:W2} {cs:List Int} {hd:List Str} (h:foldX x cs) (hw:W2Ok hd x):cs.length ≤ 5∧fitC cs hd.length:=by
  rcases h with rfl | ⟨c,rfl⟩
  · exact hw
  · exact ⟨hw.1,hw.2.1⟩
abbrev s__law_folded:Stmt:=top 42
theorem sc__law_folded:FnScope ["_law_worker_here", "_law_rows_here", "_law_stretches", "_law_row", "_law_key"] ["_law_worker_here", "_law_rows_here"] (defScope s__law_folded):=⟨rfl,rfl,rfl,by decide +kernel,rfl,by decide +kernel,by decide +kernel⟩
section
variable {P:Program} {w:World} {K:PySem.W.Frag} {mg:Str→Option Value} {base:Heap} {f  : Addr} {fd  : FuncData}
theorem ok_folded (B:Blt mg) (mS:mg "sum" = none) (F:Fun K "_law_folded" "_law_folded" s__law_folded f fd)  :
    FnOk P w K mg base CX0 1 f fd ["_law_worker_here", "_law_rows_here"] spFolded:=by
  refine F.ok sc__law_folded (fun vs H Q E h=>?_) (fun cdv A outer s H vs Q E hr h=>?_)
  · obtain ⟨w,l,x,cs,as,rs,rfl,_⟩:=h
    rfl
  have hu:(A.deeper (PyProof.Rows.envOfC "_law_folded" (defScope s__law_folded) s.heap.objs.size f cdv)).units + 8 < cLine:=by have:=hr.units; omega
  have hu1:(A.deeper (PyProof.Rows.envOfC "_law_folded" (defScope s__law_folded) s.heap.objs.size f cdv)).units + 1 < cLine:=by omega
  obtain ⟨w,l,x,cs,as,rs,rfl,hw,hx,hR,hpre,hz,q⟩:=h
  refine ⟨_,(pss_cons (ps_set (i:=2) sc__law_folded.nd rfl (Or.inl rfl) (pe_lst pa_nil))
      (pss_cons (ps_for PassesOwn.never rfl (pi_list (pv 1)) (pg_name (i:=3) sc__law_folded.nd rfl (Or.inr rfl))
        (pss_cons (ps_set (i:=4) sc__law_folded.nd rfl (Or.inl rfl) (pe_callTy call_tuple_of rfl B.tuple PyProof.Rows.boot_tuple (pa_cons (pe_lcomp (N':=["_law_column", "_law_row"]) (src:=[none,some 3]) rfl (CompSc.ofB (by kernel_rfl)) (pi_tup (pe_ix (r:=rIxT K) ix_tup (pv 0) pe_int (fun _ _=>rfl))) (fun cl C s H fp=>(pgl (i:=0))) (fun cl C s H fp=>pifs_nil) (te:=(tOp (rIxT K) (tVar 1) (tOp (rI0 fun i j=>V.int (i - j)) (tVar 0) (tC (.int 1))))) (fun cl C s H fp=>(pe_ix (r:=rIxT K) ix_tup (pvf 1) (pe_op op_sub (pvl 0) pe_int) (fun _ _=>rfl)))) pa_nil)))
          (pss_cons (ps_if (PW.pt (pw_or (pt_cmpR (op_eqNil hu) (pv 2) (pe_lst pa_nil) (nomark _)) (pw_or1 (pt_cmpR op_neD (pe_ix (r:=rIxT K) ix_tup (pe_ix (r:=rIxL K) ix_list (pv 2) (pe_un un_neg pe_int) (fun _ _=>rfl)) pe_int (fun _ _=>rfl)) (pv 4) (nomark _)))))
            (pss_one (ps_expr (pe_bm PySem.F.plainAttrs_list PySem.F.slot_list_append PySem.F.type_list_append mt_append (pv 2) (pa_cons (pe_tup (pa_cons (pv 4) (pa_cons (pe_lst pa_nil) pa_nil))) pa_nil))))
            pss_nil)
          (pss_one (ps_expr (pe_bm PySem.F.plainAttrs_list PySem.F.slot_list_append PySem.F.type_list_append mt_append (pe_ix (r:=rIxT K) ix_tup (pe_ix (r:=rIxL K) ix_list (pv 2) (pe_un un_neg pe_int) (fun _ _=>rfl)) pe_int (fun _ _=>rfl)) (pa_cons (pv 3) pa_nil)))))))
      (pss_cons (ps_if (pt_cmpR op_eq (pe_ix (r:=rIxT K) ix_tup (pv 0) pe_int (fun _ _=>rfl)) pe_str (nomark _))
        (pss_one (ps_ret (pe_lcomp (N':=["_law_key", "_law_some"]) (src:=[none,none]) rfl (CompSc.ofB (by kernel_rfl)) (pi_list (pv 2)) (g:=(gTup K 2 (gCons (gName 0) (gCons (gName 1) gNil)))) (fun cl C s H fp=>(pg_tup rfl (pgs_cons (pgl (i:=0)) (pgs_cons (pgl (i:=1)) pgs_nil)))) (fun cl C s H fp=>pifs_nil) (te:=(tOp rCatH (tVar 0) (tTup (tCons (tCB (rLen K) (tCons (tVar 1) tNil)) tNil)))) (fun cl C s H fp=>(pe_op op_catH (pvl 0) (pe_tup (pa_cons (pe_callB call_lenN glc B.len PySem.boot_len (pa_cons (pvl 1) pa_nil)) pa_nil)))))))
        pss_nil)
      (pss_one (ps_ret (pe_lcomp (N':=["_law_key", "_law_some", "_law_worker_here"]) (src:=[none,none,some 0]) rfl (CompSc.ofB (by kernel_rfl)) (pi_list (pv 2)) (g:=(gTup K 2 (gCons (gName 0) (gCons (gName 1) gNil)))) (fun cl C s H fp=>(pg_tup rfl (pgs_cons (pgl (i:=0)) (pgs_cons (pgl (i:=1)) pgs_nil)))) (fun cl C s H fp=>pifs_nil) (te:=(tOp rCatH (tVar 0) (tTup (tCons (tCB (rSumL K) (tCons (tComp [none,some 2] (iList K (tVar 1)) (gName 0) tNoIf (tOp (rIxT K) (tVar 0) (tOp (rI0 fun i j=>V.int (i - j)) (tOp (rIxT K) (tVar 1) (tC (.int 2))) (tC (.int 1))))) tNil)) tNil)))) (fun cl C s H fp=>(pe_op op_catH (pvl 0) (pe_tup (pa_cons (pe_callB (call_sumN rfl) glc mS PyProof.Rows.boot_sum (pa_cons (pe_lcomp (N':=["_law_row", "_law_worker_here"]) (src:=[none,some 2]) rfl (CompSc.ofB (by kernel_rfl)) (pi_list (pvl 1)) (fun cl C s H fp=>(pgl (i:=0))) (fun cl C s H fp=>pifs_nil) (te:=(tOp (rIxT K) (tVar 0) (tOp (rI0 fun i j=>V.int (i - j)) (tOp (rIxT K) (tVar 1) (tC (.int 2))) (tC (.int 1))))) (fun cl C s H fp=>(pe_ix (r:=rIxT K) ix_tup (pvl 0) (pe_op op_sub (pe_ix (r:=rIxT K) ix_tup (pvf 1) pe_int (fun _ _=>rfl)) pe_int) (fun _ _=>rfl)))) pa_nil)) pa_nil)))))))))),?_⟩
  obtain ⟨hd,ho,hwk,hfit⟩:=hpre
  obtain ⟨t,rest,hw1,ht⟩:=hx.at_ hw
  obtain ⟨hcl,hcf⟩:=hx.cs hwk
  have hl:(as.map V.ref).length = rs.length:=by rw [List.length_map,hR.len]
  refine ⟨Nat.zero_le _,fun L hL=>gName_go ?_⟩
  have s0:=same_new hL (.lst [])
  refine ⟨_,rfl,l,rfl,⟨_,SqL.of (s0 _ _ hR.lst)⟩,?_⟩
  refine for_list (xs:=as.map V.ref) (fun i σ H'=>∃ (ts ls:List Addr),(∃ o1 o2,σ = [some (.ref w),some (.ref l),some (.ref L),o1,o2])∧H' L = some (.lst (ts.map V.ref))∧FoldAt cs H' ts ls (strL cs (rs.take i))∧(∀ b ∈ ls,H b = none∧b ≠ L)∧Same H H')
    ⟨[],[],⟨none,none,rfl⟩,upd_same,.nil,(fun _ z=>nomatch z),s0⟩ ?_ ?_ ?_
  · rintro i σ H' _ ⟨_,_,_,_,_,_,sm⟩
    exact SqL.of (sm _ _ hR.lst)
  · rintro i x' σ H' hx' ⟨ts,ls,⟨o1,o2,rfl⟩,hL',hS,hn,sm⟩
    obtain ⟨a,r,rfl,er,har⟩:=hR.get hx'
    have hi:=(List.getElem?_eq_some_iff.mp er).1
    have hP:=strs_ok (cs:=cs) (rs:=rs.take i) (R:=fun r=>r ∈ rs) (fun q hq=>List.mem_of_mem_take hq)
    have hti:(rs.take i).length ≤ 60:=by rw [List.length_take]; omega
    have hrr:=List.mem_of_getElem? er
    have hfr:fitC cs r.length:=(hfit r hrr).fitC hcf
    refine gName_go ?_
    dsimp only
    refine seq_mid (fun σ' H1=>∃ u,σ' = [some (.ref w),some (.ref l),some (.ref L),some (.ref a),some (.ref u)]∧Same H' H1∧H1 u = some (.tup (pick r cs))) (fun T hT=>?_) ?_
    · refine ⟨_,rfl,w,_,1,_,rfl,rfl,SqT.of (sm _ _ hw1),atI_nat (j:=1) rfl,t,rfl,⟨_,SqT.of (sm _ _ ht)⟩,fun D hD=>?_⟩
      refine comp_tup (xs:=cs.map V.int) (fun i σ ys H2=>(∃ o,σ = [o,some (.ref a)])∧ys = pick r (cs.take i)∧H2 D = some (.lst ys)∧Same H' H2) ⟨⟨none,rfl⟩,rfl,upd_same,same_new hD _⟩ ?_ ?_ ?_ ?_ ?_
      · rintro i σ ys H2 _ ⟨_,rfl,h,_⟩
        refine ⟨h,?_⟩
        unfold pick
        rw [List.length_map,List.length_take]
        exact Nat.min_le_left _ _
      · rintro i σ ys H2 _ ⟨_,_,_,s2⟩
        exact SqT.of (s2 _ _ (sm _ _ ht))
      · rw [List.length_map]
        exact Nat.le_trans hcl (by decide)
      · rintro i x σ ys H2 hx ⟨⟨o,rfl⟩,rfl,h,s2⟩
        rw [List.getElem?_map] at hx
        cases e:cs[i]? with
        | none=>rw [e] at hx; cases hx
        | some c =>
          rw [e] at hx
          have hx':V.int c = x:=Option.some.inj hx
          subst hx'
          refine ⟨_,rfl,_,rfl,_,_,rfl,rfl,a,_,_,_,rfl,rfl,SqT.of (s2 _ _ (sm _ _ har)),atI_col (hfr c (List.mem_of_getElem? e)),h,⟨_,rfl⟩,?_,upd_same,same_put hD s2⟩
          unfold pick
          rw [take_one e,List.map_append]
          rfl
      · rintro σ ys H2 ⟨_,rfl,h,s2⟩
        rw [List.length_map,List.take_length] at h
        refine ⟨D,_,rfl,.inl ⟨SqL.of h,fun u hu=>gName_go (hT _ _ ⟨u,rfl,s2.trans (same_new hu _),upd_same⟩)⟩⟩
    · rintro σ' H1 ⟨u,rfl,s1,huk⟩
      have sm1:=sm.trans s1
      have hL1:=s1 _ _ hL'
      have hS1:=hS.same s1
      refine seq_mid (fun σ' H2=>∃ (ts ls:List Addr) (sts0:List (List Row)) (t' k b:Addr) (bs:List Addr) (st0:List Row),σ' = [some (.ref w),some (.ref l),some (.ref L),some (.ref a),some (.ref u)]∧H2 L = some (.lst ((ts ++ [t']).map V.ref))∧FoldAt cs H2 ts ls sts0∧b ∉ ls∧H2 t' = some (.tup [.ref k,.ref b])∧H2 k = some (.tup (pick (headR (st0 ++ [r])) cs))∧RowsAt H2 b bs st0 ∧
        strL cs (rs.take (i + 1)) = sts0 ++ [st0 ++ [r]]∧(∀ c ∈ ls ++ [b],H c = none∧c ≠ L)∧Same H H2∧st0.length ≤ 60) (fun T hT=>?_) ?_
      · -- a new stretch
        have new:∀ H2:Hp,Same H1 H2→addS cs (strL cs (rs.take i)) r = strL cs (rs.take i) ++ [[r]]→∀ D':Ends,D'.nx = T→tDrop (tBM K "list" rAppend (tVar 2) (tCons (tTup (tCons (tVar 4) (tCons (tLst tNil) tNil))) tNil)) D' [some (.ref w),some (.ref l),some (.ref L),some (.ref a),some (.ref u)] H2:=by
          intro H2 s2 ea D' eD
          have hL2:=s2 _ _ hL1
          refine ⟨_,rfl,.inl ⟨rfl,_,SqL.of hL2⟩,_,rfl,Nat.zero_le _,fun b hb'=>⟨(by show 2 ≤ sizeLine; decide),fun t' ht'=>?_⟩⟩
          have sb:=same_new hb' (.lst [])
          have st:=same_new ht' (.tup [.ref u,.ref b])
          have s3:=s2.trans (sb.trans st)
          have hL3:=s3 _ _ hL1
          refine ⟨L,_,_,rfl,rfl,hL3,?_,?_⟩
          · rw [List.length_map,hS.len.1]
            exact Nat.lt_of_le_of_lt (Nat.le_trans hP.1 hti) (by decide)
          rw [eD]
          have nb:b ≠ L:=fun e=>by rw [e,hL2] at hb'; cases hb'
          have hbn:H b = none:=(sm1.trans s2).free hb'
          have hbl:b ∉ ls:=fun e=>by
            obtain ⟨xs,hxs⟩:=hS1.mem b e
            rw [s2 _ _ hxs] at hb'
            cases hb'
          refine hT _ _ ⟨ts,ls,strL cs (rs.take i),t',u,b,[],[],rfl,by rw [upd_same,List.map_append]; rfl,?_,hbl,tup_upd hL3 _ _ upd_same,tup_upd hL3 _ _ (s3 _ _ huk),rows_upd hL3 nb ⟨st _ _ upd_same,rfl,fun j b q e=>by cases e⟩,by rw [strs_take er,ea]; rfl,fun c hc=>?_,same_put hL (sm1.trans s3),Nat.zero_le _⟩
          · exact (hS1.same s3).keep (tup_upd hL3) fun d hd' as' st' z=>rows_upd hL3 (hn d hd').2 z
          · rcases List.mem_append.mp hc with y | y
            · exact hn c y
            · rw [List.mem_singleton.mp y]; exact ⟨hbn,nb⟩
        refine ⟨_,rfl,Nat.zero_le _,fun z hz'=>?_⟩
        have sz:=same_new hz' (.lst [])
        refine ⟨L,z,_,rfl,rfl,sz _ _ hL1,upd_same,_,rfl,?_⟩
        revert hS1 hP hS new
        generalize hst:strL cs (rs.take i) = sts at *
        intro hS hP hS1 new
        cases hS1 with
        | nil=>exact iteT (new _ sz rfl _ rfl)
        | @snoc ts ls sts t' k b bs st hS1 hb ht' hk hRb =>
          obtain ⟨hne,hsl,hsm⟩:=hP.2 st (List.mem_append_right _ (List.mem_singleton.mpr rfl))
          have lst:atI ((ts ++ [t']).map V.ref) (-1) = some (.ref t'):=by rw [List.map_append]; exact atI_last _ _
          refine ite2 (fun c=>?_) (fun _=>?_)
          · exfalso
            simp at c
          have hr0:=hsm _ (headR_mem hne)
          have c1:=pick_cl (hfit _ hr0).cl ((hfit _ hr0).fitC hcf)
          have c2:=pick_cl (hfit r hrr).cl hfr
          refine ⟨_,rfl,_,rfl,L,_,_,_,rfl,rfl,SqL.of (sz _ _ hL1),lst,t',_,0,_,rfl,rfl,SqT.of (sz _ _ ht'),rfl,_,rfl,rowD (pick (headR st) cs),rowD (pick r cs),row_at c1 (sz _ _ hk),row_at c2 (sz _ _ huk),?_,_,rfl,?_⟩
          · exact Nat.lt_of_le_of_lt (Nat.add_le_add_left (Nat.le_trans (rowD_depth (pick (headR st) cs)) (by decide:1 ≤ 8)) _) hu
          rw [row_eq c1 c2]
          by_cases e:pick (headR st) cs = pick r cs
          · rw [decide_eq_true e]
            refine iteF (next_go ?_)
            have hh:headR (st ++ [r]) = headR st:=by
              cases st with
              | nil=>exact absurd rfl hne
              | cons q st=>rfl
            exact hT _ _ ⟨ts,ls,sts,t',k,b,bs,st,rfl,sz _ _ hL1,hS1.same sz,hb,sz _ _ ht',by rw [hh]; exact sz _ _ hk,hRb.same sz,by rw [strs_take er,hst]; exact addS_yes e,hn,sm1.trans sz,Nat.le_trans hsl hti⟩
          · rw [decide_eq_false e]
            exact iteT (new _ sz (addS_no e) _ rfl)
      · rintro σ' H2 ⟨ts,ls,sts0,t',k,b,bs,st0,rfl,hL2,hS2,hb,ht',hk,hRb,est,hn2,sm2,hs0⟩
        have lst:atI ((ts ++ [t']).map V.ref) (-1) = some (.ref t'):=by rw [List.map_append]; exact atI_last _ _
        refine ⟨_,rfl,_,rfl,L,_,_,_,rfl,rfl,SqL.of hL2,lst,t',_,1,_,rfl,rfl,SqT.of ht',rfl,.inl ⟨rfl,_,SqL.of hRb.lst⟩,_,rfl,b,_,_,rfl,rfl,hRb.lst,?_,?_⟩
        · rw [List.length_map,hRb.len]
          exact Nat.lt_of_le_of_lt hs0 (by decide)
        have nb:=hn2 b (List.mem_append_right _ (List.mem_singleton.mpr rfl))
        refine ⟨ts ++ [t'],ls ++ [b],⟨_,_,rfl⟩,by rw [upd_ne nb.2.symm]; exact hL2,?_,hn2,same_put nb.1 sm2⟩
        rw [est]
        exact .snoc (hS2.keep (tup_upd hRb.lst) fun d hd' as' st' z=>rows_upd hRb.lst (fun e=>hb (by rw [← e]; exact hd')) z) hb (tup_upd hRb.lst _ _ ht') (tup_upd hRb.lst _ _ hk) (hRb.snoc (sm2 _ _ har))
  · rintro σ H1 ⟨ts,ls,⟨o1,o2,rfl⟩,hL1,hS,hn,s1⟩
    rw [hl,List.take_length] at hS
    dsimp only
    have hP:=strs_ok (cs:=cs) (rs:=rs) (R:=fun r=>r ∈ rs) (fun _ h=>h)
    have hlt:(ts.map V.ref).length = (strL cs rs).length:=by rw [List.length_map,hS.len.1]
    refine ⟨_,rfl,w,_,0,_,rfl,rfl,SqT.of (s1 _ _ hw1),atI_nat (j:=0) rfl,rfl,_,rfl,?_⟩
    rcases hx with rfl | ⟨c,rfl⟩
    · refine iteT ⟨_,rfl,L,rfl,⟨_,SqL.of hL1⟩,fun D hD=>?_⟩
      refine comp_list (xs:=ts.map V.ref) (fun i σ ys H'=>(∃ o1 o2,σ = [o1,o2])∧(∃ us,ys = us.map V.ref∧us.length = i∧Found H' us (((strL cs rs).take i).map fun st=>pick (headR st) cs ++ [.int (st.length:Nat)]))∧H' D = some (.lst ys)∧Same H1 H')
        ⟨⟨none,none,rfl⟩,⟨[],rfl,rfl,Found.nil⟩,upd_same,same_new hD _⟩ ?_ ?_ ?_ ?_ ?_
      · rintro i σ ys H' _ ⟨_,⟨us,rfl,rfl,_⟩,h,_⟩
        exact ⟨h,by rw [List.length_map]; exact Nat.le_refl _⟩
      · rintro i σ ys H' _ ⟨_,_,_,sm⟩
        exact SqL.of (sm _ _ hL1)
      · rw [hlt]; exact Nat.le_trans (Nat.le_trans hP.1 hz) (by decide)
      · rintro i x σ ys H' hx ⟨⟨o1,o2,rfl⟩,⟨us,rfl,rfl,hF⟩,h,sm⟩
        obtain ⟨t',k,b,bs,st,rfl,est,ht',hk,hRb⟩:=hS.get hx
        refine ⟨t',_,rfl,SqT.of (sm _ _ ht'),rfl,_,_,rfl,gName_go ⟨_,_,rfl,gName_go ⟨rfl,?_⟩⟩⟩
        refine ⟨_,rfl,_,rfl,b,_,rfl,.inl (SqL.of (sm _ _ hRb.lst)),(by show 1 ≤ sizeLine; decide),fun u2 hu2=>?_⟩
        have s3:=same_new hu2 (.tup [.int ((bs.map V.ref).length:Nat)])
        refine ⟨k,u2,_,_,rfl,rfl,s3 _ _ (sm _ _ hk),upd_same,?_,fun u H4 s4 hu4=>?_⟩
        · unfold pick
          rw [List.length_map]
          exact Nat.le_trans (show cs.length + 1 ≤ 2000 by omega) (by decide)
        have s24:=s3.trans s4
        refine ⟨s24 _ _ h,⟨_,_,rfl⟩,⟨us ++ [u],by rw [List.map_append]; rfl,by rw [List.length_append]; rfl,?_⟩,upd_same,same_put hD (sm.trans s24)⟩
        rw [take_one est,List.map_append]
        refine ((hF.same s24).snoc (r:=pick (headR st) cs ++ [.int ((st.length:Nat):Int)]) ?_).keep (tup_upd (s24 _ _ h))
        rw [hu4,List.length_map,hRb.len]
      · rintro σ ys H' ⟨_,⟨us,rfl,_,hF⟩,h,sm⟩
        rw [hlt,List.take_length] at hF
        exact q D us H' (s1.trans sm) (s1.free hD) ⟨h,hF.len,hF.at_⟩
    · refine iteF (next_go ⟨_,rfl,L,rfl,⟨_,SqL.of hL1⟩,fun D hD=>?_⟩)
      obtain ⟨w1,w2,w3,w4⟩:=hwk
      obtain ⟨t2,hwS,_⟩:=hw
      refine comp_list (xs:=ts.map V.ref) (fun i σ ys H'=>(∃ o1 o2,σ = [o1,o2,some (.ref w)])∧(∃ us,ys = us.map V.ref∧us.length = i∧Found H' us (((strL cs rs).take i).map fun st=>pick (headR st) cs ++ [.int (sumC st c)]))∧H' D = some (.lst ys)∧Same H1 H')
        ⟨⟨none,none,rfl⟩,⟨[],rfl,rfl,Found.nil⟩,upd_same,same_new hD _⟩ ?_ ?_ ?_ ?_ ?_
      · rintro i σ ys H' _ ⟨_,⟨us,rfl,rfl,_⟩,h,_⟩
        exact ⟨h,by rw [List.length_map]; exact Nat.le_refl _⟩
      · rintro i σ ys H' _ ⟨_,_,_,sm⟩
        exact SqL.of (sm _ _ hL1)
      · rw [hlt]; exact Nat.le_trans (Nat.le_trans hP.1 hz) (by decide)
      · rintro i x σ ys H' hx ⟨⟨o1,o2,rfl⟩,⟨us,rfl,rfl,hF⟩,h,sm⟩
        obtain ⟨t',k,b,bs,st,rfl,est,ht',hk,hRb⟩:=hS.get hx
        obtain ⟨hne,hsl,hsm⟩:=hP.2 st (List.mem_of_getElem? est)
        refine ⟨t',_,rfl,SqT.of (sm _ _ ht'),rfl,_,_,rfl,gName_go ⟨_,_,rfl,gName_go ⟨rfl,?_⟩⟩⟩
        have hRb2:=hRb.same sm
        have hlb:(bs.map V.ref).length = st.length:=by rw [List.length_map,hRb.len]
        refine ⟨_,rfl,_,rfl,b,rfl,⟨_,SqL.of hRb2.lst⟩,fun D2 hD2=>?_⟩
        refine comp_list (xs:=bs.map V.ref) (fun j σ zs H2=>(∃ o,σ = [o,some (.ref w)])∧zs = ((st.take j).map fun r=>numC r c).map V.int∧zs.length = j∧H2 D2 = some (.lst zs)∧Same H' H2)
          ⟨⟨none,rfl⟩,rfl,rfl,upd_same,same_new hD2 _⟩ ?_ ?_ ?_ ?_ ?_
        · rintro j σ zs H2 _ ⟨_,_,hj,h2,_⟩
          exact ⟨h2,Nat.le_of_eq hj⟩
        · rintro j σ zs H2 _ ⟨_,_,_,_,sm2⟩
          exact SqL.of (sm2 _ _ hRb2.lst)
        · rw [hlb]; exact Nat.le_trans (Nat.le_trans hsl hz) (by decide)
        · rintro j x σ zs H2 hx2 ⟨⟨o,rfl⟩,rfl,hj,h2,sm2⟩
          obtain ⟨a,r,rfl,er,har⟩:=hRb2.get hx2
          have hfr:=hfit r (hsm r (List.mem_of_getElem? er))
          have hcr:1 ≤ c∧c ≤ r.length:=by rw [hfr.1]; exact w3
          have hn:=hfr.col w3.1 w3.2
          unfold clS at hn
          rw [if_neg w4] at hn
          obtain ⟨n,hn⟩:=hn
          refine ⟨_,rfl,_,rfl,w,_,2,_,rfl,rfl,SqT.of (sm2 _ _ (sm _ _ (s1 _ _ hwS))),rfl,_,_,rfl,rfl,a,_,_,_,rfl,rfl,SqT.of (sm2 _ _ har),atI_col hcr,h2,⟨_,rfl⟩,?_,?_,upd_same,same_put hD2 sm2⟩
          · rw [take_one er,List.map_append,List.map_append]
            show _ = _ ++ [V.int (numC r c)]
            have:r.getD (c - 1).toNat .non = .int (numC r c):=by
              unfold numC
              rw [hn]
              exact hn
            rw [this]
          · rw [List.length_append,hj]; rfl
        · rintro σ zs H3 ⟨_,rfl,_,h2,sm2⟩
          rw [hlb,List.take_length] at h2
          refine ⟨D2,_,rfl,SqL.of h2,(by show 1 ≤ sizeLine; decide),fun u2 hu2=>?_⟩
          have s3:=same_new hu2 (.tup [.int (st.map fun r=>numC r c).sum])
          refine ⟨k,u2,_,_,rfl,rfl,s3 _ _ (sm2 _ _ (sm _ _ hk)),upd_same,?_,fun u H4 s4 hu4=>?_⟩
          · unfold pick
            rw [List.length_map]
            exact Nat.le_trans (show cs.length + 1 ≤ 2000 by omega) (by decide)
          have s24:=sm2.trans (s3.trans s4)
          refine ⟨s24 _ _ h,⟨_,_,rfl⟩,⟨us ++ [u],by rw [List.map_append]; rfl,by rw [List.length_append]; rfl,?_⟩,upd_same,same_put hD (sm.trans s24)⟩
          rw [take_one est,List.map_append]
          refine ((hF.same s24).snoc (r:=pick (headR st) cs ++ [.int (sumC st c)]) ?_).keep (tup_upd (s24 _ _ h))
          rw [hu4]
          rfl
      · rintro σ ys H' ⟨_,⟨us,rfl,_,hF⟩,h,sm⟩
        rw [hlt,List.take_length] at hF
        exact q D us H' (s1.trans sm) (s1.free hD) ⟨h,hF.len,hF.at_⟩
end
end My
set_option maxHeartbeats 4000000
namespace My
open PySem L2
def spDue:Sp:=fun vs H Q _=>∃ (w l:Addr) (x:W2) (as:List Addr) (rs:List Row),vs = [.ref w,.ref l]∧W2At H w x∧RowsAt H l as rs∧pre2 x rs∧rs.length ≤ 60 ∧
  ∀ (l':Addr) (as':List Addr) (H':Hp),Same H H'→H l' = none→RowsAt H' l' as' (run2 x rs)→Q (.ref l') H'
abbrev s__law_due:Stmt:=top 44
theorem sc__law_due:FnScope ["_law_worker_here", "_law_rows_here"] ["_law_worker_here", "_law_rows_here"] (defScope s__law_due):=⟨rfl,rfl,rfl,by decide +kernel,rfl,by decide +kernel,by decide +kernel⟩
section
variable {P:Program} {w:World} {K:PySem.W.Frag} {mg:Str→Option Value} {base:Heap} {f g__law_sorted g__law_folded:Addr} {fd d__law_sorted d__law_folded:FuncData}
theorem ok_due (B:Blt mg) (mE:mg "enumerate" = none) (F:Fun K "_law_due" "_law_due" s__law_due f fd) 
    (G__law_sorted:FnOk P w K mg base CX0 2 g__law_sorted d__law_sorted ["_law_rows_here", "_law_order_here"] spLSorted) (b__law_sorted:Binds K d__law_sorted ["_law_rows_here", "_law_order_here"] []) (k__law_sorted:PySem.W.keepIn K (.ref g__law_sorted) = true) (m__law_sorted:mg "_law_sorted" = some (.ref g__law_sorted))
    (G__law_folded:FnOk P w K mg base CX0 1 g__law_folded d__law_folded ["_law_worker_here", "_law_rows_here"] spFolded) (b__law_folded:Binds K d__law_folded ["_law_worker_here", "_law_rows_here"] []) (k__law_folded:PySem.W.keepIn K (.ref g__law_folded) = true) (m__law_folded:mg "_law_folded" = some (.ref g__law_folded)) :
    FnOk P w K mg base CX0 3 f fd ["_law_worker_here", "_law_rows_here"] spDue:=by
  refine F.ok sc__law_due (fun vs H Q E h=>?_) (fun cdv A outer s H vs Q E hr h=>?_)
  · obtain ⟨w,l,x,as,rs,rfl,_⟩:=h
    rfl
  have hu:(A.deeper (PyProof.Rows.envOfC "_law_due" (defScope s__law_due) s.heap.objs.size f cdv)).units + 8 < cLine:=by have:=hr.units; omega
  have hu1:(A.deeper (PyProof.Rows.envOfC "_law_due" (defScope s__law_due) s.heap.objs.size f cdv)).units + 1 < cLine:=by omega
  obtain ⟨w,l,x,as,rs,rfl,hw,hR,hpre,hz,q⟩:=h
  refine ⟨_,(pss_cons (ps_if (pt_cmpR op_eq (pe_ix (r:=rIxT K) ix_tup (pv 0) pe_int (fun _ _=>rfl)) pe_str (nomark _))
        (pss_one (ps_ret (pe_call (G__law_sorted.mono (by omega)) hr rfl m__law_sorted k__law_sorted b__law_sorted .nil pass0 (pa_cons (pv 1) (pa_cons (pe_ix (r:=rIxT K) ix_tup (pv 0) pe_int (fun _ _=>rfl)) pa_nil)))))
        pss_nil)
      (pss_cons (ps_if (pt_cmpR op_eq (pe_ix (r:=rIxT K) ix_tup (pv 0) pe_int (fun _ _=>rfl)) pe_str (nomark _))
        (pss_one (ps_ret (pe_lcomp (N':=["_law_k", "_law_row", "_law_rows_here"]) (src:=[none,none,some 1]) rfl (CompSc.ofB (by kernel_rfl)) (pi_enumL rfl mE (pa_cons (pv 1) pa_nil)) (g:=(gTup K 2 (gCons (gName 0) (gCons (gName 1) gNil)))) (fun cl C s H fp=>(pg_tup rfl (pgs_cons (pgl (i:=0)) (pgs_cons (pgl (i:=1)) pgs_nil)))) (tc:=(tOr (tTest (tOp rEq (tVar 0) (tC (.int 0)))) (tTest (tOp (rNeD K (A.deeper (PyProof.Rows.envOfC "_law_due" (defScope s__law_due) s.heap.objs.size f cdv))) (tOp (rIxL K) (tVar 2) (tOp (rI0 fun i j=>V.int (i - j)) (tVar 0) (tC (.int 1)))) (tVar 1))))) (fun cl C s H fp=>pifs_one (PW.pt (pw_or (pt_cmpR op_eq (pvl 0) pe_int (nomark _)) (pw_or1 (pt_cmpR op_neD (pe_ix (r:=rIxL K) ix_list (pvf 2) (pe_op op_sub (pvl 0) pe_int) (fun _ _=>rfl)) (pvl 1) (nomark _)))))) (te:=(tVar 1)) (fun cl C s H fp=>(pvl 1)))))
        pss_nil)
      (pss_cons (ps_if (pt_cmpR op_in_seq (pe_ix (r:=rIxT K) ix_tup (pv 0) pe_int (fun _ _=>rfl)) (pe_lst (pa_cons pe_str (pa_cons pe_str pa_nil))) rfl)
        (pss_one (ps_ret (pe_call (G__law_folded.mono (by omega)) hr rfl m__law_folded k__law_folded b__law_folded .nil pass0 (pa_cons (pv 0) (pa_cons (pv 1) pa_nil)))))
        pss_nil)
      (pss_cons (ps_if (pt_cmpR op_eq (pe_ix (r:=rIxT K) ix_tup (pv 0) pe_int (fun _ _=>rfl)) pe_str (nomark _))
        (pss_one (ps_ret (pe_lcomp (N':=["_law_k", "_law_row"]) (src:=[none,none]) rfl (CompSc.ofB (by kernel_rfl)) (pi_enumL rfl mE (pa_cons (pv 1) pa_nil)) (g:=(gTup K 2 (gCons (gName 0) (gCons (gName 1) gNil)))) (fun cl C s H fp=>(pg_tup rfl (pgs_cons (pgl (i:=0)) (pgs_cons (pgl (i:=1)) pgs_nil)))) (fun cl C s H fp=>pifs_nil) (te:=(tOp rCatH (tVar 1) (tTup (tCons (tOp (rI0 fun i j=>V.int (i + j)) (tVar 0) (tC (.int 1))) tNil)))) (fun cl C s H fp=>(pe_op op_catH (pvl 1) (pe_tup (pa_cons (pe_op op_add (pvl 0) pe_int) pa_nil)))))))
        pss_nil)
      (pss_cons (ps_if (pt_cmpR op_eq (pe_ix (r:=rIxT K) ix_tup (pv 0) pe_int (fun _ _=>rfl)) pe_str (nomark _))
        (pss_one (ps_ret (pe_slice (r:=rSlL K) sl_list (pv 1) po_none (po_some (pe_ix (r:=rIxT K) ix_tup (pv 0) pe_int (fun _ _=>rfl))))))
        pss_nil)
      (pss_one (ps_ret (pe_lcompC (N':=["_law_row", "_law_worker_here"]) (src:=[none,some 0]) rfl (CompScC.ofB (by kernel_rfl)) (pi_list (pv 1)) (fun cl C s H fp=>(pgcC (i:=0))) (fun cl C s H fp=>pifs_nil) (te:=(tCB (rTupL K) (tCons (tComp [none,some 0] (iTup K (tOp (rIxT K) (tVar 1) (tC (.int 1)))) (gName 0) tNoIf (tOp (rIxT K) (tVar 1) (tOp (rI0 fun i j=>V.int (i - j)) (tVar 0) (tC (.int 1))))) tNil))) (fun cl C s H fp=>(pe_callTy call_tupN glcC B.tuple PyProof.Rows.boot_tuple (pa_cons (pe_lcomp (N':=["_law_column", "_law_row"]) (src:=[none,some 0]) rfl (CompSc.ofB (by kernel_rfl)) (pi_tup (pe_ix (r:=rIxT K) ix_tup (pvfC 1) pe_int (fun _ _=>rfl))) (fun cl C s H fp=>(pgl (i:=0))) (fun cl C s H fp=>pifs_nil) (te:=(tOp (rIxT K) (tVar 1) (tOp (rI0 fun i j=>V.int (i - j)) (tVar 0) (tC (.int 1))))) (fun cl C s H fp=>(pe_ix (r:=rIxT K) ix_tup (pvf 1) (pe_op op_sub (pvl 0) pe_int) (fun _ _=>rfl)))) pa_nil))))))))))),?_⟩
  obtain ⟨hd,ho,hwk,hfit⟩:=hpre
  have hl:(as.map V.ref).length = rs.length:=by rw [List.length_map,hR.len]
  cases x with
  | sort od =>
    obtain ⟨t,bs,h1,h2⟩:=hw
    refine ⟨_,rfl,w,_,0,_,rfl,rfl,SqT.of h1,atI_nat (j:=0) rfl,rfl,_,rfl,iteT ?_⟩
    refine ⟨_,rfl,_,rfl,w,_,1,_,rfl,rfl,SqT.of h1,rfl,l,t,bs,od,as,rs,rfl,h2,hR,by omega,fun p hp=>?_,fun l' as' H' s' hl' hR'=>q l' as' H' s' hl' ?_⟩
    · have:=hwk.2 p hp
      exact ⟨kindC_of hfit this.1 this.2,fun r hr=>by rw [(hfit r hr).1]; exact this⟩
    · show RowsAt H' l' as' (sortAll od rs)
      rw [sortAll_ins]
      exact hR'
  | apart =>
    have h1:H w = some (.tup [.str "apart"]):=hw
    refine ⟨_,rfl,w,_,0,_,rfl,rfl,SqT.of h1,atI_nat (j:=0) rfl,rfl,_,rfl,iteF (next_go ?_)⟩
    refine ⟨_,rfl,w,_,0,_,rfl,rfl,SqT.of h1,atI_nat (j:=0) rfl,rfl,_,rfl,iteT ?_⟩
    have hc:∀ r ∈ rs,clRow r:=fun r hr=>(hfit r hr).cl
    refine ⟨_,rfl,l,rfl,⟨_,SqL.of hR.lst⟩,fun D hD=>?_⟩
    refine comp_enumL (xs:=as.map V.ref) (fun i σ ys H'=>(∃ o1 o2,σ = [o1,o2,some (.ref l)])∧(∃ us,ys = us.map V.ref∧us.length ≤ i∧Found H' us (apartI rs i))∧H' D = some (.lst ys)∧Same H H')
      ⟨⟨none,none,rfl⟩,⟨[],rfl,Nat.le_refl _,Found.nil⟩,upd_same,same_new hD _⟩ ?_ ?_ ?_ ?_ ?_
    · rintro i σ ys H' _ ⟨_,⟨us,rfl,hu,_⟩,h,_⟩
      exact ⟨h,by rw [List.length_map]; exact hu⟩
    · rintro i σ ys H' _ ⟨_,_,_,sm⟩
      exact SqL.of (sm _ _ hR.lst)
    · rw [hl]; exact Nat.le_trans hz (by decide)
    · rintro i x σ ys H' T hx ⟨⟨o1,o2,rfl⟩,⟨us,rfl,hul,hF⟩,h,sm⟩ hT
      obtain ⟨a,r,rfl,er,har⟩:=hR.get hx
      have sT:=same_new hT (.tup [.int (i:Nat),.ref a])
      have h2:(upd H' T (.tup [.int (i:Nat),.ref a])) D = some (.lst (us.map V.ref)):=sT _ _ h
      have ea:apartI rs (i + 1) = apartI rs i ++ if apartAt rs i r = true then [r] else []:=by
        show apartI rs i ++ _ = _
        rw [er]
      have har2:=sT _ _ (sm _ _ har)
      refine ⟨T,_,rfl,SqT.of upd_same,rfl,_,_,rfl,gName_go ⟨_,_,rfl,gName_go ⟨rfl,?_⟩⟩⟩
      dsimp only
      have yes:apartAt rs i r = true→(upd H' T (.tup [.int (i:Nat),.ref a])) D = some (.lst (us.map V.ref)) ∧
          ((∃ o1 o2,[some (V.int (i:Nat)),some (V.ref a),some (V.ref l)] = [o1,o2,some (.ref l)])∧(∃ us':List Addr,us.map V.ref ++ [.ref a] = us'.map V.ref∧us'.length ≤ i + 1∧Found (upd (upd H' T (.tup [.int (i:Nat),.ref a])) D (.lst (us.map V.ref ++ [.ref a]))) us' (apartI rs (i + 1))) ∧
          (upd (upd H' T (.tup [.int (i:Nat),.ref a])) D (.lst (us.map V.ref ++ [.ref a]))) D = some (.lst (us.map V.ref ++ [.ref a]))∧Same H (upd (upd H' T (.tup [.int (i:Nat),.ref a])) D (.lst (us.map V.ref ++ [.ref a])))):=fun hy=>by
        refine ⟨h2,⟨_,_,rfl⟩,⟨us ++ [a],by rw [List.map_append]; rfl,by rw [List.length_append]; simp; exact hul,?_⟩,upd_same,same_put hD (sm.trans sT)⟩
        rw [ea,if_pos hy]
        exact ((hF.same sT).snoc har2).keep (tup_upd h2)
      have no:¬ apartAt rs i r = true→(∃ o1 o2,[some (V.int (i:Nat)),some (V.ref a),some (V.ref l)] = [o1,o2,some (.ref l)])∧(∃ us':List Addr,us.map V.ref = us'.map V.ref∧us'.length ≤ i + 1∧Found (upd H' T (.tup [.int (i:Nat),.ref a])) us' (apartI rs (i + 1))) ∧
          (upd H' T (.tup [.int (i:Nat),.ref a])) D = some (.lst (us.map V.ref))∧Same H (upd H' T (.tup [.int (i:Nat),.ref a])):=fun hy=>by
        refine ⟨⟨_,_,rfl⟩,⟨us,rfl,by omega,?_⟩,h2,sm.trans sT⟩
        rw [ea,if_neg hy,List.append_nil]
        exact hF.same sT
      refine ⟨_,rfl,rfl,_,rfl,?_⟩
      refine ite2 (fun c=>?_) (fun c=>?_)
      · have c':i = 0:=by
          have:V.int (i:Nat) = V.int 0:=of_decide_eq_true c
          injection this with z
          omega
        refine iteT ⟨_,rfl,yes ?_⟩
        unfold apartAt
        rw [decide_eq_true c']; rfl
      · have c':i ≠ 0:=fun z=>c (decide_eq_true (by rw [z]; rfl))
        have hi:i < rs.length:=(List.getElem?_eq_some_iff.mp er).1
        have hi1:i - 1 < rs.length:=by omega
        have hi2:i - 1 < as.length:=by rw [hR.len]; exact hi1
        have eb:=hR.at_ (i - 1) _ _ (List.getElem?_eq_getElem hi2) (List.getElem?_eq_getElem hi1)
        have eat:atI (as.map V.ref) ((i:Nat) - 1:Int) = some (.ref as[i - 1]):=by
          rw [show ((i:Nat) - 1:Int) = ((i - 1:Nat):Int) by omega]
          exact atI_nat (by rw [List.getElem?_map,List.getElem?_eq_getElem hi2]; rfl)
        have hap:apartAt rs i r = !decide (rs[i - 1] = r):=by
          unfold apartAt
          rw [decide_eq_false c',List.getElem?_eq_getElem hi1]
          simp
          exact eq_comm
        refine ⟨_,rfl,_,rfl,_,_,rfl,rfl,l,_,_,_,rfl,rfl,SqL.of (sT _ _ (sm _ _ hR.lst)),eat,_,rfl,rowD rs[i - 1],rowD r,row_at (hc _ (List.getElem_mem hi1)) (sT _ _ (sm _ _ eb)),row_at (hc r (List.mem_of_getElem? er)) har2,?_,_,rfl,?_⟩
        · have:=rowD_depth rs[i - 1]
          omega
        · rw [row_eq (hc _ (List.getElem_mem hi1)) (hc r (List.mem_of_getElem? er)),← hap]
          refine ite2 (fun b=>⟨_,rfl,yes b⟩) (fun b=>no b)
    · rintro σ ys H' ⟨_,⟨us,rfl,_,hF⟩,h,sm⟩
      rw [hl] at hF
      exact q D us H' sm hD ⟨h,hF.len,hF.at_⟩
  | count cs =>
    obtain ⟨t,h1,h2⟩:=id hw
    refine ⟨_,rfl,w,_,0,_,rfl,rfl,SqT.of h1,atI_nat (j:=0) rfl,rfl,_,rfl,iteF (next_go ?_)⟩
    refine ⟨_,rfl,w,_,0,_,rfl,rfl,SqT.of h1,atI_nat (j:=0) rfl,rfl,_,rfl,iteF (next_go ?_)⟩
    refine ⟨_,rfl,w,_,0,_,rfl,rfl,SqT.of h1,atI_nat (j:=0) rfl,(by show 2 ≤ sizeLine; decide),fun z hz'=>⟨z,_,rfl,.inl (SqL.of upd_same),rfl,rfl,_,rfl,iteT ?_⟩⟩
    have sz:=same_new hz' (.lst [.str "count", .str "sum"])
    exact ⟨_,rfl,_,rfl,w,l,.count cs,cs,as,rs,rfl,hw.keep (keepT_of sz),.inl rfl,hR.same sz,⟨hd,ho,hwk,hfit⟩,hz,fun l' as' H' s' hl' hR'=>q l' as' H' (sz.trans s') (sz.free hl') hR'⟩
  | sum cs c =>
    obtain ⟨t,h1,h2⟩:=id hw
    refine ⟨_,rfl,w,_,0,_,rfl,rfl,SqT.of h1,atI_nat (j:=0) rfl,rfl,_,rfl,iteF (next_go ?_)⟩
    refine ⟨_,rfl,w,_,0,_,rfl,rfl,SqT.of h1,atI_nat (j:=0) rfl,rfl,_,rfl,iteF (next_go ?_)⟩
    refine ⟨_,rfl,w,_,0,_,rfl,rfl,SqT.of h1,atI_nat (j:=0) rfl,(by show 2 ≤ sizeLine; decide),fun z hz'=>⟨z,_,rfl,.inl (SqL.of upd_same),rfl,rfl,_,rfl,iteT ?_⟩⟩
    have sz:=same_new hz' (.lst [.str "count", .str "sum"])
    exact ⟨_,rfl,_,rfl,w,l,.sum cs c,cs,as,rs,rfl,hw.keep (keepT_of sz),.inr ⟨c,rfl⟩,hR.same sz,⟨hd,ho,hwk,hfit⟩,hz,fun l' as' H' s' hl' hR'=>q l' as' H' (sz.trans s') (sz.free hl') hR'⟩
  | number =>
    have h1:H w = some (.tup [.str "number"]):=hw
    refine ⟨_,rfl,w,_,0,_,rfl,rfl,SqT.of h1,atI_nat (j:=0) rfl,rfl,_,rfl,iteF (next_go ?_)⟩
    refine ⟨_,rfl,w,_,0,_,rfl,rfl,SqT.of h1,atI_nat (j:=0) rfl,rfl,_,rfl,iteF (next_go ?_)⟩
    refine ⟨_,rfl,w,_,0,_,rfl,rfl,SqT.of h1,atI_nat (j:=0) rfl,(by show 2 ≤ sizeLine; decide),fun z hz'=>⟨z,_,rfl,.inl (SqL.of upd_same),rfl,rfl,_,rfl,iteF (next_go ?_)⟩⟩
    have sz:=same_new hz' (.lst [.str "count", .str "sum"])
    have h1z:=sz _ _ h1
    have hRz:=hR.same sz
    refine ⟨_,rfl,w,_,0,_,rfl,rfl,SqT.of h1z,atI_nat (j:=0) rfl,rfl,_,rfl,iteT ?_⟩
    refine ⟨_,rfl,l,rfl,⟨_,SqL.of hRz.lst⟩,fun D hD=>?_⟩
    refine comp_enumL (xs:=as.map V.ref) (fun i σ ys H'=>(∃ o1 o2,σ = [o1,o2])∧(∃ us,ys = us.map V.ref∧us.length = i∧Found H' us (numU rs i))∧H' D = some (.lst ys)∧Same (upd H z (.lst [.str "count", .str "sum"])) H')
      ⟨⟨none,none,rfl⟩,⟨[],rfl,rfl,Found.nil⟩,upd_same,same_new hD _⟩ ?_ ?_ ?_ ?_ ?_
    · rintro i σ ys H' _ ⟨_,⟨us,rfl,rfl,_⟩,h,_⟩
      exact ⟨h,by rw [List.length_map]; exact Nat.le_refl _⟩
    · rintro i σ ys H' _ ⟨_,_,_,sm⟩
      exact SqL.of (sm _ _ hRz.lst)
    · rw [hl]; exact Nat.le_trans hz (by decide)
    · rintro i x σ ys H' T hx ⟨⟨o1,o2,rfl⟩,⟨us,rfl,hul,hF⟩,h,sm⟩ hT
      obtain ⟨a,r,rfl,er,har⟩:=hRz.get hx
      have sT:=same_new hT (.tup [.int (i:Nat),.ref a])
      refine ⟨T,_,rfl,SqT.of upd_same,rfl,_,_,rfl,gName_go ⟨_,_,rfl,gName_go ⟨rfl,?_⟩⟩⟩
      refine ⟨_,rfl,_,rfl,_,_,rfl,rfl,(by show 1 ≤ sizeLine; decide),fun u hu=>?_⟩
      have su:=same_new hu (.tup [.int ((i:Nat) + 1)])
      refine ⟨a,u,r,_,rfl,rfl,su _ _ (sT _ _ (sm _ _ har)),upd_same,?_,fun t H2 s2 ht=>?_⟩
      · exact Nat.le_trans (show r.length + 1 ≤ 1001 by have:=(hfit r (List.mem_of_getElem? er)).1; have:=ho.hi; omega) (by decide)
      have s3:=sT.trans (su.trans s2)
      refine ⟨s3 _ _ h,⟨_,_,rfl⟩,⟨us ++ [t],by rw [List.map_append]; rfl,by rw [List.length_append,hul]; rfl,?_⟩,upd_same,same_put hD (sm.trans s3)⟩
      rw [numU_succ er]
      exact ((hF.same s3).snoc ht).keep (tup_upd (s3 _ _ h))
    · rintro σ ys H' ⟨_,⟨us,rfl,_,hF⟩,h,sm⟩
      rw [hl] at hF
      exact q D us H' (sz.trans sm) (sz.free hD) ⟨h,hF.len,hF.at_⟩
  | first n =>
    have h1:H w = some (.tup [.str "first", .int (n:Nat)]):=hw
    refine ⟨_,rfl,w,_,0,_,rfl,rfl,SqT.of h1,atI_nat (j:=0) rfl,rfl,_,rfl,iteF (next_go ?_)⟩
    refine ⟨_,rfl,w,_,0,_,rfl,rfl,SqT.of h1,atI_nat (j:=0) rfl,rfl,_,rfl,iteF (next_go ?_)⟩
    refine ⟨_,rfl,w,_,0,_,rfl,rfl,SqT.of h1,atI_nat (j:=0) rfl,(by show 2 ≤ sizeLine; decide),fun z hz'=>⟨z,_,rfl,.inl (SqL.of upd_same),rfl,rfl,_,rfl,iteF (next_go ?_)⟩⟩
    have sz:=same_new hz' (.lst [.str "count", .str "sum"])
    have h1z:=sz _ _ h1
    have hRz:=hR.same sz
    refine ⟨_,rfl,w,_,0,_,rfl,rfl,SqT.of h1z,atI_nat (j:=0) rfl,rfl,_,rfl,iteF (next_go ?_)⟩
    refine ⟨_,rfl,w,_,0,_,rfl,rfl,SqT.of h1z,atI_nat (j:=0) rfl,rfl,_,rfl,iteT ?_⟩
    refine ⟨_,rfl,_,rfl,w,_,1,_,rfl,rfl,SqT.of h1z,rfl,_,rfl,l,_,rfl,SqL.of hRz.lst,fun p hp=>?_⟩
    rw [cutV_take]
    have hp2:Paired (fun a r=>(upd H z (.lst [.str "count", .str "sum"])) a = some (.tup r)) as rs:=paired_of hRz.len hRz.at_
    have hp3:=paired_take n hp2
    refine q p (as.take n) _ (sz.trans (same_new hp _)) (sz.free hp) ⟨by rw [upd_same,List.map_take],paired_len hp3,fun i a r h1 h2=>same_new hp _ _ _ (paired_at hp3 i a r h1 h2)⟩
  | cut cs =>
    obtain ⟨t,h1,h2⟩:=id hw
    obtain ⟨w1,w2,hcf⟩:=hwk
    refine ⟨_,rfl,w,_,0,_,rfl,rfl,SqT.of h1,atI_nat (j:=0) rfl,rfl,_,rfl,iteF (next_go ?_)⟩
    refine ⟨_,rfl,w,_,0,_,rfl,rfl,SqT.of h1,atI_nat (j:=0) rfl,rfl,_,rfl,iteF (next_go ?_)⟩
    refine ⟨_,rfl,w,_,0,_,rfl,rfl,SqT.of h1,atI_nat (j:=0) rfl,(by show 2 ≤ sizeLine; decide),fun z hz'=>⟨z,_,rfl,.inl (SqL.of upd_same),rfl,rfl,_,rfl,iteF (next_go ?_)⟩⟩
    have sz:=same_new hz' (.lst [.str "count", .str "sum"])
    have h1z:=sz _ _ h1
    have hRz:=hR.same sz
    refine ⟨_,rfl,w,_,0,_,rfl,rfl,SqT.of h1z,atI_nat (j:=0) rfl,rfl,_,rfl,iteF (next_go ?_)⟩
    refine ⟨_,rfl,w,_,0,_,rfl,rfl,SqT.of h1z,atI_nat (j:=0) rfl,rfl,_,rfl,iteF (next_go ?_)⟩
    have h2z:=sz _ _ h2
    refine ⟨_,rfl,l,rfl,⟨_,SqL.of hRz.lst⟩,fun D hD=>?_⟩
    refine comp_list (xs:=as.map V.ref) (fun i σ ys H'=>(∃ o,σ = [o,some (.ref w)])∧(∃ us,ys = us.map V.ref∧us.length = i∧Found H' us ((rs.take i).map fun r=>pick r cs))∧H' D = some (.lst ys)∧Same (upd H z (.lst [.str "count", .str "sum"])) H')
      ⟨⟨none,rfl⟩,⟨[],rfl,rfl,Found.nil⟩,upd_same,same_new hD _⟩ ?_ ?_ ?_ ?_ ?_
    · rintro i σ ys H' _ ⟨_,⟨us,rfl,rfl,_⟩,h,_⟩
      exact ⟨h,by rw [List.length_map]; exact Nat.le_refl _⟩
    · rintro i σ ys H' _ ⟨_,_,_,sm⟩
      exact SqL.of (sm _ _ hRz.lst)
    · rw [hl]; exact Nat.le_trans hz (by decide)
    · rintro i x σ ys H' hx ⟨⟨o,rfl⟩,⟨us,rfl,rfl,hF⟩,h,sm⟩
      obtain ⟨a,r,rfl,er,har⟩:=hRz.get hx
      have hfr:fitC cs r.length:=(hfit r (List.mem_of_getElem? er)).fitC hcf
      refine gName_go ⟨_,rfl,w,_,1,_,rfl,rfl,SqT.of (sm _ _ h1z),rfl,t,rfl,⟨_,SqT.of (sm _ _ h2z)⟩,fun D2 hD2=>?_⟩
      refine comp_tup (xs:=cs.map V.int) (fun j σ zs H2=>(∃ o,σ = [o,some (.ref a)])∧zs = pick r (cs.take j)∧H2 D2 = some (.lst zs)∧Same H' H2) ⟨⟨none,rfl⟩,rfl,upd_same,same_new hD2 _⟩ ?_ ?_ ?_ ?_ ?_
      · rintro j σ zs H2 _ ⟨_,rfl,h,_⟩
        refine ⟨h,?_⟩
        unfold pick
        rw [List.length_map,List.length_take]
        exact Nat.min_le_left _ _
      · rintro j σ zs H2 _ ⟨_,_,_,s2⟩
        exact SqT.of (s2 _ _ (sm _ _ h2z))
      · rw [List.length_map]
        exact Nat.le_trans w2 (by decide)
      · rintro j x σ zs H2 hx ⟨⟨o,rfl⟩,rfl,h,s2⟩
        rw [List.getElem?_map] at hx
        cases e:cs[j]? with
        | none=>rw [e] at hx; cases hx
        | some c =>
          rw [e] at hx
          have hx':V.int c = x:=Option.some.inj hx
          subst hx'
          refine ⟨_,rfl,_,rfl,_,_,rfl,rfl,a,_,_,_,rfl,rfl,SqT.of (s2 _ _ (sm _ _ har)),atI_col (hfr c (List.mem_of_getElem? e)),h,⟨_,rfl⟩,?_,upd_same,same_put hD2 s2⟩
          unfold pick
          rw [take_one e,List.map_append]
          rfl
      · rintro σ zs H2 ⟨_,rfl,h2',s2⟩
        rw [List.length_map,List.take_length] at h2'
        refine ⟨D2,_,rfl,.inl ⟨SqL.of h2',fun u hu=>?_⟩⟩
        have s3:=s2.trans (same_new hu (.tup (pick r cs)))
        refine ⟨s3 _ _ h,⟨_,rfl⟩,⟨us ++ [u],by rw [List.map_append]; rfl,by rw [List.length_append]; rfl,?_⟩,upd_same,same_put hD (sm.trans s3)⟩
        rw [take_one er,List.map_append]
        exact ((hF.same s3).snoc upd_same).keep (tup_upd (s3 _ _ h))
    · rintro σ ys H' ⟨_,⟨us,rfl,_,hF⟩,h,sm⟩
      rw [hl,List.take_length] at hF
      exact q D us H' (sz.trans sm) (sz.free hD) ⟨h,hF.len,hF.at_⟩
end
end My
set_option maxHeartbeats 4000000
namespace My
open PySem L2
def spWorkerL:Sp:=fun vs H Q _=>∃ (p l:Addr) (hd:List Str),vs = [.ref p,.ref l]∧PotAt H p∧H l = some (.lst (hd.map V.str))∧l ≠ p∧HdOk2 hd ∧
  ∀ (t w l':Addr) (x:W2) (H':Hp),Grow p H H'→H' t = some (.tup [.ref w,.ref l'])→W2At H' w x→H' l' = some (.lst ((behind2 hd x).map V.str))→l' ≠ p→W2Ok hd x→Q (.ref t) H'
theorem sif_mid {tc:TT} {a t2:TS} {D:Ends} {σ:St} {H:Hp} (Pb:Bool→Hp→Prop) (hc:∀ T:Bool→Hp→Prop,(∀ c H',Pb c H'→T c H')→tc σ H T) (ha:∀ H',Pb true H'→a { D with nx:=t2 D } σ H') (hb:∀ H',Pb false H'→t2 D σ H'):tSeq (tIfS tc a tNext) t2 D σ H:=by
  refine hc _ fun c H' h=>?_
  cases c with
  | true=>exact iteT (ha H' h)
  | false=>exact iteF (hb H' h)
theorem atI_hd {hd:List Str} {c:Int} (h:1 ≤ c∧c ≤ hd.length):atI (hd.map V.str) (c - 1) = some (.str (colT hd c)):=by
  have hi:(c - 1).toNat < hd.length:=by omega
  have e:(((c - 1).toNat:Nat):Int) = c - 1:=by omega
  have:=atI_nat (xs:=hd.map V.str) (j:=(c - 1).toNat) (v:=.str (colT hd c)) (by
    rw [List.getElem?_map,List.getElem?_eq_getElem hi]
    unfold colT
    rw [List.getD_eq_getElem?_getD,List.getElem?_eq_getElem hi]
    rfl)
  rw [e] at this
  exact this
theorem cols_go {K:PySem.W.Frag} {H:Hp} {p l t:Addr} {o2 o3 o4 o6:Option V} {hd:List Str} {cs:List Int} {Q:VK} (hl:H l = some (.lst (hd.map V.str))) (ht:H t = some (.tup (cs.map V.int))) (hf:fitC cs hd.length) (hz:cs.length ≤ 1000) (q:∀ D H',Same H H'→H D = none→H' D = some (.lst ((cs.map (colT hd)).map V.str))→Q (.ref D) H') :
    tComp [none,some 1] (iTup K (tVar 5)) (gName 0) tNoIf (tOp (rIxL K) (tVar 1) (tOp (rI0 fun i j=>V.int (i - j)) (tVar 0) (tC (V.int 1)))) [some (.ref p),some (.ref l),o2,o3,o4,some (.ref t),o6] H Q:=by
  refine ⟨_,rfl,t,rfl,⟨_,SqT.of ht⟩,fun D hD=>?_⟩
  refine comp_tup (xs:=cs.map V.int) (fun j σ zs H2=>(∃ o,σ = [o,some (.ref l)])∧zs = ((cs.take j).map (colT hd)).map V.str∧zs.length = j∧H2 D = some (.lst zs)∧Same H H2) ⟨⟨none,rfl⟩,rfl,rfl,upd_same,same_new hD _⟩ ?_ ?_ ?_ ?_ ?_
  · rintro j σ zs H2 _ ⟨_,_,hj,h,_⟩
    exact ⟨h,Nat.le_of_eq hj⟩
  · rintro j σ zs H2 _ ⟨_,_,_,_,s2⟩
    exact SqT.of (s2 _ _ ht)
  · rw [List.length_map]
    exact Nat.le_trans hz (by decide)
  · rintro j x σ zs H2 hx ⟨⟨o,rfl⟩,rfl,hj,h,s2⟩
    rw [List.getElem?_map] at hx
    cases e:cs[j]? with
    | none=>rw [e] at hx; cases hx
    | some c =>
      rw [e] at hx
      have hx':V.int c = x:=Option.some.inj hx
      subst hx'
      refine ⟨_,rfl,_,rfl,_,_,rfl,rfl,l,_,_,_,rfl,rfl,SqL.of (s2 _ _ hl),atI_hd (hf c (List.mem_of_getElem? e)),h,⟨_,rfl⟩,?_,?_,upd_same,same_put hD s2⟩
      · rw [take_one e,List.map_append,List.map_append]
        rfl
      · rw [List.length_append,hj]; rfl
  · rintro σ zs H2 ⟨_,rfl,_,h,s2⟩
    rw [List.length_map,List.take_length] at h
    exact q D H2 s2 hD h
abbrev s__law_worker:Stmt:=top 43
theorem sc__law_worker:FnScope ["_law_pot_here", "_law_head_here", "_law_way", "_law_wide", "_law_numbers", "_law_columns_here", "_law_worker_here"] ["_law_pot_here", "_law_head_here"] (defScope s__law_worker):=⟨rfl,rfl,rfl,by decide +kernel,rfl,by decide +kernel,by decide +kernel⟩
section
variable {P:Program} {w:World} {K:PySem.W.Frag} {mg:Str→Option Value} {base:Heap} {f g__law_draw g__law_order g__law_columns:Addr} {fd d__law_draw d__law_order d__law_columns:FuncData}
theorem ok_workerL (B:Blt mg) (F:Fun K "_law_worker" "_law_worker" s__law_worker f fd) 
    (G__law_draw:FnOk P w K mg base CX0 1 g__law_draw d__law_draw ["_law_pot_here", "_law_many"] spDraw) (b__law_draw:Binds K d__law_draw ["_law_pot_here", "_law_many"] []) (k__law_draw:PySem.W.keepIn K (.ref g__law_draw) = true) (m__law_draw:mg "_law_draw" = some (.ref g__law_draw))
    (G__law_order:FnOk P w K mg base CX0 3 g__law_order d__law_order ["_law_pot_here", "_law_wide"] spOrder) (b__law_order:Binds K d__law_order ["_law_pot_here", "_law_wide"] []) (k__law_order:PySem.W.keepIn K (.ref g__law_order) = true) (m__law_order:mg "_law_order" = some (.ref g__law_order))
    (G__law_columns:FnOk P w K mg base CX0 2 g__law_columns d__law_columns ["_law_pot_here", "_law_wide", "_law_least", "_law_most"] spColumns) (b__law_columns:Binds K d__law_columns ["_law_pot_here", "_law_wide", "_law_least", "_law_most"] []) (k__law_columns:PySem.W.keepIn K (.ref g__law_columns) = true) (m__law_columns:mg "_law_columns" = some (.ref g__law_columns)) :
    FnOk P w K mg base CX0 4 f fd ["_law_pot_here", "_law_head_here"] spWorkerL:=by
  refine F.ok sc__law_worker (fun vs H Q E h=>?_) (fun cdv A outer s H vs Q E hr h=>?_)
  · obtain ⟨p,l,hd,rfl,_⟩:=h
    rfl
  have hu:(A.deeper (PyProof.Rows.envOfC "_law_worker" (defScope s__law_worker) s.heap.objs.size f cdv)).units + 8 < cLine:=by have:=hr.units; omega
  have hu1:(A.deeper (PyProof.Rows.envOfC "_law_worker" (defScope s__law_worker) s.heap.objs.size f cdv)).units + 1 < cLine:=by omega
  obtain ⟨p,l,hd,rfl,hP,hl,nl,ho,q⟩:=h
  refine ⟨_,(pss_cons (ps_set (i:=2) sc__law_worker.nd rfl (Or.inl rfl) (pe_call (G__law_draw.mono (by omega)) hr rfl m__law_draw k__law_draw b__law_draw .nil pass0 (pa_cons (pv 0) (pa_cons pe_int pa_nil))))
      (pss_cons (ps_set (i:=3) sc__law_worker.nd rfl (Or.inl rfl) (pe_callB call_len_seq rfl B.len PySem.boot_len (pa_cons (pv 1) pa_nil)))
      (pss_cons (ps_setComp (i:=4) (N':=["_law_k", "_law_head_here"]) (src:=[none,some 1]) sc__law_worker.nd rfl (Or.inl rfl) rfl rfl (CompSc.ofB (by kernel_rfl)) (pi_range1 rfl B.range (pa_cons (pv 3) pa_nil)) (fun cl C s H fp=>(pgl (i:=0))) (tc:=(tTest (tOp rNe (tOp (rIxL K) (tVar 1) (tVar 0)) (tC (.str "w"))))) (fun cl C s H fp=>pifs_one (pt_cmpR op_ne (pe_ix (r:=rIxL K) ix_list (pvf 1) (pvl 0) (fun _ _=>rfl)) pe_str (nomark _))) (te:=(tOp (rI0 fun i j=>V.int (i + j)) (tVar 0) (tC (.int 1)))) (fun cl C s H fp=>(pe_op op_add (pvl 0) pe_int)))
      (pss_cons (ps_if (pt_cmpR op_lt (pv 2) pe_int (nomark _))
        (pss_one (ps_ret (pe_tup (pa_cons (pe_tup (pa_cons pe_str (pa_cons (pe_call (G__law_order.mono (by omega)) hr rfl m__law_order k__law_order b__law_order .nil pass0 (pa_cons (pv 0) (pa_cons (pv 3) pa_nil))) pa_nil))) (pa_cons (pv 1) pa_nil)))))
        pss_nil)
      (pss_cons (ps_if (pt_cmpR op_eq (pv 2) pe_int (nomark _))
        (pss_cons (ps_set (i:=5) sc__law_worker.nd rfl (Or.inl rfl) (pe_call (G__law_columns.mono (by omega)) hr rfl m__law_columns k__law_columns b__law_columns .nil pass0 (pa_cons (pv 0) (pa_cons (pv 3) (pa_cons pe_int (pa_cons pe_int pa_nil))))))
          (pss_one (ps_ret (pe_tup (pa_cons (pe_tup (pa_cons pe_str (pa_cons (pv 5) pa_nil))) (pa_cons (pe_op op_cat (pe_lcomp (N':=["_law_column", "_law_head_here"]) (src:=[none,some 1]) rfl (CompSc.ofB (by kernel_rfl)) (pi_tup (pv 5)) (fun cl C s H fp=>(pgl (i:=0))) (fun cl C s H fp=>pifs_nil) (te:=(tOp (rIxL K) (tVar 1) (tOp (rI0 fun i j=>V.int (i - j)) (tVar 0) (tC (.int 1))))) (fun cl C s H fp=>(pe_ix (r:=rIxL K) ix_list (pvf 1) (pe_op op_sub (pvl 0) pe_int) (fun _ _=>rfl)))) (pe_lst (pa_cons pe_str pa_nil))) pa_nil))))))
        pss_nil)
      (pss_cons (ps_if (PW.pt (pw_and (pt_cmpR op_eq (pv 2) pe_int (nomark _)) (pw_and1 (pt_cmpR (op_neNil hu) (pv 4) (pe_lst pa_nil) (nomark _)))))
        (pss_cons (ps_set (i:=5) sc__law_worker.nd rfl (Or.inl rfl) (pe_call (G__law_columns.mono (by omega)) hr rfl m__law_columns k__law_columns b__law_columns .nil pass0 (pa_cons (pv 0) (pa_cons (pv 3) (pa_cons pe_int (pa_cons pe_int pa_nil))))))
          (pss_cons (ps_set (i:=6) sc__law_worker.nd rfl (Or.inl rfl) (pe_tup (pa_cons pe_str (pa_cons (pv 5) (pa_cons (pe_ix (r:=rIxL K) ix_list (pv 4) (pe_call (G__law_draw.mono (by omega)) hr rfl m__law_draw k__law_draw b__law_draw .nil pass0 (pa_cons (pv 0) (pa_cons (pe_callB call_len_seq rfl B.len PySem.boot_len (pa_cons (pv 4) pa_nil)) pa_nil))) (fun _ _=>rfl)) pa_nil)))))
          (pss_one (ps_ret (pe_tup (pa_cons (pv 6) (pa_cons (pe_op op_cat (pe_lcomp (N':=["_law_column", "_law_head_here"]) (src:=[none,some 1]) rfl (CompSc.ofB (by kernel_rfl)) (pi_tup (pv 5)) (fun cl C s H fp=>(pgl (i:=0))) (fun cl C s H fp=>pifs_nil) (te:=(tOp (rIxL K) (tVar 1) (tOp (rI0 fun i j=>V.int (i - j)) (tVar 0) (tC (.int 1))))) (fun cl C s H fp=>(pe_ix (r:=rIxL K) ix_list (pvf 1) (pe_op op_sub (pvl 0) pe_int) (fun _ _=>rfl)))) (pe_lst (pa_cons pe_str pa_nil))) pa_nil)))))))
        pss_nil)
      (pss_cons (ps_if (PW.pt (pw_and (pt_cmpR op_eq (pv 2) pe_int (nomark _)) (pw_and1 (pt_cmpR op_lt (pv 3) pe_int (nomark _)))))
        (pss_one (ps_ret (pe_tup (pa_cons (pe_tup (pa_cons pe_str pa_nil)) (pa_cons (pe_op op_cat (pv 1) (pe_lst (pa_cons pe_str pa_nil))) pa_nil)))))
        pss_nil)
      (pss_cons (ps_if (pt_cmpR op_eq (pv 2) pe_int (nomark _))
        (pss_one (ps_ret (pe_tup (pa_cons (pe_tup (pa_cons pe_str (pa_cons (pe_ix (r:=rIxL K) ix_list (pe_lst (pa_cons (pe_call (G__law_draw.mono (by omega)) hr rfl m__law_draw k__law_draw b__law_draw .nil pass0 (pa_cons (pv 0) (pa_cons pe_int pa_nil))) (pa_cons (pe_call (G__law_draw.mono (by omega)) hr rfl m__law_draw k__law_draw b__law_draw .nil pass0 (pa_cons (pv 0) (pa_cons pe_int pa_nil))) pa_nil))) (pe_call (G__law_draw.mono (by omega)) hr rfl m__law_draw k__law_draw b__law_draw .nil pass0 (pa_cons (pv 0) (pa_cons pe_int pa_nil))) (fun _ _=>rfl)) pa_nil))) (pa_cons (pv 1) pa_nil)))))
        pss_nil)
      (pss_cons (ps_if (pt_cmpR op_eq (pv 2) pe_int (nomark _))
        (pss_cons (ps_set (i:=5) sc__law_worker.nd rfl (Or.inl rfl) (pe_call (G__law_columns.mono (by omega)) hr rfl m__law_columns k__law_columns b__law_columns .nil pass0 (pa_cons (pv 0) (pa_cons (pv 3) (pa_cons pe_int (pa_cons pe_int pa_nil))))))
          (pss_one (ps_ret (pe_tup (pa_cons (pe_tup (pa_cons pe_str (pa_cons (pv 5) pa_nil))) (pa_cons (pe_lcomp (N':=["_law_column", "_law_head_here"]) (src:=[none,some 1]) rfl (CompSc.ofB (by kernel_rfl)) (pi_tup (pv 5)) (fun cl C s H fp=>(pgl (i:=0))) (fun cl C s H fp=>pifs_nil) (te:=(tOp (rIxL K) (tVar 1) (tOp (rI0 fun i j=>V.int (i - j)) (tVar 0) (tC (.int 1))))) (fun cl C s H fp=>(pe_ix (r:=rIxL K) ix_list (pvf 1) (pe_op op_sub (pvl 0) pe_int) (fun _ _=>rfl)))) pa_nil))))))
        pss_nil)
      (pss_one (ps_ret (pe_tup (pa_cons (pe_tup (pa_cons pe_str pa_nil)) (pa_cons (pv 1) pa_nil)))))))))))))),?_⟩
  have lo:=ho.lo
  have hi:=ho.hi
  refine ⟨_,rfl,p,_,rfl,hP,by decide,by decide,fun way H1 g1 a1 b1=>gName_go ?_⟩
  have hl1:=g1.keep _ _ nl hl
  refine ⟨_,rfl,l,_,rfl,.inl (SqL.of hl1),gName_go ?_⟩
  rw [List.length_map]
  dsimp only
  refine seq_mid (fun σ' H'=>∃ (N:Addr) (ns:List Int),σ' = [some (.ref p),some (.ref l),some (.int way),some (.int (hd.length:Nat)),some (.ref N),none,none]∧H' N = some (.lst (ns.map V.int))∧N ≠ p∧(∀ n ∈ ns,(1 ≤ n∧n ≤ hd.length)∧colT hd n ≠ "w")∧ns.length ≤ 6∧Grow p H H'∧H' l = some (.lst (hd.map V.str))) (fun T hT=>?_) ?_
  · refine ⟨_,rfl,_,rfl,(p62a (by omega) (by omega)).1,(p62a (by omega) (by omega)).2,fun D hD=>?_⟩
    have nD:D ≠ p:=g1.ne hD
    refine comp_range (n:=((hd.length:Nat):Int).toNat) (fun i σ ys H'=>(∃ o,σ = [o,some (.ref l)])∧(∃ ns:List Int,ys = ns.map V.int∧ns.length ≤ i∧∀ n ∈ ns,(1 ≤ n∧n ≤ hd.length)∧colT hd n ≠ "w")∧H' D = some (.lst ys)∧Same H1 H')
      ⟨⟨none,rfl⟩,⟨[],rfl,Nat.le_refl _,fun _ z=>nomatch z⟩,upd_same,same_new hD _⟩ ?_ ?_ ?_ ?_
    · rintro i σ ys H' _ ⟨_,⟨ns,rfl,hn,_⟩,h,_⟩
      exact ⟨h,by rw [List.length_map]; exact hn⟩
    · exact Nat.le_trans (show ((hd.length:Nat):Int).toNat ≤ 6 by omega) (by decide)
    · rintro i σ ys H' hi' ⟨⟨o,rfl⟩,⟨ns,rfl,hn,hns⟩,h,sm⟩
      have hb:(1:Int) ≤ (0 + (i:Nat):Int) + 1∧(0 + (i:Nat):Int) + 1 ≤ hd.length:=by omega
      have eat:=atI_hd (hd:=hd) hb
      rw [show (0 + (i:Nat):Int) + 1 - 1 = 0 + (i:Nat) by omega] at eat
      refine ⟨_,rfl,_,rfl,l,_,_,_,rfl,rfl,SqL.of (sm _ _ hl1),eat,rfl,_,rfl,?_⟩
      refine ite2 (fun c=>?_) (fun c=>?_)
      · refine ⟨_,rfl,_,_,rfl,rfl,h,⟨_,rfl⟩,⟨ns ++ [(0 + (i:Nat):Int) + 1],by rw [List.map_append]; rfl,by rw [List.length_append]; simp; omega,fun n hm=>?_⟩,upd_same,same_put hD sm⟩
        rcases List.mem_append.mp hm with z | z
        · exact hns n z
        · rw [List.mem_singleton.mp z]
          refine ⟨hb,fun e=>?_⟩
          rw [e] at c
          simp at c
      · exact ⟨⟨_,rfl⟩,⟨ns,rfl,by omega,hns⟩,h,sm⟩
    · rintro σ ys H' ⟨_,⟨ns,rfl,hn,hns⟩,h,sm⟩
      exact gName_go (hT _ _ ⟨D,ns,rfl,h,nD,hns,by omega,g1.trans (.same g1.pot sm),sm _ _ hl1⟩)
  · rintro σ' H2 ⟨N,ns,rfl,hN,nN,hns,hnl,g2,hl2⟩
    have s2:(2:Nat) ≤ sizeLine:=by decide
    have s3:(3:Nat) ≤ sizeLine:=by decide
    have s1:(1:Nat) ≤ sizeLine:=by decide
    have wd:(0:Int) < ((hd.length:Nat):Int):=by omega
    refine ⟨_,rfl,_,_,rfl,rfl,_,rfl,ite2 (fun c=>?_) (fun c=>next_go ?_)⟩
    · refine ⟨_,rfl,_,rfl,p,hd.length,rfl,g2.pot,lo,by omega,fun t bs od H3 g3 hO hlen hcol=>⟨s2,fun w hw=>⟨_,rfl,s2,fun u hu=>?_⟩⟩⟩
      have sw:=same_new hw (.tup [.str "sort", .ref t])
      have su:=same_new hu (.tup [.ref w,.ref l])
      exact q u w l (.sort od) _ (g2.trans ((g3.new hw).new hu)) upd_same ⟨t,bs,su _ _ upd_same,(hO.same sw).same su⟩ (su _ _ (sw _ _ (g3.keep _ _ nl hl2))) nl ⟨by omega,hcol⟩
    refine ⟨_,rfl,rfl,_,rfl,ite2 (fun c=>?_) (fun c=>next_go ?_)⟩
    · refine ⟨_,rfl,_,rfl,p,_,0,5,rfl,g2.pot,wd,by omega,by decide,by decide,by decide,fun t cs H3 g3 ht h0 h5 hc=>gName_go ?_⟩
      dsimp only
      have hl3:=g3.keep _ _ nl hl2
      refine ⟨_,rfl,s2,fun w hw=>?_⟩
      have sw:=same_new hw (.tup [.str "count", .ref t])
      refine cols_go (sw _ _ hl3) (sw _ _ ht) hc (by omega) fun D H4 s4 hD hD4=>⟨s1,fun z hz=>?_⟩
      have sz:=same_new hz (.lst [.str "t"])
      refine ⟨D,z,_,_,rfl,rfl,sz _ _ hD4,upd_same,?_,fun b hb=>⟨s2,fun u hu=>?_⟩⟩
      · rw [List.length_map,List.length_map]
        exact Nat.le_trans (show cs.length + 1 ≤ 6 by omega) (by decide)
      have sb:=same_new hb (.lst ((cs.map (colT hd)).map V.str ++ [.str "t"]))
      have su:=same_new hu (.tup [.ref w,.ref b])
      have s5:=s4.trans (sz.trans (sb.trans su))
      have g4:Grow p H (upd (upd (upd H4 z (.lst [.str "t"])) b (.lst ((cs.map (colT hd)).map V.str ++ [.str "t"]))) u (.tup [.ref w,.ref b])):=g2.trans (g3.trans (.same g3.pot (sw.trans s5)))
      refine q u w b (.count cs) _ g4 upd_same ⟨t,s5 _ _ upd_same,s5 _ _ (sw _ _ ht)⟩ (su _ _ ?_) (fun e=>?_) ⟨by omega,hc⟩
      · rw [upd_same]
        show _ = some (HO.lst ((cs.map (colT hd) ++ [("t" : Str)]).map V.str))
        rw [List.map_append]
        rfl
      · obtain ⟨x,y,hp,_⟩:=g3.pot
        rw [e] at hb
        rw [sz _ _ (s4 _ _ (sw _ _ hp))] at hb
        cases hb
    dsimp only
    refine sif_mid (fun b H'=>(b = true→ns ≠ [])∧Same H2 H') (fun T hT=>?_) ?_ ?_
    · refine ⟨_,rfl,rfl,_,rfl,ite2 (fun c=>?_) (fun c=>?_)⟩
      · refine ⟨_,rfl,Nat.zero_le _,fun z hz=>⟨N,z,_,rfl,rfl,same_new hz (.lst []) _ _ hN,upd_same,_,rfl,hT _ _ ⟨fun h e=>?_,same_new hz _⟩⟩⟩
        rw [e] at h
        cases h
      · exact hT _ _ ⟨(fun h=>by cases h),Same.refl _⟩
    · rintro H3' ⟨hne,s3'⟩
      have hne:=hne rfl
      have g3':=g2.trans (Grow.same g2.pot s3')
      refine ⟨_,rfl,_,rfl,p,_,0,5,rfl,g3'.pot,wd,by omega,by decide,by decide,by decide,fun t cs H3 g3 ht h0 h5 hc=>gName_go ?_⟩
      dsimp only
      have hl3:=g3.keep _ _ nl (s3' _ _ hl2)
      have hN3:=g3.keep _ _ nN (s3' _ _ hN)
      have hnpos:0 < ns.length:=List.length_pos_iff.mpr hne
      refine ⟨_,rfl,_,rfl,_,rfl,_,rfl,N,_,rfl,.inl (SqL.of hN3),p,_,rfl,g3.pot,?_,?_,fun d H4 g4 a4 b4=>?_⟩
      · rw [List.length_map]; omega
      · rw [List.length_map]; exact log_small (by omega) (by omega)
      rw [List.length_map] at b4
      obtain ⟨v,hv,hg⟩:=atI_lt (xs:=ns.map V.int) a4 (by rw [List.length_map]; exact b4)
      rw [List.getElem?_map] at hg
      cases en:ns[d.toNat]? with
      | none=>rw [en] at hg; cases hg
      | some n =>
      rw [en] at hg
      have hg:V.int n = v:=Option.some.inj hg
      subst hg
      obtain ⟨hn1,hn2⟩:=hns n (List.mem_of_getElem? en)
      have hl4:=g4.keep _ _ nl hl3
      have ht4:H4 t = some (.tup (cs.map V.int)):=keepG g3.pot g4 _ _ ht
      refine ⟨N,_,_,_,rfl,rfl,SqL.of (g4.keep _ _ nN hN3),hv,s3,fun w hw=>gName_go ?_⟩
      have sw:=same_new hw (.tup [.str "sum", .ref t,.int n])
      dsimp only
      refine ⟨_,rfl,?_⟩
      refine cols_go (sw _ _ hl4) (sw _ _ ht4) hc (by omega) fun D H5 s5 hD hD5=>⟨s1,fun z hz=>?_⟩
      have sz:=same_new hz (.lst [.str "t"])
      refine ⟨D,z,_,_,rfl,rfl,sz _ _ hD5,upd_same,?_,fun b hb=>⟨s2,fun u hu=>?_⟩⟩
      · rw [List.length_map,List.length_map]
        exact Nat.le_trans (show cs.length + 1 ≤ 6 by omega) (by decide)
      have sb:=same_new hb (.lst ((cs.map (colT hd)).map V.str ++ [.str "t"]))
      have su:=same_new hu (.tup [.ref w,.ref b])
      have s6:=s5.trans (sz.trans (sb.trans su))
      have g6:Grow p H (upd (upd (upd H5 z (.lst [.str "t"])) b (.lst ((cs.map (colT hd)).map V.str ++ [.str "t"]))) u (.tup [.ref w,.ref b])):=g3'.trans (g3.trans (g4.trans (.same g4.pot (sw.trans s6))))
      refine q u w b (.sum cs n) _ g6 upd_same ⟨t,s6 _ _ upd_same,s6 _ _ (sw _ _ ht4)⟩ (su _ _ ?_) (fun e=>?_) ⟨by omega,hc,hn1,hn2⟩
      · rw [upd_same]
        show _ = some (HO.lst ((cs.map (colT hd) ++ [("t" : Str)]).map V.str))
        rw [List.map_append]
        rfl
      · obtain ⟨x,y,hp,_⟩:=g4.pot
        rw [e] at hb
        rw [sz _ _ (s5 _ _ (sw _ _ hp))] at hb
        cases hb
    · rintro H3 ⟨_,s3'⟩
      have g3:=g2.trans (Grow.same g2.pot s3')
      have hl3:=s3' _ _ hl2
      refine sif_mid (fun b H'=>(b = true→hd.length < 6)∧H' = H3) (fun T hT=>?_) ?_ ?_
      · refine ⟨_,rfl,rfl,_,rfl,ite2 (fun c=>?_) (fun c=>?_)⟩
        · refine ⟨_,rfl,_,_,rfl,rfl,_,rfl,hT _ _ ⟨fun h=>?_,rfl⟩⟩
          have:=of_decide_eq_true h
          omega
        · exact hT _ _ ⟨(fun h=>by cases h),rfl⟩
      · rintro _ ⟨h6,rfl⟩
        refine ⟨s1,fun w hw=>⟨_,rfl,s1,fun z hz=>?_⟩⟩
        have sw:=same_new hw (.tup [.str "number"])
        have sz:=same_new hz (.lst [.str "t"])
        refine ⟨l,z,_,_,rfl,rfl,sz _ _ (sw _ _ hl3),upd_same,?_,fun b hb=>⟨s2,fun u hu=>?_⟩⟩
        · rw [List.length_map]
          exact Nat.le_trans (show hd.length + 1 ≤ 7 by omega) (by decide)
        have sb:=same_new hb (.lst (hd.map V.str ++ [.str "t"]))
        have su:=same_new hu (.tup [.ref w,.ref b])
        refine q u w b .number _ ((((g3.new hw).new hz).new hb).new hu) upd_same (su _ _ (sb _ _ (sz _ _ upd_same))) (su _ _ ?_) (fun e=>?_) (h6 rfl)
        · rw [upd_same]
          show _ = some (HO.lst ((hd ++ [("t" : Str)]).map V.str))
          rw [List.map_append]
          rfl
        · obtain ⟨x,y,hp,_⟩:=g3.pot
          rw [e] at hb
          rw [sz _ _ (sw _ _ hp)] at hb
          cases hb
      · rintro _ ⟨_,rfl⟩
        refine ⟨_,rfl,rfl,_,rfl,ite2 (fun c=>?_) (fun c=>next_go ?_)⟩
        · refine ⟨_,rfl,p,_,rfl,g3.pot,by decide,by decide,fun d1 H4 g4 a4 b4=>⟨_,rfl,p,_,rfl,g4.pot,by decide,by decide,fun d2 H5 g5 a5 b5=>⟨s2,fun z hz=>?_⟩⟩⟩
          have sz:=same_new hz (.lst [.int d1,.int d2])
          have gz:=g5.new (o:=.lst [.int d1,.int d2]) hz
          have nz:z ≠ p:=g5.ne hz
          refine ⟨_,rfl,p,_,rfl,gz.pot,by decide,by decide,fun d3 H6 g6 a6 b6=>?_⟩
          obtain ⟨v,hv,hm⟩:=atI_mem (xs:=[V.int d1,V.int d2]) a6 b6
          have good:∃ n:Nat,v = .int (n:Nat):=by
            simp only [List.mem_cons,List.not_mem_nil,or_false] at hm
            rcases hm with rfl | rfl
            · exact ⟨d1.toNat,by rw [Int.toNat_of_nonneg a4]⟩
            · exact ⟨d2.toNat,by rw [Int.toNat_of_nonneg a5]⟩
          obtain ⟨n,rfl⟩:=good
          refine ⟨z,_,_,_,rfl,rfl,SqL.of (g6.keep _ _ nz upd_same),hv,s2,fun w hw=>⟨_,rfl,s2,fun u hu=>?_⟩⟩
          have sw:=same_new hw (.tup [.str "first", .int (n:Nat)])
          have su:=same_new hu (.tup [.ref w,.ref l])
          have hl6:=g6.keep _ _ nl (sz _ _ (g5.keep _ _ nl (g4.keep _ _ nl hl3)))
          exact q u w l (.first n) _ (g3.trans (g4.trans (gz.trans ((g6.new hw).new hu)))) upd_same (su _ _ upd_same) (su _ _ (sw _ _ hl6)) nl trivial
        refine ⟨_,rfl,rfl,_,rfl,ite2 (fun c=>?_) (fun c=>next_go ?_)⟩
        · refine ⟨_,rfl,_,rfl,p,_,1,6,rfl,g3.pot,wd,by omega,by decide,by decide,by decide,fun t cs H4 g4 ht h1 h6 hc=>gName_go ?_⟩
          dsimp only
          have hl4:=g4.keep _ _ nl hl3
          refine ⟨_,rfl,s2,fun w hw=>?_⟩
          have sw:=same_new hw (.tup [.str "cut", .ref t])
          refine cols_go (sw _ _ hl4) (sw _ _ ht) hc (by omega) fun D H5 s5 hD hD5=>⟨s2,fun u hu=>?_⟩
          have su:=same_new hu (.tup [.ref w,.ref D])
          have s6:=s5.trans su
          refine q u w D (.cut cs) _ (g3.trans (g4.trans (.same g4.pot (sw.trans s6)))) upd_same ⟨t,s6 _ _ upd_same,s6 _ _ (sw _ _ ht)⟩ (su _ _ hD5) (fun e=>?_) ⟨by omega,by omega,hc⟩
          obtain ⟨x,y,hp,_⟩:=g4.pot
          rw [e,sw _ _ hp] at hD
          cases hD
        refine ⟨s1,fun w hw=>⟨_,rfl,s2,fun u hu=>?_⟩⟩
        have sw:=same_new hw (.tup [.str "apart"])
        have su:=same_new hu (.tup [.ref w,.ref l])
        exact q u w l .apart _ ((g3.new hw).new hu) upd_same (su _ _ upd_same) (su _ _ (sw _ _ hl3)) nl trivial
end
end My
namespace L2
open PySem PySem.Spec PyProof.Rows
section
variable {X:Cx} {pos:Pos}
def tPar3 (i j k:Nat) (ta:TA):TS:=fun D σ H=>ta σ H fun vs H1=>∃ v w r,vs = [v,w,r]∧D.nx (((σ.set k (some r)).set j (some w)).set i (some v)) H1
theorem ps_par3 {i j k:Nat} {x y z:Str} {a b c:Expr} {ta:TA} {px py pz pt:Pos} {kt k2 pt2} (hc:X.calm = true) (hN:X.N.Nodup) (hi:X.N[i]? = some x) (hj:X.N[j]? = some y) (hk:X.N[k]? = some z)
    (hx:X.env.scope.names.lookup x = some .local) (hy:X.env.scope.names.lookup y = some .local) (hz:X.env.scope.names.lookup z = some .local) (ha:PA X [a,b,c] ta)
    (hw:swappedStores [.Tuple [.Name x px,.Name y py,.Name z pz] kt pt] (.Tuple [a,b,c] k2 pt2) X.env = pure (some [x,y,z]))
    (hs:swapsWithSole [.Tuple [.Name x px,.Name y py,.Name z pz] kt pt] (.Tuple [a,b,c] k2 pt2) pos.line X.env = pure false:=by rfl) :
    PS X (.Assign [.Tuple [.Name x px,.Name y py,.Name z pz] kt pt] (.Tuple [a,b,c] k2 pt2) pos) (tPar3 i j k ta):=by
  intro pins s σ H D I h
  rw [exec_Assign_arm]
  refine wpAny_bind (wpAny_standAt ?_)
  rw [hs]
  refine wpAny_bind (wpAny_pure ?_)
  rw [if_neg (by decide)]
  refine wpAny_bind (Tuple_ (thn (ha _ pins s σ H _ I h) fun us s1 ⟨vs,H1,I1,r1,q1⟩=>?_))
  obtain ⟨v,w,r,e1,q1⟩:=q1
  subst e1
  obtain ⟨u1,u2,u3,rfl,rv,rw',rr⟩ : ∃ u1 u2 u3,us = [u1,u2,u3]∧RelV v u1∧RelV w u2∧RelV r u3:=by
    cases r1 with
    | cons p q =>
      cases q with
      | cons p' q' =>
        cases q' with
        | cons p2 q2 =>
          cases q2
          exact ⟨_,_,_,rfl,p,p',p2⟩
  refine wpAny_newObj_type ?_ (by show 3 ≤ sizeLine; decide)
  have I2:Inv X pins σ H1 { s1 with heap:=s1.heap.push { cls:=.type "tuple", data:=.seq [u1,u2,u3].toArray } }:=I1.kept (t':=s1.toks) fun b o e=>Heap.get?_push_of_some _ e
  rw [hw]
  refine wpAny_bind (wpAny_pure ?_)
  show wpAny (model X.prog X.w) X.A (do rule "assign.swapped-stores"; let items ← unpackItems (.ref s1.heap.objs.size) 3 none; assignInOrder [fun v=>bindName X.env z v,fun v=>bindName X.env y v,fun v=>bindName X.env x v] items.reverse; pure Flow.next) _ _ _
  refine wpAny_bind (wpAny_rule (wpAny_bind (unpackItems_tuple (items:=#[u1,u2,u3]) (I.ok.hd hc) (IsTup.new s1.heap _) fun h' hx'=>?_)))
  have I3:=I2.kept (h':=h') (t':=s1.toks) fun b o e=>hx' b o (Nat.ne_of_lt (Heap.lt_size e)) e
  show wpAny _ _ (assignInOrder [fun v=>bindName X.env z v,fun v=>bindName X.env y v,fun v=>bindName X.env x v] [u3,u2,u1] >>= fun _=>pure Flow.next) _ _ _
  refine wpAny_bind (assignInOrder_cons (wpAny_bindName (store_ok I3 hN hk (.inl hz) rr (fun s2 I4=>?_) (.inr hz))))
  refine assignInOrder_cons (wpAny_bindName (store_ok I4 hN hj (.inl hy) rw' (fun s3 I5=>?_) (.inr hy)))
  exact assignInOrder_cons (wpAny_bindName (store_ok I5 hN hi (.inl hx) rv (fun s4 I6=>assignInOrder_nil (wpAny_pure ⟨_,H1,I6,q1⟩)) (.inr hx)))
end
end L2
set_option maxHeartbeats 4000000
namespace L2
open PySem
def rIsN (K:PySem.W.Frag) (n:String):List V→Hp→VK→Prop:=fun xs H Q=>∃ x t b,xs = [x,.ty n]∧TyOf K H x t∧PySem.W.kitOne K t (.type n) = some b∧Q (.bl b) H
theorem call_isN {X:Cx} {n:String}:CallR X (.builtin "isinstance") (rIsN X.K n):=by
  intro pins s σ H xs us Q I r h
  obtain ⟨x,t,b,rfl,ty,e,q⟩:=h
  obtain ⟨u,w',rfl,r1,r2⟩:=vals2 r
  cases (show w' = Value.type n from r2)
  exact isinst_ok I r1 ty e fun tk=>⟨.bl b,H,I.tok _,rfl,q⟩
end L2
namespace My
open PySem L2
theorem rows_at {K:PySem.W.Frag} {H:Hp} {l:Addr} {as:List Addr} {rs:List Row} (hR:RowsAt H l as rs) (h:∀ r ∈ rs,clRow r):DAt K H (.lst (rs.map rowD)) (.ref l):=by
  refine dat_lst hR.lst (DsAt.of (by rw [List.length_map,List.length_map,hR.len]) fun i d v e1 e2=>?_)
  rw [List.getElem?_map] at e1 e2
  cases er:rs[i]? with
  | none=>rw [er] at e1; cases e1
  | some r =>
    cases ea:as[i]? with
    | none=>rw [ea] at e2; cases e2
    | some a =>
      rw [er] at e1
      rw [ea] at e2
      cases e1
      cases e2
      exact row_at (h r (List.mem_of_getElem? er)) (hR.at_ i a r ea er)
theorem rowsD_depth (rs:List Row):(D.lst (rs.map rowD)).depth ≤ 2:=by
  rw [D.depth]
  have:depths (rs.map rowD) ≤ 1:=depths_le fun d hd=>by
    obtain ⟨r,_,rfl⟩:=List.mem_map.mp hd
    exact rowD_depth r
  omega
theorem growSeq {K:PySem.W.Frag} {Pt a:Addr} {q:Str} {H H':Hp} {xs:List V} (T:TabAt H Pt q) (g:GrowT Pt H H') (h:SqL K H a xs):SqL K H' a xs:=by
  rcases h with (h | ⟨o,h⟩) | h
  · exact .inl (.inl (g _ _ (tabNe T h fun _ z=>by cases z) h))
  · exact .inl (.inr ⟨o,g _ _ (tabNe T h fun _ z=>by cases z) h⟩)
  · exact .inr h
theorem tab_pot {Pt p:Addr} {q:Str} {H H':Hp} (T:TabAt H Pt q) (hP:PotAt H p) (g:Grow p H H'):TabAt H' Pt q:=T.grow fun b o hb e=>g.keep b o (fun z=>by
  obtain ⟨x,y,h,_⟩:=hP
  rw [z,h] at e
  cases e
  exact hb _ rfl) e
def spLaw (K:PySem.W.Frag) (Pt:Addr):Sp:=fun vs H Q _=>∃ (a:Addr) (ns:List Int),vs = [.ref a]∧SqL K H a (ns.map V.int)∧ns.length ≤ 63∧TabAt H Pt qSB∧∀ H',Q (.bl true) H'
theorem grow_growT {Pt p:Addr} {H0 H1 H2:Hp} (hp:H0 p = none) (s:GrowT Pt H0 H1) (g:Grow p H1 H2):GrowT Pt H0 H2:=fun b o hb e=>g.keep b o (ne_of_none e hp) (s _ _ hb e)
theorem if_mid {tc:TT} {a b:TS} {D:Ends} {σ:St} {H:Hp} (Pb:Bool→Hp→Prop) (hc:∀ T:Bool→Hp→Prop,(∀ c H',Pb c H'→T c H')→tc σ H T) (ha:∀ H',Pb true H'→a D σ H') (hb:∀ H',Pb false H'→b D σ H'):tIfS tc a b D σ H :=
  hc _ fun c H' p=>by
    cases c with
    | true=>exact ha H' p
    | false=>exact hb H' p
theorem ItemsAt.snoc {α:Type} {At:Hp→Addr→α→Prop} {H:Hp} {p p' w:Addr} {bs:List Addr} {xs:List α} {x:α} (h:ItemsAt At H p bs xs) (ht:H p' = some (.tup (bs.map V.ref ++ [.ref w]))) (hw:At H w x):ItemsAt At H p' (bs ++ [w]) (xs ++ [x]):=by
  refine ⟨by rw [List.map_append]; exact ht,by rw [List.length_append,List.length_append,h.len]; rfl,fun i a y e1 e2=>?_⟩
  have hl:=h.len
  by_cases hi:i < bs.length
  · rw [List.getElem?_append_left hi] at e1
    rw [List.getElem?_append_left (by omega)] at e2
    exact h.at_ i a y e1 e2
  · rw [List.getElem?_append_right (by omega)] at e1
    rw [List.getElem?_append_right (by omega),← hl] at e2
    have e0:i - bs.length = 0:=by
      have:=(List.getElem?_eq_some_iff.mp e1).1
      simp only [List.length_singleton] at this
      omega
    rw [e0] at e1 e2
    cases e1
    cases e2
    exact hw
abbrev s_law:Stmt:=top 45
theorem sc_law:FnScope ["_law_script", "_law_k", "_law_pot_here", "_law_head_here", "_law_rows_here", "_law_handed", "_law_pipe", "_law_due_here", "_law_turn", "_law_worker_here", "_law_found"] ["_law_script"] (defScope s_law):=⟨rfl,rfl,rfl,by decide +kernel,rfl,by decide +kernel,by decide +kernel⟩
section
variable {P:Program} {w:World} {K:PySem.W.Frag} {mg:Str→Option Value} {base:Heap} {f g__law_pot g__law_head g__law_rows g__law_draw g__law_worker g__law_due g_told:Addr} {fd d__law_pot d__law_head d__law_rows d__law_draw d__law_worker d__law_due d_told:FuncData}
theorem ok_law {L:Nat} {Pt:Addr} (B:Blt mg) (mM:mg "min" = none) (mA:mg "any" = none) (mBo:mg "bool" = none) (Ki:PySem.W.kitOne K (.type "int") (.type "bool") = some false) (Ks:PySem.W.kitOne K (.type "str") (.type "bool") = some false) (F:Fun K "law" "law" s_law f fd) 
    (G__law_pot:FnOk P w K mg base CX0 L g__law_pot d__law_pot ["_law_script", "_law_k"] (spPot K)) (b__law_pot:Binds K d__law_pot ["_law_script", "_law_k"] []) (k__law_pot:PySem.W.keepIn K (.ref g__law_pot) = true) (m__law_pot:mg "_law_pot" = some (.ref g__law_pot))
    (G__law_head:FnOk P w K mg base CX0 L g__law_head d__law_head ["_law_pot_here"] spHead) (b__law_head:Binds K d__law_head ["_law_pot_here"] []) (k__law_head:PySem.W.keepIn K (.ref g__law_head) = true) (m__law_head:mg "_law_head" = some (.ref g__law_head))
    (G__law_rows:FnOk P w K mg base CX0 L g__law_rows d__law_rows ["_law_pot_here", "_law_head_here", "_law_most"] spRows) (b__law_rows:Binds K d__law_rows ["_law_pot_here", "_law_head_here", "_law_most"] []) (k__law_rows:PySem.W.keepIn K (.ref g__law_rows) = true) (m__law_rows:mg "_law_rows" = some (.ref g__law_rows))
    (G__law_draw:FnOk P w K mg base CX0 L g__law_draw d__law_draw ["_law_pot_here", "_law_many"] spDraw) (b__law_draw:Binds K d__law_draw ["_law_pot_here", "_law_many"] []) (k__law_draw:PySem.W.keepIn K (.ref g__law_draw) = true) (m__law_draw:mg "_law_draw" = some (.ref g__law_draw))
    (G__law_worker:FnOk P w K mg base CX0 L g__law_worker d__law_worker ["_law_pot_here", "_law_head_here"] spWorkerL) (b__law_worker:Binds K d__law_worker ["_law_pot_here", "_law_head_here"] []) (k__law_worker:PySem.W.keepIn K (.ref g__law_worker) = true) (m__law_worker:mg "_law_worker" = some (.ref g__law_worker))
    (G__law_due:FnOk P w K mg base CX0 L g__law_due d__law_due ["_law_worker_here", "_law_rows_here"] spDue) (b__law_due:Binds K d__law_due ["_law_worker_here", "_law_rows_here"] []) (k__law_due:PySem.W.keepIn K (.ref g__law_due) = true) (m__law_due:mg "_law_due" = some (.ref g__law_due))
    (G_told:FnOk P w K mg base CX0 L g_told d_told ["pipe", "rows"] (spTold2 Pt)) (b_told:Binds K d_told ["pipe", "rows"] []) (k_told:PySem.W.keepIn K (.ref g_told) = true) (m_told:mg "told" = some (.ref g_told)) :
    FnOk P w K mg base CX0 (L + 1) f fd ["_law_script"] (spLaw K Pt):=by
  refine F.ok sc_law (fun vs H Q E h=>?_) (fun cdv A outer s H vs Q E hr h=>?_)
  · obtain ⟨a,ns,rfl,_⟩:=h
    rfl
  have hu:(A.deeper (PyProof.Rows.envOfC "law" (defScope s_law) s.heap.objs.size f cdv)).units + 8 < cLine:=by have:=hr.units; omega
  have hu1:(A.deeper (PyProof.Rows.envOfC "law" (defScope s_law) s.heap.objs.size f cdv)).units + 1 < cLine:=by omega
  obtain ⟨a,ns,rfl,hS,h63,hT,q⟩:=h
  refine ⟨_,(pss_cons (ps_for PassesOwn.never rfl (pi_range1 rfl B.range (pa_cons (pe_op op_add pe_int (pe_callB (call_min2 rfl) rfl mM PyProof.Rows.boot_min (pa_cons pe_int (pa_cons (pe_callB call_len_seq rfl B.len PySem.boot_len (pa_cons (pv 0) pa_nil)) pa_nil)))) pa_nil)) (pg_name (i:=1) sc_law.nd rfl (Or.inl rfl))
        (pss_cons (ps_set (i:=2) sc_law.nd rfl (Or.inl rfl) (pe_call (G__law_pot.mono (by omega)) hr rfl m__law_pot k__law_pot b__law_pot .nil pass0 (pa_cons (pv 0) (pa_cons (pv 1) pa_nil))))
          (pss_cons (ps_set (i:=3) sc_law.nd rfl (Or.inl rfl) (pe_call (G__law_head.mono (by omega)) hr rfl m__law_head k__law_head b__law_head .nil pass0 (pa_cons (pv 2) pa_nil)))
          (pss_cons (ps_set (i:=4) sc_law.nd rfl (Or.inl rfl) (pe_call (G__law_rows.mono (by omega)) hr rfl m__law_rows k__law_rows b__law_rows .nil pass0 (pa_cons (pv 2) (pa_cons (pv 3) (pa_cons pe_int pa_nil)))))
          (pss_cons (ps_par3 (i:=5) (j:=6) (k:=7) rfl sc_law.nd rfl rfl rfl rfl rfl rfl (pa_cons (pe_callTy call_list_of rfl B.list PyProof.Rows.boot_list (pa_cons (pv 4) pa_nil)) (pa_cons (pe_tup pa_nil) (pa_cons (pe_callTy call_list_of rfl B.list PyProof.Rows.boot_list (pa_cons (pv 4) pa_nil)) pa_nil))) rfl)
          (pss_cons (ps_for PassesOwn.never rfl (pi_range1 rfl B.range (pa_cons (pe_call (G__law_draw.mono (by omega)) hr rfl m__law_draw k__law_draw b__law_draw .nil pass0 (pa_cons (pv 2) (pa_cons pe_int pa_nil))) pa_nil)) (pg_name (i:=8) sc_law.nd rfl (Or.inl rfl))
            (pss_cons (ps_asg (pe_call (G__law_worker.mono (by omega)) hr rfl m__law_worker k__law_worker b__law_worker .nil pass0 (pa_cons (pv 2) (pa_cons (pv 3) pa_nil))) (pg_tup rfl (pgs_cons (pg_name (i:=9) sc_law.nd rfl (Or.inl rfl)) (pgs_cons (pg_name (i:=3) sc_law.nd rfl (Or.inl rfl)) pgs_nil))))
              (pss_cons (ps_set (i:=6) sc_law.nd rfl (Or.inl rfl) (pe_op op_catH (pv 6) (pe_tup (pa_cons (pv 9) pa_nil))))
              (pss_one (ps_set (i:=7) sc_law.nd rfl (Or.inl rfl) (pe_call (G__law_due.mono (by omega)) hr rfl m__law_due k__law_due b__law_due .nil pass0 (pa_cons (pv 9) (pa_cons (pv 7) pa_nil))))))))
          (pss_cons (ps_set (i:=10) sc_law.nd rfl (Or.inl rfl) (pe_call (G_told.mono (by omega)) hr rfl m_told k_told b_told .nil pass0 (pa_cons (pv 6) (pa_cons (pv 5) pa_nil))))
          (pss_one (ps_if (PW.pt (pw_or (pt_cmpR op_neD (pv 10) (pv 7) (nomark _)) (pw_or (pt_cmpR op_neD (pv 5) (pv 4) (nomark _)) (pw_or1 (pt_val (pe_callB (call_anyL rfl) rfl mA PyProof.Rows.boot_any (pa_cons (pe_lcomp (N':=["_law_row"]) (src:=[none]) rfl (CompSc.ofB (by kernel_rfl)) (pi_list (pv 10)) (fun cl C s H fp=>pgl (i:=0)) (fun cl C s H fp=>pifs_nil) (te:=tCB (rIsN K "bool") (tCons (tOp (rIxT K) (tVar 0) (tUn (rU fun i=>.int (-i)) (tC (.int 1)))) (tCons (tC (.ty "bool")) tNil))) (fun cl C s H fp=>pe_callB call_isN glc B.isinstance PyProof.Rows.boot_isinstance (pa_cons (pe_ix (r:=rIxT K) ix_tup (pvl 0) (pe_un un_neg pe_int) (fun _ _=>rfl)) (pa_cons (pe_bty (n:="bool") glc mBo (by decide +kernel)) pa_nil)))) pa_nil)))))))
            (pss_one (ps_ret pe_bl))
            pss_nil)))))))))
      (pss_one (ps_ret pe_bl))),?_⟩
  have hl:(ns.map V.int).length = ns.length:=List.length_map _
  have mb:0 ≤ (2:Int) + (if (((ns.map V.int).length:Nat):Int) < 5 then (((ns.map V.int).length:Nat):Int) else 5)∧(2:Int) + (if (((ns.map V.int).length:Nat):Int) < 5 then (((ns.map V.int).length:Nat):Int) else 5) ≤ 7:=by split <;> omega
  refine ⟨_,rfl,a,_,rfl,.inl hS,_,_,rfl,_,_,rfl,rfl,_,rfl,(p62a mb.1 (by omega)).1,(p62a mb.1 (by omega)).2,?_⟩
  refine for_range (fun i σ H'=>(∃ o1 o2 o3 o4 o5 o6 o7 o8 o9 o10,σ = [some (.ref a),o1,o2,o3,o4,o5,o6,o7,o8,o9,o10])∧GrowT Pt H H'∧TabAt H' Pt qSB) ⟨⟨_,_,_,_,_,_,_,_,_,_,rfl⟩,(fun _ _ _ e=>e),hT⟩ ?_ ?_
  · rintro i σ Hi hi ⟨⟨o1,o2,o3,o4,o5,o6,o7,o8,o9,o10,rfl⟩,gri,hTi⟩
    have hi9:(i:Int) ≤ 9:=by omega
    refine gName_go ?_
    dsimp only
    refine ⟨_,rfl,_,rfl,a,ns,_,rfl,growSeq hT gri hS,by omega,by omega,fun p H1 hp s1 hP=>gName_go ?_⟩
    dsimp only
    refine ⟨_,rfl,p,rfl,hP,fun l0 ts H2 g2 hl0 nl0 hts t1 t4 tnw=>gName_go ?_⟩
    dsimp only
    have hok:HdOk2 ts:=⟨t1,t4⟩
    refine ⟨_,rfl,_,rfl,p,l0,60,ts,rfl,g2.pot,hts,nl0,by omega,by decide,by decide,fun l as rs H3 g3 hlf nl hR rl fit=>gName_go ?_⟩
    dsimp only
    have hrl:rs.length ≤ 60:=by omega
    have fitT:∀ r ∈ rs,fitS ts r:=fun r hr=>(fit r hr).toS
    have hts3:=g3.keep _ _ nl0 hts
    refine ⟨_,rfl,l,_,rfl,.inl (SqL.of hR.lst),fun hh hhn=>⟨Nat.zero_le _,fun u hu'=>?_⟩⟩
    have sh:=same_new hhn (.lst (as.map V.ref))
    have su:=same_new hu' (.tup [])
    refine ⟨_,rfl,l,_,rfl,.inl (SqL.of (su _ _ (sh _ _ hR.lst))),fun dd hdn=>⟨_,_,_,rfl,?_⟩⟩
    have sd:=same_new hdn (.lst (as.map V.ref))
    have s34:=sh.trans (su.trans sd)
    have hRh:RowsAt (upd (upd (upd H3 hh (.lst (as.map V.ref))) u (.tup [])) dd (.lst (as.map V.ref))) hh as rs:=⟨sd _ _ (su _ _ upd_same),hR.len,fun i a r e1 e2=>s34 _ _ (hR.at_ i a r e1 e2)⟩
    have hRd:RowsAt (upd (upd (upd H3 hh (.lst (as.map V.ref))) u (.tup [])) dd (.lst (as.map V.ref))) dd as rs:=⟨upd_same,hR.len,fun i a r e1 e2=>s34 _ _ (hR.at_ i a r e1 e2)⟩
    have hu4:(upd (upd (upd H3 hh (.lst (as.map V.ref))) u (.tup [])) dd (.lst (as.map V.ref))) u = some (.tup []):=sd _ _ upd_same
    have nd:dd ≠ p:=fun e=>by
      obtain ⟨x,y,hp',_⟩:=g3.pot
      rw [e,su _ _ (sh _ _ hp')] at hdn
      cases hdn
    have nh:hh ≠ p:=fun e=>by
      obtain ⟨x,y,hp',_⟩:=g3.pot
      rw [e,hp'] at hhn
      cases hhn
    have hR4:=hR.same s34
    have hts4:=s34 _ _ hts3
    have g4:Grow p H1 (upd (upd (upd H3 hh (.lst (as.map V.ref))) u (.tup [])) dd (.lst (as.map V.ref))):=g2.trans (g3.trans (.same g3.pot s34))
    revert s34 hRh hRd hu4 hR4 hts4 g4
    generalize upd (upd (upd H3 hh (.lst (as.map V.ref))) u (.tup [])) dd (.lst (as.map V.ref)) = H4
    intro s34 hRh hRd hu4 hR4 hts4 g4
    dsimp only
    refine seq_mid (fun σ' H'=>∃ (hl pp dd:Addr) (hd:List Str) (bs:List Addr) (ws:List W2) (das:List Addr),(∃ o8 o9 o10,σ' = [some (.ref a),some (.int (0 + (i:Nat))),some (.ref p),some (.ref hl),some (.ref l),some (.ref hh),some (.ref pp),some (.ref dd),o8,o9,o10])∧Grow p H4 H'∧HdOk2 hd∧ItemsAt W2At H' pp bs ws∧PipeOk2 ts ws∧RowsAt H' dd das (runP2 ws rs)∧(∀ r ∈ runP2 ws rs,fitS hd r)∧(runP2 ws rs).length ≤ 60) (fun T hT'=>?_) ?_
    · refine ⟨_,rfl,p,_,rfl,g4.pot,by decide,by decide,fun d H5 g5 a5 b5=>⟨d,rfl,(p62a a5 (by omega)).1,(p62a a5 (by omega)).2,?_⟩⟩
      refine for_range (fun j σ H'=>∃ (hl pp dd:Addr) (hd:List Str) (bs:List Addr) (ws:List W2) (das:List Addr),(∃ o8 o9 o10,σ = [some (.ref a),some (.int (0 + (i:Nat))),some (.ref p),some (.ref hl),some (.ref l),some (.ref hh),some (.ref pp),some (.ref dd),o8,o9,o10])∧Grow p H4 H'∧HdOk2 hd∧ItemsAt W2At H' pp bs ws∧PipeOk2 ts ws∧RowsAt H' dd das (runP2 ws rs)∧(∀ r ∈ runP2 ws rs,fitS hd r)∧H' hl = some (.lst (hd.map V.str))∧hl ≠ p∧hd = behindP2 ts ws∧ws.length = j∧dd ≠ p∧(runP2 ws rs).length ≤ 60)
        ⟨l0,u,dd,ts,[],[],as,⟨_,_,_,rfl⟩,g5,hok,⟨keepG g4.pot g5 _ _ hu4,rfl,fun i a x e=>by cases e⟩,trivial,hRd.grow g4.pot nd g5,fitT,g5.keep _ _ nl0 hts4,nl0,rfl,rfl,nd,hrl⟩ ?_ ?_
      · rintro j σ H' hj ⟨hl,pp,dd,hd,bs,ws,das,⟨o8,o9,o10,rfl⟩,g',ho,hI,hpk,hRd',fit',hhl,nhl,ehd,hwl,ndd,hlen⟩
        refine gName_go ?_
        dsimp only
        refine ⟨_,rfl,_,rfl,p,hl,hd,rfl,g'.pot,hhl,nhl,ho,fun t w l' x H6 g6 ht hw hl' nl' hwok=>⟨t,_,rfl,SqT.of ht,rfl,_,_,rfl,gName_go ⟨_,_,rfl,gName_go ⟨rfl,?_⟩⟩⟩⟩
        dsimp only
        have hI6:=hI.keep (keepG g'.pot g6) fun _ _ z=>z.keep (keepG g'.pot g6)
        have hR6:=hRd'.grow g'.pot ndd g6
        refine ⟨_,rfl,_,rfl,(by show 1 ≤ sizeLine; decide),fun u2 hu2=>?_⟩
        have s6:=same_new hu2 (.tup [.ref w])
        refine ⟨pp,u2,_,_,rfl,rfl,s6 _ _ hI6.tup,upd_same,?_,fun pp' H7 s7 hpp'=>gName_go ?_⟩
        · rw [List.length_map,hI.len]
          exact Nat.le_trans (show ws.length + 1 ≤ 1000 by omega) (by decide)
        dsimp only
        have s67:=s6.trans s7
        have hw7:=hw.keep (keepT_of s67)
        have hI7:=(hI6.keep (keepT_of s67) fun _ _ z=>z.keep (keepT_of s67)).snoc hpp' hw7
        have hpok:W2Ok hd x:=hwok
        refine ⟨_,rfl,_,rfl,w,dd,x,das,runP2 ws rs,rfl,hw7,hR6.same s67,⟨hd,ho,hpok,fit'⟩,hlen,fun dd' das' H8 s8 hdn' hR8=>gName_go ?_⟩
        obtain ⟨f1,f2⟩:=run2_fit hpok fit'
        have g8:Grow p H4 H8:=g'.trans (g6.trans (.same g6.pot (s67.trans s8)))
        refine ⟨l',pp',dd',behind2 hd x,bs ++ [w],ws ++ [x],das',⟨_,_,_,rfl⟩,g8,behind2_ok ho hpok,hI7.keep (keepT_of s8) fun _ _ z=>z.keep (keepT_of s8),hpk.snoc (by rw [← ehd]; exact hpok),by rw [runP2_snoc]; exact hR8,by rw [runP2_snoc]; exact f1,s8 _ _ (s67 _ _ hl'),nl',by rw [behindP2_snoc,← ehd],by rw [List.length_append,hwl]; rfl,fun e=>?_,by rw [runP2_snoc]; omega⟩
        obtain ⟨y1,y2,hp',_⟩:=g6.pot
        rw [e,s67 _ _ hp'] at hdn'
        cases hdn'
      · rintro σ H' ⟨hl,pp,dd,hd,bs,ws,das,hσ,g',ho,hI,hpk,hRd',fit',_,_,_,_,_,h60⟩
        exact hT' _ _ ⟨hl,pp,dd,hd,bs,ws,das,hσ,g',ho,hI,hpk,hRd',fit',h60⟩
    · rintro σ' H5 ⟨hl,pp,dd,hd,bs,ws,das,⟨o8,o9,o10,rfl⟩,g5,ho,hI,hpk,hRd5,fit5,hF60⟩
      have hRh5:=hRh.grow g4.pot nh g5
      have hR5:=hR4.grow g4.pot nl g5
      have hT5:TabAt H5 Pt qSB:=tab_pot (tab_pot (tab_same hTi s1) hP g4) g4.pot g5
      have gr5:GrowT Pt H H5:=growTrans gri (grow_growT hp (Same.growT s1) (g4.trans g5))
      refine ⟨_,rfl,_,rfl,pp,hh,bs,ws,as,rs,rfl,hI,hRh5,⟨ts,hok,hpk,fitT⟩,hrl,hT5,fun fl fas H6 g6 hT6 hF=>gName_go ?_⟩
      dsimp only
      have hRd6:=hRd5.growT hT5 g6
      have hRh6:=hRh5.growT hT5 g6
      have hR6:=hR5.growT hT5 g6
      have clF:∀ r ∈ runP2 ws rs,clRow r:=fun r hr=>(fit5 r hr).cl
      have clR:∀ r ∈ rs,clRow r:=fun r hr=>(fitT r hr).cl
      refine if_mid (fun b H'=>b = false∧Same H6 H') (fun T hT'=>?_) (fun H' z=>absurd z.1 (by decide)) (fun H' z=>⟨⟨_,_,_,_,_,_,_,_,_,_,rfl⟩,growTrans gr5 (growTrans g6 (Same.growT z.2)),tab_same hT6 z.2⟩)
      refine ⟨_,rfl,_,rfl,.lst ((runP2 ws rs).map rowD),.lst ((runP2 ws rs).map rowD),rows_at hF clF,rows_at hRd6 clF,?_,_,rfl,?_⟩
      · exact Nat.lt_of_le_of_lt (Nat.add_le_add_left (Nat.le_trans (rowsD_depth _) (by decide:2 ≤ 8)) _) hu
      rw [eqD_self]
      refine iteF ⟨_,rfl,_,rfl,.lst (rs.map rowD),.lst (rs.map rowD),rows_at hRh6 clR,rows_at hR6 clR,?_,_,rfl,?_⟩
      · exact Nat.lt_of_le_of_lt (Nat.add_le_add_left (Nat.le_trans (rowsD_depth _) (by decide:2 ≤ 8)) _) hu
      rw [eqD_self]
      have hlF:(fas.map V.ref).length = (runP2 ws rs).length:=by rw [List.length_map,hF.len]
      refine iteF ⟨_,rfl,fl,rfl,⟨_,SqL.of hF.lst⟩,fun D hD=>?_⟩
      refine comp_list (xs:=fas.map V.ref) (fun j σ ys H'=>(∃ o,σ = [o])∧ys = (List.replicate j false).map V.bl∧H' D = some (.lst ys)∧Same H6 H') ⟨⟨none,rfl⟩,rfl,upd_same,same_new hD _⟩ ?_ ?_ ?_ ?_ ?_
      · rintro j σ ys H' _ ⟨_,rfl,h,_⟩
        exact ⟨h,by rw [List.length_map,List.length_replicate]; exact Nat.le_refl _⟩
      · rintro j σ ys H' _ ⟨_,_,_,sm⟩
        exact SqL.of (sm _ _ hF.lst)
      · rw [hlF]; exact Nat.le_trans hF60 (by decide)
      · rintro j x σ ys H' hx ⟨⟨o,rfl⟩,rfl,h,sm⟩
        obtain ⟨b,r,rfl,er,har⟩:=hF.get hx
        have hfr:=fit5 r (List.mem_of_getElem? er)
        rcases snoc_cases r with rfl | ⟨r0,v,rfl⟩
        · have z:=ho.lo
          rw [← hfr.1] at z
          exact absurd z (by decide)
        have hv:isCl v:=hfr.cl v (List.mem_append_right _ (List.mem_singleton.mpr rfl))
        have hrep:(List.replicate j false).map V.bl ++ [.bl false] = (List.replicate (j + 1) false).map V.bl:=by
          rw [List.replicate_succ',List.map_append]
          rfl
        rcases hv with ⟨n,rfl⟩ | ⟨y,rfl⟩
        · refine ⟨_,rfl,_,rfl,b,_,_,_,rfl,rfl,SqT.of (sm _ _ har),atI_last _ _,_,_,false,rfl,.int n,Ki,h,⟨_,rfl⟩,hrep,upd_same,same_put hD sm⟩
        · refine ⟨_,rfl,_,rfl,b,_,_,_,rfl,rfl,SqT.of (sm _ _ har),atI_last _ _,_,_,false,rfl,.str y,Ks,h,⟨_,rfl⟩,hrep,upd_same,same_put hD sm⟩
      · rintro σ ys H' ⟨_,rfl,h,sm⟩
        have e:(List.replicate (fas.map V.ref).length false).any id = false:=by simp
        refine ⟨D,List.replicate (fas.map V.ref).length false,rfl,SqL.of h,_,rfl,?_⟩
        rw [e]
        exact hT' _ _ ⟨rfl,sm⟩
  · rintro σ H' _
    exact q H'
end
end My
set_option maxHeartbeats 8000000
namespace My
open PySem L2
def dkB (K:PySem.W.Frag) (d:Addr) (key:Str) (f:Addr):Bool:=match K.lookup d with
  | some o=>o.cls == .type "dict" && o.dict == none && o.slots.isEmpty && (match o.data with
    | .dict es _=>es.all (fun e=>isExactStrKey e.key) && (match es.findIdx? (fun e=>e.key.isStr key) with
      | some i=>(match es[i]? with
        | some e=>(match e.key,e.val with
          | .str k _,.ref g=>k == key && g == f
          | _,_=>false)
        | none=>false)
      | none=>false)
    | _=>false)
  | none=>false
theorem dk_of {K:PySem.W.Frag} {d:Addr} {key:Str} {f:Addr} (h:dkB K d key f = true):DkAt K d key f:=by
  unfold dkB at h
  split at h
  · rename_i o e
    obtain ⟨c,di,dt,sl⟩:=o
    simp only [Bool.and_eq_true,beq_iff_eq] at h
    obtain ⟨⟨⟨h1,h2⟩,h3⟩,h4⟩:=h
    subst h1 h2
    have h3':sl = #[]:=by simpa using h3
    subst h3'
    split at h4
    · rename_i es ep
      simp only [Bool.and_eq_true] at h4
      obtain ⟨h5,h6⟩:=h4
      split at h6
      · rename_i i ei
        split at h6
        · rename_i en een
          obtain ⟨x,k,v⟩:=en
          split at h6
          · rename_i k' t g e1 e2
            have e1':k = .str k' t:=e1
            have e2':v = .ref g:=e2
            subst e1' e2'
            simp only [Bool.and_eq_true,beq_iff_eq] at h6
            obtain ⟨h7,h8⟩:=h6
            subst h7 h8
            exact ⟨es,ep,i,x,t,e,h5,ei,een⟩
          · cases h6
        · cases h6
      · cases h6
    · cases h4
  · cases h
theorem all_mk {cC Pt:Addr} {l:PySem.W.OpenLaw} {w:World} {K:PySem.W.Frag} {h:Heap} {mg:Str→Option Value} {fa:Addr} (X:K.In h) (G:h.Ns mainGlobals mg) (hfa:mg "law" = some (.ref fa))
    {aR:Addr}
    {f_picked:Addr} {od_picked an_picked:Option Addr} {sl_picked:Array (Option Value)} {oc_picked kV_picked dc_picked pm_picked cd_picked ct_picked:Value}
    {f_run_cut:Addr} {od_run_cut an_run_cut:Option Addr} {sl_run_cut:Array (Option Value)} {oc_run_cut kV_run_cut dc_run_cut pm_run_cut cd_run_cut ct_run_cut:Value}
    {f_sorted_by:Addr} {od_sorted_by an_sorted_by:Option Addr} {sl_sorted_by:Array (Option Value)} {oc_sorted_by kV_sorted_by dc_sorted_by pm_sorted_by  ct_sorted_by:Value}
    {f_run_sort:Addr} {od_run_sort an_run_sort:Option Addr} {sl_run_sort:Array (Option Value)} {oc_run_sort kV_run_sort dc_run_sort pm_run_sort cd_run_sort ct_run_sort:Value}
    {f_run_apart:Addr} {od_run_apart an_run_apart:Option Addr} {sl_run_apart:Array (Option Value)} {oc_run_apart kV_run_apart dc_run_apart pm_run_apart cd_run_apart ct_run_apart:Value}
    {f_stretches:Addr} {od_stretches an_stretches:Option Addr} {sl_stretches:Array (Option Value)} {oc_stretches kV_stretches dc_stretches pm_stretches cd_stretches ct_stretches:Value}
    {f_run_count:Addr} {od_run_count an_run_count:Option Addr} {sl_run_count:Array (Option Value)} {oc_run_count kV_run_count dc_run_count pm_run_count cd_run_count ct_run_count:Value}
    {f_run_sum:Addr} {od_run_sum an_run_sum:Option Addr} {sl_run_sum:Array (Option Value)} {oc_run_sum kV_run_sum dc_run_sum pm_run_sum cd_run_sum ct_run_sum:Value}
    {f_run_number:Addr} {od_run_number an_run_number:Option Addr} {sl_run_number:Array (Option Value)} {oc_run_number kV_run_number dc_run_number pm_run_number cd_run_number ct_run_number:Value}
    {f_run_first:Addr} {od_run_first an_run_first:Option Addr} {sl_run_first:Array (Option Value)} {oc_run_first kV_run_first dc_run_first pm_run_first cd_run_first ct_run_first:Value}
    {f_run_pipe:Addr} {od_run_pipe an_run_pipe:Option Addr} {sl_run_pipe:Array (Option Value)} {oc_run_pipe kV_run_pipe dc_run_pipe pm_run_pipe cd_run_pipe ct_run_pipe:Value}
    {f_told:Addr} {od_told an_told:Option Addr} {sl_told:Array (Option Value)} {oc_told kV_told dc_told pm_told cd_told ct_told:Value}
    {f__law_cell_at:Addr} {od__law_cell_at an__law_cell_at:Option Addr} {sl__law_cell_at:Array (Option Value)} {oc__law_cell_at kV__law_cell_at dc__law_cell_at pm__law_cell_at cd__law_cell_at ct__law_cell_at:Value}
    {f__law_pot:Addr} {od__law_pot an__law_pot:Option Addr} {sl__law_pot:Array (Option Value)} {oc__law_pot kV__law_pot dc__law_pot pm__law_pot cd__law_pot ct__law_pot:Value}
    {f__law_draw:Addr} {od__law_draw an__law_draw:Option Addr} {sl__law_draw:Array (Option Value)} {oc__law_draw kV__law_draw dc__law_draw pm__law_draw cd__law_draw ct__law_draw:Value}
    {f__law_cell:Addr} {od__law_cell an__law_cell:Option Addr} {sl__law_cell:Array (Option Value)} {oc__law_cell kV__law_cell dc__law_cell pm__law_cell cd__law_cell ct__law_cell:Value}
    {f__law_head:Addr} {od__law_head an__law_head:Option Addr} {sl__law_head:Array (Option Value)} {oc__law_head kV__law_head dc__law_head pm__law_head cd__law_head ct__law_head:Value}
    {f__law_rows:Addr} {od__law_rows an__law_rows:Option Addr} {sl__law_rows:Array (Option Value)} {oc__law_rows kV__law_rows dc__law_rows pm__law_rows cd__law_rows ct__law_rows:Value}
    {f__law_columns:Addr} {od__law_columns an__law_columns:Option Addr} {sl__law_columns:Array (Option Value)} {oc__law_columns kV__law_columns dc__law_columns pm__law_columns cd__law_columns ct__law_columns:Value}
    {f__law_order:Addr} {od__law_order an__law_order:Option Addr} {sl__law_order:Array (Option Value)} {oc__law_order kV__law_order dc__law_order pm__law_order cd__law_order ct__law_order:Value}
    {f__law_is_before:Addr} {od__law_is_before an__law_is_before:Option Addr} {sl__law_is_before:Array (Option Value)} {oc__law_is_before kV__law_is_before dc__law_is_before pm__law_is_before cd__law_is_before ct__law_is_before:Value}
    {f__law_sorted:Addr} {od__law_sorted an__law_sorted:Option Addr} {sl__law_sorted:Array (Option Value)} {oc__law_sorted kV__law_sorted dc__law_sorted pm__law_sorted cd__law_sorted ct__law_sorted:Value}
    {f__law_folded:Addr} {od__law_folded an__law_folded:Option Addr} {sl__law_folded:Array (Option Value)} {oc__law_folded kV__law_folded dc__law_folded pm__law_folded cd__law_folded ct__law_folded:Value}
    {f__law_worker:Addr} {od__law_worker an__law_worker:Option Addr} {sl__law_worker:Array (Option Value)} {oc__law_worker kV__law_worker dc__law_worker pm__law_worker cd__law_worker ct__law_worker:Value}
    {f__law_due:Addr} {od__law_due an__law_due:Option Addr} {sl__law_due:Array (Option Value)} {oc__law_due kV__law_due dc__law_due pm__law_due cd__law_due ct__law_due:Value}
    {f_law:Addr} {od_law an_law:Option Addr} {sl_law:Array (Option Value)} {oc_law kV_law dc_law pm_law cd_law ct_law:Value}
    (a_picked:PySem.W.nsIn K mainGlobals "picked" = some (some (.ref f_picked)))
    (a_run_cut:PySem.W.nsIn K mainGlobals "run_cut" = some (some (.ref f_run_cut)))
    (a_sorted_by:PySem.W.nsIn K mainGlobals "sorted_by" = some (some (.ref f_sorted_by)))
    (a_run_sort:PySem.W.nsIn K mainGlobals "run_sort" = some (some (.ref f_run_sort)))
    (a_run_apart:PySem.W.nsIn K mainGlobals "run_apart" = some (some (.ref f_run_apart)))
    (a_stretches:PySem.W.nsIn K mainGlobals "stretches" = some (some (.ref f_stretches)))
    (a_run_count:PySem.W.nsIn K mainGlobals "run_count" = some (some (.ref f_run_count)))
    (a_run_sum:PySem.W.nsIn K mainGlobals "run_sum" = some (some (.ref f_run_sum)))
    (a_run_number:PySem.W.nsIn K mainGlobals "run_number" = some (some (.ref f_run_number)))
    (a_run_first:PySem.W.nsIn K mainGlobals "run_first" = some (some (.ref f_run_first)))
    (a_run_pipe:PySem.W.nsIn K mainGlobals "run_pipe" = some (some (.ref f_run_pipe)))
    (a_told:PySem.W.nsIn K mainGlobals "told" = some (some (.ref f_told)))
    (a__law_cell_at:PySem.W.nsIn K mainGlobals "_law_cell_at" = some (some (.ref f__law_cell_at)))
    (a__law_pot:PySem.W.nsIn K mainGlobals "_law_pot" = some (some (.ref f__law_pot)))
    (a__law_draw:PySem.W.nsIn K mainGlobals "_law_draw" = some (some (.ref f__law_draw)))
    (a__law_cell:PySem.W.nsIn K mainGlobals "_law_cell" = some (some (.ref f__law_cell)))
    (a__law_head:PySem.W.nsIn K mainGlobals "_law_head" = some (some (.ref f__law_head)))
    (a__law_rows:PySem.W.nsIn K mainGlobals "_law_rows" = some (some (.ref f__law_rows)))
    (a__law_columns:PySem.W.nsIn K mainGlobals "_law_columns" = some (some (.ref f__law_columns)))
    (a__law_order:PySem.W.nsIn K mainGlobals "_law_order" = some (some (.ref f__law_order)))
    (a__law_is_before:PySem.W.nsIn K mainGlobals "_law_is_before" = some (some (.ref f__law_is_before)))
    (a__law_sorted:PySem.W.nsIn K mainGlobals "_law_sorted" = some (some (.ref f__law_sorted)))
    (a__law_folded:PySem.W.nsIn K mainGlobals "_law_folded" = some (some (.ref f__law_folded)))
    (a__law_worker:PySem.W.nsIn K mainGlobals "_law_worker" = some (some (.ref f__law_worker)))
    (a__law_due:PySem.W.nsIn K mainGlobals "_law_due" = some (some (.ref f__law_due)))
    (a_law:PySem.W.nsIn K mainGlobals "law" = some (some (.ref f_law)))
    (l_picked:K.lookup f_picked = some ⟨oc_picked,od_picked,.func (PySem.W.fnOf "picked" "picked" (defArgs sPicked) (defBody sPicked) (defScope sPicked) .none kV_picked dc_picked pm_picked an_picked cd_picked ct_picked),sl_picked⟩) (c_picked:PySem.W.codeIn K cd_picked "picked" = true) (k_picked:PySem.W.keepIn K (.ref f_picked) = true)
    (l_run_cut:K.lookup f_run_cut = some ⟨oc_run_cut,od_run_cut,.func (PySem.W.fnOf "run_cut" "run_cut" (defArgs sRunCut) (defBody sRunCut) (defScope sRunCut) .none kV_run_cut dc_run_cut pm_run_cut an_run_cut cd_run_cut ct_run_cut),sl_run_cut⟩) (c_run_cut:PySem.W.codeIn K cd_run_cut "run_cut" = true) (k_run_cut:PySem.W.keepIn K (.ref f_run_cut) = true)
    (l_sorted_by:K.lookup f_sorted_by = some ⟨oc_sorted_by,od_sorted_by,.func (PySem.W.fnOf "sorted_by" "sorted_by" (defArgs sSortedBy) (defBody sSortedBy) (defScope sSortedBy) .none kV_sorted_by dc_sorted_by pm_sorted_by an_sorted_by (.ref cC) ct_sorted_by),sl_sorted_by⟩) (c_sorted_by:PySem.W.codeIn K (.ref cC) "sorted_by" = true) (k_sorted_by:PySem.W.keepIn K (.ref f_sorted_by) = true)
    (l_run_sort:K.lookup f_run_sort = some ⟨oc_run_sort,od_run_sort,.func (PySem.W.fnOf "run_sort" "run_sort" (defArgs sRunSort) (defBody sRunSort) (defScope sRunSort) .none kV_run_sort dc_run_sort pm_run_sort an_run_sort cd_run_sort ct_run_sort),sl_run_sort⟩) (c_run_sort:PySem.W.codeIn K cd_run_sort "run_sort" = true) (k_run_sort:PySem.W.keepIn K (.ref f_run_sort) = true)
    (l_run_apart:K.lookup f_run_apart = some ⟨oc_run_apart,od_run_apart,.func (PySem.W.fnOf "run_apart" "run_apart" (defArgs sRunApart) (defBody sRunApart) (defScope sRunApart) .none kV_run_apart dc_run_apart pm_run_apart an_run_apart cd_run_apart ct_run_apart),sl_run_apart⟩) (c_run_apart:PySem.W.codeIn K cd_run_apart "run_apart" = true) (k_run_apart:PySem.W.keepIn K (.ref f_run_apart) = true)
    (l_stretches:K.lookup f_stretches = some ⟨oc_stretches,od_stretches,.func (PySem.W.fnOf "stretches" "stretches" (defArgs s_stretches) (defBody s_stretches) (defScope s_stretches) .none kV_stretches dc_stretches pm_stretches an_stretches cd_stretches ct_stretches),sl_stretches⟩) (c_stretches:PySem.W.codeIn K cd_stretches "stretches" = true) (k_stretches:PySem.W.keepIn K (.ref f_stretches) = true)
    (l_run_count:K.lookup f_run_count = some ⟨oc_run_count,od_run_count,.func (PySem.W.fnOf "run_count" "run_count" (defArgs s_run_count) (defBody s_run_count) (defScope s_run_count) .none kV_run_count dc_run_count pm_run_count an_run_count cd_run_count ct_run_count),sl_run_count⟩) (c_run_count:PySem.W.codeIn K cd_run_count "run_count" = true) (k_run_count:PySem.W.keepIn K (.ref f_run_count) = true)
    (l_run_sum:K.lookup f_run_sum = some ⟨oc_run_sum,od_run_sum,.func (PySem.W.fnOf "run_sum" "run_sum" (defArgs s_run_sum) (defBody s_run_sum) (defScope s_run_sum) .none kV_run_sum dc_run_sum pm_run_sum an_run_sum cd_run_sum ct_run_sum),sl_run_sum⟩) (c_run_sum:PySem.W.codeIn K cd_run_sum "run_sum" = true) (k_run_sum:PySem.W.keepIn K (.ref f_run_sum) = true)
    (l_run_number:K.lookup f_run_number = some ⟨oc_run_number,od_run_number,.func (PySem.W.fnOf "run_number" "run_number" (defArgs s_run_number) (defBody s_run_number) (defScope s_run_number) .none kV_run_number dc_run_number pm_run_number an_run_number cd_run_number ct_run_number),sl_run_number⟩) (c_run_number:PySem.W.codeIn K cd_run_number "run_number" = true) (k_run_number:PySem.W.keepIn K (.ref f_run_number) = true)
    (l_run_first:K.lookup f_run_first = some ⟨oc_run_first,od_run_first,.func (PySem.W.fnOf "run_first" "run_first" (defArgs sRunFirst) (defBody sRunFirst) (defScope sRunFirst) .none kV_run_first dc_run_first pm_run_first an_run_first cd_run_first ct_run_first),sl_run_first⟩) (c_run_first:PySem.W.codeIn K cd_run_first "run_first" = true) (k_run_first:PySem.W.keepIn K (.ref f_run_first) = true)
    (l_run_pipe:K.lookup f_run_pipe = some ⟨oc_run_pipe,od_run_pipe,.func (PySem.W.fnOf "run_pipe" "run_pipe" (defArgs s_run_pipe) (defBody s_run_pipe) (defScope s_run_pipe) .none kV_run_pipe dc_run_pipe pm_run_pipe an_run_pipe cd_run_pipe ct_run_pipe),sl_run_pipe⟩) (c_run_pipe:PySem.W.codeIn K cd_run_pipe "run_pipe" = true) (k_run_pipe:PySem.W.keepIn K (.ref f_run_pipe) = true)
    (l_told:K.lookup f_told = some ⟨oc_told,od_told,.func (PySem.W.fnOf "told" "told" (defArgs s_told) (defBody s_told) (defScope s_told) .none kV_told dc_told pm_told an_told cd_told ct_told),sl_told⟩) (c_told:PySem.W.codeIn K cd_told "told" = true) (k_told:PySem.W.keepIn K (.ref f_told) = true)
    (l__law_cell_at:K.lookup f__law_cell_at = some ⟨oc__law_cell_at,od__law_cell_at,.func (PySem.W.fnOf "_law_cell_at" "_law_cell_at" (defArgs sCell) (defBody sCell) (defScope sCell) .none kV__law_cell_at dc__law_cell_at pm__law_cell_at an__law_cell_at cd__law_cell_at ct__law_cell_at),sl__law_cell_at⟩) (c__law_cell_at:PySem.W.codeIn K cd__law_cell_at "_law_cell_at" = true) (k__law_cell_at:PySem.W.keepIn K (.ref f__law_cell_at) = true)
    (l__law_pot:K.lookup f__law_pot = some ⟨oc__law_pot,od__law_pot,.func (PySem.W.fnOf "_law_pot" "_law_pot" (defArgs sPot) (defBody sPot) (defScope sPot) .none kV__law_pot dc__law_pot pm__law_pot an__law_pot cd__law_pot ct__law_pot),sl__law_pot⟩) (c__law_pot:PySem.W.codeIn K cd__law_pot "_law_pot" = true) (k__law_pot:PySem.W.keepIn K (.ref f__law_pot) = true)
    (l__law_draw:K.lookup f__law_draw = some ⟨oc__law_draw,od__law_draw,.func (PySem.W.fnOf "_law_draw" "_law_draw" (defArgs sDraw) (defBody sDraw) (defScope sDraw) .none kV__law_draw dc__law_draw pm__law_draw an__law_draw cd__law_draw ct__law_draw),sl__law_draw⟩) (c__law_draw:PySem.W.codeIn K cd__law_draw "_law_draw" = true) (k__law_draw:PySem.W.keepIn K (.ref f__law_draw) = true)
    (l__law_cell:K.lookup f__law_cell = some ⟨oc__law_cell,od__law_cell,.func (PySem.W.fnOf "_law_cell" "_law_cell" (defArgs sCellL) (defBody sCellL) (defScope sCellL) .none kV__law_cell dc__law_cell pm__law_cell an__law_cell cd__law_cell ct__law_cell),sl__law_cell⟩) (c__law_cell:PySem.W.codeIn K cd__law_cell "_law_cell" = true) (k__law_cell:PySem.W.keepIn K (.ref f__law_cell) = true)
    (l__law_head:K.lookup f__law_head = some ⟨oc__law_head,od__law_head,.func (PySem.W.fnOf "_law_head" "_law_head" (defArgs sHead) (defBody sHead) (defScope sHead) .none kV__law_head dc__law_head pm__law_head an__law_head cd__law_head ct__law_head),sl__law_head⟩) (c__law_head:PySem.W.codeIn K cd__law_head "_law_head" = true) (k__law_head:PySem.W.keepIn K (.ref f__law_head) = true)
    (l__law_rows:K.lookup f__law_rows = some ⟨oc__law_rows,od__law_rows,.func (PySem.W.fnOf "_law_rows" "_law_rows" (defArgs sRows) (defBody sRows) (defScope sRows) .none kV__law_rows dc__law_rows pm__law_rows an__law_rows cd__law_rows ct__law_rows),sl__law_rows⟩) (c__law_rows:PySem.W.codeIn K cd__law_rows "_law_rows" = true) (k__law_rows:PySem.W.keepIn K (.ref f__law_rows) = true)
    (l__law_columns:K.lookup f__law_columns = some ⟨oc__law_columns,od__law_columns,.func (PySem.W.fnOf "_law_columns" "_law_columns" (defArgs sColumns) (defBody sColumns) (defScope sColumns) .none kV__law_columns dc__law_columns pm__law_columns an__law_columns cd__law_columns ct__law_columns),sl__law_columns⟩) (c__law_columns:PySem.W.codeIn K cd__law_columns "_law_columns" = true) (k__law_columns:PySem.W.keepIn K (.ref f__law_columns) = true)
    (l__law_order:K.lookup f__law_order = some ⟨oc__law_order,od__law_order,.func (PySem.W.fnOf "_law_order" "_law_order" (defArgs sOrder) (defBody sOrder) (defScope sOrder) .none kV__law_order dc__law_order pm__law_order an__law_order cd__law_order ct__law_order),sl__law_order⟩) (c__law_order:PySem.W.codeIn K cd__law_order "_law_order" = true) (k__law_order:PySem.W.keepIn K (.ref f__law_order) = true)
    (l__law_is_before:K.lookup f__law_is_before = some ⟨oc__law_is_before,od__law_is_before,.func (PySem.W.fnOf "_law_is_before" "_law_is_before" (defArgs sBefore) (defBody sBefore) (defScope sBefore) .none kV__law_is_before dc__law_is_before pm__law_is_before an__law_is_before cd__law_is_before ct__law_is_before),sl__law_is_before⟩) (c__law_is_before:PySem.W.codeIn K cd__law_is_before "_law_is_before" = true) (k__law_is_before:PySem.W.keepIn K (.ref f__law_is_before) = true)
    (l__law_sorted:K.lookup f__law_sorted = some ⟨oc__law_sorted,od__law_sorted,.func (PySem.W.fnOf "_law_sorted" "_law_sorted" (defArgs sLSorted) (defBody sLSorted) (defScope sLSorted) .none kV__law_sorted dc__law_sorted pm__law_sorted an__law_sorted cd__law_sorted ct__law_sorted),sl__law_sorted⟩) (c__law_sorted:PySem.W.codeIn K cd__law_sorted "_law_sorted" = true) (k__law_sorted:PySem.W.keepIn K (.ref f__law_sorted) = true)
    (l__law_folded:K.lookup f__law_folded = some ⟨oc__law_folded,od__law_folded,.func (PySem.W.fnOf "_law_folded" "_law_folded" (defArgs s__law_folded) (defBody s__law_folded) (defScope s__law_folded) .none kV__law_folded dc__law_folded pm__law_folded an__law_folded cd__law_folded ct__law_folded),sl__law_folded⟩) (c__law_folded:PySem.W.codeIn K cd__law_folded "_law_folded" = true) (k__law_folded:PySem.W.keepIn K (.ref f__law_folded) = true)
    (l__law_worker:K.lookup f__law_worker = some ⟨oc__law_worker,od__law_worker,.func (PySem.W.fnOf "_law_worker" "_law_worker" (defArgs s__law_worker) (defBody s__law_worker) (defScope s__law_worker) .none kV__law_worker dc__law_worker pm__law_worker an__law_worker cd__law_worker ct__law_worker),sl__law_worker⟩) (c__law_worker:PySem.W.codeIn K cd__law_worker "_law_worker" = true) (k__law_worker:PySem.W.keepIn K (.ref f__law_worker) = true)
    (l__law_due:K.lookup f__law_due = some ⟨oc__law_due,od__law_due,.func (PySem.W.fnOf "_law_due" "_law_due" (defArgs s__law_due) (defBody s__law_due) (defScope s__law_due) .none kV__law_due dc__law_due pm__law_due an__law_due cd__law_due ct__law_due),sl__law_due⟩) (c__law_due:PySem.W.codeIn K cd__law_due "_law_due" = true) (k__law_due:PySem.W.keepIn K (.ref f__law_due) = true)
    (l_law:K.lookup f_law = some ⟨oc_law,od_law,.func (PySem.W.fnOf "law" "law" (defArgs s_law) (defBody s_law) (defScope s_law) .none kV_law dc_law pm_law an_law cd_law ct_law),sl_law⟩) (c_law:PySem.W.codeIn K cd_law "law" = true) (k_law:PySem.W.keepIn K (.ref f_law) = true)
    (z_len:PySem.W.nsIn K mainGlobals "len" = some none)
    (z_max:PySem.W.nsIn K mainGlobals "max" = some none)
    (z_abs:PySem.W.nsIn K mainGlobals "abs" = some none)
    (z_divmod:PySem.W.nsIn K mainGlobals "divmod" = some none)
    (z_range:PySem.W.nsIn K mainGlobals "range" = some none)
    (z_tuple:PySem.W.nsIn K mainGlobals "tuple" = some none)
    (z_list:PySem.W.nsIn K mainGlobals "list" = some none)
    (z_isinstance:PySem.W.nsIn K mainGlobals "isinstance" = some none)
    (z_enumerate:PySem.W.nsIn K mainGlobals "enumerate" = some none)
    (z_sum:PySem.W.nsIn K mainGlobals "sum" = some none)
    (z_sorted:PySem.W.nsIn K mainGlobals "sorted" = some none)
    (z_min:PySem.W.nsIn K mainGlobals "min" = some none)
    (z_any:PySem.W.nsIn K mainGlobals "any" = some none)
    (z_bool:PySem.W.nsIn K mainGlobals "bool" = some none)
    (zR:PySem.W.nsIn K mainGlobals "RUNS" = some (some (.ref aR)))
    (kib:PySem.W.kitOne K (.type "int") (.type "bool") = some false)
    (ksb:PySem.W.kitOne K (.type "str") (.type "bool") = some false)
    (d_sort:dkB K aR "sort" f_run_sort = true)
    (d_apart:dkB K aR "apart" f_run_apart = true)
    (d_count:dkB K aR "count" f_run_count = true)
    (d_sum:dkB K aR "sum" f_run_sum = true)
    (d_number:dkB K aR "number" f_run_number = true)
    (d_first:dkB K aR "first" f_run_first = true)
    (d_cut:dkB K aR "cut" f_run_cut = true) :
    ∃ fd:FuncData,(∀ (s:Shared) (v:Value),BindsTo s fd ⟨[v],[]⟩ [("_law_script", v)])∧∀ base:Heap,K.In base→base.Ns mainGlobals mg→base.BuiltinsAt mg Pt→PySem.W.CodeHd base cC Pt→FnOk l.prog w K mg base CX0 9 fa fd ["_law_script"] (spLaw K Pt):=by
  have e:=hfa.symm.trans (PySem.W.mg_of X G a_law)
  cases e
  have F_picked:=fun_mk (st:=sPicked) l_picked c_picked k_picked
  have h_picked:=PySem.W.mg_of X G a_picked
  have b_picked:=F_picked.binds (ps:=["row", "columns"]) fun _ _ _ _ _ _ us hl=>match us,hl with | [_,_],_=>rfl
  have F_run_cut:=fun_mk (st:=sRunCut) l_run_cut c_run_cut k_run_cut
  have h_run_cut:=PySem.W.mg_of X G a_run_cut
  have b_run_cut:=F_run_cut.binds (ps:=["worker", "rows", "place"]) fun _ _ _ _ _ _ us hl=>match us,hl with | [_,_,_],_=>rfl
  have F_sorted_by:=fun_mk (st:=sSortedBy) l_sorted_by c_sorted_by k_sorted_by
  have h_sorted_by:=PySem.W.mg_of X G a_sorted_by
  have b_sorted_by:=F_sorted_by.binds (ps:=["rows", "column", "greatest_first"]) fun _ _ _ _ _ _ us hl=>match us,hl with | [_,_,_],_=>rfl
  have F_run_sort:=fun_mk (st:=sRunSort) l_run_sort c_run_sort k_run_sort
  have h_run_sort:=PySem.W.mg_of X G a_run_sort
  have b_run_sort:=F_run_sort.binds (ps:=["worker", "rows", "place"]) fun _ _ _ _ _ _ us hl=>match us,hl with | [_,_,_],_=>rfl
  have F_run_apart:=fun_mk (st:=sRunApart) l_run_apart c_run_apart k_run_apart
  have h_run_apart:=PySem.W.mg_of X G a_run_apart
  have b_run_apart:=F_run_apart.binds (ps:=["worker", "rows", "place"]) fun _ _ _ _ _ _ us hl=>match us,hl with | [_,_,_],_=>rfl
  have F_stretches:=fun_mk (st:=s_stretches) l_stretches c_stretches k_stretches
  have h_stretches:=PySem.W.mg_of X G a_stretches
  have b_stretches:=F_stretches.binds (ps:=["rows", "columns"]) fun _ _ _ _ _ _ us hl=>match us,hl with | [_,_],_=>rfl
  have F_run_count:=fun_mk (st:=s_run_count) l_run_count c_run_count k_run_count
  have h_run_count:=PySem.W.mg_of X G a_run_count
  have b_run_count:=F_run_count.binds (ps:=["worker", "rows", "place"]) fun _ _ _ _ _ _ us hl=>match us,hl with | [_,_,_],_=>rfl
  have F_run_sum:=fun_mk (st:=s_run_sum) l_run_sum c_run_sum k_run_sum
  have h_run_sum:=PySem.W.mg_of X G a_run_sum
  have b_run_sum:=F_run_sum.binds (ps:=["worker", "rows", "place"]) fun _ _ _ _ _ _ us hl=>match us,hl with | [_,_,_],_=>rfl
  have F_run_number:=fun_mk (st:=s_run_number) l_run_number c_run_number k_run_number
  have h_run_number:=PySem.W.mg_of X G a_run_number
  have b_run_number:=F_run_number.binds (ps:=["worker", "rows", "place"]) fun _ _ _ _ _ _ us hl=>match us,hl with | [_,_,_],_=>rfl
  have F_run_first:=fun_mk (st:=sRunFirst) l_run_first c_run_first k_run_first
  have h_run_first:=PySem.W.mg_of X G a_run_first
  have b_run_first:=F_run_first.binds (ps:=["worker", "rows", "place"]) fun _ _ _ _ _ _ us hl=>match us,hl with | [_,_,_],_=>rfl
  have F_run_pipe:=fun_mk (st:=s_run_pipe) l_run_pipe c_run_pipe k_run_pipe
  have h_run_pipe:=PySem.W.mg_of X G a_run_pipe
  have b_run_pipe:=F_run_pipe.binds (ps:=["pipe", "rows", "prefix"]) fun _ _ _ _ _ _ us hl=>match us,hl with | [_,_,_],_=>rfl
  have F_told:=fun_mk (st:=s_told) l_told c_told k_told
  have h_told:=PySem.W.mg_of X G a_told
  have b_told:=F_told.binds (ps:=["pipe", "rows"]) fun _ _ _ _ _ _ us hl=>match us,hl with | [_,_],_=>rfl
  have F__law_cell_at:=fun_mk (st:=sCell) l__law_cell_at c__law_cell_at k__law_cell_at
  have h__law_cell_at:=PySem.W.mg_of X G a__law_cell_at
  have b__law_cell_at:=F__law_cell_at.binds (ps:=["_law_script", "_law_k"]) fun _ _ _ _ _ _ us hl=>match us,hl with | [_,_],_=>rfl
  have F__law_pot:=fun_mk (st:=sPot) l__law_pot c__law_pot k__law_pot
  have h__law_pot:=PySem.W.mg_of X G a__law_pot
  have b__law_pot:=F__law_pot.binds (ps:=["_law_script", "_law_k"]) fun _ _ _ _ _ _ us hl=>match us,hl with | [_,_],_=>rfl
  have F__law_draw:=fun_mk (st:=sDraw) l__law_draw c__law_draw k__law_draw
  have h__law_draw:=PySem.W.mg_of X G a__law_draw
  have b__law_draw:=F__law_draw.binds (ps:=["_law_pot_here", "_law_many"]) fun _ _ _ _ _ _ us hl=>match us,hl with | [_,_],_=>rfl
  have F__law_cell:=fun_mk (st:=sCellL) l__law_cell c__law_cell k__law_cell
  have h__law_cell:=PySem.W.mg_of X G a__law_cell
  have b__law_cell:=F__law_cell.binds (ps:=["_law_pot_here", "_law_sort"]) fun _ _ _ _ _ _ us hl=>match us,hl with | [_,_],_=>rfl
  have F__law_head:=fun_mk (st:=sHead) l__law_head c__law_head k__law_head
  have h__law_head:=PySem.W.mg_of X G a__law_head
  have b__law_head:=F__law_head.binds (ps:=["_law_pot_here"]) fun _ _ _ _ _ _ us hl=>match us,hl with | [_],_=>rfl
  have F__law_rows:=fun_mk (st:=sRows) l__law_rows c__law_rows k__law_rows
  have h__law_rows:=PySem.W.mg_of X G a__law_rows
  have b__law_rows:=F__law_rows.binds (ps:=["_law_pot_here", "_law_head_here", "_law_most"]) fun _ _ _ _ _ _ us hl=>match us,hl with | [_,_,_],_=>rfl
  have F__law_columns:=fun_mk (st:=sColumns) l__law_columns c__law_columns k__law_columns
  have h__law_columns:=PySem.W.mg_of X G a__law_columns
  have b__law_columns:=F__law_columns.binds (ps:=["_law_pot_here", "_law_wide", "_law_least", "_law_most"]) fun _ _ _ _ _ _ us hl=>match us,hl with | [_,_,_,_],_=>rfl
  have F__law_order:=fun_mk (st:=sOrder) l__law_order c__law_order k__law_order
  have h__law_order:=PySem.W.mg_of X G a__law_order
  have b__law_order:=F__law_order.binds (ps:=["_law_pot_here", "_law_wide"]) fun _ _ _ _ _ _ us hl=>match us,hl with | [_,_],_=>rfl
  have F__law_is_before:=fun_mk (st:=sBefore) l__law_is_before c__law_is_before k__law_is_before
  have h__law_is_before:=PySem.W.mg_of X G a__law_is_before
  have b__law_is_before:=F__law_is_before.binds (ps:=["_law_one", "_law_other", "_law_order_here"]) fun _ _ _ _ _ _ us hl=>match us,hl with | [_,_,_],_=>rfl
  have F__law_sorted:=fun_mk (st:=sLSorted) l__law_sorted c__law_sorted k__law_sorted
  have h__law_sorted:=PySem.W.mg_of X G a__law_sorted
  have b__law_sorted:=F__law_sorted.binds (ps:=["_law_rows_here", "_law_order_here"]) fun _ _ _ _ _ _ us hl=>match us,hl with | [_,_],_=>rfl
  have F__law_folded:=fun_mk (st:=s__law_folded) l__law_folded c__law_folded k__law_folded
  have h__law_folded:=PySem.W.mg_of X G a__law_folded
  have b__law_folded:=F__law_folded.binds (ps:=["_law_worker_here", "_law_rows_here"]) fun _ _ _ _ _ _ us hl=>match us,hl with | [_,_],_=>rfl
  have F__law_worker:=fun_mk (st:=s__law_worker) l__law_worker c__law_worker k__law_worker
  have h__law_worker:=PySem.W.mg_of X G a__law_worker
  have b__law_worker:=F__law_worker.binds (ps:=["_law_pot_here", "_law_head_here"]) fun _ _ _ _ _ _ us hl=>match us,hl with | [_,_],_=>rfl
  have F__law_due:=fun_mk (st:=s__law_due) l__law_due c__law_due k__law_due
  have h__law_due:=PySem.W.mg_of X G a__law_due
  have b__law_due:=F__law_due.binds (ps:=["_law_worker_here", "_law_rows_here"]) fun _ _ _ _ _ _ us hl=>match us,hl with | [_,_],_=>rfl
  have F_law:=fun_mk (st:=s_law) l_law c_law k_law
  have h_law:=PySem.W.mg_of X G a_law
  have B:Blt mg:=⟨PySem.W.mg_none_of X G z_len,PySem.W.mg_none_of X G z_max,PySem.W.mg_none_of X G z_abs,PySem.W.mg_none_of X G z_divmod,PySem.W.mg_none_of X G z_range,PySem.W.mg_none_of X G z_tuple,PySem.W.mg_none_of X G z_list,PySem.W.mg_none_of X G z_isinstance⟩
  have mE:=PySem.W.mg_none_of X G z_enumerate
  have mS:=PySem.W.mg_none_of X G z_sum
  have mSo:=PySem.W.mg_none_of X G z_sorted
  have mM:=PySem.W.mg_none_of X G z_min
  have mA:=PySem.W.mg_none_of X G z_any
  have mBo:=PySem.W.mg_none_of X G z_bool
  have mR:=PySem.W.mg_of X G zR
  refine ⟨PySem.W.fnOf "law" "law" (defArgs s_law) (defBody s_law) (defScope s_law) .none kV_law dc_law pm_law an_law cd_law ct_law,fun s v=>.of_eq rfl,fun base _ _ hBa hCd=>?_⟩
  have g_picked:=ok_picked (P:=l.prog) (w:=w) (mg:=mg) (base:=base) B F_picked 
  have g_run_cut:=ok_runcut (P:=l.prog) (w:=w) (mg:=mg) (base:=base)  F_run_cut (g_picked.mono (by decide)) b_picked k_picked h_picked
  have g_sorted_by:=ok_sortedby (P:=l.prog) (w:=w) (mg:=mg) (base:=base) mSo hCd hBa F_sorted_by rfl
  have g_run_sort:=ok_runsort (P:=l.prog) (w:=w) (mg:=mg) (base:=base)  F_run_sort (g_sorted_by.mono (by decide)) b_sorted_by k_sorted_by h_sorted_by
  have g_run_apart:=ok_runapart (P:=l.prog) (w:=w) (mg:=mg) (base:=base) mE F_run_apart 
  have g_stretches:=ok_stretches (P:=l.prog) (w:=w) (mg:=mg) (base:=base)  F_stretches (g_picked.mono (by decide)) b_picked k_picked h_picked
  have g_run_count:=ok_runcount (P:=l.prog) (w:=w) (mg:=mg) (base:=base) B F_run_count (g_picked.mono (by decide)) b_picked k_picked h_picked (g_stretches.mono (by decide)) b_stretches k_stretches h_stretches
  have g_run_sum:=ok_runsum (P:=l.prog) (w:=w) (mg:=mg) (base:=base) mS F_run_sum (g_picked.mono (by decide)) b_picked k_picked h_picked (g_stretches.mono (by decide)) b_stretches k_stretches h_stretches
  have g_run_number:=ok_runnumber (P:=l.prog) (w:=w) (mg:=mg) (base:=base) mE F_run_number 
  have g_run_first:=ok_runfirst (P:=l.prog) (w:=w) (mg:=mg) (base:=base) B F_run_first 
  have wa:=wkfn2_all (P:=l.prog) (w:=w) (mg:=mg) (base:=base) (Pt:=Pt) (aR:=aR) (L:=3) (by decide) (dk_of d_sort) (dk_of d_apart) (dk_of d_count) (dk_of d_sum) (dk_of d_number) (dk_of d_first) (dk_of d_cut) g_run_sort g_run_apart g_run_count g_run_sum g_run_number g_run_first g_run_cut b_run_sort b_run_apart b_run_count b_run_sum b_run_number b_run_first b_run_cut k_run_sort k_run_apart k_run_count k_run_sum k_run_number k_run_first k_run_cut
  have g_run_pipe:=ok_runpipe (P:=l.prog) (w:=w) (mg:=mg) (base:=base) (Pt:=Pt) (aR:=aR) (L:=3) mE B mR wa F_run_pipe
  have g_told:=ok_told (P:=l.prog) (w:=w) (mg:=mg) (base:=base) (Pt:=Pt) (L:=4) F_told g_run_pipe b_run_pipe k_run_pipe h_run_pipe
  have g__law_cell_at:=ok_cell (P:=l.prog) (w:=w) (mg:=mg) (base:=base) B F__law_cell_at 
  have g__law_pot:=ok_pot (P:=l.prog) (w:=w) (mg:=mg) (base:=base) B F__law_pot (g__law_cell_at.mono (by decide)) b__law_cell_at k__law_cell_at h__law_cell_at
  have g__law_draw:=ok_draw (P:=l.prog) (w:=w) (mg:=mg) (base:=base) B F__law_draw 
  have g__law_cell:=ok_cellL (P:=l.prog) (w:=w) (mg:=mg) (base:=base) B F__law_cell (g__law_draw.mono (by decide)) b__law_draw k__law_draw h__law_draw
  have g__law_head:=ok_head (P:=l.prog) (w:=w) (mg:=mg) (base:=base) B F__law_head (g__law_draw.mono (by decide)) b__law_draw k__law_draw h__law_draw
  have g__law_rows:=ok_rows (P:=l.prog) (w:=w) (mg:=mg) (base:=base) B F__law_rows (g__law_draw.mono (by decide)) b__law_draw k__law_draw h__law_draw (g__law_cell.mono (by decide)) b__law_cell k__law_cell h__law_cell
  have g__law_columns:=ok_columns (P:=l.prog) (w:=w) (mg:=mg) (base:=base) B F__law_columns (g__law_draw.mono (by decide)) b__law_draw k__law_draw h__law_draw
  have g__law_order:=ok_order (P:=l.prog) (w:=w) (mg:=mg) (base:=base) B F__law_order (g__law_draw.mono (by decide)) b__law_draw k__law_draw h__law_draw
  have g__law_is_before:=ok_before (P:=l.prog) (w:=w) (mg:=mg) (base:=base)  F__law_is_before 
  have g__law_sorted:=ok_lsorted (P:=l.prog) (w:=w) (mg:=mg) (base:=base) B F__law_sorted (g__law_is_before.mono (by decide)) b__law_is_before k__law_is_before h__law_is_before
  have g__law_folded:=ok_folded (P:=l.prog) (w:=w) (mg:=mg) (base:=base) B mS F__law_folded 
  have g__law_worker:=ok_workerL (P:=l.prog) (w:=w) (mg:=mg) (base:=base) B F__law_worker (g__law_draw.mono (by decide)) b__law_draw k__law_draw h__law_draw (g__law_order.mono (by decide)) b__law_order k__law_order h__law_order (g__law_columns.mono (by decide)) b__law_columns k__law_columns h__law_columns
  have g__law_due:=ok_due (P:=l.prog) (w:=w) (mg:=mg) (base:=base) B mE F__law_due (g__law_sorted.mono (by decide)) b__law_sorted k__law_sorted h__law_sorted (g__law_folded.mono (by decide)) b__law_folded k__law_folded h__law_folded
  exact ok_law (L:=8) (Pt:=Pt) B mM mA mBo kib ksb F_law (g__law_pot.mono (by decide)) b__law_pot k__law_pot h__law_pot (g__law_head.mono (by decide)) b__law_head k__law_head h__law_head (g__law_rows.mono (by decide)) b__law_rows k__law_rows h__law_rows (g__law_draw.mono (by decide)) b__law_draw k__law_draw h__law_draw (g__law_worker.mono (by decide)) b__law_worker k__law_worker h__law_worker (g__law_due.mono (by decide)) b__law_due k__law_due h__law_due (g_told.mono (by decide)) b_told k_told h_told
theorem walk {l:PySem.W.OpenLaw} {q:Program} {loose:List Str} {XP:(Str→Option Value)→Heap→Prop} {YP:World→Heap→Prop} {d:DefRec} {K:Params→PySem.W.Frag} (c Pt:Addr) (hn:l.most = some 63) (hdf:d.params.defaults = [])
    (hY:∀ (w:World) (h:Heap),YP w h→(K w.params).In h) (hT:∀ (w:World) (h:Heap),YP w h→h.get? Pt = some (PySem.W.tabObj #[])) (hKP:∀ w:World,(K w.params).lookup Pt = none) (hC:∀ w:World,PySem.W.codeHdIn (K w.params) c Pt = true)
    (F:∀ (w:World) (mg:Str→Option Value) (fa:Addr) (h:Heap),(K w.params).In h→h.Ns mainGlobals mg→mg d.name = some (.ref fa) →
      ∃ fd:FuncData,(∀ (s:Shared) (u:Value),BindsTo s fd ⟨[u],[]⟩ [("_law_script", u)])∧∀ base:Heap,(K w.params).In base→base.Ns mainGlobals mg→base.BuiltinsAt mg Pt→PySem.W.CodeHd base c Pt→FnOk l.prog w (K w.params) mg base CX0 9 fa fd ["_law_script"] (spLaw (K w.params) Pt)) :
    PySem.W.WalkO q loose XP YP l.row.toRowW d [] (fun f vs=>PySem.call f vs) :=
  L2.walk_ofT (n:=63) (k:=9) (x:="_law_script") (CX:=fun _=>CX0) (sp:=fun w=>spLaw (K w.params) Pt) c Pt hn (by decide) hdf ⟨rfl,by decide,by decide⟩ hY hT hKP hC F (fun _ _ a ns hl hO hS=>⟨a,ns,rfl,hS,hl,TabAt.nil hO,fun _=>rfl⟩) fun _ _ _ _ _ z=>z
end My
def PySem.W.Fast.tw10368148618411461696 : Nat := 0
def PySem.W.Fast.tw10136754496924840920 : Nat := 0
def PySem.W.Fast.tw9107582215761213125 : Nat := 0
def PySem.W.Fast.tw798950866113819470 : Nat := 0
def PySem.W.Fast.tw13913631038175815220 : Nat := 0
def PySem.W.Fast.tw18355809024231364894 : Nat := 0
def PySem.W.Fast.tw12345825175528573417 : Nat := 0
def PySem.W.Fast.tw318470108564463541 : Nat := 0
def PySem.W.Fast.tw1022833139553540859 : Nat := 0
def PySem.W.Fast.tw14429583001051339314 : Nat := 0
def PySem.W.Fast.tw11036214963290456974 : Nat := 0
def PySem.W.Fast.tw18425559071930828510 : Nat := 0
def PySem.W.Fast.tw3717206177180883289 : Nat := 0
def PySem.W.Fast.tw17644850537835345008 : Nat := 0
open PySem PySem.W PyProof.Rows
set_option maxRecDepth 100000 in
set_option maxHeartbeats 0 in
theorem PySem.Challenge.cw_rowpipes_k32_whole_rows_together_holds : PySem.Challenge.rw_rowpipes_k32_whole_rows_together.Holds := by
  w_on; o_law; k_head; (case hw=>w_witness2)
  k_fill
  refine My.walk (l:=PySem.Challenge.rw_rowpipes_k32_whole_rows_together) 113 109 rfl rfl (fun w h Y=>PySem.W.km_in_of Y) (fun w h Y=>PySem.W.km_tabs_of Y 109 (by decide)) ?hKP ?hC ?F
  case hKP=>intro w; kernel_rfl
  case hC=>intro w; kernel_rfl
  case F =>
    intro w mg fa h KX G hmg
    refine' My.all_mk (cC:=113) (Pt:=109) KX G hmg ?a_picked ?a_run_cut ?a_sorted_by ?a_run_sort ?a_run_apart ?a_stretches ?a_run_count ?a_run_sum ?a_run_number ?a_run_first ?a_run_pipe ?a_told ?a__law_cell_at ?a__law_pot ?a__law_draw ?a__law_cell ?a__law_head ?a__law_rows ?a__law_columns ?a__law_order ?a__law_is_before ?a__law_sorted ?a__law_folded ?a__law_worker ?a__law_due ?a_law ?l_picked ?c_picked ?k_picked ?l_run_cut ?c_run_cut ?k_run_cut ?l_sorted_by ?c_sorted_by ?k_sorted_by ?l_run_sort ?c_run_sort ?k_run_sort ?l_run_apart ?c_run_apart ?k_run_apart ?l_stretches ?c_stretches ?k_stretches ?l_run_count ?c_run_count ?k_run_count ?l_run_sum ?c_run_sum ?k_run_sum ?l_run_number ?c_run_number ?k_run_number ?l_run_first ?c_run_first ?k_run_first ?l_run_pipe ?c_run_pipe ?k_run_pipe ?l_told ?c_told ?k_told ?l__law_cell_at ?c__law_cell_at ?k__law_cell_at ?l__law_pot ?c__law_pot ?k__law_pot ?l__law_draw ?c__law_draw ?k__law_draw ?l__law_cell ?c__law_cell ?k__law_cell ?l__law_head ?c__law_head ?k__law_head ?l__law_rows ?c__law_rows ?k__law_rows ?l__law_columns ?c__law_columns ?k__law_columns ?l__law_order ?c__law_order ?k__law_order ?l__law_is_before ?c__law_is_before ?k__law_is_before ?l__law_sorted ?c__law_sorted ?k__law_sorted ?l__law_folded ?c__law_folded ?k__law_folded ?l__law_worker ?c__law_worker ?k__law_worker ?l__law_due ?c__law_due ?k__law_due ?l_law ?c_law ?k_law ?z_len ?z_max ?z_abs ?z_divmod ?z_range ?z_tuple ?z_list ?z_isinstance ?z_enumerate ?z_sum ?z_sorted ?z_min ?z_any ?z_bool ?zR ?kib ?ksb ?d_sort ?d_apart ?d_count ?d_sum ?d_number ?d_first ?d_cut
    (case a_picked=>k_is)
    (case a_run_cut=>k_is)
    (case a_sorted_by=>k_is)
    (case a_run_sort=>k_is)
    (case a_run_apart=>k_is)
    (case a_stretches=>k_is)
    (case a_run_count=>k_is)
    (case a_run_sum=>k_is)
    (case a_run_number=>k_is)
    (case a_run_first=>k_is)
    (case a_run_pipe=>k_is)
    (case a_told=>k_is)
    (case a__law_cell_at=>k_is)
    (case a__law_pot=>k_is)
    (case a__law_draw=>k_is)
    (case a__law_cell=>k_is)
    (case a__law_head=>k_is)
    (case a__law_rows=>k_is)
    (case a__law_columns=>k_is)
    (case a__law_order=>k_is)
    (case a__law_is_before=>k_is)
    (case a__law_sorted=>k_is)
    (case a__law_folded=>k_is)
    (case a__law_worker=>k_is)
    (case a__law_due=>k_is)
    (case a_law=>k_is)
    (case l_picked=>k_is)
    (case c_picked=>k_is)
    (case k_picked=>k_is)
    (case l_run_cut=>k_is)
    (case c_run_cut=>k_is)
    (case k_run_cut=>k_is)
    (case l_sorted_by=>k_is)
    (case c_sorted_by=>k_is)
    (case k_sorted_by=>k_is)
    (case l_run_sort=>k_is)
    (case c_run_sort=>k_is)
    (case k_run_sort=>k_is)
    (case l_run_apart=>k_is)
    (case c_run_apart=>k_is)
    (case k_run_apart=>k_is)
    (case l_stretches=>k_is)
    (case c_stretches=>k_is)
    (case k_stretches=>k_is)
    (case l_run_count=>k_is)
    (case c_run_count=>k_is)
    (case k_run_count=>k_is)
    (case l_run_sum=>k_is)
    (case c_run_sum=>k_is)
    (case k_run_sum=>k_is)
    (case l_run_number=>k_is)
    (case c_run_number=>k_is)
    (case k_run_number=>k_is)
    (case l_run_first=>k_is)
    (case c_run_first=>k_is)
    (case k_run_first=>k_is)
    (case l_run_pipe=>k_is)
    (case c_run_pipe=>k_is)
    (case k_run_pipe=>k_is)
    (case l_told=>k_is)
    (case c_told=>k_is)
    (case k_told=>k_is)
    (case l__law_cell_at=>k_is)
    (case c__law_cell_at=>k_is)
    (case k__law_cell_at=>k_is)
    (case l__law_pot=>k_is)
    (case c__law_pot=>k_is)
    (case k__law_pot=>k_is)
    (case l__law_draw=>k_is)
    (case c__law_draw=>k_is)
    (case k__law_draw=>k_is)
    (case l__law_cell=>k_is)
    (case c__law_cell=>k_is)
    (case k__law_cell=>k_is)
    (case l__law_head=>k_is)
    (case c__law_head=>k_is)
    (case k__law_head=>k_is)
    (case l__law_rows=>k_is)
    (case c__law_rows=>k_is)
    (case k__law_rows=>k_is)
    (case l__law_columns=>k_is)
    (case c__law_columns=>k_is)
    (case k__law_columns=>k_is)
    (case l__law_order=>k_is)
    (case c__law_order=>k_is)
    (case k__law_order=>k_is)
    (case l__law_is_before=>k_is)
    (case c__law_is_before=>k_is)
    (case k__law_is_before=>k_is)
    (case l__law_sorted=>k_is)
    (case c__law_sorted=>k_is)
    (case k__law_sorted=>k_is)
    (case l__law_folded=>k_is)
    (case c__law_folded=>k_is)
    (case k__law_folded=>k_is)
    (case l__law_worker=>k_is)
    (case c__law_worker=>k_is)
    (case k__law_worker=>k_is)
    (case l__law_due=>k_is)
    (case c__law_due=>k_is)
    (case k__law_due=>k_is)
    (case l_law=>k_is)
    (case c_law=>k_is)
    (case k_law=>k_is)
    (case z_len=>k_is)
    (case z_max=>k_is)
    (case z_abs=>k_is)
    (case z_divmod=>k_is)
    (case z_range=>k_is)
    (case z_tuple=>k_is)
    (case z_list=>k_is)
    (case z_isinstance=>k_is)
    (case z_enumerate=>k_is)
    (case z_sum=>k_is)
    (case z_sorted=>k_is)
    (case z_min=>k_is)
    (case z_any=>k_is)
    (case z_bool=>k_is)
    (case zR=>k_is)
    (case kib=>kernel_rfl)
    (case ksb=>kernel_rfl)
    (case d_sort=>kernel_rfl)
    (case d_apart=>kernel_rfl)
    (case d_count=>kernel_rfl)
    (case d_sum=>kernel_rfl)
    (case d_number=>kernel_rfl)
    (case d_first=>kernel_rfl)
    (case d_cut=>kernel_rfl)
