import PyProof.Rows.All
import Wide.All
import OpenK.AllK
import Wide.FinOn
import Lean
import PyProof.EqAt
import PyProof.EqKinds
import PyProof.TupleCall
import PyProof.NeKinds
import PyProof.Rows.SortShellK
import PyProof.Rows.SortStr
import PyProof.Rows.SortWalk
import PySem.Challenge.RW_rowpipes_k14_whole_sets_combined
set_option Elab.async false
set_option linter.all false
set_option maxRecDepth 100000
set_option maxHeartbeats 0
namespace L2
open PySem PySem.Spec PyProof.Rows
abbrev Key:=Sum Int Str
def keyIs:Key→Value→Bool
  | .inl k,v=>Value.isInt k v
  | .inr x,v=>Value.isStrOf x v
def keyH (w:World):Key→Int
  | .inl k=>hashInt k
  | .inr x=>hashStr w x
theorem keyIs_shape:∀ {k:Key} {v:Value},keyIs k v = true→(∃ i t,k = Sum.inl i∧v = Value.int i t)∨(∃ x t,k = Sum.inr x∧v = Value.str x t)
  | .inl i,v,h=>by
    obtain ⟨t,e⟩:=Value.isInt_shape (k:=i) (v:=v) h
    exact .inl ⟨i,t,rfl,e⟩
  | .inr x,v,h=>by
    obtain ⟨t,e⟩:=Value.isStrOf_shape (x:=x) (v:=v) h
    exact .inr ⟨x,t,rfl,e⟩
theorem keyIs_int (i:Int) (t:Tok):keyIs (.inl i) (.int i t) = true:=by simp [keyIs,Value.isInt]
theorem keyIs_str (x:Str) (t:Tok):keyIs (.inr x) (.str x t) = true:=by simp [keyIs,Value.isStrOf]
theorem key_ll (a b:Int):decide ((Sum.inl a:Key) = Sum.inl b) = (a == b):=by
  by_cases e:a = b
  · subst e; simp
  · have h:¬ (Sum.inl a:Key) = Sum.inl b:=fun q=>e (Sum.inl.inj q)
    rw [decide_eq_false h]
    exact (beq_eq_false_iff_ne.mpr e).symm
theorem key_rr (a b:Str):decide ((Sum.inr a:Key) = Sum.inr b) = decide (a = b):=by
  by_cases e:a = b
  · subst e; simp
  · have h:¬ (Sum.inr a:Key) = Sum.inr b:=fun q=>e (Sum.inr.inj q)
    rw [decide_eq_false h,decide_eq_false e]
theorem key_lr (a:Int) (b:Str):decide ((Sum.inl a:Key) = Sum.inr b) = false:=decide_eq_false (fun q=>nomatch q)
theorem key_rl (a:Str) (b:Int):decide ((Sum.inr a:Key) = Sum.inl b) = false:=decide_eq_false (fun q=>nomatch q)
def mixKind (prog:Program) (w:World):PySem.KeyKind prog w Key where
  is:=keyIs
  hash:=keyH w
  inj:=fun v a b ha hb=>by
    rcases keyIs_shape ha with ⟨i,t,rfl,rfl⟩ | ⟨x,t,rfl,rfl⟩
    · rcases keyIs_shape hb with ⟨j,u,rfl,e⟩ | ⟨y,u,rfl,e⟩
      · injection e with e1 _; rw [e1]
      · exact nomatch e
    · rcases keyIs_shape hb with ⟨j,u,rfl,e⟩ | ⟨y,u,rfl,e⟩
      · exact nomatch e
      · injection e with e1 _; rw [e1]
  byValue:=fun k v h=>by
    rcases keyIs_shape h with ⟨i,t,rfl,rfl⟩ | ⟨x,t,rfl,rfl⟩ <;> rfl
  pyHash:=fun hv h=>by
    rcases keyIs_shape hv with ⟨i,t,rfl,rfl⟩ | ⟨x,t,rfl,rfl⟩
    · exact wpAny_pyHash_int h
    · exact wpAny_pyHash_str h
  eqBool:=fun hu hv h=>by
    rcases keyIs_shape hu with ⟨i,t,rfl,rfl⟩ | ⟨x,t,rfl,rfl⟩
    · rcases keyIs_shape hv with ⟨j,u,rfl,rfl⟩ | ⟨y,u,rfl,rfl⟩
      · rw [key_ll] at h; exact wpAny_eqBool_int h
      · rw [key_lr] at h; exact SeqAt.EqAt.int_str i t y u _ _ _ _ h
    · rcases keyIs_shape hv with ⟨j,u,rfl,rfl⟩ | ⟨y,u,rfl,rfl⟩
      · rw [key_rl] at h; exact SeqAt.EqAt.str_int x t j u _ _ _ _ h
      · rw [key_rr] at h; exact wpAny_eqBool_str h
  «strs»:=fun k x t v h=>by
    rcases keyIs_shape h with ⟨i,u,rfl,e⟩ | ⟨y,u,rfl,e⟩
    · exact nomatch e
    · injection e with e1 _
      subst e1
      cases v <;> rfl
abbrev OKey:=Option Key
def optIs:OKey→Value→Bool
  | none,.none=>true
  | none,_=>false
  | some k,v=>keyIs k v
theorem pyHash_none {prog:Program} {w:World} {A:Around} {E:Value→Shared→Prop} {s:Shared} {Q:Int→Shared→Prop} (h:Q 0xFCA86420 { s with toks:=s.toks + 1 }):wpAny (model prog w) A (pyHash .none) Q E s:=by
  unfold pyHash
  have hv:[Value.none].any Value.onHeap = false:=rfl
  refine wpAny_bind ?_
  rw [cRoomFor,if_neg (by rw [hv]; exact Bool.false_ne_true)]; refine wpAny_pure ?_
  refine wpAny_bind (wpAny_specialOf (typeIs_none s) F.slot_NoneType_hash.lookup ?_)
  show wpAny _ _ (if (some (Value.builtin "NoneType.__hash__") == some Value.none) = true then _ else _) Q E s
  rw [if_neg (by rw [beq_builtin_none]; exact Bool.false_ne_true)]
  refine wpAny_bind (wpAny_specialOf (typeIs_none s) F.slot_NoneType_hash.lookup ?_)
  refine wpAny_bind (wpAny_callSpecialIfBoundUnlessNone?_slot (typeIs_none s) F.slot_NoneType_hash
    (wpAny_call_entry F.slot_NoneType_hash (typeIs_none s) F.entry_NoneType_hash
      (show wpAny _ _ (do ret (← mkInt 0xFCA86420)) _ _ s from wpAny_ret_mkInt ?_) (F.args_NoneType_hash_1 _)))
  show wpAny _ _ (if (decide (-(2:Int) ^ 63 ≤ 0xFCA86420) && decide ((0xFCA86420:Int) < 2 ^ 63)) = true then _ else _) Q E _
  rw [if_pos (by decide)]
  exact wpAny_pure h
theorem optIs_shape:∀ {k:OKey} {v:Value},optIs k v = true→(k = none∧v = .none)∨∃ k',k = some k'∧keyIs k' v = true
  | none,.none,_=>.inl ⟨rfl,rfl⟩
  | some k,v,h=>.inr ⟨k,rfl,h⟩
theorem key_some (a b:Key):decide ((some a:OKey) = some b) = decide (a = b):=by
  by_cases e:a = b
  · subst e; simp
  · rw [decide_eq_false e,decide_eq_false (fun q=>e (Option.some.inj q))]
theorem key_no (a:Key):decide ((some a:OKey) = none) = false:=decide_eq_false (fun q=>nomatch q)
theorem key_on (a:Key):decide ((none:OKey) = some a) = false:=decide_eq_false (fun q=>nomatch q)
def optKind (prog:Program) (w:World):PySem.KeyKind prog w OKey where
  is:=optIs
  hash:=fun k=>match k with | none=>0xFCA86420 | some k=>keyH w k
  inj:=fun v a b ha hb=>by
    rcases optIs_shape ha with ⟨rfl,rfl⟩ | ⟨a',rfl,ha'⟩
    · rcases optIs_shape hb with ⟨rfl,_⟩ | ⟨b',rfl,hb'⟩
      · rfl
      · rcases keyIs_shape hb' with ⟨j,u,_,e⟩ | ⟨y,u,_,e⟩ <;> exact nomatch e
    · rcases optIs_shape hb with ⟨rfl,rfl⟩ | ⟨b',rfl,hb'⟩
      · rcases keyIs_shape ha' with ⟨j,u,_,e⟩ | ⟨y,u,_,e⟩ <;> exact nomatch e
      · rw [(mixKind prog w).inj v a' b' ha' hb']
  byValue:=fun k v h=>by
    rcases optIs_shape h with ⟨rfl,rfl⟩ | ⟨k',rfl,h'⟩
    · rfl
    · exact (mixKind prog w).byValue k' v h'
  pyHash:=fun hv h=>by
    rcases optIs_shape hv with ⟨rfl,rfl⟩ | ⟨k',rfl,h'⟩
    · exact pyHash_none h
    · exact (mixKind prog w).pyHash h' h
  eqBool:=fun {A E s a b u v Q} hu hv h=>by
    rcases optIs_shape hu with ⟨rfl,rfl⟩ | ⟨k,rfl,hk⟩
    · rcases optIs_shape hv with ⟨rfl,rfl⟩ | ⟨l,rfl,hl⟩
      · unfold eqBool
        refine wpAny_holding ?_
        rw [decide_eq_true rfl] at h
        exact wpAny_ite_split (fun _=>wpAny_bind (wpAny_rule (wpAny_pure h))) (fun hn=>absurd rfl hn)
      · rw [key_on] at h
        rcases keyIs_shape hl with ⟨j,u,rfl,rfl⟩ | ⟨y,u,rfl,rfl⟩
        · exact SeqAt.EqAt.none_int j u _ _ _ _ h
        · exact SeqAt.EqAt.none_str y u _ _ _ _ h
    · rcases optIs_shape hv with ⟨rfl,rfl⟩ | ⟨l,rfl,hl⟩
      · rw [key_no] at h
        rcases keyIs_shape hk with ⟨j,u,rfl,rfl⟩ | ⟨y,u,rfl,rfl⟩
        · exact SeqAt.EqAt.int_none j u _ _ _ _ h
        · exact SeqAt.EqAt.str_none y u _ _ _ _ h
      · rw [key_some] at h
        exact (mixKind prog w).eqBool hk hl h
  «strs»:=fun k x t v h=>by
    rcases optIs_shape h with ⟨_,e⟩ | ⟨k',rfl,h'⟩
    · exact nomatch e
    · exact (mixKind prog w).strs k' x t v h'
inductive V where
  | non | bl (b:Bool) | int (i:Int) | str (x:Str) | byt (b:Array UInt8) | flt (b:UInt64) | ref (a:Addr) | ty (n:String)
  deriving DecidableEq
def RelV:V→Value→Prop
  | .non,u=>u = Value.none
  | .bl b,u=>u = Value.bool b
  | .int i,u=>∃ t,u = Value.int i t
  | .str x,u=>∃ t,u = Value.str x t
  | .byt b,u=>∃ t,u = Value.bytes b t
  | .flt b,u=>∃ t,u = Value.float b t
  | .ref a,u=>u = Value.ref a
  | .ty n,u=>u = Value.type n
abbrev Vals:List V→List Value→Prop:=Paired RelV
theorem Vals.length {xs:List V} {us:List Value} (r:Vals xs us):xs.length = us.length:=Paired.length r
theorem Vals.get:∀ {xs:List V} {us:List Value} {i:Nat} {x:V},Vals xs us→xs[i]? = some x→∃ u,us[i]? = some u∧RelV x u
  | _,_,_,_,.nil,e=>by simp at e
  | _,_,0,_,.cons r _,e=>by simp at e; subst e; exact ⟨_,rfl,r⟩
  | _,_,i + 1,x,.cons _ t,e=>by
    obtain ⟨u,h1,h2⟩:=Vals.get (i:=i) (x:=x) t (by simpa using e)
    exact ⟨u,by simpa using h1,h2⟩
theorem Vals.set {x:V} {u:Value} (r:RelV x u):∀ {xs:List V} {us:List Value} (i:Nat),Vals xs us→Vals (xs.set i x) (us.set i u)
  | _,_,_,.nil=>.nil
  | _,_,0,.cons _ t=>.cons r t
  | _,_,i + 1,.cons q t=>.cons q (Vals.set r i t)
theorem Vals.append:∀ {xs ys:List V} {us ws:List Value},Vals xs us→Vals ys ws→Vals (xs ++ ys) (us ++ ws)
  | _,_,_,_,.nil,s=>s
  | _,_,_,_,.cons r t,s=>.cons r (Vals.append t s)
def RelO:Option V→Option Value→Prop
  | some v,some u=>RelV v u
  | none,none=>True
  | _,_=>False
def KV {κ:Type}:List (κ×V)→List (κ×Value)→Prop:=Paired fun (p:κ×V) (q:κ×Value)=>p.1 = q.1∧RelV p.2 q.2
def kV:Key→V
  | .inl i=>.int i
  | .inr x=>.str x
def oV:OKey→V
  | none=>.non
  | some k=>kV k
inductive HO where
  | lst (xs:List V)
  | tup (xs:List V)
  | dK (kvs:List (Key×V)) | dT (kvs:List (List OKey×V))
  | set (S:Int→Bool) (n:Nat)
  | ins (C dx:Addr) (fs:List (Str×V))
  | own (x:Addr)
  | xd (fs:List (Str×V))
  | met (f x:Addr)
  | rng (lo hi:Int)
  | frz (o:Obj) (u:HO)
  | tbl (ps:Array Value)
  | ext (φ:Heap→Prop)
abbrev Hp:=Addr→Option HO
def upd (H:Hp) (a:Addr) (o:HO):Hp:=fun b=>if b = a then some o else H b
theorem upd_same {H:Hp} {a:Addr} {o:HO}:upd H a o a = some o:=by unfold upd; rw [if_pos rfl]
theorem upd_ne {H:Hp} {a b:Addr} {o:HO} (h:b ≠ a):upd H a o b = H b:=by unfold upd; rw [if_neg h]
theorem ne_of {H:Hp} {a b:Addr} {o u:HO} (h:H a = some o) (h':H b = some u) (d:o ≠ u):a ≠ b:=by
  intro e; subst e; rw [h] at h'; exact d (Option.some.inj h')
theorem ne_of_none {H:Hp} {a b:Addr} {o:HO} (h:H a = some o) (h':H b = none):a ≠ b:=by
  intro e; subst e; rw [h] at h'; cases h'
def IsTupN (h:Heap) (a:Addr) (items:Array Value):Prop:=∃ o,h.get? a = some o∧o.cls = .type "tuple"∧(∃ n,o.data = .seq items n)∧o.dict = none
theorem IsTupN.tup {h:Heap} {a:Addr} {items:Array Value} (x:IsTupN h a items):IsTup h a items:=let ⟨o,ho,hc,hd,_⟩:=x; ⟨o,ho,hc,hd⟩
theorem IsTupN.new (h:Heap) (items:Array Value):IsTupN (h.push { cls:=.type "tuple", data:=.seq items }) h.objs.size items:=⟨_,Heap.get?_push_size _ rfl,rfl,⟨_,rfl⟩,rfl⟩
section
variable (P:Program) (w:World)
def ObjOk (H:Hp) (h:Heap) (a:Addr):HO→Prop
  | .lst xs=>xs.length ≤ sizeLine∧∃ (its:List Value) (n:Nat),Vals xs its∧h.get? a = some { cls:=.type "list", data:=.seq its.toArray n }
  | .tup xs=>xs.length ≤ sizeLine∧∃ its:List Value,Vals xs its∧IsTupN h a its.toArray
  | .dK kvs=>kvs.length ≤ sizeLine∧(a == sysModules) = false∧∃ vs,KV kvs vs∧h.DictOf (mixKind P w) a vs
  | .dT kvs=>kvs.length ≤ sizeLine∧(a == sysModules) = false∧∃ xs:List (List OKey×Addr×Value),
      Paired (fun (p:List OKey×V) (q:List OKey×Addr×Value)=>p.1 = q.1∧H q.2.1 = some (.tup (p.1.map oV))∧RelV p.2 q.2.2) kvs xs ∧
      ∃ o es ep,h.get? a = some o∧o.ExactDict∧o.data = .dict es ep∧es.toList = xs.map (entryOfKey (tupleKind (optKind P w)))∧(xs.map (·.1)).Nodup
  | .set S n=>h.SetOf (intKind P w) a S n
  | .ins C dx fs=>H dx = some (.own a)∧fs.length ≤ 1000∧dx ≠ a∧h.get? a = some (PySem.W.instObj C dx) ∧
      ∃ mA,h.Ns1 dx mA∧(∀ f,RelO (fs.lookup f) (mA f))∧PySem.Within mA (fs.map (·.1))
  | .own _=>∃ o,h.get? a = some o
  | .xd fs=>∃ mA,h.Ns1 a mA∧∀ f,RelO (fs.lookup f) (mA f)
  | .rng lo hi=>∃ t u v,h.get? a = some { cls:=.type "range", data:=.fields #[.int lo t,.int hi u,.int 1 v] }
  | .frz o u=>h.get? a = some o∧ObjOk H h a u
  | .tbl ps=>h.get? a = some { cls:=.none,data:=.fields ps }
  | .met f x=>h.get? a = some (PySem.W.methodObj (.ref f) (.ref x))
  | .ext φ=>φ h∧(∃ o,h.get? a = some o)∧∀ h1 h2:Heap,φ h1→(∀ o,h1.get? a = some o→h2.get? a = some o)→φ h2
def HOk (H:Hp) (h:Heap):Prop:=∀ a o,H a = some o→ObjOk P w H h a o
end
section
variable {P:Program} {w:World} {H H':Hp} {h h':Heap} {a:Addr} {o:HO}
theorem ObjOk.lt (x:ObjOk P w H h a o):a < h.objs.size:=by
  cases o with
  | lst xs=>obtain ⟨_,_,_,_,e⟩:=x; exact Heap.lt_size e
  | tup xs=>obtain ⟨_,_,_,p⟩:=x; exact p.tup.lt
  | dK kvs=>obtain ⟨_,_,_,_,o,_,_,e,_⟩:=x; exact Heap.lt_size e
  | dT kvs=>obtain ⟨_,_,_,_,o,_,_,e,_⟩:=x; exact Heap.lt_size e
  | set S n=>obtain ⟨o,_,_,_,e,_⟩:=x; exact Heap.lt_size e
  | ins C dx fs=>obtain ⟨_,_,_,e,_⟩:=x; exact Heap.lt_size e
  | own y=>obtain ⟨_,e⟩:=x; exact Heap.lt_size e
  | xd fs=>obtain ⟨_,⟨_,_,_,e,_⟩,_⟩:=x; exact Heap.lt_size e
  | rng lo hi=>obtain ⟨_,_,_,e⟩:=x; exact Heap.lt_size e
  | frz ob u=>obtain ⟨e,_⟩:=x; exact Heap.lt_size e
  | tbl ps=>exact Heap.lt_size (show h.get? a = some _ from x)
  | met f y=>exact Heap.lt_size (show h.get? a = some _ from x)
  | ext φ=>obtain ⟨_,⟨_,e⟩,_⟩:=x; exact Heap.lt_size e
theorem Paired.mapP {α β:Type} {F G:α→β→Prop}:∀ {l₁:List α} {l₂:List β},Paired F l₁ l₂→(∀ a b,F a b→G a b)→Paired G l₁ l₂
  | _,_,.nil,_=>.nil
  | _,_,.cons r t,f=>.cons (f _ _ r) (Paired.mapP t f)
theorem ObjOk.stay (x:ObjOk P w H h a o) (k:∀ b u,(b = a∨H b = some (.own a))→h.get? b = some u→h'.get? b = some u)
    (ho:∀ b,H b = some (.own a)→H' b = some (.own a)) (ht:∀ b xs,H b = some (.tup xs)→H' b = some (.tup xs)):ObjOk P w H' h' a o:=by
  induction o with
  | lst xs=>obtain ⟨z,its,n,r,e⟩:=x; exact ⟨z,its,n,r,k _ _ (.inl rfl) e⟩
  | tup xs=>obtain ⟨z,its,r,ob,e,c⟩:=x; exact ⟨z,its,r,ob,k _ _ (.inl rfl) e,c⟩
  | dK kvs=>obtain ⟨z,y,vs,r,ob,es,ep,e,c⟩:=x; exact ⟨z,y,vs,r,ob,es,ep,k _ _ (.inl rfl) e,c⟩
  | dT kvs =>
    obtain ⟨z,y,xs,r,ob,es,ep,e,c⟩:=x
    exact ⟨z,y,xs,Paired.mapP r fun p q z=>⟨z.1,ht _ _ z.2.1,z.2.2⟩,ob,es,ep,k _ _ (.inl rfl) e,c⟩
  | set S n=>obtain ⟨ob,es,ep,t,e,c⟩:=x; exact ⟨ob,es,ep,t,k _ _ (.inl rfl) e,c⟩
  | ins C dx fs =>
    obtain ⟨d,z,ne,e,mA,⟨od,es,ep,e2,c⟩,r⟩:=x
    exact ⟨ho _ d,z,ne,k _ _ (.inl rfl) e,mA,⟨od,es,ep,k _ _ (.inr d) e2,c⟩,r⟩
  | own y=>obtain ⟨ob,e⟩:=x; exact ⟨ob,k _ _ (.inl rfl) e⟩
  | xd fs=>obtain ⟨mA,⟨od,es,ep,e,c⟩,r⟩:=x; exact ⟨mA,⟨od,es,ep,k _ _ (.inl rfl) e,c⟩,r⟩
  | rng lo hi=>obtain ⟨t,u,v,e⟩:=x; exact ⟨t,u,v,k _ _ (.inl rfl) e⟩
  | frz ob u ih=>obtain ⟨e,q⟩:=x; exact ⟨k _ _ (.inl rfl) e,ih q⟩
  | tbl ps =>
    have e:h.get? a = some { cls:=.none,data:=.fields ps }:=x
    show h'.get? a = some { cls:=.none,data:=.fields ps }
    exact k a _ (.inl rfl) e
  | met f y =>
    have e:h.get? a = some (PySem.W.methodObj (.ref f) (.ref y)):=x
    show h'.get? a = some (PySem.W.methodObj (.ref f) (.ref y))
    exact k a _ (.inl rfl) e
  | ext φ=>obtain ⟨p,⟨o,e⟩,st⟩:=x; exact ⟨st _ _ p fun o q=>k _ _ (.inl rfl) q,⟨o,k _ _ (.inl rfl) e⟩,st⟩
theorem HOk.lt (x:HOk P w H h) (e:H a = some o):a < h.objs.size:=(x a o e).lt
theorem HOk.fresh (x:HOk P w H h) (e:h.objs.size ≤ a):H a = none:=by
  cases q:H a with
  | none=>rfl
  | some u=>exact absurd (Nat.lt_of_lt_of_le (x.lt q) e) (Nat.lt_irrefl _)
theorem HOk.kept (x:HOk P w H h) (k:∀ b u,h.get? b = some u→h'.get? b = some u):HOk P w H h':=fun a o e =>
  (x a o e).stay (fun b u _ q=>k b u q) (fun _ q=>q) fun _ _ q=>q
theorem HOk.laid (x:HOk P w H h) (k:∀ b u,h.get? b = some u→h'.get? b = some u) (hp:h.objs.size ≤ a) (new:ObjOk P w (upd H a o) h' a o):HOk P w (upd H a o) h':=fun b u e=>by
  have hn:=x.fresh hp
  by_cases hb:b = a
  · subst hb; rw [upd_same] at e; cases e; exact new
  · rw [upd_ne hb] at e
    exact (x b u e).stay (fun c v _ q=>k c v q) (fun c q=>by rw [upd_ne (ne_of_none q hn)]; exact q) fun c xs q=>by rw [upd_ne (ne_of_none q hn)]; exact q
end
def Rd (H:Hp) (a:Addr) (u:HO):Prop:=H a = some u∨∃ o,H a = some (.frz o u)
theorem Rd.ok {P:Program} {w:World} {H:Hp} {h:Heap} {a:Addr} {u:HO} (r:Rd H a u) (x:HOk P w H h):ObjOk P w H h a u:=by
  rcases r with r | ⟨o,r⟩
  · exact x a u r
  · obtain ⟨_,q⟩:=x a _ r
    exact q
def Mut:Option HO→Prop
  | some (.lst _)=>True
  | some (.dK _)=>True
  | some (.dT _)=>True
  | some (.set _ _)=>True
  | some (.ins _ _ _)=>True
  | some (.ext _)=>True
  | _=>False
section
variable {P:Program} {w:World} {H:Hp} {h h':Heap} {x e:Addr} {o':HO}
theorem HOk.write (ok:HOk P w H h) (mu:Mut (H x)) (he:e = x∨H e = some (.own x)) (k:∀ b u,b ≠ e→h.get? b = some u→h'.get? b = some u) (heo:∃ u,h'.get? e = some u)
    (new:ObjOk P w (upd H x o') h' x o'):HOk P w (upd H x o') h':=fun b u q=>by
  have nown:∀ c y,H c = some (.own y)→c ≠ x:=fun c y r z=>by subst z; rw [r] at mu; exact mu
  have ntup:∀ c xs,H c = some (.tup xs)→c ≠ x:=fun c xs r z=>by subst z; rw [r] at mu; exact mu
  by_cases hb:b = x
  · subst hb; rw [upd_same] at q; cases q; exact new
  · rw [upd_ne hb] at q
    by_cases hbe:b = e
    · have q':H b = some (.own x):=by
        rcases he with z | z
        · exact absurd (hbe.trans z) hb
        · rw [hbe]; exact z
      rw [q] at q'; cases q'
      obtain ⟨v,hv⟩:=heo
      exact ⟨v,by rw [hbe]; exact hv⟩
    · refine (ok b u q).stay (fun c v hc r=>k c v ?_ r) (fun c r=>by rw [upd_ne (nown c b r)]; exact r) fun c xs r=>by rw [upd_ne (ntup c xs r)]; exact r
      rcases hc with rfl | hc
      · exact hbe
      · rintro rfl
        rcases he with z | z
        · exact nown c b hc z
        · rw [hc] at z; cases z; exact hb rfl
end
structure Un (fs ex:List Addr) (H H':Hp) (h h':Heap):Prop where
  keep:∀ b o,h.get? b = some o→H b = none→b ∉ fs→b ∉ ex→h'.get? b = some o
  slot:∀ b o,h.get? b = some o→H b = none→b ∈ fs→b ∉ ex→∃ sl,h'.get? b = some { o with slots:=sl }
  free:∀ b o,h.get? b = some o→H b = none→b ∉ ex→H' b = none
  there:∀ b o,h.get? b = some o→b ∉ ex→∃ o',h'.get? b = some o'
  tups:∀ b xs,H b = some (.tup xs)→H' b = some (.tup xs)
  frzs:∀ b o u,H b = some (.frz o u)→H' b = some (.frz o u)
  tbls:∀ b ps,H b = some (.tbl ps)→∃ more,H' b = some (.tbl (ps ++ more))
section
variable {fs fs' ex ex':List Addr} {H H1 H2:Hp} {h h1 h2 h':Heap} {a x e:Addr} {o:HO}
theorem Un.any (u:Un fs ex H H1 h h1) {b:Addr} {ob:Obj} (q:h.get? b = some ob) (n:H b = none) (hx:b ∉ ex):∃ sl,h1.get? b = some { ob with slots:=sl }:=by
  by_cases hb:b ∈ fs
  · exact u.slot b ob q n hb hx
  · exact ⟨ob.slots,u.keep b ob q n hb hx⟩
theorem Un.kept (k:∀ b u,h.get? b = some u→h'.get? b = some u):Un fs ex H H h h' :=
  ⟨fun b ob q _ _ _=>k b ob q,fun b ob q _ _ _=>⟨ob.slots,k b ob q⟩,fun _ _ _ n _=>n,fun b ob q _=>⟨ob,k b ob q⟩,fun _ _ q=>q,fun _ _ _ q=>q,fun _ ps q=>⟨#[],by rw [q]; simp⟩⟩
theorem Un.refl:Un fs ex H H h h:=Un.kept fun _ _ q=>q
theorem Un.laid (k:∀ b u,h.get? b = some u→h'.get? b = some u) (hp:h.objs.size ≤ a) (hn:H a = none):Un fs ex H (upd H a o) h h' where
  keep:=fun b u q _ _ _=>k b u q
  slot:=fun b u q _ _ _=>⟨u.slots,k b u q⟩
  free:=fun b u q n _=>by rw [upd_ne (Nat.ne_of_lt (Nat.lt_of_lt_of_le (Heap.lt_size q) hp))]; exact n
  there:=fun b u q _=>⟨u,k b u q⟩
  tups:=fun b xs q=>by rw [upd_ne (ne_of_none q hn)]; exact q
  frzs:=fun b u xs q=>by rw [upd_ne (ne_of_none q hn)]; exact q
  tbls:=fun b ps q=>⟨#[],by rw [upd_ne (ne_of_none q hn),q]; simp⟩
theorem Un.write (mu:Mut (H x)) (he:e = x∨H e = some (.own x)) (k:∀ b u,b ≠ e→h.get? b = some u→h'.get? b = some u) (heo:∃ u,h'.get? e = some u):Un fs ex H (upd H x o) h h':=by
  have hx:∀ b,H b = none→b ≠ x:=fun b n z=>by subst z; rw [n] at mu; exact mu
  have hb:∀ b,H b = none→b ≠ e:=fun b n z=>by
    subst z
    rcases he with r | r
    · exact hx b n r
    · rw [n] at r; cases r
  have hm:∀ b u,H b = some u→¬ Mut (some u)→b ≠ x:=fun b u q nm z=>by subst z; rw [q] at mu; exact nm mu
  refine ⟨fun b u q n _ _=>k b u (hb b n) q,fun b u q n _ _=>⟨u.slots,k b u (hb b n) q⟩,fun b u q n _=>by rw [upd_ne (hx b n)]; exact n,fun b u q _=>?_,
    fun b xs q=>by rw [upd_ne (hm b _ q fun z=>z)]; exact q,fun b u xs q=>by rw [upd_ne (hm b _ q fun z=>z)]; exact q,fun b ps q=>⟨#[],by rw [upd_ne (hm b _ q fun z=>z),q]; simp⟩⟩
  by_cases hbe:b = e
  · subst hbe; exact heo
  · exact ⟨u,k b u hbe q⟩
end
def trk (h:Heap) (H:Hp):List Addr:=(List.range h.objs.size).filter fun a=>(H a).isSome
def hidT (h:Heap) (H:Hp):Heap:=PySem.W.hideAll h (trk h H)
theorem hidT_size (h:Heap) (H:Hp):(hidT h H).objs.size = h.objs.size:=PySem.W.hideAll_size _ _
theorem hidT_get {h:Heap} {H:Hp} {b:Addr} {o:Obj} (e:h.get? b = some o) (n:H b = none):(hidT h H).get? b = some o :=
  PySem.W.hideAll_get _ e fun hm=>by
    have q:(H b).isSome = true:=(List.mem_filter.mp hm).2
    rw [n] at q; simp at q
theorem of_hidT {h:Heap} {H:Hp} {b:Addr} {o:Obj} (e:(hidT h H).get? b = some o):h.get? b = some o∧H b = none:=by
  have e':h.get? b = some o:=PySem.W.of_hideAll (trk h H) e
  refine ⟨e',?_⟩
  cases q:H b with
  | none=>rfl
  | some x =>
    have hm:b ∈ trk h H:=List.mem_filter.mpr ⟨List.mem_range.mpr (Heap.lt_size e'),by simp [q]⟩
    have z:(hidT h H).get? b = none:=PySem.W.hideAll_none (trk h H) hm
    rw [z] at e; cases e
structure Mod (K:PySem.W.Frag) (mg:Str→Option Value) (base:Heap):Prop where
  kin:K.In base
  glob:base.Ns mainGlobals mg
  blt:∃ mb,base.Ns builtinsNs mb∧∀ x:Str,x ≠ "__name__"→mb x = bootBuiltins x
  nolimit:base.NoLimit
structure Cx where
  prog:Program
  w:World
  K:PySem.W.Frag
  mg:Str→Option Value
  base:Heap
  A:Around
  N:List Str
  s₀:Shared
  H₀:Hp
  env:Env
  outer:List Env
  stack:List Env
  ex:List Addr
  fn:Str→Bool
  calm:Bool
  pn:List (Addr×Obj)
  xe:Value→Shared→Prop
def frs (l:List Env):List Addr:=l.filterMap (·.frame)
abbrev Cx.fs (X:Cx):List Addr:=frs X.outer
def Vis (sc:Scope) (x:Str):Prop:=sc.names.lookup x = some .local∨sc.names.lookup x = some .cell∨sc.names.lookup x = some .free
def Loc (sc:Scope) (x:Str):Prop:=sc.names.lookup x = some .local∨sc.names.lookup x = some .cell
def Look (env:Env) (h:Heap) (m:Str→Option Value) (x:Str) (u:Value):Prop :=
  (env.kindOf x = some .local∧m x = some u)∨((env.kindOf x = some .cell∨env.kindOf x = some .free)∧∃ c,env.cells.lookup x = some c∧h.IsCell c (some u))
structure Cx.Ok (X:Cx):Prop where
  mod:Mod X.K X.mg X.base
  kind:X.env.scope.kind = .function
  glob:X.env.globals = mainGlobals
  blt:X.env.builtins = builtinsNs
  above:X.s₀.heap.objs.size ≤ X.env.locals
  inj:∀ x y c,X.env.cells.lookup x = some c→X.env.cells.lookup y = some c→x = y
  has:∀ x,(X.env.kindOf x = some .cell∨X.env.kindOf x = some .free)→∃ c,X.env.cells.lookup x = some c
  cab:∀ x c,X.fn x = true→X.env.cells.lookup x = some c→X.s₀.heap.objs.size ≤ c
  hd:X.calm = true→X.A.handled = none
  frames:X.A.frames = some X.stack
  stk:X.stack = X.outer∨(X.stack = X.env :: X.outer∧X.env.frame = some X.env.locals)
  exf:∀ b ∈ X.ex,b ≠ X.env.locals∧∀ x c,X.env.cells.lookup x = some c→c ≠ b
  bs:∀ b o,X.base.get? b = some o→X.s₀.heap.get? b = some o∧X.H₀ b = none
  bsz:X.base.objs.size ≤ X.s₀.heap.objs.size
  noex:∀ b o,X.base.get? b = some o→b ∉ X.ex
  exfs:∀ b ∈ X.ex,b ∉ X.fs
  funs:X.s₀.heap.FunFrames X.base X.outer
  frf:∀ b ∈ X.fs,X.H₀ b = none
structure Inv (X:Cx) (pins:List (Addr×Obj)) (σ:List (Option V)) (H:Hp) (s:Shared):Prop where
  ok:X.Ok
  os:s.os = X.s₀.os
  bare:AllBare s.gens
  base:Un X.fs X.ex X.H₀ H X.s₀.heap s.heap
  loc:∃ m,s.heap.Ns X.env.locals m∧∀ (i:Nat) (x:Str) (v:V),X.N[i]? = some x→σ[i]? = some (some v)→Vis X.env.scope x→∃ u,RelV v u∧Look X.env s.heap m x u
  cell:∀ x c,X.env.cells.lookup x = some c→∃ v,s.heap.IsCell c v
  free:H X.env.locals = none
  freeC:∀ x c,X.env.cells.lookup x = some c→H c = none
  pin:∀ p ∈ X.pn ++ pins,s.heap.get? p.1 = some p.2∧H p.1 = none∧p.1 ≠ X.env.locals∧p.1 ∉ X.fs∧∀ v,p.2.data ≠ .cell v
  hok:HOk X.prog X.w H s.heap
  len:σ.length = X.N.length
section
variable {X:Cx} {pins:List (Addr×Obj)} {σ:List (Option V)} {H H':Hp} {s:Shared} {h':Heap}
theorem Cx.Ok.nofr (ok:X.Ok) {b:Addr} {o:Obj} (e:X.base.get? b = some o):b ∉ X.fs:=fun hb=>by
  have:=(ok.funs.mem hb).1
  rw [e] at this; cases this
theorem Inv.bs (I:Inv X pins σ H s):∀ b o,X.base.get? b = some o→s.heap.get? b = some o∧H b = none:=fun b o e =>
  ⟨I.base.keep b o (I.ok.bs b o e).1 (I.ok.bs b o e).2 (I.ok.nofr e) (I.ok.noex b o e),I.base.free b o (I.ok.bs b o e).1 (I.ok.bs b o e).2 (I.ok.noex b o e)⟩
theorem Inv.bk (I:Inv X pins σ H s):∀ b o,X.base.get? b = some o→s.heap.get? b = some o:=fun b o e=>(I.bs b o e).1
theorem Inv.mod (I:Inv X pins σ H s):Mod X.K X.mg X.base:=I.ok.mod
theorem Inv.kIn (I:Inv X pins σ H s):X.K.In s.heap:=I.ok.mod.kin.keeps I.bk
theorem Inv.lt (I:Inv X pins σ H s):X.env.locals < s.heap.objs.size:=let ⟨_,hn,_⟩:=I.loc; hn.lt
theorem Inv.sz (I:Inv X pins σ H s):X.s₀.heap.objs.size ≤ s.heap.objs.size:=Nat.le_trans I.ok.above (Nat.le_of_lt I.lt)
theorem Inv.nofs (I:Inv X pins σ H s) {a:Addr} (h:s.heap.objs.size ≤ a):a ∉ X.fs:=fun hb=>by
  obtain ⟨_,o,ho,_⟩:=I.ok.funs.mem hb
  exact absurd (Nat.lt_of_lt_of_le (Heap.lt_size ho) (Nat.le_trans I.sz h)) (Nat.lt_irrefl _)
theorem Inv.cne (I:Inv X pins σ H s):∀ x c,X.env.cells.lookup x = some c→c ≠ X.env.locals:=fun x c e z=>by
  obtain ⟨v,o,ho,hd⟩:=I.cell x c e
  obtain ⟨m,⟨o',es,ep,ho',hd',_⟩,_⟩:=I.loc
  rw [z,ho'] at ho; cases ho; rw [hd'] at hd; cases hd
theorem Inv.funs (I:Inv X pins σ H s):s.heap.FunFrames X.base X.outer:=by
  have all:∀ (l:List Env),(∀ b ∈ frs l,b ∈ X.fs)→X.s₀.heap.FunFrames X.base l→s.heap.FunFrames X.base l:=by
    intro l
    induction l with
    | nil=>intro _ _; trivial
    | cons env r ih =>
      intro hs hl
      obtain ⟨hk,⟨L,o,hf,hn,ho,hd⟩,hr⟩:=hl
      have hL:L ∈ X.fs:=hs L (by unfold frs; rw [List.filterMap_cons,hf]; exact List.mem_cons_self)
      obtain ⟨sl,e⟩:=I.base.slot L o ho (I.ok.frf L hL) hL fun z=>I.ok.exfs L z hL
      exact ⟨hk,⟨L,_,hf,hn,e,hd⟩,ih (fun b hb=>hs b (by unfold frs; rw [List.filterMap_cons,hf]; exact List.mem_cons_of_mem _ hb)) hr⟩
  exact all X.outer (fun _ hb=>hb) I.ok.funs
theorem Inv.stack (I:Inv X pins σ H s):s.heap.FunFrames X.base X.stack:=by
  rcases I.ok.stk with e | ⟨e,hf⟩
  · rw [e]; exact I.funs
  · rw [e]
    obtain ⟨m,hn,_⟩:=I.loc
    refine .cons (by rw [I.ok.kind]; decide) hf hn ?_ I.funs
    exact Heap.get?_none_of_le (Nat.le_trans I.ok.bsz I.ok.above)
theorem Inv.stkSub (I:Inv X pins σ H s):∀ b ∈ frs X.stack,b ∈ X.env.locals :: X.fs:=fun b hb=>by
  rcases I.ok.stk with e | ⟨e,hf⟩
  · rw [e] at hb; exact List.mem_cons_of_mem _ hb
  · rw [e] at hb
    unfold frs at hb
    rw [List.filterMap_cons,hf] at hb
    exact hb
theorem Inv.stkFree (I:Inv X pins σ H s):∀ b ∈ frs X.stack,H b = none:=fun b hb=>by
  rcases List.mem_cons.mp (I.stkSub b hb) with e | hb
  · rw [e]; exact I.free
  · obtain ⟨_,o,ho,_⟩:=I.ok.funs.mem hb
    exact I.base.free b o ho (I.ok.frf b hb) fun z=>I.ok.exfs b z hb
theorem Inv.step {g':Array GenState} {t':Nat} {d':Drawn} {ch:List Addr} (I:Inv X pins σ H s)
    (hch:∀ b ∈ ch,(b ∈ X.ex∨X.s₀.heap.objs.size ≤ b)∧b ≠ X.env.locals∧(∀ x c,X.env.cells.lookup x = some c→c ≠ b)∧∀ p ∈ X.pn ++ pins,p.1 ≠ b)
    (keep:∀ b o,b ≠ X.env.locals→b ∉ X.fs→b ∉ ch→s.heap.get? b = some o→H b = none→h'.get? b = some o)
    (slot:∀ b o,b ≠ X.env.locals→b ∈ X.fs→b ∉ ch→s.heap.get? b = some o→H b = none→∃ sl,h'.get? b = some { o with slots:=sl }) (free:∀ b o,b ∉ ch→s.heap.get? b = some o→H b = none→H' b = none)
    (there:∀ b o,b ∉ ch→s.heap.get? b = some o→∃ o',h'.get? b = some o')
    (tups:∀ b xs,H b = some (.tup xs)→H' b = some (.tup xs)) (frzs:∀ b o u,H b = some (.frz o u)→H' b = some (.frz o u)) (tbls:∀ b ps,H b = some (.tbl ps)→∃ more,H' b = some (.tbl (ps ++ more)))
    (ns:∀ m,s.heap.Ns X.env.locals m→h'.Ns X.env.locals m) (hok:HOk X.prog X.w H' h') (hg:AllBare g') :
    Inv X pins σ H' { s with heap:=h',gens:=g',drawn:=d',toks:=t' }:=by
  have neL:∀ b o,X.s₀.heap.get? b = some o→b ≠ X.env.locals:=fun b o e=>Nat.ne_of_lt (Nat.lt_of_lt_of_le (Heap.lt_size e) I.ok.above)
  have neC:∀ b o,X.s₀.heap.get? b = some o→b ∉ X.ex→b ∉ ch:=fun b o e hx hb=>by
    rcases (hch b hb).1 with z | z
    · exact hx z
    · exact absurd (Nat.lt_of_lt_of_le (Heap.lt_size e) z) (Nat.lt_irrefl _)
  have cellK:∀ x c,X.env.cells.lookup x = some c→∀ v,s.heap.IsCell c v→h'.IsCell c v:=fun x c e v ⟨o,ho,hd⟩=>by
    have nch:c ∉ ch:=fun z=>(hch c z).2.2.1 x c e rfl
    by_cases hc:c ∈ X.fs
    · obtain ⟨sl,q⟩:=slot c o (I.cne x c e) hc nch ho (I.freeC x c e)
      exact ⟨_,q,hd⟩
    · exact ⟨o,keep c o (I.cne x c e) hc nch ho (I.freeC x c e),hd⟩
  refine ⟨I.ok,I.os,hg,⟨fun b o e n hb hx=>?_,fun b o e n hb hx=>?_,fun b o e n hx=>?_,fun b o e hx=>?_,fun b xs e=>tups b xs (I.base.tups b xs e),fun b o xs e=>frzs b o xs (I.base.frzs b o xs e),fun b ps e=>?_⟩,?_,fun x c e=>?_,?_,fun x c e=>?_,fun p hp=>?_,hok,I.len⟩
  · exact keep b o (neL b o e) hb (neC b o e hx) (I.base.keep b o e n hb hx) (I.base.free b o e n hx)
  · obtain ⟨sl,e1⟩:=I.base.slot b o e n hb hx
    obtain ⟨sl',e2⟩:=slot b _ (neL b o e) hb (neC b o e hx) e1 (I.base.free b o e n hx)
    exact ⟨sl',e2⟩
  · obtain ⟨o',e1⟩:=I.base.there b o e hx
    exact free b o' (neC b o e hx) e1 (I.base.free b o e n hx)
  · obtain ⟨o',e1⟩:=I.base.there b o e hx
    exact there b o' (neC b o e hx) e1
  · obtain ⟨m1,e1⟩:=I.base.tbls b ps e
    obtain ⟨m2,e2⟩:=tbls b _ e1
    exact ⟨m1 ++ m2,by rw [e2,Array.append_assoc]⟩
  · obtain ⟨m,hn,hl⟩:=I.loc
    refine ⟨m,ns m hn,fun i x v e1 e2 e3=>?_⟩
    obtain ⟨u,r,l⟩:=hl i x v e1 e2 e3
    refine ⟨u,r,?_⟩
    rcases l with l | ⟨k,c,e,z⟩
    · exact .inl l
    · exact .inr ⟨k,c,e,cellK x c e _ z⟩
  · obtain ⟨v,z⟩:=I.cell x c e
    exact ⟨v,cellK x c e v z⟩
  · obtain ⟨m,⟨o,_,_,ho,_⟩,_⟩:=I.loc
    exact free _ o (fun z=>(hch _ z).2.1 rfl) ho I.free
  · obtain ⟨v,o,ho,hd⟩:=I.cell x c e
    exact free c o (fun z=>(hch c z).2.2.1 x c e rfl) ho (I.freeC x c e)
  · obtain ⟨e,n,ne,nf,d⟩:=I.pin p hp
    have nch:p.1 ∉ ch:=fun z=>(hch p.1 z).2.2.2 p hp rfl
    exact ⟨keep p.1 p.2 ne nf nch e n,free p.1 p.2 nch e n,ne,nf,d⟩
theorem Inv.un {t':Nat} (I:Inv X pins σ H s) (u:Un X.fs [] H H' s.heap h') (hok:HOk X.prog X.w H' h'):Inv X pins σ H' { s with heap:=h',toks:=t' }:=by
  obtain ⟨m,⟨o,es,ep,ho,r⟩,_⟩:=id I.loc
  obtain ⟨sl,hL⟩:=u.any ho I.free (by simp)
  exact I.step (g':=s.gens) (d':=s.drawn) (ch:=[]) (fun _ z=>nomatch z) (fun b o _ hb _ e n=>u.keep b o e n hb (by simp)) (fun b o _ hb _ e n=>u.slot b o e n hb (by simp)) (fun b o _ e n=>u.free b o e n (by simp)) (fun b o _ e=>u.there b o e (by simp)) u.tups u.frzs u.tbls (fun m' hm=>by
    obtain ⟨o',es',ep',ho',r'⟩:=hm
    rw [ho] at ho'; cases ho'
    exact ⟨_,es',ep',hL,r'⟩) hok I.bare
theorem Inv.call {g':Array GenState} {t':Nat} {d':Drawn} {ch:List Addr} (I:Inv X pins σ H s) (u:Un (frs X.stack) ch H H' s.heap h') (hok:HOk X.prog X.w H' h') (hg:AllBare g')
    (hch:∀ b ∈ ch,(b ∈ X.ex∨X.s₀.heap.objs.size ≤ b)∧b ≠ X.env.locals∧(∀ x c,X.env.cells.lookup x = some c→c ≠ b)∧∀ p ∈ X.pn ++ pins,p.1 ≠ b) :
    Inv X pins σ H' { s with heap:=h',gens:=g',drawn:=d',toks:=t' }:=by
  obtain ⟨m,⟨o,es,ep,ho,r⟩,_⟩:=id I.loc
  obtain ⟨sl,hL⟩:=u.any ho I.free fun z=>(hch _ z).2.1 rfl
  exact I.step (ch:=ch) hch (fun b o hL hb hc e n=>u.keep b o e n (fun z=>(List.mem_cons.mp (I.stkSub b z)).elim hL hb) hc) (fun b o _ _ hc e n=>u.any e n hc) (fun b o hc e n=>u.free b o e n hc) (fun b o hc e=>u.there b o e hc) u.tups u.frzs u.tbls (fun m' hm=>by
    obtain ⟨o',es',ep',ho',r'⟩:=hm
    rw [ho] at ho'; cases ho'
    exact ⟨_,es',ep',hL,r'⟩) hok hg
theorem Inv.turned {t':Nat} {it:Addr} (I:Inv X pins σ H s) (k:∀ b o,b ≠ it→s.heap.get? b = some o→h'.get? b = some o) (hn:H it = none) (hL:it ≠ X.env.locals)
    (h1:it ∈ X.ex∨X.s₀.heap.objs.size ≤ it) (h2:∀ x c,X.env.cells.lookup x = some c→c ≠ it) (h3:∀ p ∈ X.pn ++ pins,p.1 ≠ it):Inv X pins σ H { s with heap:=h',toks:=t' }:=by
  have nit:∀ b u,H b = some u→b ≠ it:=fun b u e z=>by rw [z,hn] at e; cases e
  refine I.step (g':=s.gens) (d':=s.drawn) (ch:=[it]) (fun b hb=>?_) (fun b o _ _ hc e _=>k b o (fun z=>hc (by simp [z])) e) (fun b o _ _ hc e _=>⟨o.slots,k b o (fun z=>hc (by simp [z])) e⟩) (fun _ _ _ _ n=>n)
    (fun b o hc e=>⟨o,k b o (fun z=>hc (by simp [z])) e⟩) (fun _ _ e=>e) (fun _ _ _ e=>e) (fun b ps e=>⟨#[],by rw [e]; simp⟩) (fun m hm=>?_) (fun b u e=>?_) I.bare
  · have e:b = it:=by simpa using hb
    subst e
    exact ⟨h1,hL,h2,h3⟩
  · obtain ⟨o,es,ep,ho,r⟩:=hm
    exact ⟨o,es,ep,k _ o (Ne.symm hL) ho,r⟩
  · refine (I.hok b u e).stay (fun c v hc q=>k c v ?_ q) (fun _ q=>q) fun _ _ q=>q
    rcases hc with z | z
    · rw [z]; exact nit b u e
    · exact nit c _ z
theorem Inv.tok (I:Inv X pins σ H s) (t:Nat):Inv X pins σ H { s with toks:=t }:=I.un (h':=s.heap) (t':=t) Un.refl I.hok
theorem Inv.kept {t':Nat} (I:Inv X pins σ H s) (k:∀ b u,s.heap.get? b = some u→h'.get? b = some u):Inv X pins σ H { s with heap:=h',toks:=t' }:=I.un (Un.kept k) (I.hok.kept k)
theorem Inv.laid {a:Addr} {o:HO} {t':Nat} (I:Inv X pins σ H s) (k:∀ b u,s.heap.get? b = some u→h'.get? b = some u) (hp:s.heap.objs.size ≤ a) (new:ObjOk X.prog X.w (upd H a o) h' a o) :
    Inv X pins σ (upd H a o) { s with heap:=h',toks:=t' }:=I.un (Un.laid k hp (I.hok.fresh hp)) (I.hok.laid k hp new)
theorem Inv.write {x e:Addr} {o:HO} {t':Nat} (I:Inv X pins σ H s) (mu:Mut (H x)) (he:e = x∨H e = some (.own x)) (k:∀ b u,b ≠ e→s.heap.get? b = some u→h'.get? b = some u) (heo:∃ u,h'.get? e = some u)
    (new:ObjOk X.prog X.w (upd H x o) h' x o):Inv X pins σ (upd H x o) { s with heap:=h',toks:=t' }:=I.un (Un.write mu he k heo) (I.hok.write mu he k heo new)
theorem Inv.pins_of {pins':List (Addr×Obj)} (I:Inv X pins σ H s) (h:∀ p ∈ pins',s.heap.get? p.1 = some p.2∧H p.1 = none∧p.1 ≠ X.env.locals∧p.1 ∉ X.fs∧∀ v,p.2.data ≠ .cell v):Inv X pins' σ H s :=
  ⟨I.ok,I.os,I.bare,I.base,I.loc,I.cell,I.free,I.freeC,fun p hp=>(List.mem_append.mp hp).elim (fun z=>I.pin p (List.mem_append_left _ z)) (h p),I.hok,I.len⟩
theorem nodup_ix {N:List Str} (hN:N.Nodup) {i j:Nat} {x:Str} (a:N[i]? = some x) (b:N[j]? = some x):i = j:=by
  obtain ⟨h1,e1⟩:=List.getElem?_eq_some_iff.mp a
  obtain ⟨h2,e2⟩:=List.getElem?_eq_some_iff.mp b
  exact (List.getElem_inj hN).mp (e1.trans e2.symm)
theorem store_ok2 {M:Model} {A:Around} {E:Value→Shared→Prop} {i:Nat} {x:Str} {v:V} {u:Value} {Q:Unit→Shared→Prop} (I:Inv X pins σ H s) (hN:X.N.Nodup) (hi:X.N[i]? = some x) (hx:Loc X.env.scope x) (r:RelV v u)
    (h:∀ s',Inv X pins (σ.set i (some v)) H s'→(∃ a,Heap.SameBut a s.heap s'.heap∧(a = X.env.locals∨X.env.cells.lookup x = some a))→Q () s') (hf:X.fn x = true∨X.env.scope.names.lookup x = some .local:=by first | exact .inl rfl | exact .inr rfl | assumption):wpAny M A (storeName X.env x u) Q E s:=by
  obtain ⟨m,hn,hl⟩:=id I.loc
  have hcls:(X.env.scope.kind == .class || (X.env.scope.kind == .module && X.env.locals != X.env.globals)) = false:=by rw [I.ok.kind]; rfl
  have hiσ:i < σ.length:=by rw [I.len]; exact (List.getElem?_eq_some_iff.mp hi).1
  have cne:=I.cne
  have tracked:∀ {a:Addr} {h':Heap},(∃ o,s.heap.get? a = some o∧H a = none)→Heap.SameBut a s.heap h'→HOk X.prog X.w H h':=fun {a h'} ha hs b ob e=>by
    obtain ⟨_,_,hfree⟩:=ha
    refine (I.hok b ob e).stay (fun c w' hc q=>(hs.2 c ?_).trans q) (fun _ q=>q) fun _ _ q=>q
    rintro rfl
    rcases hc with rfl | hc
    · rw [hfree] at e; cases e
    · rw [hfree] at hc; cases hc
  rcases hx with hk | hk
  · refine wpAny_storeName_local hk hn (fun h' hn' hs=>?_) hcls
    obtain ⟨oL,_,_,hoL,_⟩:=id hn
    refine h _ ⟨I.ok,I.os,I.bare,⟨fun b o e n hb hx=>?_,fun b o e n hb hx=>?_,I.base.free,fun b o e hx=>?_,I.base.tups,I.base.frzs,I.base.tbls⟩,⟨_,hn',fun j y v' e1 e2 e3=>?_⟩,fun y c e=>?_,I.free,I.freeC,fun p hp=>?_,tracked ⟨oL,hoL,I.free⟩ hs,by simpa using I.len⟩ ⟨_,hs,.inl rfl⟩
    · exact (hs.2 b (Nat.ne_of_lt (Nat.lt_of_lt_of_le (Heap.lt_size e) I.ok.above))).trans (I.base.keep b o e n hb hx)
    · obtain ⟨sl,e1⟩:=I.base.slot b o e n hb hx
      exact ⟨sl,(hs.2 b (Nat.ne_of_lt (Nat.lt_of_lt_of_le (Heap.lt_size e) I.ok.above))).trans e1⟩
    · obtain ⟨o',e1⟩:=I.base.there b o e hx
      exact ⟨o',(hs.2 b (Nat.ne_of_lt (Nat.lt_of_lt_of_le (Heap.lt_size e) I.ok.above))).trans e1⟩
    · by_cases hj:j = i
      · subst hj
        rw [hi] at e1; cases e1
        rw [List.getElem?_set_self hiσ] at e2
        cases e2
        exact ⟨u,r,.inl ⟨hk,by simp⟩⟩
      · rw [List.getElem?_set_ne (Ne.symm hj)] at e2
        obtain ⟨u',r',q⟩:=hl j y v' e1 e2 e3
        refine ⟨u',r',?_⟩
        rcases q with ⟨k,e⟩ | ⟨k,c,e,z⟩
        · refine .inl ⟨k,?_⟩
          have:y ≠ x:=fun e=>hj (nodup_ix hN e1 (e ▸ hi))
          simp [this,e]
        · exact .inr ⟨k,c,e,z.sameBut hs (cne y c e)⟩
    · obtain ⟨w',z⟩:=I.cell y c e
      exact ⟨w',z.sameBut hs (cne y c e)⟩
    · obtain ⟨e,n,ne,nf,d⟩:=I.pin p hp
      exact ⟨(hs.2 p.1 ne).trans e,n,ne,nf,d⟩
  · have hfn:X.fn x = true:=by
      rcases hf with z | z
      · exact z
      · rw [z] at hk; cases hk
    obtain ⟨c,hc⟩:=I.ok.has x (.inl hk)
    obtain ⟨w',z⟩:=I.cell x c hc
    refine wpAny_storeName_cell I.ok.kind hk hc z (fun h' hc' hs=>?_)
    obtain ⟨oc,hoc,hocd⟩:=id z
    refine h { s with heap:=h' } ⟨I.ok,I.os,I.bare,⟨fun b o e n hb hx=>?_,fun b o e n hb hx=>?_,I.base.free,fun b o e hx=>?_,I.base.tups,I.base.frzs,I.base.tbls⟩,⟨m,hn.sameBut hs (Ne.symm (cne x c hc)),fun j y v' e1 e2 e3=>?_⟩,fun y c' e=>?_,I.free,I.freeC,fun p hp=>?_,tracked ⟨oc,hoc,I.freeC x c hc⟩ hs,by simpa using I.len⟩ ⟨c,hs,.inr hc⟩
    · exact (hs.2 b (Nat.ne_of_lt (Nat.lt_of_lt_of_le (Heap.lt_size e) (I.ok.cab x c hfn hc)))).trans (I.base.keep b o e n hb hx)
    · obtain ⟨sl,e1⟩:=I.base.slot b o e n hb hx
      exact ⟨sl,(hs.2 b (Nat.ne_of_lt (Nat.lt_of_lt_of_le (Heap.lt_size e) (I.ok.cab x c hfn hc)))).trans e1⟩
    · obtain ⟨o',e1⟩:=I.base.there b o e hx
      exact ⟨o',(hs.2 b (Nat.ne_of_lt (Nat.lt_of_lt_of_le (Heap.lt_size e) (I.ok.cab x c hfn hc)))).trans e1⟩
    · by_cases hj:j = i
      · subst hj
        rw [hi] at e1; cases e1
        rw [List.getElem?_set_self hiσ] at e2
        cases e2
        exact ⟨u,r,.inr ⟨.inl hk,c,hc,hc'⟩⟩
      · rw [List.getElem?_set_ne (Ne.symm hj)] at e2
        obtain ⟨u',r',q⟩:=hl j y v' e1 e2 e3
        refine ⟨u',r',?_⟩
        rcases q with q | ⟨k,c',e,z'⟩
        · exact .inl q
        · refine .inr ⟨k,c',e,z'.sameBut hs ?_⟩
          rintro rfl
          exact hj (nodup_ix hN e1 (I.ok.inj _ _ _ e hc ▸ hi))
    · by_cases hcc:c' = c
      · subst hcc; exact ⟨_,hc'⟩
      · obtain ⟨w2,z2⟩:=I.cell y c' e
        exact ⟨w2,z2.sameBut hs hcc⟩
    · obtain ⟨e,n,ne,nf,d⟩:=I.pin p hp
      refine ⟨(hs.2 p.1 ?_).trans e,n,ne,nf,d⟩
      intro q
      rw [q,hoc] at e
      have q':oc = p.2:=Option.some.inj e
      exact d w' (by rw [← q']; exact hocd)
theorem store_ok {M:Model} {A:Around} {E:Value→Shared→Prop} {i:Nat} {x:Str} {v:V} {u:Value} {Q:Unit→Shared→Prop} (I:Inv X pins σ H s) (hN:X.N.Nodup) (hi:X.N[i]? = some x) (hx:Loc X.env.scope x) (r:RelV v u)
    (h:∀ s',Inv X pins (σ.set i (some v)) H s'→Q () s') (hf:X.fn x = true∨X.env.scope.names.lookup x = some .local:=by first | exact .inl rfl | exact .inr rfl | assumption):wpAny M A (storeName X.env x u) Q E s :=
  store_ok2 I hN hi hx r (fun s' I' _=>h s' I') hf
theorem Inv.call' {s':Shared} {ch:List Addr} (I:Inv X pins σ H s) (ho:s'.os = s.os) (u:Un (frs X.stack) ch H H' s.heap s'.heap) (hok:HOk X.prog X.w H' s'.heap) (hg:AllBare s'.gens)
    (hch:∀ b ∈ ch,(b ∈ X.ex∨X.s₀.heap.objs.size ≤ b)∧b ≠ X.env.locals∧(∀ x c,X.env.cells.lookup x = some c→c ≠ b)∧∀ p ∈ X.pn ++ pins,p.1 ≠ b):Inv X pins σ H' s':=by
  obtain ⟨h',g',d',t',o'⟩:=s'
  have e:o' = s.os:=ho
  subst e
  exact I.call (g':=g') (t':=t') (d':=d') u hok hg hch
end
abbrev XK:=Value→Option Addr→Hp→Prop
abbrev St:=List (Option V)
abbrev VK:=V→Hp→Prop
abbrev TE:=St→Hp→VK→Prop
abbrev TT:=St→Hp→(Bool→Hp→Prop)→Prop
abbrev TA:=St→Hp→(List V→Hp→Prop)→Prop
structure Ends where
  nx:St→Hp→Prop
  rt:VK
  bk:St→Hp→Prop:=fun _ _=>False
  ct:St→Hp→Prop:=fun _ _=>False
abbrev TS:=Ends→St→Hp→Prop
def EP (X:Cx) (pins:List (Addr×Obj)) (σ:St) (Q:VK) (u:Value) (s':Shared):Prop:=∃ v H',Inv X pins σ H' s'∧RelV v u∧Q v H'
def TP (X:Cx) (pins:List (Addr×Obj)) (σ:St) (Q:Bool→Hp→Prop) (b:Bool) (s':Shared):Prop:=∃ H',Inv X pins σ H' s'∧Q b H'
def AP (X:Cx) (pins:List (Addr×Obj)) (σ:St) (Q:List V→Hp→Prop) (us:List Value) (s':Shared):Prop:=∃ vs H',Inv X pins σ H' s'∧Vals vs us∧Q vs H'
def SP (X:Cx) (pins:List (Addr×Obj)) (D:Ends) (f:Flow) (s':Shared):Prop :=
  match f with
  | .next=>∃ σ' H',Inv X pins σ' H' s'∧D.nx σ' H'
  | .brk=>∃ σ' H',Inv X pins σ' H' s'∧D.bk σ' H'
  | .cont=>∃ σ' H',Inv X pins σ' H' s'∧D.ct σ' H'
  | .ret u=>∃ v σ' H',Inv X pins σ' H' s'∧RelV v u∧D.rt v H'
def PE (X:Cx) (e:Expr) (t:TE):Prop :=
  ∀ (pins:List (Addr×Obj)) (s:Shared) (σ:St) (H:Hp) (Q:VK),Inv X pins σ H s→t σ H Q→wpAny (model X.prog X.w) X.A (eval e X.env) (EP X pins σ Q) X.xe s
def PT (X:Cx) (e:Expr) (t:TT):Prop :=
  ∀ (pins:List (Addr×Obj)) (s:Shared) (σ:St) (H:Hp) (Q:Bool→Hp→Prop),Inv X pins σ H s→t σ H Q→wpAny (model X.prog X.w) X.A (isTrue e X.env (eval e X.env)) (TP X pins σ Q) X.xe s
def PW (X:Cx) (e:Expr) (t:TT):Prop :=
  ∀ (whole:Sem Value) (pins:List (Addr×Obj)) (s:Shared) (σ:St) (H:Hp) (Q:Bool→Hp→Prop),Inv X pins σ H s→t σ H Q→wpAny (model X.prog X.w) X.A (isTrue e X.env whole) (TP X pins σ Q) X.xe s
theorem PW.pt {X:Cx} {e:Expr} {t:TT} (h:PW X e t):PT X e t:=h _
def PA (X:Cx) (es:List Expr) (t:TA):Prop :=
  ∀ (pos:Pos) (pins:List (Addr×Obj)) (s:Shared) (σ:St) (H:Hp) (Q:List V→Hp→Prop),Inv X pins σ H s→t σ H Q→wpAny (model X.prog X.w) X.A (spliced (backTo pos (starEach es X.env))) (AP X pins σ Q) X.xe s
def PS (X:Cx) (st:Stmt) (t:TS):Prop :=
  ∀ (pins:List (Addr×Obj)) (s:Shared) (σ:St) (H:Hp) (D:Ends),Inv X pins σ H s→t D σ H→wpAny (model X.prog X.w) X.A (exec st X.env) (SP X pins D) X.xe s
def PSs (X:Cx) (st:List Stmt) (t:TS):Prop :=
  ∀ (pins:List (Addr×Obj)) (s:Shared) (σ:St) (H:Hp) (D:Ends),Inv X pins σ H s→t D σ H→wpAny (model X.prog X.w) X.A (execs st X.env) (SP X pins D) X.xe s
theorem thn {α:Type} {t:Sem α} {Q Q':α→Shared→Prop} {M:Model} {A:Around} {E:Value→Shared→Prop} {s:Shared} (h:wpAny M A t Q E s) (hQ:∀ a s,Q a s→Q' a s):wpAny M A t Q' E s:=wpAny_mono h hQ fun _ _ x=>x
section
variable {X:Cx}
def tVar (i:Nat):TE:=fun σ H Q=>∃ v,σ[i]? = some (some v)∧Q v H
def tC (v:V):TE:=fun _ H Q=>Q v H
theorem pe_var {i:Nat} {x:Str} {pos:Pos} (hN:X.N[i]? = some x) (hv:Vis X.env.scope x) (hd:(x == ("__debug__" : Str)) = false:=by decide) (hcd:(x == ("__classdict__" : Str)) = false:=by decide):PE X (.Name x pos) (tVar i):=by
  intro pins s σ H Q I h
  obtain ⟨v,e,h⟩:=h
  obtain ⟨m,hn,hl⟩:=I.loc
  obtain ⟨u,r,l⟩:=hl i x v hN e hv
  have fin:EP X pins σ Q u s:=⟨v,H,I,r,h⟩
  rcases l with ⟨hk,hm⟩ | ⟨hk,c,hc,hcell⟩
  · exact wpAny_Name (wpAny_loadName_local I.ok.kind hk hn hm fin) hd
  · rcases hk with hk | hk
    · exact wpAny_Name (wpAny_loadName_cell I.ok.kind hk hc hcell fin) hd
    · exact wpAny_Name (wpAny_loadName_free I.ok.kind hk hc hcell fin hcd) hd
theorem pe_int {i j pos}:PE X (.Constant (.int i) j pos) (tC (.int i)):=fun _ _ _ H _ I h=>wpAny_Constant_int ⟨.int i,H,I.tok _,⟨_,rfl⟩,h⟩
theorem pe_bl {b j pos}:PE X (.Constant (.bool b) j pos) (tC (.bl b)):=fun _ _ _ H _ I h=>Constant_bool ⟨.bl b,H,I,rfl,h⟩
theorem pe_non {j pos}:PE X (.Constant .none j pos) (tC .non):=fun _ _ _ H _ I h=>Constant_none ⟨.non,H,I,rfl,h⟩
theorem pe_str {x j pos}:PE X (.Constant (.str x) j pos) (tC (.str x)):=fun _ _ _ H _ I h=>Calls.Constant_str ⟨.str x,H,I.tok _,⟨_,rfl⟩,h⟩
def Gl (X:Cx) (x:Str):Prop:=X.env.kindOf x = some .globalImplicit
theorem ld_glob {E:Value→Shared→Prop} {pins:List (Addr×Obj)} {s:Shared} {σ:St} {H:Hp} {x:Str} {u:Value} {pos:Pos} {Q:Value→Shared→Prop} (I:Inv X pins σ H s) (hg:Gl X x) (hm:X.mg x = some u) (h:Q u s)
    (hd:(x == ("__debug__" : Str)) = false:=by decide):wpAny (model X.prog X.w) X.A (eval (.Name x pos) X.env) Q E s :=
  Calls.Name_function_global I.ok.kind hg (Calls.loadGlobal_global (by rw [I.ok.glob]; exact I.mod.glob.keeps I.bk) hm h) hd
theorem ld_blt {E:Value→Shared→Prop} {pins:List (Addr×Obj)} {s:Shared} {σ:St} {H:Hp} {x:Str} {u:Value} {pos:Pos} {Q:Value→Shared→Prop} (I:Inv X pins σ H s) (hg:Gl X x) (hm:X.mg x = none) (hv:bootBuiltins x = some u) (h:Q u s)
    (hn:x ≠ "__name__":=by decide) (hd:(x == ("__debug__" : Str)) = false:=by decide):wpAny (model X.prog X.w) X.A (eval (.Name x pos) X.env) Q E s:=by
  obtain ⟨mb,h1,h2⟩:=I.mod.blt
  exact Calls.Name_function_global I.ok.kind hg (Calls.loadGlobal_builtin (by rw [I.ok.glob]; exact I.mod.glob.keeps I.bk) hm (by rw [I.ok.blt]; exact h1.keeps I.bk) ((h2 x hn).trans hv) h) hd
theorem pe_bltn {x:Str} {v:V} {u:Value} {pos:Pos} (hg:Gl X x) (hm:X.mg x = none) (hv:bootBuiltins x = some u) (r:RelV v u) (hn:x ≠ "__name__":=by decide) (hd:(x == ("__debug__" : Str)) = false:=by decide):PE X (.Name x pos) (tC v) :=
  fun _ _ _ H _ I h=>ld_blt I hg hm hv ⟨v,H,I,r,h⟩ hn hd
variable {a b:Expr} {ta tb:TE} {pos:Pos}
def tB (t:TE):TT:=fun σ H Q=>t σ H fun x H1=>∃ c,x = .bl c∧Q c H1
theorem pt_val {e:Expr} {t:TE} (h:PE X e t) (he:∀ whole,isTrue e X.env whole = (do let v ← whole; standAt e.pos; holding [v] (truthy v)):=by intro _; rfl):PT X e (tB t):=by
  intro pins s σ H Q I hw
  refine isTrue_plain (thn (h pins s σ H _ I hw) fun v s1 ⟨x,H1,I1,r1,q1⟩=>?_) (he _)
  obtain ⟨d,rfl,q⟩:=q1
  cases r1
  exact wpAny_truthy_bool ⟨H1,I1,q⟩
variable {tA tB':TT} {rest:List Expr}
def tAnd (t u:TT):TT:=fun σ H Q=>t σ H fun c H1=>if c = true then u σ H1 Q else Q false H1
def tOr (t u:TT):TT:=fun σ H Q=>t σ H fun c H1=>if c = true then Q true H1 else u σ H1 Q
def tNot (t:TT):TT:=fun σ H Q=>t σ H fun c H1=>Q (!c) H1
theorem pw_and1 (ha:PT X a tA):PW X (.BoolOp .And [a] pos) tA:=by
  intro wh pins s σ H Q I h
  refine isTrue_and (thn (ha pins s σ H Q I h) fun c s1 e=>?_)
  cases c with
  | true=>exact isTrue_and_nil e
  | false=>exact e
theorem pw_or1 (ha:PT X a tA):PW X (.BoolOp .Or [a] pos) tA:=by
  intro wh pins s σ H Q I h
  refine isTrue_or (thn (ha pins s σ H Q I h) fun c s1 e=>?_)
  cases c with
  | false=>exact isTrue_or_nil e
  | true=>exact e
theorem pw_and (ha:PT X a tA) (hb:PW X (.BoolOp .And (b :: rest) pos) tB'):PW X (.BoolOp .And (a :: b :: rest) pos) (tAnd tA tB'):=by
  intro wh pins s σ H Q I h
  refine isTrue_and (thn (ha pins s σ H _ I h) fun c s1 ⟨H1,I1,q1⟩=>?_)
  cases c with
  | true=>exact hb wh pins s1 σ H1 Q I1 q1
  | false=>exact ⟨H1,I1,q1⟩
theorem pw_or (ha:PT X a tA) (hb:PW X (.BoolOp .Or (b :: rest) pos) tB'):PW X (.BoolOp .Or (a :: b :: rest) pos) (tOr tA tB'):=by
  intro wh pins s σ H Q I h
  refine isTrue_or (thn (ha pins s σ H _ I h) fun c s1 ⟨H1,I1,q1⟩=>?_)
  cases c with
  | true=>exact ⟨H1,I1,q1⟩
  | false=>exact hb wh pins s1 σ H1 Q I1 q1
theorem pt_not (ha:PT X a tA):PT X (.UnaryOp .Not a pos) (tNot tA):=by
  intro pins s σ H Q I h
  exact isTrue_not (ha pins s σ H (fun c H1=>Q (!c) H1) I h)
def tAndV (ta tb:TE):TE:=fun σ H Q=>ta σ H fun x H1=>∃ c,x = .bl c∧if c = true then tb σ H1 Q else Q (.bl false) H1
def tOrV (ta tb:TE):TE:=fun σ H Q=>ta σ H fun x H1=>∃ c,x = .bl c∧if c = true then Q (.bl true) H1 else tb σ H1 Q
def tNotV (ta:TE):TE:=fun σ H Q=>ta σ H fun x H1=>∃ c,x = .bl c∧Q (.bl (!c)) H1
theorem pe_one {op} {t:TE} (h:PE X a t):PE X (.BoolOp op [a] pos) t:=fun pins s σ H Q I hw=>BoolOp_one (h pins s σ H Q I hw)
theorem pe_and (ha:PE X a ta) (hb:PE X (.BoolOp .And (b :: rest) pos) tb):PE X (.BoolOp .And (a :: b :: rest) pos) (tAndV ta tb):=by
  intro pins s σ H Q I h
  refine BoolOp_and (thn (ha pins s σ H _ I h) fun v s1 ⟨x,H1,I1,r1,q1⟩=>?_)
  obtain ⟨c,rfl,q1⟩:=q1
  cases r1
  refine wpAny_truthy_bool ?_
  cases c with
  | true=>exact hb pins s1 σ H1 Q I1 q1
  | false=>exact ⟨.bl false,H1,I1,rfl,q1⟩
theorem pe_or (ha:PE X a ta) (hb:PE X (.BoolOp .Or (b :: rest) pos) tb):PE X (.BoolOp .Or (a :: b :: rest) pos) (tOrV ta tb):=by
  intro pins s σ H Q I h
  refine BoolOp_or (thn (ha pins s σ H _ I h) fun v s1 ⟨x,H1,I1,r1,q1⟩=>?_)
  obtain ⟨c,rfl,q1⟩:=q1
  cases r1
  refine wpAny_truthy_bool ?_
  cases c with
  | false=>exact hb pins s1 σ H1 Q I1 q1
  | true=>exact ⟨.bl true,H1,I1,rfl,q1⟩
theorem pe_not (ha:PE X a ta):PE X (.UnaryOp .Not a pos) (tNotV ta):=by
  intro pins s σ H Q I h
  refine UnaryOp_ (thn (ha pins s σ H _ I h) fun v s1 ⟨x,H1,I1,r1,q1⟩=>?_)
  obtain ⟨c,rfl,q1⟩:=q1
  cases r1
  exact not_of (wpAny_truthy_bool ⟨.bl (!c),H1,I1,rfl,q1⟩)
def tIf (t:TT) (ta tb:TE):TE:=fun σ H Q=>t σ H fun c H1=>if c = true then ta σ H1 Q else tb σ H1 Q
theorem pe_ifExp {c:Expr} (hc:PT X c tA) (ha:PE X a ta) (hb:PE X b tb):PE X (.IfExp c a b pos) (tIf tA ta tb):=by
  intro pins s σ H Q I h
  refine wpAny_IfExp (thn (hc pins s σ H _ I h) fun d s1 ⟨H1,I1,q1⟩=>?_)
  cases d with
  | true=>exact ha pins s1 σ H1 Q I1 q1
  | false=>exact hb pins s1 σ H1 Q I1 q1
end
def SqL (K:PySem.W.Frag) (H:Hp) (a:Addr) (xs:List V):Prop :=
  Rd H a (.lst xs) ∨
    ∃ (o:Obj) (its:Array Value) (n:Nat),K.lookup a = some o∧o.cls = .type "list"∧o.dict = none∧o.data = .seq its n∧its.size ≤ sizeLine∧Vals xs its.toList
def SqT (K:PySem.W.Frag) (H:Hp) (a:Addr) (xs:List V):Prop :=
  Rd H a (.tup xs) ∨
    ∃ (o:Obj) (its:Array Value) (n:Nat),K.lookup a = some o∧o.cls = .type "tuple"∧o.data = .seq its n∧its.size ≤ sizeLine∧Vals xs its.toList
def absV:Value→Option V
  | .none=>some .non
  | .bool b=>some (.bl b)
  | .int i _=>some (.int i)
  | .str x _=>some (.str x)
  | .bytes b _=>some (.byt b)
  | .float b _=>some (.flt b)
  | .ref a=>some (.ref a)
  | .type n=>some (.ty n)
  | _=>none
theorem RelV.abs {x:V} {u:Value} (r:RelV x u):absV u = some x:=by
  cases x with
  | non=>cases r; rfl
  | bl _=>cases r; rfl
  | int _=>obtain ⟨t,rfl⟩:=r; rfl
  | str _=>obtain ⟨t,rfl⟩:=r; rfl
  | byt _=>obtain ⟨t,rfl⟩:=r; rfl
  | flt _=>obtain ⟨t,rfl⟩:=r; rfl
  | ref _=>cases r; rfl
  | ty _=>cases r; rfl
theorem RelV.inj {x y:V} {u:Value} (r:RelV x u) (q:RelV y u):x = y:=Option.some.inj (r.abs.symm.trans q.abs)
theorem Vals.inj:∀ {xs ys:List V} {us:List Value},Vals xs us→Vals ys us→xs = ys
  | _,_,_,.nil,.nil=>rfl
  | _,_,_,.cons r t,.cons r' t'=>by rw [r.inj r',Vals.inj t t']
section
variable {X:Cx} {pins:List (Addr×Obj)} {σ:St} {H:Hp} {s:Shared} {a:Addr} {xs ys:List V}
theorem SqL.of {K:PySem.W.Frag} (h:H a = some (.lst xs)):SqL K H a xs:=.inl (.inl h)
theorem SqT.of {K:PySem.W.Frag} (h:H a = some (.tup xs)):SqT K H a xs:=.inl (.inl h)
theorem Inv.list (I:Inv X pins σ H s) (h:SqL X.K H a xs):∃ its:List Value,Vals xs its∧PlainL s.heap a its.toArray∧xs.length ≤ sizeLine:=by
  rcases h with h | ⟨o,its,n,hk,hc,hd,hs,hz,r⟩
  · obtain ⟨z,its,n,r,e⟩:=h.ok I.hok
    exact ⟨its,r,⟨_,n,e,rfl,rfl,rfl⟩,z⟩
  · refine ⟨its.toList,r,⟨o,n,I.kIn a o hk,hc,hd,by simpa using hs⟩,?_⟩
    have e:=r.length
    simp only [Array.length_toList] at e
    omega
theorem Inv.tuple (I:Inv X pins σ H s) (h:SqT X.K H a xs):∃ its:List Value,Vals xs its∧IsTup s.heap a its.toArray∧xs.length ≤ sizeLine:=by
  rcases h with h | ⟨o,its,n,hk,hc,hs,hz,r⟩
  · obtain ⟨z,its,r,p⟩:=h.ok I.hok
    exact ⟨its,r,p.tup,z⟩
  · refine ⟨its.toList,r,⟨o,I.kIn a o hk,hc,n,by simpa using hs⟩,?_⟩
    have e:=r.length
    simp only [Array.length_toList] at e
    omega
theorem Inv.list_inj (I:Inv X pins σ H s) (h:SqL X.K H a xs) (h':SqL X.K H a ys):xs = ys:=by
  obtain ⟨its,r,⟨o,n,e,_,_,d⟩,_⟩:=I.list h
  obtain ⟨its',r',⟨o',n',e',_,_,d'⟩,_⟩:=I.list h'
  rw [e] at e'; cases e'
  rw [d] at d'
  injection d' with d1 _
  have:its = its':=by simpa using congrArg Array.toList d1
  subst this
  exact r.inj r'
theorem Inv.tuple_inj (I:Inv X pins σ H s) (h:SqT X.K H a xs) (h':SqT X.K H a ys):xs = ys:=by
  obtain ⟨its,r,⟨o,e,_,n,d⟩,_⟩:=I.tuple h
  obtain ⟨its',r',⟨o',e',_,n',d'⟩,_⟩:=I.tuple h'
  rw [e] at e'; cases e'
  rw [d] at d'
  injection d' with d1 _
  have:its = its':=by simpa using congrArg Array.toList d1
  subst this
  exact r.inj r'
end
abbrev Cx.wish (X:Cx) (E:Value→Shared→Prop):Cx:={ X with xe:=E }
abbrev Cx.nox (X:Cx):Cx:=X.wish fun _ _=>False
theorem Cx.Ok.wish {X:Cx} (ok:X.Ok) (E:Value→Shared→Prop):(X.wish E).Ok :=
  ⟨ok.mod,ok.kind,ok.glob,ok.blt,ok.above,ok.inj,ok.has,ok.cab,ok.hd,ok.frames,ok.stk,ok.exf,ok.bs,ok.bsz,ok.noex,ok.exfs,ok.funs,ok.frf⟩
theorem Cx.Ok.unwish {X:Cx} {E:Value→Shared→Prop} (ok:(X.wish E).Ok):X.Ok :=
  ⟨ok.mod,ok.kind,ok.glob,ok.blt,ok.above,ok.inj,ok.has,ok.cab,ok.hd,ok.frames,ok.stk,ok.exf,ok.bs,ok.bsz,ok.noex,ok.exfs,ok.funs,ok.frf⟩
section
variable {X:Cx} {pins:List (Addr×Obj)} {σ:St} {H:Hp} {s:Shared} {E:Value→Shared→Prop}
theorem Inv.wish (I:Inv X pins σ H s) (E:Value→Shared→Prop):Inv (X.wish E) pins σ H s:=⟨I.ok.wish E,I.os,I.bare,I.base,I.loc,I.cell,I.free,I.freeC,I.pin,I.hok,I.len⟩
theorem Inv.unwish (I:Inv (X.wish E) pins σ H s):Inv X pins σ H s:=⟨I.ok.unwish,I.os,I.bare,I.base,I.loc,I.cell,I.free,I.freeC,I.pin,I.hok,I.len⟩
theorem SP.unwish {D:Ends} {f:Flow} {s':Shared} (h:SP (X.wish E) pins D f s'):SP X pins D f s':=by
  cases f with
  | next=>obtain ⟨σ',H',I,q⟩:=h; exact ⟨σ',H',I.unwish,q⟩
  | brk=>obtain ⟨σ',H',I,q⟩:=h; exact ⟨σ',H',I.unwish,q⟩
  | cont=>obtain ⟨σ',H',I,q⟩:=h; exact ⟨σ',H',I.unwish,q⟩
  | ret u=>obtain ⟨v,σ',H',I,r,q⟩:=h; exact ⟨v,σ',H',I.unwish,r,q⟩
theorem PSs.nox {st:List Stmt} {t:TS} (h:PSs X.nox st t):PSs X st t:=fun pins s σ H D I hw =>
  wpAny_mono (h pins s σ H D (I.wish _) hw) (fun _ _ q=>q.unwish) fun _ _ z=>False.elim z
end
section
variable {X:Cx} {st:Stmt} {rest:List Stmt} {t u:TS} {e:Expr} {te:TE} {pos:Pos}
def tNext:TS:=fun D σ H=>D.nx σ H
def tSeq (t u:TS):TS:=fun D σ H=>t { D with nx:=u D } σ H
theorem pss_nil:PSs X [] tNext:=fun _ _ σ H _ I h=>wpAny_execs_nil ⟨σ,H,I,h⟩
theorem pss_cons (h1:PS X st t) (h2:PSs X rest u):PSs X (st :: rest) (tSeq t u):=by
  intro pins s σ H D I h
  refine wpAny_execs_cons (thn (h1 pins s σ H { D with nx:=u D } I h) fun f s1 q=>?_)
  cases f with
  | next =>
    obtain ⟨σ',H',I',q⟩:=q
    exact h2 pins s1 σ' H' D I' q
  | ret v=>exact q
  | brk=>exact q
  | cont=>exact q
theorem pss_one (h1:PS X st t):PSs X [st] t:=by
  intro pins s σ H D I h
  refine wpAny_execs_cons (thn (h1 pins s σ H D I h) fun f s1 q=>?_)
  cases f with
  | next=>exact wpAny_execs_nil q
  | ret v=>exact q
  | brk=>exact q
  | cont=>exact q
theorem Inv.quiet {pins:List (Addr×Obj)} {σ:St} {H:Hp} {s:Shared} (I:Inv X pins σ H s):interactive X.env = false:=by simp [interactive,I.ok.kind]
def tDrop (te:TE):TS:=fun D σ H=>te σ H fun _ H1=>D.nx σ H1
theorem ps_expr (he:PE X e te) (hs:swapsWith e none pos.line X.env = pure false:=by rfl):PS X (.Expr e pos) (tDrop te):=by
  intro pins s σ H D I h
  exact wpAny_Expr_any (thn (he pins s σ H _ I h) fun v s1 ⟨x,H1,I1,r1,q1⟩=>⟨σ,H1,I1,q1⟩) I.quiet hs
def tRet (te:TE):TS:=fun D σ H=>te σ H D.rt
theorem ps_ret (he:PE X e te):PS X (.Return (some e) pos) (tRet te):=by
  intro pins s σ H D I h
  exact wpAny_Return_some (thn (he pins s σ H _ I h) fun v s1 ⟨x,H1,I1,r1,q1⟩=>⟨x,σ,H1,I1,r1,q1⟩)
def tIfS (c:TT) (t u:TS):TS:=fun D σ H=>c σ H fun b H1=>if b = true then t D σ H1 else u D σ H1
theorem ps_if {c:Expr} {a b:List Stmt} {tc:TT} (hc:PT X c tc) (ha:PSs X a t) (hb:PSs X b u):PS X (.If c a b pos) (tIfS tc t u):=by
  intro pins s σ H D I h
  refine wpAny_If (thn (hc pins s σ H _ I h) fun d s1 ⟨H1,I1,q1⟩=>?_)
  cases d with
  | true=>exact ha pins s1 σ H1 D I1 q1
  | false=>exact hb pins s1 σ H1 D I1 q1
end
abbrev TG:=V→St→Hp→(St→Hp→Prop)→Prop
abbrev TGs:=List V→St→Hp→(St→Hp→Prop)→Prop
def PG (X:Cx) (target:Expr) (t:TG):Prop :=
  ∀ (pins:List (Addr×Obj)) (s:Shared) (σ:St) (H:Hp) (v:V) (u:Value) (Q:St→Hp→Prop),Inv X pins σ H s→RelV v u→t v σ H Q →
    wpAny (model X.prog X.w) X.A (assign target X.env u) (fun _ s'=>∃ σ' H',Inv X pins σ' H' s'∧Q σ' H') X.xe s
def PGs (X:Cx) (ts:List Expr) (t:TGs):Prop :=
  ∀ (pins:List (Addr×Obj)) (s:Shared) (σ:St) (H:Hp) (vs:List V) (us:List Value) (Q:St→Hp→Prop),Inv X pins σ H s→Vals vs us→t vs σ H Q →
    wpAny (model X.prog X.w) X.A (assignInOrder ((assignEach ts X.env).map (·.2)) us) (fun _ s'=>∃ σ' H',Inv X pins σ' H' s'∧Q σ' H') X.xe s
abbrev TSet:=V→V→V→Hp→(Hp→Prop)→Prop
def PSet (X:Cx) (t:TSet):Prop :=
  ∀ (pins:List (Addr×Obj)) (s:Shared) (σ:St) (H:Hp) (o i v:V) (ov iv u:Value) (Q:Hp→Prop),Inv X pins σ H s→RelV o ov→RelV i iv→RelV v u→t o i v H Q →
    wpAny (model X.prog X.w) X.A (setItem ov iv u) (fun _ s'=>∃ H',Inv X pins σ H' s'∧Q H') X.xe s
section
variable {X:Cx} {pos:Pos}
def gName (i:Nat):TG:=fun v σ H Q=>Q (σ.set i (some v)) H
theorem pg_name {i:Nat} {x:Str} (hN:X.N.Nodup) (hi:X.N[i]? = some x) (hx:Loc X.env.scope x) (hf:X.fn x = true∨X.env.scope.names.lookup x = some .local:=by first | exact .inl rfl | exact .inr rfl | assumption):PG X (.Name x pos) (gName i):=by
  intro pins s σ H v u Q I r h
  exact wpAny_assign_Name (store_ok I hN hi hx r (fun s' I'=>⟨_,H,I',h⟩) hf)
def gNil:TGs:=fun vs σ H Q=>vs = []∧Q σ H
def gCons (t:TG) (u:TGs):TGs:=fun vs σ H Q=>∃ v r,vs = v :: r∧t v σ H fun σ' H'=>u r σ' H' Q
theorem pgs_nil:PGs X [] gNil:=by
  intro pins s σ H vs us Q I r h
  obtain ⟨e,h⟩:=h
  subst e
  cases r
  exact assignInOrder_nil ⟨σ,H,I,h⟩
theorem pgs_cons {e:Expr} {es:List Expr} {t:TG} {u:TGs} (h1:PG X e t) (h2:PGs X es u)
    (hs:(assignEach (e :: es) X.env).map (·.2) = assign e X.env :: (assignEach es X.env).map (·.2):=by rfl):PGs X (e :: es) (gCons t u):=by
  intro pins s σ H vs us Q I r h
  obtain ⟨v,vr,e1,h⟩:=h
  subst e1
  cases r with
  | cons r rr =>
    rw [hs]
    refine assignInOrder_cons (thn (h1 pins s σ H _ _ _ I r h) fun _ s1 ⟨σ1,H1,I1,q1⟩=>?_)
    exact h2 pins s1 σ1 H1 _ _ Q I1 rr q1
def gTup (K:PySem.W.Frag) (n:Nat) (t:TGs):TG:=fun v σ H Q=>∃ a xs,v = .ref a∧SqT K H a xs∧xs.length = n∧t xs σ H Q
theorem pg_tup {es:List Expr} {k:Nat} {t:TGs} {n:Nat} (hc:X.calm = true) (h:PGs X es t)
    (hn:(assignEach es X.env).length = n:=by rfl) (hst:(assignEach es X.env).findIdx? (·.1) = none:=by rfl):PG X (.Tuple es k pos) (gTup X.K n t):=by
  intro pins s σ H v u Q I r hw
  obtain ⟨a,xs,e1,hq,hl,hw⟩:=hw
  subst e1
  cases r
  obtain ⟨its,rv,ht,hz⟩:=I.tuple hq
  refine assign_Tuple_tuple (I.ok.hd hc) ht (by simp [hn,← hl,rv.length]) hst fun h' hx=>?_
  have I1:Inv X pins σ H { s with heap:=h' }:=I.kept (t':=s.toks) fun b o e=>hx b o (Nat.ne_of_lt (Heap.lt_size e)) e
  exact h pins _ σ H xs _ Q I1 (by simpa using rv) hw
def gSub (to ti:TE) (t:TSet):TG:=fun v σ H Q=>to σ H fun o H1=>ti σ H1 fun i H2=>t o i v H2 fun H3=>Q σ H3
theorem pg_sub {o i:Expr} {to ti:TE} {t:TSet} (ho:PE X o to) (hi:PE X i ti) (hs:PSet X t)
    (ha:∀ v,assign (.Subscript o i pos) X.env v = (do
      let ov ← holding [v] (eval o X.env)
      let iv ← holding [v,ov] (eval i X.env)
      standAt pos
      holding [v,ov,iv] (setItem ov iv v)
      release [v,ov,iv] []):=by intro _; rfl):PG X (.Subscript o i pos) (gSub to ti t):=by
  intro pins s σ H v u Q I r h
  rw [ha]
  refine wpAny_bind (wpAny_holding (thn (ho pins s σ H _ I h) fun ov s1 ⟨x,H1,I1,r1,q1⟩=>?_))
  refine wpAny_bind (wpAny_holding (thn (hi pins s1 σ H1 _ I1 q1) fun iv s2 ⟨y,H2,I2,r2,q2⟩=>?_))
  refine wpAny_bind (wpAny_standAt (wpAny_bind (wpAny_holding (thn (hs pins s2 σ H2 x y v ov iv u _ I2 r1 r2 r q2) fun _ s3 ⟨H3,I3,q3⟩=>?_))))
  exact wpAny_release ⟨σ,H3,I3,q3⟩
def tAsg (te:TE) (g:TG):TS:=fun D σ H=>te σ H fun x H1=>g x σ H1 D.nx
theorem ps_asg {tg e:Expr} {te:TE} {g:TG} (he:PE X e te) (hg:PG X tg g) (hs:swapsWithSole [tg] e pos.line X.env = pure false:=by rfl) (hw:swappedStores [tg] e X.env = pure none:=by rfl)
    (h1:(assignEach [tg] X.env).map (·.2) = [assign tg X.env]:=by rfl):PS X (.Assign [tg] e pos) (tAsg te g):=by
  intro pins s σ H D I h
  refine wpAny_Assign_stores (thn (he pins s σ H _ I h) fun v s1 ⟨x,H1,I1,r1,q1⟩=>?_) hs hw
  rw [h1]
  exact thn (hg pins s1 σ H1 x v _ I1 r1 q1) fun _ s2 q=>q
theorem ps_set {i:Nat} {x:Str} {e:Expr} {te:TE} {pos':Pos} (hN:X.N.Nodup) (hi:X.N[i]? = some x) (hx:Loc X.env.scope x) (he:PE X e te) (hs:swapsWith e (some (.Name x pos')) pos.line X.env = pure false:=by rfl) (hf:X.fn x = true∨X.env.scope.names.lookup x = some .local:=by first | exact .inl rfl | exact .inr rfl | assumption) :
    PS X (.Assign [.Name x pos'] e pos) (tAsg te (gName i)):=by
  intro pins s σ H D I h
  refine wpAny_Assign_Name (thn (he pins s σ H _ I h) fun v s1 ⟨y,H1,I1,r1,q1⟩=>?_) hs
  exact store_ok I1 hN hi hx r1 (fun s2 I2=>⟨_,H1,I2,q1⟩) hf
end
structure It where
  go:Nat→Hp→Prop
  yld:Nat→Hp→V→Hp→Prop
  stop:Nat→Hp→Prop
def FpOk (X:Cx) (pins:List (Addr×Obj)) (H:Hp) (b:Addr):Prop :=
  H b = none∧b ≠ X.env.locals∧b ∉ X.fs∧(b ∈ X.ex∨X.s₀.heap.objs.size ≤ b)∧(∀ x c,X.env.cells.lookup x = some c→c ≠ b)∧∀ p ∈ X.pn ++ pins,p.1 ≠ b
theorem Inv.fpOk {X:Cx} {pins:List (Addr×Obj)} {σ:St} {H H':Hp} {s:Shared} {b:Addr} (I:Inv X pins σ H s) (hb:s.heap.objs.size ≤ b) (hn:H' b = none):FpOk X pins H' b:=by
  refine ⟨hn,Nat.ne_of_gt (Nat.lt_of_lt_of_le I.lt hb),I.nofs hb,.inr (Nat.le_trans I.sz hb),fun x c e z=>?_,fun p hp z=>?_⟩
  · obtain ⟨v,q⟩:=I.cell x c e
    exact absurd (Nat.lt_of_lt_of_le q.lt (by rw [z]; exact hb)) (Nat.lt_irrefl _)
  · exact absurd (Nat.lt_of_lt_of_le (Heap.lt_size (I.pin p hp).1) (by rw [z]; exact hb)) (Nat.lt_irrefl _)
structure Turn (P:Program) (w:World) (K:PySem.W.Frag) (tg:Expr) (J:It) (fp:List Addr) (it:Addr) (tn:Nat→Heap→Prop):Prop where
  mem:it ∈ fp
  obj:∀ i h,tn i h→∀ b ∈ fp,∃ o,h.get? b = some o∧∀ v,o.data ≠ .cell v
  keep:∀ i h h',tn i h→(∀ b ∈ fp,∀ o,h.get? b = some o→h'.get? b = some o)→tn i h'
  item:∀ (X:Cx),X.prog = P→X.w = w→X.K = K→X.calm = true→∀ (i:Nat) (pins:List (Addr×Obj)) (s:Shared) (σ:St) (H:Hp) (E:Value→Shared→Prop),Inv X pins σ H s→(∀ b ∈ fp,FpOk X pins H b)→tn i s.heap→J.go i H →
    wpAny (model P w) X.A (pyNext (.ref it)) (fun r s1=>∃ u,r = some u ∧
      wpAny (model P w) X.A (letOwnedTupleGo tg (.ref it) u) (fun _ s2=>∃ x H',Inv X pins σ H' s2∧RelV x u∧J.yld i H x H'∧tn (i + 1) s2.heap∧∀ b ∈ fp,H' b = none) E s1) E s
  done:∀ (X:Cx),X.prog = P→X.w = w→X.K = K→X.calm = true→∀ (i:Nat) (pins:List (Addr×Obj)) (s:Shared) (σ:St) (H:Hp) (E:Value→Shared→Prop),Inv X pins σ H s→(∀ b ∈ fp,FpOk X pins H b)→tn i s.heap→J.stop i H →
    wpAny (model P w) X.A (pyNext (.ref it)) (fun r s1=>r = none∧Inv X pins σ H s1) E s
  self:∀ (A:Around) (i:Nat) (s:Shared) (Q:Value→Shared→Prop) (E:Value→Shared→Prop),tn i s.heap→Q (.ref it) s→wpAny (model P w) A (pyIter (.ref it)) Q E s
abbrev TI:=St→Hp→(It→Hp→Prop)→Prop
def PIE (X:Cx) (pins:List (Addr×Obj)) (σ:St) (tg:Expr) (R:It→Hp→Prop) (itv:Value) (s2:Shared):Prop :=
  ∃ (it:Addr) (fp:List Addr) (tn:Nat→Heap→Prop) (J:It) (H':Hp),itv = .ref it∧Inv X pins σ H' s2∧Turn X.prog X.w X.K tg J fp it tn∧tn 0 s2.heap∧(∀ b ∈ fp,FpOk X pins H' b)∧R J H'
def PI (X:Cx) (tg iter:Expr) (wi:TI):Prop :=
  ∀ (pins:List (Addr×Obj)) (s:Shared) (σ:St) (H:Hp) (R:It→Hp→Prop),Inv X pins σ H s→wi σ H R →
    wpAny (model X.prog X.w) X.A (eval iter X.env) (fun v s1=>wpAny (model X.prog X.w) X.A (pyIter v) (PIE X pins σ tg R) X.xe s1) X.xe s
theorem go_of {M:Model} {A:Around} {E:Value→Shared→Prop} {s:Shared} {tg:Expr} {it:Addr} {u:Value} {o:Obj} {n:String} {vs:Array Value} {Q:Unit→Shared→Prop} (ho:s.heap.get? it = some o) (hc:o.cls = .type n) (hd:o.data = .fields vs)
    (hn:["enumerate", "zip", "dict_itemiterator", "dict_reverseitemiterator", "odict_iterator", "itertools.zip_longest", "itertools.pairwise"].contains n = false) (hQ:Q () s):wpAny M A (letOwnedTupleGo tg (.ref it) u) Q E s:=by
  unfold letOwnedTupleGo
  cases tg <;> first
    | exact wpAny_pure hQ
    | (cases u <;> first
        | exact wpAny_pure hQ
        | (refine wpAny_bind (wpAny_load ho ?_)
           rw [hc,hd]
           show wpAny M A (if (["enumerate", "zip", "dict_itemiterator", "dict_reverseitemiterator", "odict_iterator", "itertools.zip_longest", "itertools.pairwise"].contains n && vs[0]? == some (rawInt _)) = true then _ else _) Q E s
           rw [if_neg (by intro h; rw [hn,Bool.false_and] at h; cases h)]
           exact wpAny_pure hQ))
def Itl (K:PySem.W.Frag) (a:Addr):It :=
  ⟨fun i H=>∃ xs x,SqL K H a xs∧xs[i]? = some x,fun i H x H'=>H' = H∧∀ xs,SqL K H a xs→xs[i]? = some x,fun i H=>∃ xs,SqL K H a xs∧xs.length ≤ i⟩
def Itt (K:PySem.W.Frag) (a:Addr):It :=
  ⟨fun i H=>∃ xs x,SqT K H a xs∧xs[i]? = some x,fun i H x H'=>H' = H∧∀ xs,SqT K H a xs→xs[i]? = some x,fun i H=>∃ xs,SqT K H a xs∧xs.length ≤ i⟩
def Itr (lo:Int) (n:Nat):It:=⟨fun i _=>i < n,fun i H x H'=>H' = H∧x = .int (lo + i),fun i _=>n ≤ i⟩
theorem turn_list {P:Program} {w:World} {K:PySem.W.Frag} {tg:Expr} (a it:Addr):Turn P w K tg (Itl K a) [it] it (fun i h=>h.IsListIter it a i) where
  mem:=by simp
  obj:=fun i h st b hb=>by
    have e:b = it:=by simpa using hb
    subst e
    obtain ⟨o,e,c,d⟩:=st
    exact ⟨o,e,fun v z=>by rw [d] at z; cases z⟩
  keep:=fun i h h' st k=>st.at fun o e=>k it (by simp) o e
  item:=by
    intro X hP hw hK hc i pins s σ H E I hf st hg
    subst hP hw hK
    obtain ⟨xs,x,hq,hx⟩:=hg
    obtain ⟨its,rv,p,hz⟩:=I.list hq
    obtain ⟨u,hu,ru⟩:=rv.get hx
    obtain ⟨f0,f1,f2,f3,f4,f5⟩:=hf it (by simp)
    refine wpAny_pyNext_list_item st p.isList (x:=u) (by simpa using hu) fun h' st' sb=>?_
    have I1:Inv X pins σ H { s with heap:=h' }:=I.turned (t':=s.toks) (fun b o hb e=>(sb.2 b hb).trans e) f0 f1 f3 f4 f5
    obtain ⟨o,e,c,d⟩:=id st'
    exact ⟨u,rfl,go_of (s:={ s with heap:=h' }) e c d (by decide) ⟨x,H,I1,ru,⟨rfl,fun ys hy=>by rw [I.list_inj hy hq]; exact hx⟩,st',fun b hb=>(hf b hb).1⟩⟩
  done:=by
    intro X hP hw hK hc i pins s σ H E I hf st hg
    subst hP hw hK
    obtain ⟨xs,hq,hx⟩:=hg
    obtain ⟨its,rv,p,hz⟩:=I.list hq
    obtain ⟨f0,f1,f2,f3,f4,f5⟩:=hf it (by simp)
    have hl:=rv.length
    exact wpAny_pyNext_list_end (I.ok.hd hc) st p.isList (by simp; omega) fun h' eb=>⟨rfl,I.turned (t':=s.toks) (fun b o hb e=>eb b o hb e) f0 f1 f3 f4 f5⟩
  self:=fun _ _ _ _ _ st h=>wpAny_pyIter_listiter st h
theorem turn_tuple {P:Program} {w:World} {K:PySem.W.Frag} {tg:Expr} (a it:Addr):Turn P w K tg (Itt K a) [it] it (fun i h=>h.IsTupleIter it a i) where
  mem:=by simp
  obj:=fun i h st b hb=>by
    have e:b = it:=by simpa using hb
    subst e
    obtain ⟨o,e,c,d⟩:=st
    exact ⟨o,e,fun v z=>by rw [d] at z; cases z⟩
  keep:=fun i h h' st k=>st.at fun o e=>k it (by simp) o e
  item:=by
    intro X hP hw hK hc i pins s σ H E I hf st hg
    subst hP hw hK
    obtain ⟨xs,x,hq,hx⟩:=hg
    obtain ⟨its,rv,p,hz⟩:=I.tuple hq
    obtain ⟨u,hu,ru⟩:=rv.get hx
    obtain ⟨f0,f1,f2,f3,f4,f5⟩:=hf it (by simp)
    refine wpAny_pyNext_tuple_item st (show s.heap.IsTuple a its.toArray from p) (x:=u) (by simpa using hu) fun h' st' sb=>?_
    have I1:Inv X pins σ H { s with heap:=h' }:=I.turned (t':=s.toks) (fun b o hb e=>(sb.2 b hb).trans e) f0 f1 f3 f4 f5
    obtain ⟨o,e,c,d⟩:=id st'
    exact ⟨u,rfl,go_of (s:={ s with heap:=h' }) e c d (by decide) ⟨x,H,I1,ru,⟨rfl,fun ys hy=>by rw [I.tuple_inj hy hq]; exact hx⟩,st',fun b hb=>(hf b hb).1⟩⟩
  done:=by
    intro X hP hw hK hc i pins s σ H E I hf st hg
    subst hP hw hK
    obtain ⟨xs,hq,hx⟩:=hg
    obtain ⟨its,rv,p,hz⟩:=I.tuple hq
    obtain ⟨f0,f1,f2,f3,f4,f5⟩:=hf it (by simp)
    have hl:=rv.length
    exact wpAny_pyNext_tuple_end (I.ok.hd hc) st (show s.heap.IsTuple a its.toArray from p) (by simp; omega) fun h' eb=>⟨rfl,I.turned (t':=s.toks) (fun b o hb e=>eb b o hb e) f0 f1 f3 f4 f5⟩
  self:=fun _ _ _ _ _ st h=>wpAny_pyIter_tupleiter st h
theorem turn_range {P:Program} {w:World} {K:PySem.W.Frag} {tg:Expr} (it:Addr) (lo:Int) (n:Nat):Turn P w K tg (Itr lo n) [it] it (fun i h=>IsRangeIter h it (lo + (i:Nat) * 1) ((n:Int) - (i:Nat)) 1) where
  mem:=by simp
  obj:=fun i h st b hb=>by
    have e:b = it:=by simpa using hb
    subst e
    exact ⟨_,st,fun v z=>by
      have z':Data.fields _ = Data.cell v:=z
      cases z'⟩
  keep:=fun i h h' st k=>k it (by simp) _ st
  item:=by
    intro X hP hw hK hc i pins s σ H E I hf st hg
    subst hP hw hK
    obtain ⟨f0,f1,f2,f3,f4,f5⟩:=hf it (by simp)
    have W:=Walks.range (prog:=X.prog) (w:=X.w) (I.ok.hd hc) it lo 1 n
    refine W.item i s _ _ hg st fun v h' tk hv st' kk=>?_
    obtain ⟨t,rfl⟩:=hv
    have I1:Inv X pins σ H { s with heap:=h',toks:=tk }:=I.turned (fun b o hb e=>kk b o (by simpa using hb) e) f0 f1 f3 f4 f5
    refine ⟨_,rfl,go_of (s:={ s with heap:=h',toks:=tk }) (n:="range_iterator") st' rfl rfl (by decide) ⟨.int (lo + i),H,I1,⟨t,?_⟩,⟨rfl,rfl⟩,st',fun b hb=>(hf b hb).1⟩⟩
    rw [Int.mul_one]
  done:=by
    intro X hP hw hK hc i pins s σ H E I hf st hg
    subst hP hw hK
    obtain ⟨f0,f1,f2,f3,f4,f5⟩:=hf it (by simp)
    exact wpAny_pyNext_range_end (I.ok.hd hc) st (by have:n ≤ i:=hg; omega) fun h' eb=>⟨rfl,I.turned (t':=s.toks) (fun b o hb e=>eb b o hb e) f0 f1 f3 f4 f5⟩
  self:=fun _ _ _ _ _ st h=>wpAny_pyIter_rangeiter st h
section
variable {X:Cx} {tg:Expr}
def iList (K:PySem.W.Frag) (tl:TE):TI:=fun σ H R=>tl σ H fun x H1=>∃ a,x = .ref a∧(∃ xs,SqL K H1 a xs)∧R (Itl K a) H1
def iTup (K:PySem.W.Frag) (tl:TE):TI:=fun σ H R=>tl σ H fun x H1=>∃ a,x = .ref a∧(∃ xs,SqT K H1 a xs)∧R (Itt K a) H1
theorem pi_list {l:Expr} {tl:TE} (hl:PE X l tl):PI X tg l (iList X.K tl):=by
  intro pins s σ H R I h
  refine thn (hl pins s σ H _ I h) fun v s1 ⟨x,H1,I1,r1,q1⟩=>?_
  obtain ⟨a,e,⟨xs,hq⟩,q⟩:=q1
  subst e
  cases r1
  obtain ⟨its,rv,p,hz⟩:=I1.list hq
  refine wpAny_pyIter_list p.isList ?_
  refine ⟨s1.heap.objs.size,[s1.heap.objs.size],_,_,H1,rfl,I1.kept (t':=s1.toks) fun b o e=>Heap.get?_push_of_some _ e,turn_list a _,⟨_,Heap.get?_push_size _ rfl,rfl,rfl⟩,fun b hb=>?_,q⟩
  have e:b = s1.heap.objs.size:=by simpa using hb
  subst e
  exact I1.fpOk (Nat.le_refl _) (I1.hok.fresh (Nat.le_refl _))
theorem pi_tup {l:Expr} {tl:TE} (hl:PE X l tl):PI X tg l (iTup X.K tl):=by
  intro pins s σ H R I h
  refine thn (hl pins s σ H _ I h) fun v s1 ⟨x,H1,I1,r1,q1⟩=>?_
  obtain ⟨a,e,⟨xs,hq⟩,q⟩:=q1
  subst e
  cases r1
  obtain ⟨its,rv,p,hz⟩:=I1.tuple hq
  refine wpAny_pyIter_tuple (show s1.heap.IsTuple a its.toArray from p) ?_
  refine ⟨s1.heap.objs.size,[s1.heap.objs.size],_,_,H1,rfl,I1.kept (t':=s1.toks) fun b o e=>Heap.get?_push_of_some _ e,turn_tuple a _,⟨_,Heap.get?_push_size _ rfl,rfl,rfl⟩,fun b hb=>?_,q⟩
  have e:b = s1.heap.objs.size:=by simpa using hb
  subst e
  exact I1.fpOk (Nat.le_refl _) (I1.hok.fresh (Nat.le_refl _))
theorem range_it {pins:List (Addr×Obj)} {σ:St} {H:Hp} {s:Shared} {R:It→Hp→Prop} {E:Value→Shared→Prop} {lo hi:Int} {t u v:Tok} {tk:Nat} (I:Inv X pins σ H s) (h1:-(2 ^ 62) ≤ lo) (h2:lo < 2 ^ 62) (h3:-(2 ^ 62) ≤ hi) (h4:hi < 2 ^ 62)
    (q:R (Itr lo (hi - lo).toNat) H):wpAny (model X.prog X.w) X.A (pyIter (.ref s.heap.objs.size)) (PIE X pins σ tg R) E { s with heap:=s.heap.push { cls:=.type "range", data:=.fields #[.int lo t,.int hi u,.int 1 v] },toks:=tk }:=by
  refine wpAny_pyIter_range (IsRange.new ..) (small_one h1 h2 h3 h4) ?_
  have I1:Inv X pins σ H { s with heap:=s.heap.push { cls:=.type "range", data:=.fields #[.int lo t,.int hi u,.int 1 v] },toks:=tk }:=I.kept fun b o e=>Heap.get?_push_of_some _ e
  refine ⟨(s.heap.push { cls:=.type "range", data:=.fields #[.int lo t,.int hi u,.int 1 v] }).objs.size,[(s.heap.push { cls:=.type "range", data:=.fields #[.int lo t,.int hi u,.int 1 v] }).objs.size],_,_,H,rfl,
    I1.kept (t':=tk) fun b o e=>Heap.get?_push_of_some _ e,turn_range _ lo (hi - lo).toNat,?_,fun b hb=>?_,q⟩
  · have e1:lo + ((0:Nat):Int) * 1 = lo:=by simp
    have e2:(((hi - lo).toNat:Nat):Int) - ((0:Nat):Int) = Builtin.Range.rangeSize lo hi 1:=by rw [rangeSize_one]; split <;> omega
    show IsRangeIter _ _ (lo + ((0:Nat):Int) * 1) ((((hi - lo).toNat:Nat):Int) - ((0:Nat):Int)) 1
    rw [e1,e2]
    exact Heap.get?_push_size _ rfl
  · have e:b = (s.heap.push { cls:=.type "range", data:=.fields #[.int lo t,.int hi u,.int 1 v] }).objs.size:=by simpa using hb
    subst e
    exact I1.fpOk (Nat.le_refl _) (I1.hok.fresh (Nat.le_refl _))
def iRng1 (ta:TA):TI:=fun σ H R=>ta σ H fun vs H1=>∃ j:Int,vs = [.int j]∧-(2 ^ 62) ≤ j∧j < 2 ^ 62∧R (Itr 0 j.toNat) H1
def iRng2 (ta:TA):TI:=fun σ H R=>ta σ H fun vs H1=>∃ i j:Int,vs = [.int i,.int j]∧(-(2 ^ 62) ≤ i∧i < 2 ^ 62∧-(2 ^ 62) ≤ j∧j < 2 ^ 62)∧R (Itr i (j - i).toNat) H1
theorem pi_range1 {a:Expr} {ta:TA} {p pos:Pos} (hg:Gl X "range") (hm:X.mg "range" = none) (ha:PA X [a] ta) (hs:starEach [a] X.env = [(false,eval a X.env)]:=by rfl):PI X tg (.Call (.Name "range" p) [a] [] pos) (iRng1 ta):=by
  intro pins s σ H R I h
  refine Call_ (ld_blt I hg hm boot_range (PyProof.Rows.callWith_type1 (thn (ha pos pins s σ H _ I h) fun us s1 ⟨vs,H1,I1,r1,q1⟩=>?_) hs rfl))
  obtain ⟨j,e,q1,q2,q⟩:=q1
  subst e
  cases r1 with
  | cons r rr =>
    cases rr
    obtain ⟨t,rfl⟩:=r
    exact call_range_1 (range_it I1 (by omega) (by omega) q1 q2 (by simpa using q))
theorem pi_range2 {a b:Expr} {ta:TA} {p pos:Pos} (hg:Gl X "range") (hm:X.mg "range" = none) (ha:PA X [a,b] ta) (hs:starEach [a,b] X.env = [(false,eval a X.env),(false,eval b X.env)]:=by rfl) (hs2:starEach [b] X.env = [(false,eval b X.env)]:=by rfl) :
    PI X tg (.Call (.Name "range" p) [a,b] [] pos) (iRng2 ta):=by
  intro pins s σ H R I h
  refine Call_ (ld_blt I hg hm boot_range (PyProof.Rows.callWith_type1 (thn (ha pos pins s σ H _ I h) fun us s1 ⟨vs,H1,I1,r1,q1⟩=>?_) (by rw [hs,hs2]) (by rw [hs2]; rfl)))
  obtain ⟨i,j,e,⟨q1,q2,q3,q4⟩,q⟩:=q1
  subst e
  cases r1 with
  | cons r rr =>
    cases rr with
    | cons r' rr =>
      cases rr
      obtain ⟨t,rfl⟩:=r
      obtain ⟨t',rfl⟩:=r'
      exact call_range_2 (range_it I1 q1 q2 q3 q4 q)
def tFor (wi:TI) (g:TG) (tb:TS):TS:=fun D σ H=>wi σ H fun J H1=>∃ W:Nat→Nat→St→Hp→Prop,(∃ m,W 0 m σ H1)∧∀ i m σ H,W i m σ H →
  (J.stop i H∧D.nx σ H)∨(J.go i H∧∃ N:St→Hp→Prop,(∀ σ' H',N σ' H'→∃ m',m' < m∧W (i + 1) m' σ' H')∧∀ x H',J.yld i H x H'→g x σ H' fun σ2 H2=>tb { D with nx:=N,ct:=N,bk:=D.nx } σ2 H2)
def pinsAt (fp:List Addr) (h:Heap):List (Addr×Obj):=fp.filterMap fun b=>(h.get? b).map fun o=>(b,o)
theorem mem_pinsAt {fp:List Addr} {h:Heap} {b:Addr} {o:Obj} (hb:b ∈ fp) (e:h.get? b = some o):(b,o) ∈ pinsAt fp h:=List.mem_filterMap.mpr ⟨b,hb,by rw [e]; rfl⟩
theorem of_pinsAt {fp:List Addr} {h:Heap} {p:Addr×Obj} (hp:p ∈ pinsAt fp h):p.1 ∈ fp∧h.get? p.1 = some p.2:=by
  obtain ⟨b,hb,e⟩:=List.mem_filterMap.mp hp
  cases q:h.get? b with
  | none=>rw [q] at e; cases e
  | some o =>
    rw [q] at e
    have e':(b,o) = p:=Option.some.inj e
    subst e'
    exact ⟨hb,q⟩
theorem Inv.pinned {pins:List (Addr×Obj)} {σ:St} {H:Hp} {s:Shared} {fp:List Addr} (I:Inv X pins σ H s) (hf:∀ b ∈ fp,FpOk X pins H b) (ho:∀ b ∈ fp,∃ o,s.heap.get? b = some o∧∀ v,o.data ≠ .cell v):Inv X (pins ++ pinsAt fp s.heap) σ H s :=
  I.pins_of fun p hp=>(List.mem_append.mp hp).elim (fun z=>I.pin p (List.mem_append_right _ z)) fun z=>by
    obtain ⟨hb,e⟩:=of_pinsAt z
    obtain ⟨f0,f1,f2,_⟩:=hf p.1 hb
    obtain ⟨o,e',d⟩:=ho p.1 hb
    rw [e] at e'; cases e'
    exact ⟨e,f0,f1,f2,d⟩
theorem Inv.unpinned {pins pl:List (Addr×Obj)} {σ:St} {H:Hp} {s:Shared} (I:Inv X (pins ++ pl) σ H s):Inv X pins σ H s:=I.pins_of fun p hp=>I.pin p (List.mem_append_right _ (List.mem_append_left _ hp))
theorem ps_for {iter:Expr} {body:List Stmt} {wi:TI} {g:TG} {tb:TS} {pos:Pos} (hp:PassesOwn (model X.prog X.w) X.A X.env X.xe) (hc:X.calm = true) (hi:PI X tg iter wi) (hg:PG X tg g) (hb:PSs X body tb)
    (hs:∀ x,foldedSetIterable iter X.env x = pure x:=by intro _; rfl):PS X (.For tg iter body [] pos) (tFor wi g tb):=by
  intro pins s σ H D I h
  refine wpAny_For (thn (hi pins s σ H _ I h) fun v s1 h1=>thn h1 fun itv s2 h2=>?_) hs
  obtain ⟨it,fp,tn,J,H2,e,I2,T,st2,f2,W,⟨m0,w0⟩,turn⟩:=h2
  subst e
  have stat:∀ {H':Hp},(∀ b ∈ fp,H' b = none)→∀ b ∈ fp,FpOk X pins H' b:=fun hn b hb=>⟨hn b hb,(f2 b hb).2⟩
  refine codeAny_forLoop_any (fun n s'=>∃ i σ' H',Inv X pins σ' H' s'∧tn i s'.heap∧(∀ b ∈ fp,H' b = none)∧W i n σ' H') ?_ m0 ⟨0,σ,H2,I2,st2,fun b hb=>(f2 b hb).1,w0⟩
  rintro n s3 ⟨i,σ3,H3,I3,st3,fr3,w3⟩
  rcases turn i n σ3 H3 w3 with ⟨stop,qn⟩ | ⟨go,N,hN,step⟩
  · refine wpAny_passesOwn hp (thn (T.done X rfl rfl rfl hc i pins s3 σ3 H3 X.xe I3 (stat fr3) st3 stop) fun r s4 ⟨hr,I4⟩=>?_)
    subst hr
    exact wpAny_execs_nil ⟨σ3,H3,I4,qn⟩
  · refine wpAny_passesOwn hp (thn (T.item X rfl rfl rfl hc i pins s3 σ3 H3 X.xe I3 (stat fr3) st3 go) fun r s4 ⟨u,hr,h4⟩=>?_)
    subst hr
    refine wpAny_passesOwn hp (thn h4 fun _ s5 ⟨x,H5,I5,r5,y5,st5,fr5⟩=>?_)
    have I5':=I5.pinned (stat fr5) (T.obj _ _ st5)
    refine wpAny_passesOwn hp (thn (hg _ s5 σ3 H5 x u _ I5' r5 (step x H5 y5)) fun _ s6 ⟨σ6,H6,I6,q6⟩=>?_)
    refine wpAny_passesOwn hp (thn (hb _ s6 σ6 H6 _ I6 q6) fun f s7 q7=>?_)
    have again:∀ {σ7:St} {H7:Hp},Inv X (pins ++ pinsAt fp s5.heap) σ7 H7 s7→N σ7 H7→∃ m,m < n∧∃ i σ' H',Inv X pins σ' H' s7∧tn i s7.heap∧(∀ b ∈ fp,H' b = none)∧W i m σ' H':=fun {σ7 H7} I7 n7=>by
      obtain ⟨m',hm,w7⟩:=hN σ7 H7 n7
      refine ⟨m',hm,i + 1,σ7,H7,I7.unpinned,T.keep _ _ _ st5 fun b hb o e=>(I7.pin (b,o) (List.mem_append_right _ (List.mem_append_right _ (mem_pinsAt hb e)))).1,fun b hb=>?_,w7⟩
      obtain ⟨o,e,d⟩:=T.obj _ _ st5 b hb
      exact (I7.pin (b,o) (List.mem_append_right _ (List.mem_append_right _ (mem_pinsAt hb e)))).2.1
    cases f with
    | next=>obtain ⟨σ7,H7,I7,n7⟩:=q7; exact again I7 n7
    | cont=>obtain ⟨σ7,H7,I7,n7⟩:=q7; exact again I7 n7
    | brk=>obtain ⟨σ7,H7,I7,q7⟩:=q7; exact ⟨σ7,H7,I7.unpinned,q7⟩
    | ret v=>obtain ⟨x7,σ7,H7,I7,r7,q7⟩:=q7; exact ⟨x7,σ7,H7,I7.unpinned,r7,q7⟩
end
theorem for_list {K:PySem.W.Frag} {a:Addr} {xs:List V} {g:TG} {tb:TS} {D:Ends} {σ:St} {H:Hp} (Pv:Nat→St→Hp→Prop) (h0:Pv 0 σ H) (hl:∀ i σ H,i ≤ xs.length→Pv i σ H→SqL K H a xs)
    (hs:∀ i x σ H,xs[i]? = some x→Pv i σ H→g x σ H fun σ2 H2=>tb { D with nx:=Pv (i + 1),ct:=Pv (i + 1),bk:=D.nx } σ2 H2) (hd:∀ σ H,Pv xs.length σ H→D.nx σ H) :
    ∃ W:Nat→Nat→St→Hp→Prop,(∃ m,W 0 m σ H)∧∀ i m σ H,W i m σ H →
      ((Itl K a).stop i H∧D.nx σ H)∨((Itl K a).go i H∧∃ N:St→Hp→Prop,(∀ σ' H',N σ' H'→∃ m',m' < m∧W (i + 1) m' σ' H')∧∀ x H',(Itl K a).yld i H x H'→g x σ H' fun σ2 H2=>tb { D with nx:=N,ct:=N,bk:=D.nx } σ2 H2):=by
  refine ⟨fun i m σ H=>m = xs.length - i∧i ≤ xs.length∧Pv i σ H,⟨xs.length,by simp,Nat.zero_le _,h0⟩,?_⟩
  rintro i m σ H ⟨rfl,hi,p⟩
  have q:=hl i σ H hi p
  by_cases hlt:i < xs.length
  · refine .inr ⟨⟨xs,xs[i],q,by simp [hlt]⟩,Pv (i + 1),fun σ' H' p'=>⟨xs.length - (i + 1),by omega,rfl,hlt,p'⟩,fun x H' y=>?_⟩
    obtain ⟨e,y⟩:=y
    subst e
    exact hs i x σ _ (y xs q) p
  · have e:i = xs.length:=by omega
    subst e
    exact .inl ⟨⟨xs,q,Nat.le_refl _⟩,hd σ H p⟩
theorem for_tup {K:PySem.W.Frag} {a:Addr} {xs:List V} {g:TG} {tb:TS} {D:Ends} {σ:St} {H:Hp} (Pv:Nat→St→Hp→Prop) (h0:Pv 0 σ H) (hl:∀ i σ H,i ≤ xs.length→Pv i σ H→SqT K H a xs)
    (hs:∀ i x σ H,xs[i]? = some x→Pv i σ H→g x σ H fun σ2 H2=>tb { D with nx:=Pv (i + 1),ct:=Pv (i + 1),bk:=D.nx } σ2 H2) (hd:∀ σ H,Pv xs.length σ H→D.nx σ H) :
    ∃ W:Nat→Nat→St→Hp→Prop,(∃ m,W 0 m σ H)∧∀ i m σ H,W i m σ H →
      ((Itt K a).stop i H∧D.nx σ H)∨((Itt K a).go i H∧∃ N:St→Hp→Prop,(∀ σ' H',N σ' H'→∃ m',m' < m∧W (i + 1) m' σ' H')∧∀ x H',(Itt K a).yld i H x H'→g x σ H' fun σ2 H2=>tb { D with nx:=N,ct:=N,bk:=D.nx } σ2 H2):=by
  refine ⟨fun i m σ H=>m = xs.length - i∧i ≤ xs.length∧Pv i σ H,⟨xs.length,by simp,Nat.zero_le _,h0⟩,?_⟩
  rintro i m σ H ⟨rfl,hi,p⟩
  have q:=hl i σ H hi p
  by_cases hlt:i < xs.length
  · refine .inr ⟨⟨xs,xs[i],q,by simp [hlt]⟩,Pv (i + 1),fun σ' H' p'=>⟨xs.length - (i + 1),by omega,rfl,hlt,p'⟩,fun x H' y=>?_⟩
    obtain ⟨e,y⟩:=y
    subst e
    exact hs i x σ _ (y xs q) p
  · have e:i = xs.length:=by omega
    subst e
    exact .inl ⟨⟨xs,q,Nat.le_refl _⟩,hd σ H p⟩
theorem for_range {lo:Int} {n:Nat} {g:TG} {tb:TS} {D:Ends} {σ:St} {H:Hp} (Pv:Nat→St→Hp→Prop) (h0:Pv 0 σ H)
    (hs:∀ i σ H,i < n→Pv i σ H→g (.int (lo + i)) σ H fun σ2 H2=>tb { D with nx:=Pv (i + 1),ct:=Pv (i + 1),bk:=D.nx } σ2 H2) (hd:∀ σ H,Pv n σ H→D.nx σ H) :
    ∃ W:Nat→Nat→St→Hp→Prop,(∃ m,W 0 m σ H)∧∀ i m σ H,W i m σ H →
      ((Itr lo n).stop i H∧D.nx σ H)∨((Itr lo n).go i H∧∃ N:St→Hp→Prop,(∀ σ' H',N σ' H'→∃ m',m' < m∧W (i + 1) m' σ' H')∧∀ x H',(Itr lo n).yld i H x H'→g x σ H' fun σ2 H2=>tb { D with nx:=N,ct:=N,bk:=D.nx } σ2 H2):=by
  refine ⟨fun i m σ H=>m = n - i∧i ≤ n∧Pv i σ H,⟨n,by simp,Nat.zero_le _,h0⟩,?_⟩
  rintro i m σ H ⟨rfl,hi,p⟩
  by_cases hlt:i < n
  · refine .inr ⟨hlt,Pv (i + 1),fun σ' H' p'=>⟨n - (i + 1),by omega,rfl,hlt,p'⟩,fun x H' y=>?_⟩
    obtain ⟨e,y⟩:=y
    subst e y
    exact hs i σ _ hlt p
  · have e:i = n:=by omega
    subst e
    exact .inl ⟨Nat.le_refl _,hd σ H p⟩
abbrev R2:=V→V→Hp→VK→Prop
def OpR (X:Cx) (f:Value→Value→Sem Value) (r:R2):Prop :=
  ∀ (pins:List (Addr×Obj)) (s:Shared) (σ:St) (H:Hp) (x y:V) (v u:Value) (Q:VK),Inv X pins σ H s→RelV x v→RelV y u→r x y H Q →
    wpAny (model X.prog X.w) X.A (f v u) (EP X pins σ Q) X.xe s
def UnR (X:Cx) (f:Value→Sem Value) (r:V→Hp→VK→Prop):Prop :=
  ∀ (pins:List (Addr×Obj)) (s:Shared) (σ:St) (H:Hp) (x:V) (v:Value) (Q:VK),Inv X pins σ H s→RelV x v→r x H Q →
    wpAny (model X.prog X.w) X.A (f v) (EP X pins σ Q) X.xe s
def CallR (X:Cx) (f:Value) (r:List V→Hp→VK→Prop):Prop :=
  ∀ (pins:List (Addr×Obj)) (s:Shared) (σ:St) (H:Hp) (xs:List V) (us:List Value) (Q:VK),Inv X pins σ H s→Vals xs us→r xs H Q →
    wpAny (model X.prog X.w) X.A (call f us) (EP X pins σ Q) X.xe s
def tOp (r:R2) (ta tb:TE):TE:=fun σ H Q=>ta σ H fun x H1=>tb σ H1 fun y H2=>r x y H2 Q
def tUn (r:V→Hp→VK→Prop) (ta:TE):TE:=fun σ H Q=>ta σ H fun x H1=>r x H1 Q
def rI (C:Int→Int→Prop) (g:Int→Int→V):R2:=fun x y H Q=>∃ i j,x = .int i∧y = .int j∧C i j∧Q (g i j) H
def rI0 (g:Int→Int→V):R2:=fun x y H Q=>∃ i j,x = .int i∧y = .int j∧Q (g i j) H
def rU (g:Int→V):V→Hp→VK→Prop:=fun x H Q=>∃ i,x = .int i∧Q (g i) H
section
variable {X:Cx} {a b c:Expr} {ta tb tc:TE} {pos:Pos}
theorem binT (ha:PE X a ta) (hb:PE X b tb) {pins:List (Addr×Obj)} {s:Shared} {σ:St} {H:Hp} {R:V→V→Hp→Prop} (I:Inv X pins σ H s)
    (h:ta σ H fun x H1=>tb σ H1 fun y H2=>R x y H2) {Q:Value→Shared→Prop} {f:Value→Value→Sem Value}
    (hf:∀ v u s2 x y H2,Inv X pins σ H2 s2→RelV x v→RelV y u→R x y H2→wpAny (model X.prog X.w) X.A (f v u) Q X.xe s2) :
    wpAny (model X.prog X.w) X.A (eval a X.env) (fun v s₁=>wpAny (model X.prog X.w) X.A (eval b X.env) (fun u s₂=>wpAny (model X.prog X.w) X.A (f v u) Q X.xe s₂) X.xe s₁) X.xe s:=by
  refine thn (ha pins s σ H _ I h) fun v s1 ⟨x,H1,I1,r1,q1⟩=>?_
  refine thn (hb pins s1 σ H1 _ I1 q1) fun u s2 ⟨y,H2,I2,r2,q2⟩=>?_
  exact hf v u s2 x y H2 I2 r1 r2 q2
theorem pe_op {op:Operator} {r:R2} (ho:OpR X (binaryOp op) r) (ha:PE X a ta) (hb:PE X b tb):PE X (.BinOp a op b pos) (tOp r ta tb):=by
  intro pins s σ H Q I h
  exact wpAny_BinOp (binT ha hb I h fun v u s2 x y H2 I2 rx ry q=>ho pins s2 σ H2 x y v u Q I2 rx ry q)
theorem pe_un {op:UnaryOp} {r:V→Hp→VK→Prop} (ho:UnR X (unaryOp op) r) (ha:PE X a ta):PE X (.UnaryOp op a pos) (tUn r ta):=by
  intro pins s σ H Q I h
  exact UnaryOp_ (thn (ha pins s σ H _ I h) fun v s1 ⟨x,H1,I1,r1,q1⟩=>ho pins s1 σ H1 x v Q I1 r1 q1)
theorem opI {f:Value→Value→Sem Value} {C:Int→Int→Prop} {g:Int→Int→Int}
    (rule:∀ (i j:Int) (t u:Tok) (s:Shared) (Q:Value→Shared→Prop) (E:Value→Shared→Prop),C i j→Q (.int (g i j) s.toks) { s with toks:=s.toks + 1 }→wpAny (model X.prog X.w) X.A (f (.int i t) (.int j u)) Q E s) :
    OpR X f (rI C fun i j=>.int (g i j)):=by
  intro pins s σ H x y v u Q I rx ry h
  obtain ⟨i,j,rfl,rfl,hc,q⟩:=h
  obtain ⟨t,rfl⟩:=rx
  obtain ⟨t',rfl⟩:=ry
  exact rule i j t t' s _ _ hc ⟨.int (g i j),H,I.tok _,⟨_,rfl⟩,q⟩
theorem opI0 {f:Value→Value→Sem Value} {g:Int→Int→Int}
    (rule:∀ (i j:Int) (t u:Tok) (s:Shared) (Q:Value→Shared→Prop) (E:Value→Shared→Prop),Q (.int (g i j) s.toks) { s with toks:=s.toks + 1 }→wpAny (model X.prog X.w) X.A (f (.int i t) (.int j u)) Q E s) :
    OpR X f (rI0 fun i j=>.int (g i j)):=by
  intro pins s σ H x y v u Q I rx ry h
  obtain ⟨i,j,rfl,rfl,q⟩:=h
  obtain ⟨t,rfl⟩:=rx
  obtain ⟨t',rfl⟩:=ry
  exact rule i j t t' s _ _ ⟨.int (g i j),H,I.tok _,⟨_,rfl⟩,q⟩
theorem opB0 {f:Value→Value→Sem Value} {g:Int→Int→Bool}
    (rule:∀ (i j:Int) (t u:Tok) (s:Shared) (Q:Value→Shared→Prop) (E:Value→Shared→Prop),Q (.bool (g i j)) s→wpAny (model X.prog X.w) X.A (f (.int i t) (.int j u)) Q E s) :
    OpR X f (rI0 fun i j=>.bl (g i j)):=by
  intro pins s σ H x y v u Q I rx ry h
  obtain ⟨i,j,rfl,rfl,q⟩:=h
  obtain ⟨t,rfl⟩:=rx
  obtain ⟨t',rfl⟩:=ry
  exact rule i j t t' s _ _ ⟨.bl (g i j),H,I,rfl,q⟩
def CDiv (i j:Int):Prop:=0 < j∧j < 1073741824
def CPow (i j:Int):Prop:=0 ≤ j∧j ≤ 1000000∧i.natAbs < 2 ^ 64
def CMul (i j:Int):Prop:=(-(2 ^ 64) < i∧i < 2 ^ 64)∨(-(2 ^ 64) < j∧j < 2 ^ 64)
theorem CMul.ok {i j:Int} (h:CMul i j):IntMulOk i j:=by
  rcases h with ⟨h1,h2⟩ | ⟨h1,h2⟩
  · exact .of_left (intBits_le_64 h1 h2)
  · exact .of_right (intBits_le_64 h1 h2)
theorem op_add:OpR X (binaryOp .Add) (rI0 fun i j=>.int (i + j)):=opI0 fun _ _ _ _ _ _ _ q=>add_int q
theorem op_sub:OpR X (binaryOp .Sub) (rI0 fun i j=>.int (i - j)):=opI0 fun _ _ _ _ _ _ _ q=>sub_int q
theorem op_mul:OpR X (binaryOp .Mult) (rI CMul fun i j=>.int (i * j)):=opI fun _ _ _ _ _ _ _ hc q=>mul_int q hc.ok
theorem op_fdiv:OpR X (binaryOp .FloorDiv) (rI CDiv fun i j=>.int (i / j)):=opI fun i j _ _ _ _ _ hc q=>by
  have h1:(0:Int) < j:=hc.1
  have h2:j < 1073741824:=hc.2
  exact floordiv_int (by omega) (by rw [Int.fdiv_eq_ediv_of_nonneg i (by omega)]; exact q) (.inl (PyProof.noPylong_small (by omega)))
theorem op_mod:OpR X (binaryOp .Mod) (rI (fun _ j=>0 < j) fun i j=>.int (i % j)):=opI fun i j _ _ _ _ _ hc q=>by
  have h1:(0:Int) < j:=hc
  exact mod_int' (by omega) (by rw [Int.fmod_eq_emod_of_nonneg i (by omega)]; exact q)
theorem op_pow:OpR X (binaryOp .Pow) (rI CPow fun i j=>.int (i ^ j.toNat)):=opI fun _ _ _ _ _ _ _ hc q=>pow_int_small hc.1 hc.2.1 hc.2.2 q
theorem unI {f:Value→Sem Value} {g:Int→Int}
    (rule:∀ (i:Int) (t:Tok) (s:Shared) (Q:Value→Shared→Prop) (E:Value→Shared→Prop),Q (.int (g i) s.toks) { s with toks:=s.toks + 1 }→wpAny (model X.prog X.w) X.A (f (.int i t)) Q E s) :
    UnR X f (rU fun i=>.int (g i)):=by
  intro pins s σ H x v Q I rx h
  obtain ⟨i,rfl,q⟩:=h
  obtain ⟨t,rfl⟩:=rx
  exact rule i t s _ _ ⟨.int (g i),H,I.tok _,⟨_,rfl⟩,q⟩
theorem un_neg:UnR X (unaryOp .USub) (rU fun i=>.int (-i)):=unI fun _ _ _ _ _ q=>neg_int q
end
def scal:V→V→Bool
  | .non,.non=>true | .non,.int _=>true | .int _,.non=>true | .non,.bl _=>true | .bl _,.non=>true | .non,.str _=>true | .str _,.non=>true
  | .int _,.int _=>true | .bl _,.bl _=>true | .str _,.str _=>true | .byt _,.byt _=>true
  | .int _,.str _=>true | .str _,.int _=>true | .bl _,.str _=>true | .str _,.bl _=>true
  | _,_=>false
def rEq:R2:=fun x y H Q=>scal x y = true∧Q (.bl (decide (x = y))) H
def rNe:R2:=fun x y H Q=>scal x y = true∧Q (.bl (!decide (x = y))) H
theorem dec_int {i j:Int}:decide (V.int i = V.int j) = (i == j):=by
  rw [Bool.eq_iff_iff]
  simp
theorem dec_bl {i j:Bool}:decide (V.bl i = V.bl j) = (i == j):=by
  rw [Bool.eq_iff_iff]
  simp
theorem dec_str {i j:Str}:decide (V.str i = V.str j) = (i == j):=by
  rw [Bool.eq_iff_iff]
  simp
theorem dec_byt {i j:Array UInt8}:decide (V.byt i = V.byt j) = (i.toList == j.toList):=by
  rw [Bool.eq_iff_iff]
  cases i
  cases j
  simp
section
variable {X:Cx} {a b c:Expr} {ta tb tc:TE} {pos:Pos}
theorem fin_bl {pins:List (Addr×Obj)} {σ:St} {H:Hp} {s:Shared} {Q:VK} {k k':Bool} (I:Inv X pins σ H s) (q:Q (.bl k) H) (e:k = k'):EP X pins σ Q (.bool k') s:=by
  subst e
  exact ⟨.bl k,H,I,rfl,q⟩
theorem op_eq:OpR X (compareOp .Eq) rEq:=by
  intro pins s σ H x y v u Q I rx ry h
  obtain ⟨hs,q⟩:=h
  cases x with
  | non =>
    cases rx
    cases y with
    | non=>cases ry; exact PySem.EqNone.eq_none_none (fin_bl I q (by simp))
    | bl j=>cases ry; exact PySem.EqNone.eq_none_bool (fin_bl I q (by simp))
    | int j=>obtain ⟨t',rfl⟩:=ry; exact PySem.EqNone.eq_none_int (fin_bl I q (by simp))
    | str j=>obtain ⟨t',rfl⟩:=ry; exact PySem.EqNone.eq_none_str (fin_bl I q (by simp))
    | _=>exact absurd (show false = true from hs) Bool.false_ne_true
  | bl i =>
    cases rx
    cases y with
    | non=>cases ry; exact PySem.EqNone.eq_bool_none (fin_bl I q (by simp))
    | bl j=>cases ry; exact eq_bool (fin_bl I q dec_bl)
    | str j=>obtain ⟨t',rfl⟩:=ry; exact PySem.EqMixed.eq_bool_str (fin_bl I q (by simp))
    | _=>exact absurd (show false = true from hs) Bool.false_ne_true
  | int i =>
    obtain ⟨t,rfl⟩:=rx
    cases y with
    | non=>cases ry; exact PySem.EqNone.eq_int_none (fin_bl I q (by simp))
    | int j=>obtain ⟨t',rfl⟩:=ry; exact eq_int (fin_bl I q dec_int)
    | str j=>obtain ⟨t',rfl⟩:=ry; exact PySem.EqMixed.eq_int_str (fin_bl I q (by simp))
    | _=>exact absurd (show false = true from hs) Bool.false_ne_true
  | str i =>
    obtain ⟨t,rfl⟩:=rx
    cases y with
    | non=>cases ry; exact PySem.EqNone.eq_str_none (fin_bl I q (by simp))
    | bl j=>cases ry; exact PySem.EqMixed.eq_str_bool (fin_bl I q (by simp))
    | int j=>obtain ⟨t',rfl⟩:=ry; exact PySem.EqMixed.eq_str_int (fin_bl I q (by simp))
    | str j=>obtain ⟨t',rfl⟩:=ry; exact eq_str (fin_bl I q dec_str)
    | _=>exact absurd (show false = true from hs) Bool.false_ne_true
  | byt i =>
    obtain ⟨t,rfl⟩:=rx
    cases y with
    | byt j=>obtain ⟨t',rfl⟩:=ry; exact PySem.W.eq_bytes (fin_bl I q dec_byt)
    | _=>exact absurd (show false = true from hs) Bool.false_ne_true
  | _=>cases y <;> exact absurd (show false = true from hs) Bool.false_ne_true
theorem op_ne:OpR X (compareOp .NotEq) rNe:=by
  intro pins s σ H x y v u Q I rx ry h
  obtain ⟨hs,q⟩:=h
  cases x with
  | non =>
    cases rx
    cases y with
    | non=>cases ry; exact PySem.EqNone.ne_none_none (fin_bl I q (by simp))
    | bl j=>cases ry; exact PySem.EqNone.ne_none_bool (fin_bl I q (by simp))
    | int j=>obtain ⟨t',rfl⟩:=ry; exact PySem.EqNone.ne_none_int (fin_bl I q (by simp))
    | str j=>obtain ⟨t',rfl⟩:=ry; exact PySem.EqNone.ne_none_str (fin_bl I q (by simp))
    | _=>exact absurd (show false = true from hs) Bool.false_ne_true
  | bl i =>
    cases rx
    cases y with
    | non=>cases ry; exact PySem.EqNone.ne_bool_none (fin_bl I q (by simp))
    | bl j=>cases ry; exact ne_bool (fin_bl I q (congrArg not dec_bl))
    | str j=>obtain ⟨t',rfl⟩:=ry; exact PySem.EqMixed.ne_bool_str (fin_bl I q (by simp))
    | _=>exact absurd (show false = true from hs) Bool.false_ne_true
  | int i =>
    obtain ⟨t,rfl⟩:=rx
    cases y with
    | non=>cases ry; exact PySem.EqNone.ne_int_none (fin_bl I q (by simp))
    | int j=>obtain ⟨t',rfl⟩:=ry; exact ne_int (fin_bl I q (congrArg not dec_int))
    | str j=>obtain ⟨t',rfl⟩:=ry; exact PySem.EqMixed.ne_int_str (fin_bl I q (by simp))
    | _=>exact absurd (show false = true from hs) Bool.false_ne_true
  | str i =>
    obtain ⟨t,rfl⟩:=rx
    cases y with
    | non=>cases ry; exact PySem.EqNone.ne_str_none (fin_bl I q (by simp))
    | bl j=>cases ry; exact PySem.EqMixed.ne_str_bool (fin_bl I q (by simp))
    | int j=>obtain ⟨t',rfl⟩:=ry; exact PySem.EqMixed.ne_str_int (fin_bl I q (by simp))
    | str j=>obtain ⟨t',rfl⟩:=ry; exact ne_str (fin_bl I q (congrArg not dec_str))
    | _=>exact absurd (show false = true from hs) Bool.false_ne_true
  | byt i =>
    obtain ⟨t,rfl⟩:=rx
    cases y with
    | byt j=>obtain ⟨t',rfl⟩:=ry; exact PySem.W.ne_bytes (fin_bl I q (congrArg not dec_byt))
    | _=>exact absurd (show false = true from hs) Bool.false_ne_true
  | _=>cases y <;> exact absurd (show false = true from hs) Bool.false_ne_true
theorem op_lt:OpR X (compareOp .Lt) (rI0 fun i j=>.bl (decide (i < j))):=opB0 fun _ _ _ _ _ _ _ q=>lt_int q
theorem op_le:OpR X (compareOp .LtE) (rI0 fun i j=>.bl (decide (i ≤ j))):=opB0 fun _ _ _ _ _ _ _ q=>le_int q
theorem op_gt:OpR X (compareOp .Gt) (rI0 fun i j=>.bl (decide (j < i))):=opB0 fun _ _ _ _ _ _ _ q=>gt_int q
theorem op_isN:OpR X (compareOp .Is) (fun x y H Q=>y = .non∧Q (.bl (decide (x = .non))) H):=by
  intro pins s σ H x y v u Q I rx ry h
  obtain ⟨rfl,q⟩:=h
  cases ry
  refine is_none_gen (fin_bl I q ?_)
  cases x <;> first
    | (cases rx; rfl)
    | (obtain ⟨t,rfl⟩:=rx; rfl)
theorem op_notN:OpR X (compareOp .IsNot) (fun x y H Q=>y = .non∧Q (.bl (!decide (x = .non))) H):=by
  intro pins s σ H x y v u Q I rx ry h
  obtain ⟨rfl,q⟩:=h
  cases ry
  refine isnot_none_gen (fin_bl I q ?_)
  cases x <;> first
    | (cases rx; rfl)
    | (obtain ⟨t,rfl⟩:=rx; rfl)
theorem nomark (b:Expr) {op:CmpOp} (h:op ≠ .In:=by decide) (h2:op ≠ .NotIn:=by decide):behindInMarks op b = false:=by
  have e1:(op == CmpOp.In) = false:=by cases op <;> first | rfl | exact absurd rfl h
  have e2:(op == CmpOp.NotIn) = false:=by cases op <;> first | rfl | exact absurd rfl h2
  cases b <;> simp [behindInMarks,e1,e2]
theorem pe_cmpR {op:CmpOp} {r:R2} (ho:OpR X (compareOp op) r) (ha:PE X a ta) (hb:PE X b tb) (hm:behindInMarks op b = false):PE X (.Compare a [op] [b] pos) (tOp r ta tb):=by
  intro pins s σ H Q I h
  exact wpAny_Compare1 (binT ha hb I h fun v u s2 x y H2 I2 rx ry q=>ho pins s2 σ H2 x y v u Q I2 rx ry q) hm
def tTest (t:TE):TT:=fun σ H Q=>t σ H fun x H'=>∃ k,x = .bl k∧Q k H'
theorem pt_cmpR {op:CmpOp} {r:R2} (ho:OpR X (compareOp op) r) (ha:PE X a ta) (hb:PE X b tb) (hm:behindInMarks op b = false):PT X (.Compare a [op] [b] pos) (tTest (tOp r ta tb)):=by
  intro pins s σ H Q I h
  refine wpAny_isTrue_Compare1 (thn (ha pins s σ H _ I h) fun v s1 ⟨x,H1,I1,r1,q1⟩=>thn (hb pins s1 σ H1 _ I1 q1) fun u s2 ⟨y,H2,I2,r2,q2⟩ =>
    thn (ho pins s2 σ H2 x y v u _ I2 r1 r2 q2) fun c s3 ⟨z,H3,I3,r3,k,e,q3⟩=>?_) hm
  subst e
  cases r3
  exact wpAny_truthy_bool ⟨H3,I3,q3⟩
theorem line63:(sizeLine:Nat) < 2 ^ 63:=by rw [sizeLine_eq]; decide
theorem vals1 {x:V} {us:List Value} (r:Vals [x] us):∃ u,us = [u]∧RelV x u:=by
  cases r with
  | cons r1 r2=>cases r2; exact ⟨_,rfl,r1⟩
theorem vals2 {x y:V} {us:List Value} (r:Vals [x,y] us):∃ u w',us = [u,w']∧RelV x u∧RelV y w':=by
  cases r with
  | cons r1 r2 =>
    cases r2 with
    | cons r3 r4=>cases r4; exact ⟨_,_,rfl,r1,r3⟩
theorem call_abs:CallR X (.builtin "abs") (fun xs H Q=>∃ i,xs = [.int i]∧Q (.int (if i < 0 then -i else i)) H):=by
  intro pins s σ H xs us Q I r h
  obtain ⟨i,rfl,q⟩:=h
  obtain ⟨u,rfl,t,rfl⟩:=vals1 r
  exact call_abs_int fun u tk=>⟨.int (if i < 0 then -i else i),H,I.tok _,⟨_,rfl⟩,q⟩
theorem call_max2 (hc:X.calm = true):CallR X (.builtin "max") (fun xs H Q=>∃ i j,xs = [.int i,.int j]∧Q (.int (if j > i then j else i)) H):=by
  intro pins s σ H xs us Q I r h
  obtain ⟨i,j,rfl,q⟩:=h
  obtain ⟨u,w',rfl,⟨t,rfl⟩,⟨t',rfl⟩⟩:=vals2 r
  refine max_two_ints (I.ok.hd hc) fun h' tk k=>⟨_,H,I.kept k,?_,q⟩
  by_cases hj:j > i
  · rw [if_pos hj,if_pos hj]; exact ⟨_,rfl⟩
  · rw [if_neg hj,if_neg hj]; exact ⟨_,rfl⟩
theorem call_min2 (hc:X.calm = true):CallR X (.builtin "min") (fun xs H Q=>∃ i j,xs = [.int i,.int j]∧Q (.int (if j < i then j else i)) H):=by
  intro pins s σ H xs us Q I r h
  obtain ⟨i,j,rfl,q⟩:=h
  obtain ⟨u,w',rfl,⟨t,rfl⟩,⟨t',rfl⟩⟩:=vals2 r
  refine min_two_ints (I.ok.hd hc) fun h' tk k=>⟨_,H,I.kept k,?_,q⟩
  by_cases hj:j < i
  · rw [if_pos hj,if_pos hj]; exact ⟨_,rfl⟩
  · rw [if_neg hj,if_neg hj]; exact ⟨_,rfl⟩
theorem call_int1:CallR X (.type "int") (fun xs H Q=>(∃ i,xs = [.int i]∧Q (.int i) H)∨∃ k,xs = [.bl k]∧Q (.int (if k then 1 else 0)) H):=by
  intro pins s σ H xs us Q I r h
  rcases h with ⟨i,rfl,q⟩ | ⟨k,rfl,q⟩
  · obtain ⟨u,rfl,t,rfl⟩:=vals1 r
    exact call_int_int ⟨.int i,H,I,⟨_,rfl⟩,q⟩
  · obtain ⟨u,rfl,r1⟩:=vals1 r
    cases r1
    exact call_int_bool ⟨.int (if k then 1 else 0),H,I.tok _,⟨_,rfl⟩,q⟩
end
structure ObjM (h:Heap) (x dx C:Addr) (mA:Str→Option Value):Prop where
  obj:h.get? x = some (PySem.W.instObj C dx)
  ns:h.Ns1 dx mA
  ne:dx ≠ x
theorem lookIn_ns {h:Heap} {dx:Addr} {mA:Str→Option Value} (n:h.Ns1 dx mA):∃ od,h.get? dx = some od∧∀ name,PySem.W.lookIn name od = some (mA name):=by
  obtain ⟨o,es,ep,ho,hd,hk,_,hm⟩:=n
  refine ⟨o,ho,fun name=>?_⟩
  have e:=hm name
  unfold nsFind findBy at e
  rw [← Array.find?_toList] at e
  unfold PySem.W.lookIn
  rw [hd]
  dsimp only
  split
  · rename_i y q
    rw [q] at e
    exact congrArg some e
  · rename_i q
    rw [q] at e
    have a:es.toList.any (·.refKey) = false:=by
      rw [List.any_eq_false]
      intro y hy
      obtain ⟨z,t,hkey⟩:=hk y (Array.mem_toList_iff.mp hy)
      simp [DictEntry.refKey,hkey]
    have a':¬ es.toList.any (·.refKey) = true:=by rw [a]; exact Bool.false_ne_true
    rw [if_neg a']
    exact congrArg some e
theorem ObjM.look {h:Heap} {x dx C:Addr} {mA:Str→Option Value} (I:ObjM h x dx C mA):∃ od,PySem.W.InstAt h x (PySem.W.instObj C dx) C (some od)∧∀ name,PySem.W.lookIn name od = some (mA name) :=
  let ⟨od,ho,hl⟩:=lookIn_ns I.ns
  ⟨od,⟨I.obj,rfl,rfl,ho⟩,hl⟩
section
variable {P:Program} {w:World} {H H':Hp} {h h':Heap} {a C dx:Addr} {fs fs':List (Str×V)}
theorem ins_get (hok:HOk P w H h) (e:H a = some (.ins C dx fs)):∃ mA,ObjM h a dx C mA∧(∀ f,RelO (fs.lookup f) (mA f))∧PySem.Within mA (fs.map (·.1))∧fs.length ≤ 1000∧H dx = some (.own a):=by
  obtain ⟨d,z,ne,ob,mA,n,r,q⟩:=(show ObjOk P w H h a (.ins C dx fs) from hok a _ e)
  exact ⟨mA,⟨ob,n,ne⟩,r,q,z,d⟩
end
structure Cls (K:PySem.W.Frag) (C:Addr):Prop where
  pg:PySem.W.plainGet K C Str.empty = true
  hd:PySem.W.hasDictIn K C = true
  po:PySem.W.plainOver K C = true
  sa:PySem.W.findIn K (.ref C) "__setattr__" = some (some (.builtin "object.__setattr__"))
theorem Cls.get {K:PySem.W.Frag} {C:Addr} (c:Cls K C) (f:Str):PySem.W.plainGet K C f = true:=c.pg
section
variable {X:Cx} {pins:List (Addr×Obj)} {σ:St} {H:Hp} {s:Shared} {A:Around} {E:Value→Shared→Prop} {Q:Value→Shared→Prop} {c:Value} {b:Bool}
inductive TyOf (K:PySem.W.Frag) (H:Hp):V→Value→Prop where
  | non:TyOf K H .non (.type "NoneType")
  | bl (x:Bool):TyOf K H (.bl x) (.type "bool")
  | int (i:Int):TyOf K H (.int i) (.type "int")
  | str (x:Str):TyOf K H (.str x) (.type "str")
  | flt (x:UInt64):TyOf K H (.flt x) (.type "float")
  | lst {a:Addr} {xs:List V} (e:H a = some (.lst xs)):TyOf K H (.ref a) (.type "list")
  | frz {a:Addr} {o:Obj} {xs:List V} (e:H a = some (.frz o (.lst xs))):TyOf K H (.ref a) (.type "list")
  | tup {a:Addr} {xs:List V} (e:H a = some (.tup xs)):TyOf K H (.ref a) (.type "tuple")
  | dK {a:Addr} {kvs:List (Key×V)} (e:H a = some (.dK kvs)):TyOf K H (.ref a) (.type "dict")
  | dT {a:Addr} {kvs:List (List OKey×V)} (e:H a = some (.dT kvs)):TyOf K H (.ref a) (.type "dict")
  | ins {a C dx:Addr} {fs:List (Str×V)} (e:H a = some (.ins C dx fs)) (cl:Cls K C) (ha:PySem.W.findIn K (.ref C) "__class__" = some (some (.builtin "object.__class__")))
      (hn:PySem.W.specialIn K (.builtin "object.__class__") "__get__" = some (some (.builtin "getset_descriptor.__get__"))) (htk:PySem.W.takesIn K (.builtin "object.__class__") = some true)
      (hm:PySem.W.mroIn K C (.type "object") = some true):TyOf K H (.ref a) (.ref C)
theorem isinst_ok {x:V} {u t:Value} (I:Inv X pins σ H s) (rx:RelV x u) (ty:TyOf X.K H x t) (e:PySem.W.kitOne X.K t c = some b) (h:∀ tk,Q (.bool b) { s with toks:=tk }) :
    wpAny (model X.prog X.w) A (call (.builtin "isinstance") [u,c]) Q E s:=by
  cases ty with
  | non=>cases (show u = Value.none from rx); exact PySem.W.kia_one PySem.W.kitx_none I.kIn True.intro e (fun z=>nomatch z) h
  | bl y=>cases (show u = Value.bool y from rx); exact PySem.W.kia_one PySem.W.kitx_bool I.kIn True.intro e (fun z=>nomatch z) h
  | int i=>obtain ⟨t,q⟩:=(show ∃ t,u = Value.int i t from rx); cases q; exact PySem.W.kia_one PySem.W.kitx_int I.kIn True.intro e (fun z=>nomatch z) h
  | str y=>obtain ⟨t,q⟩:=(show ∃ t,u = Value.str y t from rx); cases q; exact PySem.W.kia_one PySem.W.kitx_str I.kIn True.intro e (fun z=>nomatch z) h
  | flt y=>obtain ⟨t,q⟩:=(show ∃ t,u = Value.float y t from rx); cases q; exact PySem.W.kia_one PySem.W.kitx_float I.kIn True.intro e (fun z=>nomatch z) h
  | @lst a xs ea =>
    cases (show u = Value.ref a from rx)
    obtain ⟨_,_,n,_,h1⟩:=(show ObjOk X.prog X.w H s.heap a (.lst xs) from I.hok a _ ea)
    exact PySem.W.kia_one PySem.W.kitx_list I.kIn ⟨_,h1,rfl⟩ e (fun z=>nomatch z) h
  | @frz a ob xs ea =>
    cases (show u = Value.ref a from rx)
    obtain ⟨_,_,_,n,_,h1⟩:=(show ObjOk X.prog X.w H s.heap a (.frz ob (.lst xs)) from I.hok a _ ea)
    exact PySem.W.kia_one PySem.W.kitx_list I.kIn ⟨_,h1,rfl⟩ e (fun z=>nomatch z) h
  | @tup a xs ea =>
    cases (show u = Value.ref a from rx)
    obtain ⟨_,_,_,p⟩:=(show ObjOk X.prog X.w H s.heap a (.tup xs) from I.hok a _ ea)
    obtain ⟨o,h1,h2,_⟩:=p
    exact PySem.W.kia_one PySem.W.kitx_tuple I.kIn ⟨o,h1,h2⟩ e (fun z=>nomatch z) h
  | @dK a kvs ea =>
    cases (show u = Value.ref a from rx)
    obtain ⟨_,_,vs,_,p⟩:=(show ObjOk X.prog X.w H s.heap a (.dK kvs) from I.hok a _ ea)
    obtain ⟨o,es,ep,h1,h2,_⟩:=p
    exact PySem.W.kia_one PySem.W.kitx_dict I.kIn ⟨o,h1,h2.1⟩ e (fun z=>nomatch z) h
  | @dT a kvs ea =>
    cases (show u = Value.ref a from rx)
    obtain ⟨_,_,xs,_,o,es,ep,h1,h2,_⟩:=(show ObjOk X.prog X.w H s.heap a (.dT kvs) from I.hok a _ ea)
    exact PySem.W.kia_one PySem.W.kitx_dict I.kIn ⟨o,h1,h2.1⟩ e (fun z=>nomatch z) h
  | @ins a C dx fs ea cl ha hn htk hm =>
    cases (show u = Value.ref a from rx)
    obtain ⟨mA,O,_⟩:=ins_get I.hok ea
    obtain ⟨od,J,_⟩:=O.look
    exact PySem.W.kia_one (PySem.W.kitx_own (cl.get _) cl.hd ha hn htk hm) I.kIn J e (fun z=>nomatch z) h
end
structure Room (k:Nat) (A:Around):Prop where
  hd:A.handled = none
  dp:A.depth + 3 * k + 5 < recursionLimit
  un:A.units + 16 * k + 200 < cLine
theorem Room.mono {j k:Nat} {A:Around} (r:Room k A) (h:j ≤ k):Room j A:=⟨r.hd,by have:=r.dp; omega,by have:=r.un; omega⟩
theorem Room.deeper {k:Nat} {A:Around} (r:Room (k + 1) A) (env:Env):Room k (A.deeper env) :=
  ⟨r.hd,by have:=r.dp; show A.depth + 1 + 3 * k + 5 < _; omega,by have:=r.un; show A.units + 3 + 16 * k + 200 < _; omega⟩
theorem Room.depth {k:Nat} {A:Around} (r:Room k A):A.depth < recursionLimit:=by have:=r.dp; omega
theorem Room.units {k:Nat} {A:Around} (r:Room k A):A.units + 64 < cLine:=by have:=r.un; omega
def tNil:TA:=fun _ H Q=>Q [] H
def tCons (ta:TE) (tr:TA):TA:=fun σ H Q=>ta σ H fun x H1=>tr σ H1 fun xs H2=>Q (x :: xs) H2
section
variable {X:Cx} {e:Expr} {es:List Expr} {te:TE} {t:TA} {pos:Pos}
theorem pa_nil:PA X [] tNil:=fun _ _ _ _ H Q I h=>Calls.spliced_nil ⟨[],H,I,.nil,h⟩
theorem pa_cons (ha:PE X e te) (hr:PA X es t) (hs:starEach (e :: es) X.env = (false,eval e X.env) :: starEach es X.env:=by rfl):PA X (e :: es) (tCons te t):=by
  intro pos pins s σ H Q I h
  rw [hs]
  show wpAny _ _ (spliced ((false,eval e X.env) :: backTo pos (starEach es X.env))) _ _ s
  refine Calls.spliced_cons (thn (ha pins s σ H _ I h) fun u s1 ⟨x,H1,I1,r1,q1⟩=>?_)
  exact thn (hr pos pins s1 σ H1 _ I1 q1) fun us s2 ⟨xs,H2,I2,r2,q2⟩=>⟨x :: xs,H2,I2,.cons r1 r2,q2⟩
def tTup (t:TA):TE:=fun σ H Q=>t σ H fun xs H1=>xs.length ≤ sizeLine∧∀ p,H1 p = none→Q (.ref p) (upd H1 p (.tup xs))
def tLst (t:TA):TE:=fun σ H Q=>t σ H fun xs H1=>xs.length ≤ sizeLine∧∀ p,H1 p = none→Q (.ref p) (upd H1 p (.lst xs))
theorem pe_tup {x1} (h:PA X es t):PE X (.Tuple es x1 pos) (tTup t):=by
  intro pins s σ H Q I hq
  refine wpAny_Tuple_spliced (thn (h pos pins s σ H _ I hq) fun us s1 ⟨xs,H1,I1,r,z,q⟩=>⟨by rw [← r.length]; exact z,?_⟩)
  have hf:H1 s1.heap.objs.size = none:=I1.hok.fresh (Nat.le_refl _)
  refine ⟨.ref s1.heap.objs.size,upd H1 s1.heap.objs.size (.tup xs),I1.laid (t':=s1.toks) (fun b u e=>Heap.get?_push_of_some _ e) (Nat.le_refl _) ?_,rfl,q _ hf⟩
  exact ⟨z,us,r,⟨_,Heap.get?_push_size _ rfl,rfl,⟨_,rfl⟩,rfl⟩⟩
theorem pe_lst (h:PA X es t):PE X (.List es pos) (tLst t):=by
  intro pins s σ H Q I hq
  refine wpAny_List_spliced (thn (h pos pins s σ H _ I hq) fun us s1 ⟨xs,H1,I1,r,z,q⟩=>⟨by rw [← r.length]; exact z,?_⟩)
  have hf:H1 s1.heap.objs.size = none:=I1.hok.fresh (Nat.le_refl _)
  refine ⟨.ref s1.heap.objs.size,upd H1 s1.heap.objs.size (.lst xs),I1.laid (t':=s1.toks) (fun b u e=>Heap.get?_push_of_some _ e) (Nat.le_refl _) ?_,rfl,q _ hf⟩
  exact ⟨z,us,0,r,Heap.get?_push_size _ rfl⟩
end
abbrev Sp:=List V→Hp→VK→XK→Prop
abbrev CXT:=List Env→Hp→Shared→XK→Value→Shared→Prop
structure Env0 (P:Program) (w:World) (K:PySem.W.Frag) (mg:Str→Option Value) (base:Heap) (A:Around) (outer:List Env) (s:Shared) (H:Hp):Prop where
  frames:A.frames = some outer
  mod:Mod K mg base
  bs:∀ b o,base.get? b = some o→s.heap.get? b = some o∧H b = none
  bsz:base.objs.size ≤ s.heap.objs.size
  funs:s.heap.FunFrames base outer
  frf:∀ b ∈ frs outer,H b = none
  hok:HOk P w H s.heap
  bare:AllBare s.gens
def CE (outer:List Env) (P:Program) (w:World) (H:Hp) (s:Shared) (Q:VK) (u:Value) (s':Shared):Prop :=
  ∃ v H',s'.os = s.os∧AllBare s'.gens∧Un (frs outer) [] H H' s.heap s'.heap∧HOk P w H' s'.heap∧RelV v u∧Q v H'
def CR (CX:CXT) (outer:List Env) (P:Program) (w:World) (H:Hp) (s:Shared) (Q:VK) (E:XK) (r:Result) (s':Shared):Prop :=
  match r with
  | .ok (.ret u)=>CE outer P w H s Q u s'
  | .ok _=>False
  | .error e=>CX outer H s E e s'
structure FnOk (P:Program) (w:World) (K:PySem.W.Frag) (mg:Str→Option Value) (base:Heap) (CX:CXT) (k:Nat) (f:Addr) (fd:FuncData) (ps:List Str) (sp:Sp):Prop where
  len:∀ vs H Q E,sp vs H Q E→vs.length = ps.length
  run:∀ (A:Around) (outer:List Env) (s:Shared) (H:Hp) (args:Args) (us:List Value) (vs:List V) (Q:VK) (E:XK),Room k A→Env0 P w K mg base A outer s H→BindsTo s fd args (ps.zip us)→Vals vs us→sp vs H Q E →
    codeAny (model P w) A (.call (.ref f) args) (CR CX outer P w H s Q E) s
theorem FnOk.mono {P:Program} {w:World} {K:PySem.W.Frag} {mg:Str→Option Value} {base:Heap} {CX:CXT} {j k:Nat} {f:Addr} {fd:FuncData} {ps:List Str} {sp:Sp} (F:FnOk P w K mg base CX j f fd ps sp) (h:j ≤ k) :
    FnOk P w K mg base CX k f fd ps sp:=⟨F.len,fun A outer s H args us vs Q E hr=>F.run A outer s H args us vs Q E (hr.mono h)⟩
section
variable {X:Cx} {pins:List (Addr×Obj)} {σ:St} {H:Hp} {s s':Shared}
theorem Inv.env0 (I:Inv X pins σ H s):Env0 X.prog X.w X.K X.mg X.base X.A X.stack s H :=
  ⟨I.ok.frames,I.ok.mod,I.bs,Nat.le_trans I.ok.bsz I.sz,I.stack,I.stkFree,I.hok,I.bare⟩
theorem Inv.after {Q:VK} {u:Value} (I:Inv X pins σ H s) (h:CE X.stack X.prog X.w H s Q u s'):EP X pins σ Q u s':=by
  obtain ⟨v,H',os,bare,un,hok,r,q⟩:=h
  obtain ⟨hh,g,d,t,os'⟩:=s'
  obtain rfl:os' = s.os:=os
  exact ⟨v,H',I.call (h':=hh) (g':=g) (d':=d) (t':=t) (ch:=[]) un hok bare (fun b z=>absurd z (by simp)),r,q⟩
end
def tCall (sp:Sp) (dvs:List V) (E:XK) (t:TA):TE:=fun σ H Q=>t σ H fun vs H1=>sp (vs ++ dvs) H1 Q E
def Binds (K:PySem.W.Frag) (fd:FuncData) (ps:List Str) (ds:List Value):Prop :=
  ∀ (s:Shared) (us:List Value),K.In s.heap→(us ++ ds).length = ps.length→BindsTo s fd ⟨us,[]⟩ (ps.zip (us ++ ds))
theorem Binds.all {K:PySem.W.Frag} {fd:FuncData} {ps:List Str} (h:∀ us:List Value,us.length = ps.length→bindArgs fd ⟨us,[]⟩ = pure (ps.zip us)):Binds K fd ps []:=fun s us _ hl=>by
  rw [List.append_nil] at hl ⊢
  exact .of_eq (h us hl)
def Passes (CX:CXT) (X:Cx) (E:XK):Prop:=∀ (pins:List (Addr×Obj)) (σ:St) (H:Hp) (s:Shared) (e:Value) (s':Shared),Inv X pins σ H s→CX X.stack H s E e s'→X.xe e s'
section
variable {X:Cx} {CX:CXT} {k:Nat} {f C:Addr} {fd:FuncData} {ps:List Str} {sp:Sp} {dvs:List V} {ds:List Value} {E:XK} {x m:Str} {p pos apos:Pos} {e o:Expr} {es:List Expr} {ta:TE} {t:TA}
theorem run_fn {pins:List (Addr×Obj)} {σ:St} {H:Hp} {s:Shared} {Q:VK} {us:List Value} {vs:List V} (F:FnOk X.prog X.w X.K X.mg X.base CX k f fd ps sp) (hr:Room k X.A) (hb:Binds X.K fd ps ds) (hd:Vals dvs ds) (hx:Passes CX X E)
    (I:Inv X pins σ H s) (r:Vals vs us) (h:sp (vs ++ dvs) H Q E):wpAny (model X.prog X.w) X.A (call (.ref f) us) (EP X pins σ Q) X.xe s:=by
  have r2:Vals (vs ++ dvs) (us ++ ds):=r.append hd
  have hl:(us ++ ds).length = ps.length:=by rw [← r2.length]; exact F.len _ _ _ _ h
  refine wpAny_call (codeAny_mono (F.run X.A X.stack s H ⟨us,[]⟩ (us ++ ds) (vs ++ dvs) Q E hr I.env0 (hb s us I.kIn hl) r2 h) fun r s' hq=>?_)
  cases r with
  | error e=>exact hx pins σ H s e s' I hq
  | ok fl =>
    cases fl with
    | ret u=>exact I.after hq
    | next=>exact False.elim hq
    | brk=>exact False.elim hq
    | cont=>exact False.elim hq
theorem pe_call (F:FnOk X.prog X.w X.K X.mg X.base CX k f fd ps sp) (hr:Room k X.A) (hg:Gl X x) (hm:X.mg x = some (.ref f)) (hk:PySem.W.keepIn X.K (.ref f) = true) (hb:Binds X.K fd ps ds) (hd:Vals dvs ds) (hx:Passes CX X E)
    (ha:PA X (e :: es) t) (hdb:(x == ("__debug__" : Str)) = false:=by decide) (he:starEach (e :: es) X.env = (false,eval e X.env) :: starEach es X.env:=by rfl) (hpl:(backTo pos (starEach es X.env)).any (·.1) = false:=by rfl) :
    PE X (.Call (.Name x p) (e :: es) [] pos) (tCall sp dvs E t):=by
  intro pins s σ H Q I h
  refine wpAny_Call_Name_kw (ld_glob I hg hm ?_ hdb)
  refine PySem.W.callWith_K (h₀:=X.base) I.ok.mod.kin hk (thn (ha pos pins s σ H _ I h) fun us s1 ⟨vs,H1,I1,r,q⟩=>⟨I1.kIn,?_⟩) he hpl
  exact run_fn F hr hb hd hx I1 r q
end
structure FnScope (N P:List Str) (sc:Scope):Prop where
  kind:sc.kind = .function
  co:sc.isCoroutine = false
  gen:sc.isGenerator = false
  nd:N.Nodup
  pre:N.take P.length = P
  par:∀ x ∈ P,sc.names.lookup x = some .local∨sc.names.lookup x = some .cell
  nofree:∀ y ∈ sc.names,y.2 ≠ .free
theorem bindL_out {kindOf:Str→Option NameKind} {x:Str}:∀ {binds:List (Str×Value)} {m:Str→Option Value},(∀ v,(x,v) ∉ binds)→bindL kindOf binds m x = m x
  | [],_,_=>rfl
  | (n,v) :: r,m,h=>by
    unfold bindL
    rw [bindL_out fun w hw=>h w (List.mem_cons_of_mem _ hw)]
    split
    · have:x ≠ n:=by rintro rfl; exact h v List.mem_cons_self
      simp [this]
    · rfl
theorem bindC_out {kindOf:Str→Option NameKind} {x:Str}:∀ {binds:List (Str×Value)} {m:Str→Option Value},(∀ v,(x,v) ∉ binds)→bindC kindOf binds m x = m x
  | [],_,_=>rfl
  | (n,v) :: r,m,h=>by
    unfold bindC
    rw [bindC_out fun w hw=>h w (List.mem_cons_of_mem _ hw)]
    split
    · rfl
    · have:x ≠ n:=by rintro rfl; exact h v List.mem_cons_self
      simp [this]
theorem bindL_get {kindOf:Str→Option NameKind} {x:Str} {v:Value}:∀ {P:List Str} {vs:List Value} {i:Nat} {m:Str→Option Value},P.Nodup→P[i]? = some x→vs[i]? = some v→kindOf x = some .local →
    bindL kindOf (P.zip vs) m x = some v
  | [],_,_,_,_,h,_,_=>by simp at h
  | _ :: _,[],_,_,_,_,h,_=>by simp at h
  | p :: P,w :: vs,0,m,nd,h1,h2,hk=>by
    simp at h1 h2; subst h1; subst h2
    show bindL kindOf ((p,w) :: P.zip vs) m p = _
    unfold bindL
    rw [bindL_out fun v hv=>(List.nodup_cons.mp nd).1 (List.of_mem_zip hv).1,if_pos hk]
    simp
  | p :: P,w :: vs,i + 1,m,nd,h1,h2,hk=>by
    show bindL kindOf ((p,w) :: P.zip vs) m x = _
    unfold bindL
    exact bindL_get (i:=i) (List.nodup_cons.mp nd).2 (by simpa using h1) (by simpa using h2) hk
theorem bindC_get {kindOf:Str→Option NameKind} {x:Str} {v:Value}:∀ {P:List Str} {vs:List Value} {i:Nat} {m:Str→Option Value},P.Nodup→P[i]? = some x→vs[i]? = some v→kindOf x ≠ some .local →
    bindC kindOf (P.zip vs) m x = some v
  | [],_,_,_,_,h,_,_=>by simp at h
  | _ :: _,[],_,_,_,_,h,_=>by simp at h
  | p :: P,w :: vs,0,m,nd,h1,h2,hk=>by
    simp at h1 h2; subst h1; subst h2
    show bindC kindOf ((p,w) :: P.zip vs) m p = _
    unfold bindC
    rw [bindC_out fun v hv=>(List.nodup_cons.mp nd).1 (List.of_mem_zip hv).1,if_neg hk]
    simp
  | p :: P,w :: vs,i + 1,m,nd,h1,h2,hk=>by
    show bindC kindOf ((p,w) :: P.zip vs) m x = _
    unfold bindC
    exact bindC_get (i:=i) (List.nodup_cons.mp nd).2 (by simpa using h1) (by simpa using h2) hk
def start (N:List Str) (vs:List V):St:=vs.map some ++ List.replicate (N.length - vs.length) none
def cxOf (CX:CXT) (P:Program) (w:World) (K:PySem.W.Frag) (mg:Str→Option Value) (base:Heap) (N:List Str) (qual:Str) (scope:Scope) (f:Addr) (cd:Value) (A:Around) (outer:List Env) (s:Shared) (H:Hp) (E:XK):Cx where
  prog:=P
  w:=w
  K:=K
  mg:=mg
  base:=base
  A:=A.deeper (envOfC qual scope s.heap.objs.size f cd)
  N:=N
  s₀:=s
  H₀:=H
  env:=envOfC qual scope s.heap.objs.size f cd
  outer:=outer
  stack:=envOfC qual scope s.heap.objs.size f cd :: outer
  ex:=[]
  calm:=true
  fn:=fun _=>true
  pn:=[]
  xe:=fun e s'=>wpAny (model P w) (A.deeper (envOfC qual scope s.heap.objs.size f cd)) (leaving (envOfC qual scope s.heap.objs.size f cd) e) (fun _ s''=>CX outer H s E e s'') (fun e' s''=>CX outer H s E e' s'') s'
theorem cell_has {sc:Scope} {n:Nat} {x:Str} (h:sc.names.lookup x = some .cell):∃ c,(cellsFrom n sc.names []).lookup x = some c:=by
  have q:=PySem.W.cellsFrom_some sc.names n [] (.inl h)
  exact Option.isSome_iff_exists.mp q
theorem inv_start {CX:CXT} {P:Program} {w:World} {K:PySem.W.Frag} {mg:Str→Option Value} {base:Heap} {N ps:List Str} {qual:Str} {scope:Scope} {f:Addr} {cd:Value} {A:Around} {outer:List Env} {s s1:Shared} {H:Hp} {E:XK} {us:List Value} {vs:List V}
    (S:FnScope N ps scope) (hd:A.handled = none) (e0:Env0 P w K mg base A outer s H) (hl:vs.length = ps.length) (r:Vals vs us)
    (x:InCallC s s.heap.objs.size (bindL (envOfC qual scope s.heap.objs.size f cd).kindOf (ps.zip us) fun _=>none) (cellsFrom (s.heap.objs.size + 1) scope.names []) (bindC (envOfC qual scope s.heap.objs.size f cd).kindOf (ps.zip us) fun _=>none) s1) :
    Inv (cxOf CX P w K mg base N qual scope f cd A outer s H E) [] (start N vs) H s1:=by
  have hpl:ps.length ≤ N.length:=by have:=congrArg List.length S.pre; rw [List.length_take] at this; omega
  obtain ⟨h1,tk,rfl,hk⟩:=x.done
  have noA:∀ b:Addr,b ∉ (cxOf CX P w K mg base N qual scope f cd A outer s H E).ex:=fun b z=>absurd (show b ∈ ([]:List Addr) from z) (by simp)
  refine ⟨⟨e0.mod,S.kind,rfl,rfl,Nat.le_refl _,fun y z c h1 h2=>?_,fun y hy=>?_,fun y c _ h=>?_,fun _=>hd,Around.frames_deeper e0.frames,.inr ⟨rfl,rfl⟩,fun b z=>absurd z (noA b),e0.bs,e0.bsz,fun b _ _=>noA b,fun b z=>absurd z (noA b),e0.funs,e0.frf⟩,
    rfl,e0.bare,Un.kept hk,⟨_,x.toInCall.ns,fun i y v h1 h2 h3=>?_⟩,fun y c h=>⟨_,x.cell y c h⟩,e0.hok.fresh (Nat.le_refl _),fun y c h=>?_,fun p hp=>absurd (show p ∈ ([]:List (Addr×Obj)) from hp) (by simp),e0.hok.kept hk,?_⟩
  · exact name_of_addr x.apart (PySem.mem_of_lookup h1) (PySem.mem_of_lookup h2)
  · have hy:scope.names.lookup y = some .cell∨scope.names.lookup y = some .free:=hy
    rcases hy with hy | hy
    · exact cell_has hy
    · exact absurd rfl (S.nofree _ (PySem.mem_of_lookup hy))
  · exact Nat.le_of_lt (x.above y c (PySem.mem_of_lookup h))
  · have hi:i < vs.length:=by
      unfold start at h2
      by_cases hi:i < vs.length
      · exact hi
      · rw [List.getElem?_append_right (by simpa using hi)] at h2
        rw [List.getElem?_replicate] at h2
        split at h2 <;> cases h2
    have ha:vs[i]? = some v:=by
      unfold start at h2
      rw [List.getElem?_append_left (by simpa using hi),List.getElem?_map] at h2
      cases e:vs[i]? with
      | none=>rw [e] at h2; cases h2
      | some a=>rw [e] at h2; cases h2; rfl
    obtain ⟨u,hu,rv⟩:=r.get ha
    have hp:ps[i]? = some y:=by
      rw [← S.pre,List.getElem?_take_of_lt (by omega)]; exact h1
    have ndP:ps.Nodup:=by rw [← S.pre]; exact S.nd.sublist (List.take_sublist _ _)
    refine ⟨u,rv,?_⟩
    rcases S.par y (List.mem_of_getElem? hp) with k | k
    · exact .inl ⟨k,bindL_get ndP hp hu k⟩
    · obtain ⟨c,e⟩:=cell_has (n:=s.heap.objs.size + 1) k
      refine .inr ⟨.inl k,c,e,?_⟩
      have q:=x.cell y c e
      rw [bindC_get ndP hp hu (by show scope.names.lookup y ≠ _; rw [k]; decide)] at q
      exact q
  · exact e0.hok.fresh (Nat.le_of_lt (x.above y c (PySem.mem_of_lookup h)))
  · unfold start
    show _ = N.length
    rw [List.length_append,List.length_map,List.length_replicate]
    omega
theorem fn_of {CX:CXT} {P:Program} {w:World} {K:PySem.W.Frag} {mg:Str→Option Value} {base:Heap} {k:Nat} {f:Addr} {name qual:Str} {params:Arguments} {body:List Stmt} {scope:Scope} {dV kV doc pm cdv ct oc:Value} {an od:Option Addr}
    {osl:Array (Option Value)} {N ps:List Str} {sp:Sp} (lk:K.lookup f = some ⟨oc,od,.func (PySem.W.fnOf name qual params body scope dV kV doc pm an cdv ct),osl⟩) (hcd:PySem.W.codeIn K cdv qual = true) (S:FnScope N ps scope)
    (len:∀ vs H Q E,sp vs H Q E→vs.length = ps.length)
    (hbody:∀ (A:Around) (outer:List Env) (s:Shared) (H:Hp) (vs:List V) (Q:VK) (E:XK),Room k (A.deeper (envOfC qual scope s.heap.objs.size f cdv))→sp vs H Q E →
      ∃ t,PSs (cxOf CX P w K mg base N qual scope f cdv A outer s H E) body t∧t { nx:=fun _ H'=>Q .non H',rt:=Q } (start N vs) H) :
    FnOk P w K mg base CX (k + 1) f (PySem.W.fnOf name qual params body scope dV kV doc pm an cdv ct) ps sp:=by
  refine ⟨len,fun A outer s H args us vs Q E hr e0 hb r hsp=>?_⟩
  have hl:=len _ _ _ _ hsp
  have KX:K.In s.heap:=e0.mod.kin.keeps fun b o e=>(e0.bs b o e).1
  have lim:s.heap.NoLimit:=e0.mod.nolimit.keeps fun b o e=>(e0.bs b o e).1
  have hkind:∀ y ∈ ps.zip us,scope.names.lookup y.1 = some .local∨(scope.names.lookup y.1 = some .cell∧((cellsFrom (s.heap.objs.size + 1) scope.names []).lookup y.1).isSome = true):=fun ⟨n,v⟩ hy=>by
    rcases S.par n (List.of_mem_zip hy).1 with q | q
    · exact .inl q
    · exact .inr ⟨q,PySem.W.cellsFrom_some _ _ _ (.inl q)⟩
  refine codeAny_call_function hr.depth (KX _ _ lk) rfl S.co S.gen rfl (PySem.W.codeRec_of KX hcd) (hb _ _ _ _ ?_)
  refine wpAny_newFunctionEnv_cells S.kind hkind fun env he s1 x=>?_
  subst he
  refine ⟨lim.keeps x.toInCall.keep,codeAny_func ?_⟩
  obtain ⟨t,ht,hq⟩:=hbody A outer s H vs Q E (hr.deeper _) hsp
  have I:Inv (cxOf CX P w K mg base N qual scope f cdv A outer s H E) [] (start N vs) H s1:=inv_start S hr.hd e0 hl r x
  refine wpAny_mono (ht [] s1 (start N vs) H _ I hq) (fun fl s' hs=>?_) fun e s' hs=>hs
  have fin:∀ {σ':St} {H':Hp} {v:V} {u:Value},Inv (cxOf CX P w K mg base N qual scope f cdv A outer s H E) [] σ' H' s'→RelV v u→Q v H'→CE outer P w H s Q u s' :=
    fun {σ' H' v u} J rv q=>⟨v,H',J.os,J.bare,J.base,J.hok,rv,q⟩
  cases fl with
  | ret u =>
    obtain ⟨v,σ',H',J,rv,q⟩:=hs
    exact fin J rv q
  | next =>
    obtain ⟨σ',H',J,q⟩:=hs
    exact fin (v:=V.non) (u:=Value.none) J rfl q
  | brk =>
    obtain ⟨_,_,_,q⟩:=hs
    exact False.elim q
  | cont =>
    obtain ⟨_,_,_,q⟩:=hs
    exact False.elim q
section
variable {X:Cx} {x:Str} {p pos:Pos} {e:Expr} {es:List Expr} {t:TA} {id T:String} {r:List V→Hp→VK→Prop}
def tCB (r:List V→Hp→VK→Prop) (t:TA):TE:=fun σ H Q=>t σ H fun vs H1=>r vs H1 Q
theorem pe_callB (hc:CallR X (.builtin id) r) (hg:Gl X x) (hm:X.mg x = none) (hv:bootBuiltins x = some (.builtin id)) (ha:PA X (e :: es) t) (hn:x ≠ "__name__":=by decide) (hdb:(x == ("__debug__" : Str)) = false:=by decide)
    (he:starEach (e :: es) X.env = (false,eval e X.env) :: starEach es X.env:=by rfl) (hpl:(backTo pos (starEach es X.env)).any (·.1) = false:=by rfl):PE X (.Call (.Name x p) (e :: es) [] pos) (tCB r t):=by
  intro pins s σ H Q I h
  refine wpAny_Call_Name_kw (ld_blt I hg hm hv ?_ hn hdb)
  exact PyProof.Rows.callWith_builtin1 (thn (ha pos pins s σ H _ I h) fun us s1 ⟨vs,H1,I1,r1,q1⟩=>hc pins s1 σ H1 vs us Q I1 r1 q1) he hpl
theorem pe_callTy (hc:CallR X (.type T) r) (hg:Gl X x) (hm:X.mg x = none) (hv:bootBuiltins x = some (.type T)) (ha:PA X (e :: es) t) (hn:x ≠ "__name__":=by decide) (hdb:(x == ("__debug__" : Str)) = false:=by decide)
    (he:starEach (e :: es) X.env = (false,eval e X.env) :: starEach es X.env:=by rfl) (hpl:(backTo pos (starEach es X.env)).any (·.1) = false:=by rfl):PE X (.Call (.Name x p) (e :: es) [] pos) (tCB r t):=by
  intro pins s σ H Q I h
  refine wpAny_Call_Name_kw (ld_blt I hg hm hv ?_ hn hdb)
  exact PyProof.Rows.callWith_type1 (thn (ha pos pins s σ H _ I h) fun us s1 ⟨vs,H1,I1,r1,q1⟩=>hc pins s1 σ H1 vs us Q I1 r1 q1) he hpl
end
end L2
namespace HT
open PySem PyProof.Rows
section
variable {prog:Program} {w:World} {A:Around} {E:Value→Shared→Prop} {s:Shared}
theorem cat_tup {t b:Addr} {vs ws:List Value} {Q:Value→Shared→Prop} (ht:IsTup s.heap t vs.toArray) (hb:IsTup s.heap b ws.toArray) (hv:vs ≠ [])
    (h1:ws = []→Q (.ref t) s) (h2:ws ≠ []→Q (.ref s.heap.objs.size) { s with heap:=s.heap.push { cls:=.type "tuple", data:=.seq (vs ++ ws).toArray } })
    (hsz:vs.length + ws.length ≤ sizeLine):wpAny (model prog w) A (binaryOp .Add (.ref t) (.ref b)) Q E s:=by
  obtain ⟨⟨cls,dd,data,sl⟩,ho,hc,n,hd⟩:=id ht
  obtain ⟨⟨cls2,dd2,data2,sl2⟩,ho2,hc2,n2,hd2⟩:=id hb
  simp only at hc hd hc2 hd2
  subst hc hd hc2 hd2
  have e:vs.toArray ++ ws.toArray = (vs ++ ws).toArray:=by simp
  by_cases hw:ws = []
  · exact concat_meets ⟨_,ho,rfl⟩ ⟨_,ho2,rfl⟩ noFill_tuple_add seq_tuple_add PySem.F.slot_tuple_add PySem.F.entry_tuple_add (PySem.F.args_tuple_add_2 _ _)
      (tuple_addW1 t b vs.toArray ws.toArray n n2 dd dd2 sl sl2 (by simpa using hv) (by simp [hw])) ⟨ho,ho2,h1 hw⟩
  · refine concat_meets ⟨_,ho,rfl⟩ ⟨_,ho2,rfl⟩ noFill_tuple_add seq_tuple_add PySem.F.slot_tuple_add PySem.F.entry_tuple_add (PySem.F.args_tuple_add_2 _ _)
      (tuple_addW2 t b vs.toArray ws.toArray n n2 dd dd2 sl sl2 (by simpa using hv) (by simpa using hw) (by rw [List.size_toArray,List.size_toArray]; exact hsz)) ⟨ho,ho2,?_⟩
    rw [e]
    exact h2 hw
end
end HT
namespace L2
open PySem PySem.Spec PyProof.Rows
section
variable {X:Cx} {e:Expr} {te:TE} {lo hi:Option Expr} {tl th:TO} {pos p2:Pos}
def rCatT (K:PySem.W.Frag):R2:=fun x y H Q=>∃ a b xs ys,x = .ref a∧y = .ref b∧SqT K H a xs∧SqT K H b ys∧xs ≠ []∧xs.length + ys.length ≤ sizeLine ∧
  (ys = []→Q (.ref a) H)∧(ys ≠ []→∀ p,H p = none→Q (.ref p) (upd H p (.tup (xs ++ ys))))
theorem Vals.nil_iff {xs:List V} {us:List Value} (r:Vals xs us):us = [] ↔ xs = []:=by
  cases r with
  | nil=>simp
  | cons _ _=>simp
theorem op_catT:OpR X (binaryOp .Add) (rCatT X.K):=by
  intro pins s σ H x y v u Q I rx ry h
  obtain ⟨a,b,xs,ys,rfl,rfl,ha,hb,hx,hz,q1,q2⟩:=h
  cases rx
  cases ry
  obtain ⟨its,r1,p1,_⟩:=I.tuple ha
  obtain ⟨its2,r2,p2,_⟩:=I.tuple hb
  refine HT.cat_tup p1 p2 (fun z=>hx (r1.nil_iff.mp z)) (fun z=>⟨.ref a,H,I,rfl,q1 (r2.nil_iff.mp z)⟩) (fun z=>?_) (by rw [← r1.length,← r2.length]; exact hz)
  refine ⟨.ref s.heap.objs.size,_,I.laid (t':=s.toks) (o:=.tup (xs ++ ys)) (fun b ob q=>Heap.get?_push_of_some _ q) (Nat.le_refl _) ?_,rfl,q2 (fun w=>z (r2.nil_iff.mpr w)) _ (I.hok.fresh (Nat.le_refl _))⟩
  exact ⟨by rw [List.length_append]; exact hz,_,r1.append r2,IsTupN.new _ _⟩
end
def ixN (n:Nat) (i:Int):Option Nat:=if 0 ≤ i then (if i < n then some i.toNat else none) else if -(n:Int) ≤ i then some (i + n).toNat else none
def atI {α:Type} (xs:List α) (i:Int):Option α:=(ixN xs.length i).bind fun j=>xs[j]?
theorem ixN_seq {n:Nat} {i:Int} {j:Nat} (h:ixN n i = some j):seqIndex? i n = some j∧j < n∧-(n:Int) ≤ i∧i < n:=by
  unfold ixN at h
  by_cases h0:0 ≤ i
  · rw [if_pos h0] at h
    by_cases h1:i < n
    · rw [if_pos h1] at h
      have e:i.toNat = j:=Option.some.inj h
      exact ⟨by rw [seqIndex_of h0 h1,e],by omega,by omega,h1⟩
    · rw [if_neg h1] at h; cases h
  · rw [if_neg h0] at h
    by_cases h1:-(n:Int) ≤ i
    · rw [if_pos h1] at h
      have e:(i + n).toNat = j:=Option.some.inj h
      exact ⟨by rw [seqIndex_neg (by omega) h1,e],by omega,h1,by omega⟩
    · rw [if_neg h1] at h; cases h
theorem atI_get {α:Type} {xs:List α} {i:Int} {v:α} (h:atI xs i = some v):∃ j,seqIndex? i xs.length = some j∧xs[j]? = some v∧j < xs.length∧-(xs.length:Int) ≤ i∧i < xs.length:=by
  unfold atI at h
  cases e:ixN xs.length i with
  | none=>rw [e] at h; cases h
  | some j =>
    rw [e] at h
    obtain ⟨h1,h2,h3,h4⟩:=ixN_seq e
    exact ⟨j,h1,h,h2,h3,h4⟩
theorem atI_nat {α:Type} {xs:List α} {j:Nat} {v:α} (h:xs[j]? = some v):atI xs (j:Int) = some v:=by
  have hj:j < xs.length:=(List.getElem?_eq_some_iff.mp h).1
  have e:ixN xs.length (j:Int) = some j:=by
    unfold ixN
    rw [if_pos (by omega),if_pos (by omega)]; simp
  unfold atI; rw [e]; exact h
theorem atI_last {α:Type} (xs:List α) (v:α):atI (xs ++ [v]) (-1) = some v:=by
  have hl:(xs ++ [v]).length = xs.length + 1:=by simp
  have e:ixN (xs ++ [v]).length (-1) = some xs.length:=by
    unfold ixN
    rw [hl,if_neg (by decide),if_pos (by omega)]
    congr 1
    omega
  unfold atI
  rw [e]
  show (xs ++ [v])[xs.length]? = some v
  simp
def PlainIx (b:Expr):Prop:=∀ o i,subscripted b false o i = operate [o,i] (getItem o i)
def IxR (X:Cx) (r:R2):Prop :=
  ∀ (value slice:Expr) (pins:List (Addr×Obj)) (s:Shared) (σ:St) (H:Hp) (x y:V) (v u:Value) (Q:VK),Inv X pins σ H s→RelV x v→RelV y u→r x y H Q →
    subscripted slice false v u = operate [v,u] (getItem v u)→wpAny (model X.prog X.w) X.A (subscriptTail value slice v u) (EP X pins σ Q) X.xe s
def MtR (X:Cx) (id:String) (r:V→List V→Hp→VK→Prop):Prop :=
  ∀ (pins:List (Addr×Obj)) (s:Shared) (σ:St) (H:Hp) (x:V) (xs:List V) (v:Value) (us:List Value) (Q:VK),Inv X pins σ H s→RelV x v→Vals xs us→r x xs H Q →
    wpAny (model X.prog X.w) X.A (call (.builtin id) (v :: us)) (EP X pins σ Q) X.xe s
section
variable {X:Cx} {a b:Expr} {ta tb:TE} {pos:Pos}
theorem pe_ix {r:R2} (hr:IxR X r) (ha:PE X a ta) (hb:PE X b tb) (hs:PlainIx b):PE X (.Subscript a b pos) (tOp r ta tb):=by
  intro pins s σ H Q I h
  exact Subscript_ (binT ha hb I h fun v u s2 x y H2 I2 rx ry q=>hr a b pins s2 σ H2 x y v u Q I2 rx ry q (hs _ _))
def rIxL (K:PySem.W.Frag):R2:=fun x y H Q=>∃ p xs i v,x = .ref p∧y = .int i∧SqL K H p xs∧atI xs i = some v∧Q v H
def rIxT (K:PySem.W.Frag):R2:=fun x y H Q=>∃ p xs i v,x = .ref p∧y = .int i∧SqT K H p xs∧atI xs i = some v∧Q v H
def rIxS:R2:=fun x y H Q=>∃ z i c,x = .str z∧y = .int i∧z.length ≤ sizeLine∧atI z.cps.toList i = some c∧Q (.str ⟨#[c]⟩) H
theorem ix_list:IxR X (rIxL X.K):=by
  intro value slice pins s σ H x y v u Q I rx ry h hs
  obtain ⟨p,xs,i,z,rfl,rfl,hq,he,q⟩:=h
  cases rx
  obtain ⟨t,rfl⟩:=ry
  obtain ⟨its,r,pl,hz⟩:=I.list hq
  obtain ⟨j,h1,h2,h3,h4,h5⟩:=atI_get he
  obtain ⟨w,ew,rw'⟩:=r.get h2
  have hl:=r.length
  have hn:=line63
  have fin:EP X pins σ Q w s:=⟨z,H,I,rw',q⟩
  by_cases h0:0 ≤ i
  · have hj:i.toNat = j:=by
      rw [seqIndex_of h0 h5] at h1
      exact Option.some.inj h1
    exact item_listR pl.isList h0 (by omega) (by rw [hj]; simpa using ew) fin hs
  · have hj:(i + (its.toArray.size:Int)).toNat = j:=by
      rw [seqIndex_neg (by omega) h4] at h1
      rw [List.size_toArray,← hl]
      exact Option.some.inj h1
    exact subscriptTail_builtinR (x:=w) pl.isList.typeIs slot_list_getitem.lookup
      (wpAny_getItem_list_neg (Q:=fun r s'=>r = w∧EP X pins σ Q r s') pl.isList (by omega) (by rw [List.size_toArray] <;> omega) (by omega) (by rw [hj]; simpa using ew) ⟨rfl,fin⟩) hs
theorem ix_tup:IxR X (rIxT X.K):=by
  intro value slice pins s σ H x y v u Q I rx ry h hs
  obtain ⟨p,xs,i,z,rfl,rfl,hq,he,q⟩:=h
  cases rx
  obtain ⟨t,rfl⟩:=ry
  obtain ⟨its,r,pl,hz⟩:=I.tuple hq
  obtain ⟨j,h1,h2,h3,h4,h5⟩:=atI_get he
  obtain ⟨w,ew,rw'⟩:=r.get h2
  have hl:=r.length
  have hn:=line63
  have fin:EP X pins σ Q w s:=⟨z,H,I,rw',q⟩
  exact subscriptTail_builtinR (x:=w) pl.typeIs slot_tuple_getitem.lookup
    (getItem_tuple (j:=j) (Q:=fun r s'=>r = w∧EP X pins σ Q r s') pl (by omega) (by omega) (by rw [List.size_toArray,← hl]; exact h1) (by simpa using ew) ⟨rfl,fin⟩) hs
theorem ix_str:IxR X rIxS:=by
  intro value slice pins s σ H x y v u Q I rx ry h hs
  obtain ⟨z,i,c,rfl,rfl,hz,he,q⟩:=h
  obtain ⟨t,rfl⟩:=rx
  obtain ⟨t',rfl⟩:=ry
  obtain ⟨j,h1,h2,h3,h4,h5⟩:=atI_get he
  have hl:z.cps.toList.length = z.length:=by simp [Str.length]
  rw [hl] at h1 h4 h5
  have hn:=line63
  exact tail_any (typeIs_str s z t) slot_str_getitem.lookup (getItem_str (c:=c) (by
    have e1:decide (i < -(2 ^ 63:Int)) = false:=decide_eq_false (by omega)
    have e2:decide (i ≥ 2 ^ 63) = false:=decide_eq_false (by omega)
    rw [e1,e2,Bool.or_false]) (by rw [h1]; simpa using h2) ⟨.str ⟨#[c]⟩,H,I.tok _,⟨_,rfl⟩,q⟩) hs
theorem mapSeq_set (its:List Value) (n j:Nat) (u:Value):Obj.mapSeq (·.setIfInBounds j u) { cls:=.type "list", data:=.seq its.toArray n } = { cls:=.type "list", data:=.seq (its.set j u).toArray n }:=by
  simp [Obj.mapSeq]
theorem Inv.lst {pins:List (Addr×Obj)} {σ:St} {H:Hp} {s:Shared} {p:Addr} {xs:List V} (I:Inv X pins σ H s) (h:H p = some (.lst xs)) :
    ∃ (its:List Value) (n:Nat),Vals xs its∧s.heap.get? p = some { cls:=.type "list", data:=.seq its.toArray n }∧xs.length ≤ sizeLine:=by
  obtain ⟨z,its,n,r,e⟩:=I.hok p _ h
  exact ⟨its,n,r,e,z⟩
theorem Inv.lstUpd {pins:List (Addr×Obj)} {σ:St} {H:Hp} {s:Shared} {p:Addr} {xs ys:List V} {its its':List Value} {n n':Nat} {f:Obj→Obj} (I:Inv X pins σ H s) (h:H p = some (.lst xs))
    (ho:s.heap.get? p = some { cls:=.type "list", data:=.seq its.toArray n }) (hf:f { cls:=.type "list", data:=.seq its.toArray n } = { cls:=.type "list", data:=.seq its'.toArray n' }) (r:Vals ys its') (hz:ys.length ≤ sizeLine) (t:Nat) :
    Inv X pins σ (upd H p (.lst ys)) { s with heap:=s.heap.update p f,toks:=t }:=by
  have e:(s.heap.update p f).get? p = some { cls:=.type "list", data:=.seq its'.toArray n' }:=by
    rw [Heap.get?_update_self f ho (by rw [hf] <;> rfl),hf]
  refine I.write (x:=p) (e:=p) (by rw [h]; trivial) (.inl rfl) (fun b u hb q=>(Heap.get?_update_other _ _ (Ne.symm hb)).trans q) ⟨_,e⟩ ?_
  exact ⟨hz,its',n',r,e⟩
def rSetL:V→V→V→Hp→(Hp→Prop)→Prop:=fun o i v H Q=>∃ p xs k j,o = .ref p∧i = .int k∧H p = some (.lst xs)∧ixN xs.length k = some j∧Q (upd H p (.lst (xs.set j v)))
theorem set_list:PSet X rSetL:=by
  intro pins s σ H o i v ov iv u Q I ro ri rv h
  obtain ⟨p,xs,k,j,rfl,rfl,hp,hj,q⟩:=h
  cases ro
  obtain ⟨t,rfl⟩:=ri
  obtain ⟨its,n,r,ho,hz⟩:=I.lst hp
  obtain ⟨h1,h2,h3,h4⟩:=ixN_seq hj
  have hl:=r.length
  have hn:=line63
  have I':Inv X pins σ (upd H p (.lst (xs.set j v))) { s with heap:=s.heap.update p (Obj.mapSeq (·.setIfInBounds j u)) } :=
    I.lstUpd hp ho (mapSeq_set its n j u) (r.set rv j) (by rw [List.length_set]; exact hz) s.toks
  by_cases h0:0 ≤ k
  · have hk:k.toNat = j:=by
      rw [seqIndex_of h0 h4] at h1
      exact Option.some.inj h1
    exact PySem.W.ki_setAt ho h0 (by omega) (by rw [List.size_toArray,← hl]; exact h4) (by rw [hk]; exact ⟨_,I',q⟩)
  · have hk:(k + (its.toArray.size:Int)).toNat = j:=by
      rw [seqIndex_neg (by omega) h3] at h1
      rw [List.size_toArray,← hl]
      exact Option.some.inj h1
    exact PySem.W.ki_setBack ho (by omega) (by rw [List.size_toArray,← hl]; exact h3) (by omega) (by rw [hk]; exact ⟨_,I',q⟩)
def flatV:V→Bool
  | .non=>true
  | .bl _=>true
  | .int _=>true
  | .str _=>true
  | _=>false
def eqV:V→V→Bool
  | .non,.non=>true
  | .bl a,.bl b=>a == b
  | .bl a,.int b=>(if a then 1 else 0) == b
  | .int a,.bl b=>a == (if b then 1 else 0)
  | .int a,.int b=>a == b
  | .str a,.str b=>a == b
  | _,_=>false
theorem eqAt_V {A:Around} {s:Shared} {y x:V} {u v:Value} (ry:RelV y u) (rx:RelV x v) (fy:flatV y = true) (fx:flatV x = true):SeqAt.EqAt A s u v (eqV y x):=by
  cases y with
  | non =>
    cases ry
    cases x with
    | non=>cases rx; exact SeqAt.EqAt.same _
    | bl b=>cases rx; exact SeqAt.EqAt.none_bool b
    | int b=>obtain ⟨t,rfl⟩:=rx; exact SeqAt.EqAt.none_int b t
    | str b=>obtain ⟨t,rfl⟩:=rx; exact SeqAt.EqAt.none_str b t
    | _=>exact absurd (show false = true from fx) Bool.false_ne_true
  | bl a =>
    cases ry
    cases x with
    | non=>cases rx; exact SeqAt.EqAt.bool_none a
    | bl b=>cases rx; exact SeqAt.EqAt.bool_bool a b
    | int b=>obtain ⟨t,rfl⟩:=rx; exact SeqAt.EqAt.bool_int a b t
    | str b=>obtain ⟨t,rfl⟩:=rx; exact SeqAt.EqAt.bool_str a b t
    | _=>exact absurd (show false = true from fx) Bool.false_ne_true
  | int a =>
    obtain ⟨t',rfl⟩:=ry
    cases x with
    | non=>cases rx; exact SeqAt.EqAt.int_none a t'
    | bl b=>cases rx; exact SeqAt.EqAt.int_bool a t' b
    | int b=>obtain ⟨t,rfl⟩:=rx; exact SeqAt.EqAt.int_int a t' b t
    | str b=>obtain ⟨t,rfl⟩:=rx; exact SeqAt.EqAt.int_str a t' b t
    | _=>exact absurd (show false = true from fx) Bool.false_ne_true
  | str a =>
    obtain ⟨t',rfl⟩:=ry
    cases x with
    | non=>cases rx; exact SeqAt.EqAt.str_none a t'
    | bl b=>cases rx; exact SeqAt.EqAt.str_bool a t' b
    | int b=>obtain ⟨t,rfl⟩:=rx; exact SeqAt.EqAt.str_int a t' b t
    | str b=>obtain ⟨t,rfl⟩:=rx; exact SeqAt.EqAt.str_str a t' b t
    | _=>exact absurd (show false = true from fx) Bool.false_ne_true
  | _=>exact absurd (show false = true from fy) Bool.false_ne_true
def eqU (x:V) (u:Value):Bool:=match u with
  | .none=>eqV .non x
  | .bool b=>eqV (.bl b) x
  | .int i _=>eqV (.int i) x
  | .str z _=>eqV (.str z) x
  | _=>false
theorem eqU_of {x y:V} {u:Value} (r:RelV y u) (f:flatV y = true):eqU x u = eqV y x:=by
  cases y with
  | non=>cases r; rfl
  | bl b=>cases r; rfl
  | int i=>obtain ⟨t,rfl⟩:=r; rfl
  | str z=>obtain ⟨t,rfl⟩:=r; rfl
  | _=>exact absurd (show false = true from f) Bool.false_ne_true
theorem any_eqU {x:V}:∀ {xs:List V} {us:List Value},Vals xs us→xs.all flatV = true→us.any (eqU x) = xs.any fun y=>eqV y x
  | _,_,.nil,_=>rfl
  | y :: xs,u :: us,.cons r t,f=>by
    rw [List.all_cons,Bool.and_eq_true] at f
    rw [List.any_cons,List.any_cons,eqU_of r f.1,any_eqU t f.2]
theorem mem_eqAt {A:Around} {s:Shared} {x:V} {v:Value} (rx:RelV x v) (fx:flatV x = true):∀ {xs:List V} {us:List Value},Vals xs us→xs.all flatV = true→∀ u ∈ us,SeqAt.EqAt A s u v (eqU x u)
  | _,_,.nil,_=>fun u hu=>by cases hu
  | y :: xs,u :: us,.cons r t,f=>fun u' hu=>by
    rw [List.all_cons,Bool.and_eq_true] at f
    rcases List.mem_cons.mp hu with rfl | hu
    · rw [eqU_of r f.1]; exact eqAt_V r rx f.1 fx
    · exact mem_eqAt rx fx t f.2 u' hu
def inV (x:V) (xs:List V):Bool:=xs.any fun y=>eqV y x
def rIn (K:PySem.W.Frag) (neg:Bool):R2:=fun x y H Q=>∃ p xs,y = .ref p∧(SqL K H p xs∨SqT K H p xs)∧flatV x = true∧xs.all flatV = true∧Q (.bl (if neg then !inV x xs else inV x xs)) H
theorem op_in_seq:OpR X (compareOp .In) (rIn X.K false):=by
  intro pins s σ H x y v u Q I rx ry h
  obtain ⟨p,xs,rfl,hq,fx,fs,q⟩:=h
  cases ry
  rcases hq with hq | hq
  · obtain ⟨its,r,pl,hz⟩:=I.list hq
    refine SeqAt.in_listAt (eqU x) pl.isList (fun w hw=>mem_eqAt rx fx r fs w (by simpa using hw)) ⟨.bl _,H,I,rfl,?_⟩
    rw [show its.toArray.any (eqU x) = its.any (eqU x) by simp,any_eqU r fs]
    exact q
  · obtain ⟨its,r,pl,hz⟩:=I.tuple hq
    refine SeqAt.in_tupleAt (eqU x) pl (fun w hw=>mem_eqAt rx fx r fs w (by simpa using hw)) ⟨.bl _,H,I,rfl,?_⟩
    rw [show its.toArray.any (eqU x) = its.any (eqU x) by simp,any_eqU r fs]
    exact q
theorem call_len_seq:CallR X (.builtin "len") (fun xs H Q=>∃ p ys,xs = [.ref p]∧(SqL X.K H p ys∨SqT X.K H p ys)∧Q (.int ys.length) H):=by
  intro pins s σ H xs us Q I r h
  obtain ⟨p,ys,rfl,hq,q⟩:=h
  obtain ⟨u,rfl,rx⟩:=vals1 r
  cases rx
  have hn:=line63
  rcases hq with hq | hq
  · obtain ⟨its,r',pl,hz⟩:=I.list hq
    have hlen:=r'.length
    exact Calls.call_len_list pl.isList (by simp only [List.size_toArray] <;> omega) ⟨.int ys.length,H,I.tok _,⟨s.toks + 1,by rw [List.size_toArray,hlen]⟩,q⟩
  · obtain ⟨its,r',pl,hz⟩:=I.tuple hq
    have hlen:=r'.length
    exact len_tuple pl (by simp only [List.size_toArray] <;> omega) ⟨.int ys.length,H,I.tok _,⟨s.toks + 1,by rw [List.size_toArray,hlen]⟩,q⟩
theorem call_list_of:CallR X (.type "list") (fun xs H Q=>∃ p ys,xs = [.ref p]∧(SqL X.K H p ys∨SqT X.K H p ys)∧∀ l,H l = none→Q (.ref l) (upd H l (.lst ys))):=by
  intro pins s σ H xs us Q I r h
  obtain ⟨p,ys,rfl,hq,q⟩:=h
  obtain ⟨u,rfl,rx⟩:=vals1 r
  cases rx
  have fin:∀ (its:List Value),Vals ys its→ys.length ≤ sizeLine→∀ (h':Heap) (c':Nat),(∀ b o',s.heap.get? b = some o'→h'.get? b = some o') →
      h'.get? s.heap.objs.size = some { cls:=.type "list", dict:=none,data:=.seq its.toArray c',slots:=#[] }→EP X pins σ Q (.ref s.heap.objs.size) { s with heap:=h' }:=fun its r' hz h' c' kp e =>
    ⟨.ref s.heap.objs.size,_,I.laid (t':=s.toks) kp (Nat.le_refl _) (show ObjOk X.prog X.w _ h' _ (.lst ys) from ⟨hz,its,c',r',e⟩),rfl,q _ (I.hok.fresh (Nat.le_refl _))⟩
  rcases hq with hq | hq
  · obtain ⟨its,r',pl,hz⟩:=I.list hq
    have hlen:=r'.length
    obtain ⟨o,ho,hc,n,hd⟩:=pl.isList
    exact call_list_seq p (.inl rfl) ho hc hd (fun h' c' kp e=>fin its r' hz h' c' kp e) (by simp only [List.size_toArray] <;> omega)
  · obtain ⟨its,r',pl,hz⟩:=I.tuple hq
    have hlen:=r'.length
    obtain ⟨o,ho,hc,n,hd⟩:=pl
    exact call_list_seq p (.inr rfl) ho hc hd (fun h' c' kp e=>fin its r' hz h' c' kp e) (by simp only [List.size_toArray] <;> omega)
theorem call_tuple_of:CallR X (.type "tuple") (fun xs H Q=>∃ p ys,xs = [.ref p]∧((SqL X.K H p ys∧∀ l,H l = none→Q (.ref l) (upd H l (.tup ys)))∨(SqT X.K H p ys∧Q (.ref p) H))):=by
  intro pins s σ H xs us Q I r h
  obtain ⟨p,ys,rfl,h⟩:=h
  obtain ⟨u,rfl,rx⟩:=vals1 r
  cases rx
  rcases h with ⟨hq,q⟩ | ⟨hq,q⟩
  · obtain ⟨its,r',pl,hz⟩:=I.list hq
    have hlen:=r'.length
    refine call_tuple_list pl.isList (fun h' kp=>?_) (by simp only [List.size_toArray] <;> omega)
    have I1:Inv X pins σ H { s with heap:=h' }:=I.kept (t':=s.toks) kp
    have I2:Inv X pins σ (upd H h'.objs.size (.tup ys)) { s with heap:=h'.push { cls:=.type "tuple", data:=.seq its.toArray } } :=
      I1.laid (t':=s.toks) (fun b o e=>Heap.get?_push_of_some _ e) (Nat.le_refl _) (show ObjOk X.prog X.w _ _ _ (.tup ys) from ⟨hz,its,r',IsTupN.new _ _⟩)
    exact ⟨.ref h'.objs.size,_,I2,rfl,q _ (I1.hok.fresh (Nat.le_refl _))⟩
  · obtain ⟨its,r',pl,hz⟩:=I.tuple hq
    exact call_tuple_same pl ⟨.ref p,H,I,rfl,q⟩
def tyV (K:PySem.W.Frag) (T:String) (x:V) (H:Hp):Prop:=match x with
  | .str _=>T = "str"
  | .int _=>T = "int"
  | .ref p=>(T = "list"∧∃ xs,SqL K H p xs)∨(T = "tuple"∧∃ o,K.lookup p = some o∧o.cls = .type "tuple"∧o.dict = none) ∨
      (T = "dict"∧((∃ kvs,H p = some (.dK kvs))∨∃ kvs,H p = some (.dT kvs)))∨(T = "set"∧∃ S n,H p = some (.set S n))
  | _=>False
theorem tyV_is {pins:List (Addr×Obj)} {σ:St} {H:Hp} {s:Shared} {T:String} {x:V} {v:Value} (I:Inv X pins σ H s) (r:RelV x v) (ty:tyV X.K T x H) :
    s.TypeIs v T∧∀ a,v = .ref a→∃ ob,s.heap.get? a = some ob∧ob.dict = none:=by
  cases x with
  | str z =>
    obtain ⟨t,rfl⟩:=r
    cases (show T = "str" from ty)
    exact ⟨typeIs_str s z t,fun _ e=>nomatch e⟩
  | int i =>
    obtain ⟨t,rfl⟩:=r
    cases (show T = "int" from ty)
    exact ⟨typeIs_int s i t,fun _ e=>nomatch e⟩
  | ref p =>
    cases r
    rcases ty with ⟨rfl,xs,hq⟩ | ⟨rfl,o,hk,hc,hd⟩ | ⟨rfl,hk⟩ | ⟨rfl,S,n,hk⟩
    · obtain ⟨its,_,pl,_⟩:=I.list hq
      refine ⟨pl.isList.typeIs,fun a e=>?_⟩
      cases e
      obtain ⟨o,n,e,c,hd,_⟩:=pl
      exact ⟨o,e,hd⟩
    · refine ⟨⟨o,I.kIn p o hk,hc⟩,fun a e=>?_⟩
      cases e
      exact ⟨o,I.kIn _ o hk,hd⟩
    · have z:∃ o,s.heap.get? p = some o∧o.ExactDict:=by
        rcases hk with ⟨kvs,hk⟩ | ⟨kvs,hk⟩
        · obtain ⟨_,_,_,_,o,_,_,e,ex,_⟩:=I.hok p _ hk
          exact ⟨o,e,ex⟩
        · obtain ⟨_,_,_,_,o,_,_,e,ex,_⟩:=I.hok p _ hk
          exact ⟨o,e,ex⟩
      obtain ⟨o,e,ex⟩:=z
      refine ⟨⟨o,e,ex.1⟩,fun a e2=>?_⟩
      cases e2
      exact ⟨o,e,ex.2.1⟩
    · obtain ⟨o,_,_,_,e,ex,_⟩:=I.hok p _ hk
      refine ⟨⟨o,e,ex.1⟩,fun a e2=>?_⟩
      cases e2
      exact ⟨o,e,ex.2.1⟩
  | _=>exact False.elim ty
def tBM (K:PySem.W.Frag) (T:String) (r:V→List V→Hp→VK→Prop) (to:TE) (t:TA):TE:=fun σ H Q=>to σ H fun x H1=>tyV K T x H1∧t σ H1 fun xs H2=>r x xs H2 Q
variable {o e:Expr} {es:List Expr} {to:TE} {t:TA} {name:Str} {apos cpos:Pos} {T id:String} {r:V→List V→Hp→VK→Prop}
theorem pe_bm (pa:PlainAttrs T) (slot:Slot T name id) (hty:typeOf (.builtin id) = pure (.type "method_descriptor")) (hm:MtR X id r) (ho:PE X o to) (ha:PA X (e :: es) t)
    (hbase:attributeBase o name X.env (eval o X.env) = eval o X.env:=by rfl)
    (hfew:((backTo cpos (starEach (e :: es) X.env)).all (fun x=>!x.1) && (backToKw cpos (keywordEach [] X.env)).all (fun x=>x.1.isSome)
      && decide ((e :: es).length + ([]:List Keyword).length + (if ([]:List Keyword).isEmpty then 0 else 1) < 30)) = true:=by rfl)
    (hline:(apos.endLine == cpos.line) = true:=by rfl) (hs:starEach (e :: es) X.env = (false,eval e X.env) :: starEach es X.env:=by rfl) (hplain:(backTo cpos (starEach es X.env)).any (·.1) = false:=by rfl) :
    PE X (.Call (.Attribute o name apos) (e :: es) [] cpos) (tBM X.K T r to t):=by
  intro pins s σ H Q I h
  refine wpAny_Call_method_late hbase hfew hline rfl (thn (ho pins s σ H _ I h) fun v s1 ⟨x,H1,I1,r1,ty,q1⟩=>?_)
  obtain ⟨h1,h2⟩:=tyV_is I1 r1 ty
  refine ⟨T,id,pa,slot,hty,h1,h2,?_⟩
  have hA:=ha cpos pins s1 σ H1 _ I1 q1
  rw [hs] at hA ⊢
  refine Calls.callWith_builtin (by show (false || (backTo cpos (starEach es X.env)).any (·.1)) = false; rw [hplain] <;> rfl) (Calls.evalArgs_plain ?_)
  exact thn hA fun us s2 ⟨vs,H2,I2,r2,q2⟩=>hm pins s2 σ H2 x vs v us Q I2 r1 r2 q2
end
def MtM (X:Cx) (id:String) (r:V→List V→Hp→VK→Prop):Prop :=
  ∀ (pins:List (Addr×Obj)) (s:Shared) (σ:St) (H:Hp) (x:V) (xs:List V) (v:Value) (us:List Value) (Q:VK),Inv X pins σ H s→RelV x v→Vals xs us→r x xs H Q →
    wpAny (model X.prog X.w) X.A (call (.builtin id) (v :: us)) (EP X pins σ Q) X.xe s
theorem Vals.one:∀ {x:V} {us:List Value},Vals [x] us→∃ u,us = [u]∧RelV x u
  | _,_,.cons r .nil=>⟨_,rfl,r⟩
section
variable {X:Cx} {pins:List (Addr×Obj)} {σ:St} {H:Hp} {s:Shared} {l b:Addr} {xs ys zs:List V}
theorem Inv.lset {its its':List Value} {n:Nat} {f:Array Value→Array Value} {t':Nat} (I:Inv X pins σ H s) (hH:H l = some (.lst xs))
    (e:s.heap.get? l = some { cls:=.type "list", data:=.seq its.toArray n }) (hf:f its.toArray = its'.toArray) (hv:Vals ys its') (hz:ys.length ≤ sizeLine) :
    Inv X pins σ (upd H l (.lst ys)) { s with heap:=s.heap.update l (Obj.mapSeq f),toks:=t' }:=by
  have q:=PySem.IsL.update e f
  rw [hf] at q
  refine I.write (x:=l) (e:=l) (by rw [hH]; exact trivial) (.inl rfl) (fun b' u hb hu=>(Heap.get?_update_other s.heap (Obj.mapSeq f) (Ne.symm hb)).trans hu) ⟨_,q⟩ ?_
  exact ⟨hz,its',_,hv,q⟩
theorem Inv.lnew {its:List Value} {t':Nat} (I:Inv X pins σ H s) (hv:Vals ys its) (hz:ys.length ≤ sizeLine) :
    Inv X pins σ (upd H s.heap.objs.size (.lst ys)) { s with heap:=s.heap.push { cls:=.type "list", data:=.seq its.toArray },toks:=t' } :=
  I.laid (fun _ _ q=>Heap.get?_push_of_some _ q) (Nat.le_refl _) ⟨hz,its,0,hv,Heap.get?_push_size _ rfl⟩
theorem Inv.fresh (I:Inv X pins σ H s):H s.heap.objs.size = none:=I.hok.fresh (Nat.le_refl _)
theorem Inv.lstM (I:Inv X pins σ H s) (hH:H l = some (.lst xs)):xs.length ≤ sizeLine∧∃ (its:List Value) (n:Nat),Vals xs its∧xs.length = its.length∧s.heap.get? l = some { cls:=.type "list", data:=.seq its.toArray n }:=by
  obtain ⟨z,its,n,r,e⟩:=I.hok l _ hH
  exact ⟨z,its,n,r,r.length,e⟩
end
section
variable {X:Cx}
def rAppend:V→List V→Hp→VK→Prop:=fun x vs H Q=>∃ l xs y,x = .ref l∧vs = [y]∧H l = some (.lst xs)∧xs.length < sizeLine∧Q .non (upd H l (.lst (xs ++ [y])))
theorem mt_append:MtM X "list.append" rAppend:=by
  intro pins s σ H x vs v us Q I rx rv h
  obtain ⟨l,xs,y,rfl,rfl,hH,hz,q⟩:=h
  cases rx
  obtain ⟨u,rfl,ru⟩:=rv.one
  obtain ⟨z,its,n,r,hl,e⟩:=I.lstM hH
  refine call_meets F.slot_list_append ⟨_,e,rfl⟩ F.entry_list_append (F.args_list_append_2 _ _) (PySem.list_append l its.toArray n u (by rw [List.size_toArray]; omega)) ⟨e,?_⟩
  refine ⟨.non,_,I.lset (its':=its ++ [u]) hH e (by simp) (r.append (.cons ru .nil)) ?_,rfl,q⟩
  rw [List.length_append,List.length_singleton]
  omega
def rCat:R2:=fun x y H Q=>∃ l b xs zs,x = .ref l∧y = .ref b∧H l = some (.lst xs)∧H b = some (.lst zs)∧xs.length + zs.length ≤ sizeLine∧∀ p,H p = none→Q (.ref p) (upd H p (.lst (xs ++ zs)))
theorem op_cat:OpR X (binaryOp .Add) rCat:=by
  intro pins s σ H x y v u Q I rx ry h
  obtain ⟨l,b,xs,zs,rfl,rfl,hH,hB,hz,q⟩:=h
  cases rx
  cases ry
  obtain ⟨z,its,n,r,hl,e⟩:=I.lstM hH
  obtain ⟨z2,its2,n2,r2,hl2,e2⟩:=I.lstM hB
  refine PySem.P.add_list e e2 ?_ (by rw [List.size_toArray,List.size_toArray]; omega)
  have ea:its.toArray ++ its2.toArray = (its ++ its2).toArray:=by simp
  rw [ea]
  exact ⟨.ref _,_,I.lnew (t':=s.toks) (r.append r2) (by rw [List.length_append]; omega),rfl,q _ I.fresh⟩
end
end L2
namespace Att
open PySem PySem.W PySem.Calls PyProof.Rows
theorem ints_of_wellAll {P:Params} {h:Heap}:∀ (ns:List Int) (vs:List Value),WellAll P h vs (ns.map WData.int)→IntsAre vs ns:=by
  intro ns
  induction ns with
  | nil =>
    intro vs w
    rw [List.map_nil] at w
    cases w
    exact .nil
  | cons n ns ih =>
    intro vs w
    rw [List.map_cons] at w
    cases w with
    | cons a b =>
      cases a
      exact .cons _ _ (ih _ b)
theorem script_of {l:OpenLaw} {n:Nat} (hn:l.most = some n) {P:Params} {h:Heap} {args:List WData} {vals:List Value}
    (hpre:l.row.toRowW.claim.pre args = true) (hwl:WellAll P h vals args) :
    ∃ a vs ns,vals = [Value.ref a]∧args = [WData.list (ns.map WData.int)]∧h.get? a = some { cls:=.type "list", data:=.seq vs.toArray }∧IntsAre vs ns∧ns.length ≤ n:=by
  have hsh:WShape.hasAll [] args [.list .int] = true:=(pre_splitW hpre).1
  have hc:l.pre.holds [] { args:=args } = true:=(pre_splitW hpre).2
  obtain ⟨d,r,rfl,h1,h2⟩:=hasAllW_cons hsh
  obtain rfl:=hasAllW_nil h2
  obtain ⟨xs,rfl,h3⟩:=hasW_list h1
  obtain ⟨ns,rfl⟩:=items_int h3
  have hlen:ns.length ≤ n:=by
    unfold OpenLaw.pre at hc
    have h4:(WTm.not (.lt (.lit (.int (n:Int))) (.len (.arg 0)))).holds [] { args:=[.list (ns.map .int)] } = true:=by
      have h4:=(holds_andW hc).1
      rw [hn] at h4
      exact h4
    have h5:=condW_of h4 (w_not (w_lt w_lit (w_len_list (w_arg rfl))))
    rw [List.length_map] at h5
    refine Nat.le_of_not_lt fun q=>?_
    have q':(n:Int) < ((ns.length:Nat):Int):=by omega
    first
      | (rw [decide_eq_true q'] at h5; exact absurd h5 (by decide))
      | (simp at h5; omega)
  cases hwl with
  | cons w1 w2 =>
    cases w2
    cases w1 with
    | list ho hall=>exact ⟨_,_,ns,rfl,rfl,ho,ints_of_wellAll ns _ hall,hlen⟩
theorem post_true (l:OpenLaw) (args:List WData):l.row.toRowW.claim.post args (.bool true) args = true :=
  postW_of (r:=l.row.toRowW) (X:=(true == true))
    (show WShape.has [] (.bool true) .bool = true by first | rfl | decide | simp [WShape.has,WShape.arms,WShape.armsAll])
    (show (WTm.eq .res (.lit (.bool true))).value [] { args:=args,res:=some (.bool true),after:=args } = some (.bool (true == true)) from w_eq_bool (w_res rfl) w_lit) rfl
theorem attach_call {l:OpenLaw} {n:Nat} {q:Program} {loose:List Str} {XP:(Str→Option Value)→Heap→Prop} {YP:World→Heap→Prop} {d:DefRec}
    (hn:l.most = some n) (hdf:d.params.defaults = [])
    (call:∀ (w:World) (s₀ s₁:Shared) (mg mb:Str→Option Value) (fa:Addr) (o:Obj) (pm cd doc:Value) (a:Addr) (vs:List Value) (ns:List Int),
      Ground q loose [] XP w s₀ mg mb s₁.heap→YP w s₁.heap →
      s₁.heap.get? fa = some o→o.data = .func (docDef d.name d.params d.body d.scope pm cd doc)→s₁.heap.CodeRec cd d.name→mg d.name = some (.ref fa) →
      s₁.heap.get? a = some { cls:=.type "list", data:=.seq vs.toArray }→IntsAre vs ns→ns.length ≤ n→s₁.gens = #[] →
      codeAny (model l.prog w) callerA (.call (.ref fa) ⟨[.ref a],[]⟩) (fun r s'=>r = .ok (.ret (.bool true))∧OldK s₁.heap s'.heap∧s'.os = s₁.os∧AllBare s'.gens) s₁) :
    WalkO q loose XP YP l.row.toRowW d [] (fun f vs=>PySem.call f vs):=by
  intro w s₀ s₁ mg mb G Y fa o pm cd doc dV kV ho hd hcd hD hmg hg args vals as hpre hlay hrd hwl hlo
  obtain rfl:dV = .none:=Dflts.none hD hdf
  obtain rfl:kV = .none:=Dflts.noKw hD
  obtain ⟨a,vs,ns,rfl,rfl,hobj,hints,hlen⟩:=script_of hn hpre hwl
  refine enter_call (codeAny_mono (call w s₀ s₁ mg mb fa o pm cd doc a vs ns G Y ho (fd_plain hd) hcd hmg hobj hints hlen hg) fun r s' hq=>?_)
  obtain ⟨rfl,h2,h3,h4⟩:=hq
  exact ⟨.inl ⟨.bool true,.bool true,[],rfl,fun _=>rfl,.bool true,post_true l _,fun _=>⟨List.Pairwise.nil,fun _ hm=>(nomatch hm)⟩⟩,h2,h3,h4⟩
end Att
namespace L2
open PySem PySem.Spec PyProof.Rows
theorem vals_ints:∀ {vs:List Value} {ns:List Int},IntsAre vs ns→Vals (ns.map V.int) vs
  | _,_,.nil=>.nil
  | _,_,.cons n t h=>.cons ⟨t,rfl⟩ (vals_ints h)
def Only (H:Hp):Prop:=∀ b,H b = none∨∃ o xs,H b = some (.frz o (.lst xs))
theorem law_call {P:Program} {w:World} {K:PySem.W.Frag} {mg mb:Str→Option Value} {CX:CXT} {k:Nat} {fa a:Addr} {fd:FuncData} {x:Str} {sp:Sp} {s₁:Shared} {vs:List Value} {ns:List Int}
    (KX:K.In s₁.heap) (hns:s₁.heap.Ns mainGlobals mg) (hb:s₁.heap.Ns builtinsNs mb) (hbb:∀ x:Str,x ≠ "__name__"→mb x = bootBuiltins x) (hlim:s₁.heap.NoLimit) (hg:s₁.gens = #[])
    (ha:s₁.heap.get? a = some { cls:=.type "list", data:=.seq vs.toArray }) (hi:IntsAre vs ns) (hl:ns.length ≤ sizeLine) (hr:Room k callerA)
    (F:∀ base:Heap,K.In base→base.Ns mainGlobals mg→FnOk P w K mg base CX k fa fd [x] sp) (hbind:∀ (s:Shared) (u:Value),BindsTo s fd ⟨[u],[]⟩ [(x,u)])
    (hsp:∀ H:Hp,Only H→SqL K H a (ns.map V.int)→sp [.ref a] H (fun v _=>v = .bl true) fun _ _ _=>False)
    (hCX:∀ H e s',CX [] H s₁ (fun _ _ _=>False) e s'→False) :
    codeAny (model P w) callerA (.call (.ref fa) ⟨[.ref a],[]⟩) (fun r s'=>r = .ok (.ret (.bool true))∧OldK s₁.heap s'.heap∧s'.os = s₁.os∧AllBare s'.gens) s₁:=by
  have rv:=vals_ints hi
  have lenV:=hi.length
  have core:∀ H:Hp,Only H→SqL K H a (ns.map V.int)→HOk P w H s₁.heap→(∀ b,H b ≠ none→b = a)→(H a ≠ none→K.lookup a = none) →
      codeAny (model P w) callerA (.call (.ref fa) ⟨[.ref a],[]⟩) (fun r s'=>r = .ok (.ret (.bool true))∧OldK s₁.heap s'.heap∧s'.os = s₁.os∧AllBare s'.gens) s₁:=by
    intro H hO hS hok hA hK
    have base_of:∀ {b:Addr} {o:Obj},s₁.heap.get? b = some o→H b = none→(hidT s₁.heap H).get? b = some o:=fun e n=>hidT_get e n
    have noA:∀ {b:Addr} {o:Obj} {es:Array DictEntry} {ep:Nat},s₁.heap.get? b = some o→o.data = .dict es ep→H b = none:=fun {b o es ep} e d=>by
      cases q:H b with
      | none=>rfl
      | some u =>
        have e':b = a:=hA b (by rw [q]; simp)
        subst e'
        rw [ha] at e; cases e
        have d':Data.seq vs.toArray _ = Data.dict es ep:=d
        cases d'
    have nsK:∀ {b:Addr} {m:Str→Option Value},s₁.heap.Ns b m→(hidT s₁.heap H).Ns b m:=fun {b m} ⟨o,es,ep,e,d,r⟩=>⟨o,es,ep,base_of e (noA e d),d,r⟩
    have hKb:K.In (hidT s₁.heap H):=fun b o e=>base_of (KX b o e) (by
      cases q:H b with
      | none=>rfl
      | some u =>
        have e':b = a:=hA b (by rw [q]; simp)
        subst e'
        rw [hK (by rw [q]; simp)] at e; cases e)
    have hM:Mod K mg (hidT s₁.heap H):=⟨hKb,nsK hns,⟨mb,nsK hb,hbb⟩,let ⟨mc,h1,h2⟩:=hlim; ⟨mc,nsK h1,h2⟩⟩
    have e0:Env0 P w K mg (hidT s₁.heap H) callerA [] s₁ H:=⟨rfl,hM,fun b o e=>of_hidT e,Nat.le_of_eq (hidT_size _ _),trivial,fun b hb=>absurd (show b ∈ ([]:List Addr) from hb) (by simp),hok,.of_eq hg⟩
    refine codeAny_mono ((F _ hKb (nsK hns)).run callerA [] s₁ H ⟨[.ref a],[]⟩ [.ref a] [.ref a] _ _ hr e0 (hbind s₁ (.ref a)) (.cons rfl .nil) (hsp H hO hS)) fun r s' h=>?_
    cases r with
    | error e=>exact (hCX H e s' h).elim
    | ok fl =>
      cases fl with
      | next=>exact False.elim h
      | brk=>exact False.elim h
      | cont=>exact False.elim h
      | ret u =>
        obtain ⟨v,H',os,bare,un,hok',r',q⟩:=h
        have q':v = .bl true:=q
        subst q'
        obtain rfl:u = Value.bool true:=r'
        refine ⟨rfl,OldK.of_keep fun b o e=>?_,os,bare⟩
        cases q:H b with
        | none=>exact un.keep b o e q (by intro z; exact absurd (show b ∈ ([]:List Addr) from z) (by simp)) (by simp)
        | some u =>
          rcases hO b with z | ⟨ob,xs,z⟩
          · rw [q] at z; cases z
          · have z2:=un.frzs b ob _ z
            obtain ⟨e1,_⟩:=hok b _ z
            obtain ⟨e2,_⟩:=hok' b _ z2
            rw [e] at e1; cases e1
            exact e2
  cases hk:K.lookup a with
  | some o =>
    have e:=KX a o hk
    rw [ha] at e
    cases e
    refine core (fun _=>none) (fun _=>.inl rfl) (.inr ⟨_,vs.toArray,_,hk,rfl,rfl,rfl,by rw [List.size_toArray,lenV]; exact hl,by simpa using rv⟩) (fun b u z=>by have z':(none:Option HO) = some u:=z; cases z') (fun b z=>absurd rfl z) fun z=>absurd rfl z
  | none =>
    refine core (fun b=>if b = a then some (.frz { cls:=.type "list", data:=.seq vs.toArray } (.lst (ns.map V.int))) else none) (fun b=>?_) (.inl (.inr ⟨{ cls:=.type "list", data:=.seq vs.toArray },if_pos rfl⟩)) (fun b u z=>?_) (fun b z=>?_) fun _=>hk
    · by_cases hb:b = a
      · exact .inr ⟨_,_,if_pos hb⟩
      · exact .inl (if_neg hb)
    · by_cases hb:b = a
      · have z':=(if_pos hb).symm.trans z
        cases z'
        subst hb
        exact ⟨ha,by rw [List.length_map]; exact hl,vs,_,rv,ha⟩
      · have z':=(if_neg hb).symm.trans z
        cases z'
    · by_cases hb:b = a
      · exact hb
      · exact absurd (if_neg hb) z
theorem walk_of {l:PySem.W.OpenLaw} {n k:Nat} {q:Program} {loose:List Str} {XP:(Str→Option Value)→Heap→Prop} {YP:World→Heap→Prop} {d:DefRec} {K:Params→PySem.W.Frag} {CX:World→CXT} {sp:World→Sp} {x:Str}
    (hn:l.most = some n) (hn2:n ≤ sizeLine) (hdf:d.params.defaults = []) (hr:Room k callerA)
    (hY:∀ (w:World) (h:Heap),YP w h→(K w.params).In h)
    (F:∀ (w:World) (mg:Str→Option Value) (fa:Addr) (h:Heap),(K w.params).In h→h.Ns mainGlobals mg→mg d.name = some (.ref fa) →
      ∃ fd:FuncData,(∀ (s:Shared) (u:Value),BindsTo s fd ⟨[u],[]⟩ [(x,u)]) ∧
        ∀ base:Heap,(K w.params).In base→base.Ns mainGlobals mg→FnOk l.prog w (K w.params) mg base (CX w) k fa fd [x] (sp w))
    (hsp:∀ (w:World) (H:Hp) (a:Addr) (ns:List Int),ns.length ≤ n→Only H→SqL (K w.params) H a (ns.map V.int)→sp w [.ref a] H (fun v _=>v = .bl true) fun _ _ _=>False)
    (hCX:∀ (w:World) (H:Hp) (s:Shared) (e:Value) (s':Shared),CX w [] H s (fun _ _ _=>False) e s'→False) :
    PySem.W.WalkO q loose XP YP l.row.toRowW d [] (fun f vs=>PySem.call f vs):=by
  refine Att.attach_call hn hdf fun w s₀ s₁ mg mb fa o pm cd doc a vs ns G Y ho hd hcd hmg hobj hints hlen hg=>?_
  have KX:=hY w _ Y
  obtain ⟨fd,hb,hF⟩:=F w mg fa _ KX G.T.g hmg
  exact law_call KX G.T.g G.T.b G.T.builtins G.T.nolimit hg hobj hints (Nat.le_trans hlen hn2) hr hF hb (fun H hO hS=>hsp w H a ns hlen hO hS) fun H e s'=>hCX w H s₁ e s'
def defArgs (s:Stmt):Arguments:=match s with
  | .FunctionDef _ a _ _ _ _ _ _ _ _=>a
  | _=>{ posonlyargs:=[],args:=[],vararg:=none,kwonlyargs:=[],kw_defaults:=[],kwarg:=none,defaults:=[] }
def defBody (s:Stmt):List Stmt:=match s with
  | .FunctionDef _ _ b _ _ _ _ _ _ _=>b
  | _=>[]
def defScope (s:Stmt):Scope:=match s with
  | .FunctionDef _ _ _ _ _ _ sc _ _ _=>sc
  | _=>{ kind:=.function,names:=[],isGenerator:=false,isCoroutine:=false }
abbrev CX0:CXT:=fun _ _ _ _ _ _=>False
abbrev E0:XK:=fun _ _ _=>False
theorem pass0 {X:Cx}:Passes CX0 X E0:=fun _ _ _ _ _ _ _ h=>h.elim
structure Fun (K:PySem.W.Frag) (x qual:Str) (st:Stmt) (f:Addr) (fd:FuncData):Prop where
  ex:∃ (oc:Value) (od:Option Addr) (kV doc pm:Value) (an:Option Addr) (cdv ct:Value) (osl:Array (Option Value)),
    fd = PySem.W.fnOf x qual (defArgs st) (defBody st) (defScope st) .none kV doc pm an cdv ct∧K.lookup f = some ⟨oc,od,.func fd,osl⟩∧PySem.W.codeIn K cdv qual = true
  kp:PySem.W.keepIn K (.ref f) = true
section
variable {P:Program} {w:World} {K:PySem.W.Frag} {mg:Str→Option Value} {base:Heap}
theorem Fun.ok {x qual:Str} {st:Stmt} {f:Addr} {fd:FuncData} {N ps:List Str} {k:Nat} {sp:Sp} (F:Fun K x qual st f fd) (S:FnScope N ps (defScope st)) (len:∀ vs H Q E,sp vs H Q E→vs.length = ps.length)
    (hbody:∀ (cdv:Value) (A:Around) (outer:List Env) (s:Shared) (H:Hp) (vs:List V) (Q:VK) (E:XK),Room k (A.deeper (envOfC qual (defScope st) s.heap.objs.size f cdv))→sp vs H Q E →
      ∃ t,PSs (cxOf CX0 P w K mg base N qual (defScope st) f cdv A outer s H E).nox (defBody st) t∧t { nx:=fun _ H'=>Q .non H',rt:=Q } (start N vs) H):FnOk P w K mg base CX0 (k + 1) f fd ps sp:=by
  obtain ⟨oc,od,kV,doc,pm,an,cdv,ct,osl,rfl,lk,hcd⟩:=F.ex
  refine fn_of lk hcd S len fun A outer s H vs Q E hr hsp=>?_
  obtain ⟨t,h,q⟩:=hbody cdv A outer s H vs Q E hr hsp
  exact ⟨t,h.nox,q⟩
theorem Fun.binds {x qual:Str} {st:Stmt} {f:Addr} {fd:FuncData} {ps:List Str} (F:Fun K x qual st f fd)
    (h:∀ (kV doc pm:Value) (an:Option Addr) (cdv ct:Value) (us:List Value),us.length = ps.length→bindArgs (PySem.W.fnOf x qual (defArgs st) (defBody st) (defScope st) .none kV doc pm an cdv ct) ⟨us,[]⟩ = pure (ps.zip us)):Binds K fd ps []:=by
  obtain ⟨oc,od,kV,doc,pm,an,cdv,ct,osl,rfl,lk,hcd⟩:=F.ex
  exact .all (h kV doc pm an cdv ct)
theorem fun_mk {x qual:Str} {st:Stmt} {f:Addr} {oc:Value} {od an:Option Addr} {osl:Array (Option Value)} {kV doc pm cdv ct:Value} (l:K.lookup f = some ⟨oc,od,.func (PySem.W.fnOf x qual (defArgs st) (defBody st) (defScope st) .none kV doc pm an cdv ct),osl⟩)
    (c:PySem.W.codeIn K cdv qual = true) (k:PySem.W.keepIn K (.ref f) = true):Fun K x qual st f (PySem.W.fnOf x qual (defArgs st) (defBody st) (defScope st) .none kV doc pm an cdv ct):=⟨⟨oc,od,kV,doc,pm,an,cdv,ct,osl,rfl,l,c⟩,k⟩
end
theorem hu_of {A:Around} {k:Nat} (hr:Room k A):A.units + 1 < cLine:=Nat.lt_of_le_of_lt (Nat.add_le_add_left (by decide:1 ≤ 64) _) hr.units
section
variable {X:Cx}
theorem pv (i:Nat) {x:Str} {pos:Pos} (hN:X.N[i]? = some x:=by rfl) (hv:Vis X.env.scope x:=by first | exact Or.inl rfl | exact Or.inr (Or.inl rfl) | exact Or.inr (Or.inr rfl)) (hd:(x == ("__debug__" : Str)) = false:=by decide)
    (hcd:(x == ("__classdict__" : Str)) = false:=by decide):PE X (.Name x pos) (tVar i):=pe_var hN hv hd hcd
end
theorem iteF {A B:Prop} (h:B):if false = true then A else B:=by
  rw [if_neg Bool.false_ne_true]
  exact h
theorem iteT {A B:Prop} (h:A):if true = true then A else B:=by
  rw [if_pos rfl]
  exact h
theorem ite2 {c A B:Prop} [Decidable c] (h1:c→A) (h2:¬ c→B):if c then A else B:=by
  by_cases h:c
  · rw [if_pos h]
    exact h1 h
  · rw [if_neg h]
    exact h2 h
def Same (H H':Hp):Prop:=∀ b o,H b = some o→H' b = some o
theorem Same.refl (H:Hp):Same H H:=fun _ _ h=>h
theorem Same.trans {H H1 H2:Hp} (a:Same H H1) (b:Same H1 H2):Same H H2:=fun c o h=>b c o (a c o h)
theorem Same.free {H H':Hp} (e:Same H H') {l:Addr} (h:H' l = Option.none):H l = Option.none:=by
  cases q:H l with
  | none=>rfl
  | some o =>
    rw [e l o q] at h
    cases h
theorem Same.seq {K:PySem.W.Frag} {H H':Hp} {a:Addr} {xs:List V} (e:Same H H') (h:SqL K H a xs):SqL K H' a xs:=by
  rcases h with (h | ⟨o,h⟩) | h
  · exact .inl (.inl (e _ _ h))
  · exact .inl (.inr ⟨o,e _ _ h⟩)
  · exact .inr h
def cloOf (cells:List (Str×Addr)):List (Str×NameKind)→List (Str×Addr)→List (Str×Addr)
  | [],acc=>acc
  | (n,k) :: r,acc=>cloOf cells r (if (k == NameKind.free) = true then (n,(cells.lookup n).getD 0) :: acc else acc)
theorem cloOf_mem {cells:List (Str×Addr)} {x:Str} {c:Addr}:∀ {ns:List (Str×NameKind)} {acc:List (Str×Addr)},(x,c) ∈ cloOf cells ns acc→((x,NameKind.free) ∈ ns∧c = (cells.lookup x).getD 0)∨(x,c) ∈ acc
  | [],_,h=>.inr h
  | (n,k) :: r,acc,h=>by
    have q:=cloOf_mem (ns:=r) h
    rcases q with ⟨q1,q2⟩ | q
    · exact .inl ⟨List.mem_cons_of_mem _ q1,q2⟩
    · by_cases hk:(k == NameKind.free) = true
      · rw [if_pos hk] at q
        have ek:k = NameKind.free:=by simpa using hk
        rcases List.mem_cons.mp q with e | q
        · cases e
          subst ek
          exact .inl ⟨List.mem_cons_self,rfl⟩
        · exact .inr q
      · rw [if_neg hk] at q
        exact .inr q
theorem cloOf_sub {cells:List (Str×Addr)} {p:Str×Addr}:∀ {ns:List (Str×NameKind)} {acc:List (Str×Addr)},p ∈ acc→p ∈ cloOf cells ns acc
  | [],_,h=>h
  | (n,k) :: r,acc,h=>by
    refine cloOf_sub (ns:=r) ?_
    split
    · exact List.mem_cons_of_mem _ h
    · exact h
theorem cloOf_has {cells:List (Str×Addr)} {x:Str}:∀ {ns:List (Str×NameKind)} {acc:List (Str×Addr)},(x,NameKind.free) ∈ ns→(x,(cells.lookup x).getD 0) ∈ cloOf cells ns acc
  | (n,k) :: r,acc,h=>by
    rcases List.mem_cons.mp h with e | h
    · cases e
      refine cloOf_sub (ns:=r) ?_
      rw [if_pos (by rfl)]
      exact List.mem_cons_self
    · exact cloOf_has (ns:=r) h
theorem lookup_of_mem {x:Str} {c:Addr}:∀ {l:List (Str×Addr)},(x,c) ∈ l→∃ c',l.lookup x = some c'
  | (n,d) :: r,h=>by
    rw [List.lookup_cons]
    cases e:x == n with
    | true=>exact ⟨d,rfl⟩
    | false =>
      rcases List.mem_cons.mp h with q | q
      · cases q
        simp at e
      · exact lookup_of_mem q
theorem forIn_clo {env:Env} (f:(Str×NameKind)→List (Str×Addr)→Sem (ForInStep (List (Str×Addr)))) (hf1:∀ n acc c,env.cells.lookup n = some c→f (n,.free) acc = pure (.yield ((n,c) :: acc)))
    (hf2:∀ n k acc,(k == NameKind.free) = false→f (n,k) acc = pure (.yield acc)):∀ (ns:List (Str×NameKind)) (acc:List (Str×Addr)),(∀ y ∈ ns,y.2 = .free→∃ c,env.cells.lookup y.1 = some c)→forIn ns acc f = pure (cloOf env.cells ns acc)
  | [],_,_=>rfl
  | (n,k) :: r,acc,h=>by
    have ih:=fun acc'=>forIn_clo f hf1 hf2 r acc' fun y hy=>h y (List.mem_cons_of_mem _ hy)
    rw [List.forIn_cons]
    cases hk:k == NameKind.free with
    | true =>
      have ek:k = NameKind.free:=by simpa using hk
      subst ek
      obtain ⟨c,e⟩:=h (n,.free) List.mem_cons_self rfl
      have e':env.cells.lookup n = some c:=e
      rw [hf1 n acc c e]
      show forIn r ((n,c) :: acc) f = _
      rw [ih]
      show _ = pure (cloOf env.cells r (if (NameKind.free == NameKind.free) = true then (n,(env.cells.lookup n).getD 0) :: acc else acc))
      rw [if_pos (by rfl),e']
      rfl
    | false =>
      rw [hf2 n k acc hk]
      show forIn r acc f = _
      rw [ih]
      show _ = pure (cloOf env.cells r (if (k == NameKind.free) = true then (n,(env.cells.lookup n).getD 0) :: acc else acc))
      rw [if_neg (by rw [hk]; decide)]
theorem closureFor_clo {scope:Scope} {env:Env} (h:∀ y ∈ scope.names,y.2 = .free→∃ c,env.cells.lookup y.1 = some c):closureFor scope env = pure (cloOf env.cells scope.names []):=by
  unfold closureFor
  show (forIn scope.names [] _ >>= _) = _
  rw [forIn_clo (env:=env) _ ?_ ?_ scope.names [] h]
  · rfl
  · intro n acc c e
    show (if (NameKind.free == NameKind.free) = true then _ else _) = _
    rw [if_pos (by rfl)]
    unfold cellOf
    rw [e]
    first | rfl | skip
  · intro n k acc hk
    show (if (k == NameKind.free) = true then _ else _) = _
    rw [if_neg (by rw [hk]; decide)]
abbrev compCx (X:Cx) (N':List Str) (sc:Scope) (cl:List (Str×Addr)) (C:Addr) (s:Shared) (H:Hp) (fp:List Addr):Cx :=
  { X with N:=N',s₀:=s,H₀:=H,env:=compEnvC sc cl C X.env,outer:=X.stack,stack:=X.stack,ex:=fp,fn:=fun x=>sc.names.lookup x == some NameKind.local,pn:=[],xe:=fun _ _=>False }
structure CompSc (osc:Scope) (ON N':List Str) (src:List (Option Nat)) (sc:Scope):Prop where
  kind:sc.kind = .function
  okind:osc.kind = .function
  uniq:∀ y ∈ sc.names,sc.names.lookup y.1 = some y.2
  nocell:∀ y ∈ sc.names,y.2 ≠ .cell
  free:∀ y ∈ sc.names,y.2 = .free→osc.names.lookup y.1 = some .cell∨osc.names.lookup y.1 = some .free
  len:src.length = N'.length
  src:∀ (i:Nat) (x:Str) (j:Nat),N'[i]? = some x→src[i]? = some (some j)→ON[j]? = some x∧sc.names.lookup x = some .free
def inSt (src:List (Option Nat)) (σ:St):St:=src.map fun o=>o.bind fun j=>(σ[j]?).bind id
theorem inSt_get {src:List (Option Nat)} {σ:St} {i:Nat} {v:V} (h:(inSt src σ)[i]? = some (some v)):∃ j,src[i]? = some (some j)∧σ[j]? = some (some v):=by
  unfold inSt at h
  rw [List.getElem?_map] at h
  cases e:src[i]? with
  | none=>rw [e] at h; cases h
  | some o =>
    rw [e] at h
    cases o with
    | none=>cases h
    | some j =>
      have h':(σ[j]?).bind id = some v:=Option.some.inj h
      cases e2:σ[j]? with
      | none=>rw [e2] at h'; cases h'
      | some w =>
        rw [e2] at h'
        have h'':w = some v:=h'
        exact ⟨j,rfl,by rw [e2,h'']⟩
def PIfs (X:Cx) (ifs:List Expr) (t:TT):Prop :=
  ∀ (pins:List (Addr×Obj)) (s:Shared) (σ:St) (H:Hp) (Q:Bool→Hp→Prop),Inv X pins σ H s→t σ H Q →
    wpAny (model X.prog X.w) X.A (forIn ifs true fun c r=>if r = true then do let ok ← isTrue c X.env (eval c X.env); pure (ForInStep.yield ok) else pure (ForInStep.yield r)) (TP X pins σ Q) X.xe s
def tNoIf:TT:=fun _ H Q=>Q true H
theorem pifs_nil {X:Cx}:PIfs X [] tNoIf:=fun _ _ _ H _ I h=>wpAny_tests_nil ⟨H,I,h⟩
theorem pifs_one {X:Cx} {c:Expr} {t:TT} (h:PT X c t):PIfs X [c] t:=fun pins s σ H Q I q=>wpAny_tests_one (h pins s σ H Q I q)
def compW (J:It) (g:TG) (tc:TT) (te:TE) (D:Addr) (Q:VK) (W:Nat→Nat→St→List V→Hp→Prop):Prop :=
  ∀ i m σ ys H,W i m σ ys H→H D = some (.lst ys)∧((J.stop i H∧Q (.ref D) H)∨(J.go i H∧ys.length < sizeLine∧∃ N:St→List V→Hp→Prop,(∀ σ' ys' H',N σ' ys' H'→∃ m',m' < m∧W (i + 1) m' σ' ys' H') ∧
    ∀ x H',J.yld i H x H'→g x σ H' fun σ2 H2=>tc σ2 H2 fun b H3 =>
      if b = true then te σ2 H3 fun v H4=>H4 D = some (.lst ys)∧N σ2 (ys ++ [v]) (upd H4 D (.lst (ys ++ [v]))) else N σ2 ys H3))
def tComp (src:List (Option Nat)) (wi:TI) (g:TG) (tc:TT) (te:TE):TE:=fun σ H Q=>wi σ H fun J H1=>∀ D,H1 D = none →
  ∃ W:Nat→Nat→St→List V→Hp→Prop,(∃ m,W 0 m (inSt src σ) [] (upd H1 D (.lst [])))∧compW J g tc te D Q W
section
variable {X:Cx} {elt target iter:Expr} {ifs:List Expr} {sc:Scope} {pos:Pos} {wi:TI} {g:TG} {tc:TT} {te:TE} {N':List Str} {src:List (Option Nat)}
theorem comp_loop {it acc:Value} {env:Env} {prog:Program} {w:World} {A:Around} {s:Shared} {R:Result→Shared→Prop} (Iv:Nat→Shared→Prop)
    (turn:∀ n s,Iv n s→wpAny (model prog w) A (pyNext it) (fun r s₁=>match r with
      | none=>R (.ok .next) s₁
      | some v=>wpAny (model prog w) A (letOwnedTupleGo target it v) (fun _ s₁'=>wpAny (model prog w) A (assign target env v) (fun _ s₂ =>
          wpAny (model prog w) A (forIn ifs true fun c r=>if r = true then do let ok ← isTrue c env (eval c env); pure (ForInStep.yield ok) else pure (ForInStep.yield r)) (fun ok s₃ =>
            if ok = true then wpAny (model prog w) A (eval elt env) (fun x s₄ =>
              wpAny (model prog w) A (call (.builtin "list.append") [acc,x]) (fun _ s₅=>∃ m,m < n∧Iv m s₅) (fun _ _=>False) s₄) (fun _ _=>False) s₃
            else ∃ m,m < n∧Iv m s₃) (fun _ _=>False) s₂) (fun _ _=>False) s₁') (fun _ _=>False) s₁) (fun _ _=>False) s)
    (n:Nat) (h:Iv n s) :
    codeAny (model prog w) A (.compLoop (.ListComp elt [⟨target,iter,ifs,0⟩] sc pos) 0 it acc env) R s:=by
  refine codeAny_loop rfl Iv (fun n s hI=>?_) n h
  show wpAny _ A ((compTurn (.ListComp elt [⟨target,iter,ifs,0⟩] sc pos) 0 it acc env).onRaise (fun x=>do noteFrame x env; theTreesLotGoes x)) _ _ s
  refine wpAny_noted ?_
  rw [compTurn_list]
  refine wpAny_bind (wpAny_standAt (wpAny_bind (wpAny_mono (turn n s hI) (fun r s₁ h₁=>?_) fun _ _ h'=>h'.elim)))
  cases r with
  | none=>exact wpAny_pure h₁
  | some v =>
    refine wpAny_bind (wpAny_mono h₁ (fun _ s₁' h₁'=>wpAny_bind (wpAny_mono h₁' (fun _ s₂ h₂=>wpAny_bind (wpAny_mono h₂ (fun ok s₃ h₃=>?_) fun _ _ h'=>h'.elim)) fun _ _ h'=>h'.elim)) fun _ _ h'=>h'.elim)
    cases ok with
    | false=>exact wpAny_pure ⟨rfl,h₃⟩
    | true =>
      exact wpAny_bind (wpAny_bind (wpAny_mono h₃ (fun x s₄ h₄=>wpAny_bind (wpAny_mono h₄ (fun _ s₅ h₅=>wpAny_pure (wpAny_pure ⟨rfl,h₅⟩)) fun _ _ h'=>h'.elim)) fun _ _ h'=>h'.elim))
theorem comp_start {pins:List (Addr×Obj)} {σ:St} {H:Hp} {s:Shared} {h1:Heap} {fp:List Addr} (S:CompSc X.env.scope X.N N' src sc) (I:Inv X pins σ H s) (f2:∀ b ∈ fp,FpOk X pins H b) (o2:∀ b ∈ fp,b < s.heap.objs.size)
    (ns:h1.Ns s.heap.objs.size fun x=>(([]:List (Str×Value)).reverse.lookup x)) (sb:Heap.SameBut s.heap.objs.size (s.heap.push { cls:=.type "dict", data:=.dict #[] }) h1) {tk:Nat} :
    Inv (compCx X N' sc (cloOf X.env.cells sc.names []) s.heap.objs.size s H fp) [] (inSt src σ) H { s with heap:=h1,toks:=tk }:=by
  have old:∀ b o,s.heap.get? b = some o→h1.get? b = some o:=fun b o e=>(sb.2 b (Nat.ne_of_lt (Heap.lt_size e))).trans (Heap.get?_push_of_some _ e)
  have clo:∀ x c,(cloOf X.env.cells sc.names []).lookup x = some c→X.env.cells.lookup x = some c∧sc.names.lookup x = some .free:=fun x c e=>by
    rcases cloOf_mem (mem_of_lookup e) with ⟨m,q⟩ | z
    · obtain ⟨c',e'⟩:=I.ok.has x (S.free _ m rfl)
      rw [e'] at q
      exact ⟨by rw [e',q]; rfl,S.uniq _ m⟩
    · cases z
  have hasC:∀ x,sc.names.lookup x = some .free→∃ c,(cloOf X.env.cells sc.names []).lookup x = some c:=fun x e=>lookup_of_mem (cloOf_has (mem_of_lookup e))
  have kinds:∀ (x:Str) (k:NameKind),(relabel sc X.env).names.lookup x = some k→(k = .cell∨k = .free)→sc.names.lookup x = some .free:=fun x k e hk=>by
    have gen:∀ ns:List (Str×NameKind),(∀ y ∈ ns,y.2 ≠ .cell)→(ns.map fun (n,k)=>if (k == NameKind.free && X.env.scope.kind == .function && X.env.kindOf n == some .cell) then (n,NameKind.cell) else (n,k)).lookup x = some k→ns.lookup x = some .free:=by
      intro ns
      induction ns with
      | nil=>intro _ h; cases h
      | cons y r ih =>
        obtain ⟨n,k1⟩:=y
        intro hn h
        rw [List.map_cons] at h
        dsimp only at h
        by_cases hc:(k1 == NameKind.free && X.env.scope.kind == .function && X.env.kindOf n == some .cell) = true
        · rw [if_pos hc,List.lookup_cons] at h
          rw [List.lookup_cons]
          cases hx:x == n with
          | true =>
            have:k1 = NameKind.free:=by
              cases hk1:k1 == NameKind.free with
              | true=>simpa using hk1
              | false=>rw [hk1] at hc; simp at hc
            rw [this]
          | false=>rw [hx] at h; exact ih (fun y hy=>hn y (List.mem_cons_of_mem _ hy)) h
        · rw [if_neg hc,List.lookup_cons] at h
          rw [List.lookup_cons]
          cases hx:x == n with
          | true =>
            rw [hx] at h
            have h':k1 = k:=Option.some.inj h
            rcases hk with hk | hk
            · exact absurd (h'.trans hk) (hn (n,k1) List.mem_cons_self)
            · show some k1 = _
              rw [h',hk]
          | false=>rw [hx] at h; exact ih (fun y hy=>hn y (List.mem_cons_of_mem _ hy)) h
    exact gen sc.names S.nocell e
  have relab:∀ x,sc.names.lookup x = some .free→(relabel sc X.env).names.lookup x = some .cell∨(relabel sc X.env).names.lookup x = some .free:=fun x e=>by
    have gen:∀ ns:List (Str×NameKind),ns.lookup x = some .free→(ns.map fun (n,k)=>if (k == NameKind.free && X.env.scope.kind == .function && X.env.kindOf n == some .cell) then (n,NameKind.cell) else (n,k)).lookup x = some .cell ∨
        (ns.map fun (n,k)=>if (k == NameKind.free && X.env.scope.kind == .function && X.env.kindOf n == some .cell) then (n,NameKind.cell) else (n,k)).lookup x = some .free:=by
      intro ns
      induction ns with
      | nil=>intro h; cases h
      | cons y r ih =>
        obtain ⟨n,k1⟩:=y
        intro h
        rw [List.map_cons]
        dsimp only
        rw [List.lookup_cons] at h
        by_cases hc:(k1 == NameKind.free && X.env.scope.kind == .function && X.env.kindOf n == some .cell) = true
        · rw [if_pos hc,List.lookup_cons]
          cases hx:x == n with
          | true=>exact .inl rfl
          | false=>rw [hx] at h; exact ih h
        · rw [if_neg hc,List.lookup_cons]
          cases hx:x == n with
          | true =>
            rw [hx] at h
            exact .inr h
          | false=>rw [hx] at h; exact ih h
    exact gen sc.names e
  refine ⟨⟨I.mod,?_,I.ok.glob,I.ok.blt,Nat.le_refl _,fun x y c h1 h2=>I.ok.inj x y c (clo x c h1).1 (clo y c h2).1,fun x hx=>?_,fun x c hf h=>?_,I.ok.hd,I.ok.frames,.inl rfl,fun b hb=>⟨?_,fun x c h=>?_⟩,I.bs,?_,fun b o e hb=>?_,fun b hb hs=>?_,I.stack,I.stkFree⟩,
    rfl,I.bare,Un.kept old,⟨_,ns,fun i x v h1 h2 h3=>?_⟩,fun x c h=>?_,I.hok.fresh (Nat.le_refl _),fun x c h=>I.freeC x c (clo x c h).1,fun p hp=>absurd (show p ∈ ([]:List (Addr×Obj)) from hp) (by simp),I.hok.kept old,?_⟩
  · show (relabel sc X.env).kind = .function
    exact S.kind
  · obtain hx | hx:=hx
    · exact hasC x (kinds x _ hx (.inl rfl))
    · exact hasC x (kinds x _ hx (.inr rfl))
  · have e2:=(clo x c h).2
    have hf':(sc.names.lookup x == some NameKind.local) = true:=hf
    rw [e2] at hf'
    cases hf'
  · exact Nat.ne_of_lt (o2 b hb)
  · exact (f2 b hb).2.2.2.2.1 x c (clo x c h).1
  · exact Nat.le_trans I.ok.bsz I.sz
  · rcases (f2 b hb).2.2.2.1 with z | z
    · exact I.ok.noex b o e z
    · exact absurd (Nat.lt_of_lt_of_le (Heap.lt_size e) (Nat.le_trans I.ok.bsz z)) (Nat.lt_irrefl _)
  · rcases List.mem_cons.mp (I.stkSub b hs) with z | z
    · exact (f2 b hb).2.1 z
    · exact (f2 b hb).2.2.1 z
  · obtain ⟨j,e1,e2⟩:=inSt_get h2
    obtain ⟨e3,e4⟩:=S.src i x j h1 e1
    obtain ⟨m,hn,hl⟩:=I.loc
    have kx:=S.free _ (mem_of_lookup e4) rfl
    obtain ⟨u,ru,l⟩:=hl j x v e3 e2 (.inr kx)
    refine ⟨u,ru,.inr ⟨relab x e4,?_⟩⟩
    obtain ⟨c,hc⟩:=hasC x e4
    refine ⟨c,hc,?_⟩
    have hc':=(clo x c hc).1
    rcases l with ⟨lk,_⟩ | ⟨_,c',lc,z⟩
    · have lk':X.env.scope.names.lookup x = some .local:=lk
      rcases kx with q | q
      · have q':X.env.scope.names.lookup x = some .cell:=q
        rw [lk'] at q'; cases q'
      · have q':X.env.scope.names.lookup x = some .free:=q
        rw [lk'] at q'; cases q'
    · rw [hc'] at lc
      cases lc
      obtain ⟨o,ho,hd⟩:=z
      exact ⟨o,old _ _ ho,hd⟩
  · obtain ⟨v,o,ho,hd⟩:=I.cell x c (clo x c h).1
    exact ⟨v,o,old _ _ ho,hd⟩
  · show (inSt src σ).length = N'.length
    unfold inSt
    rw [List.length_map]
    exact S.len
theorem comp_block {pins:List (Addr×Obj)} {σ:St} {H2:Hp} {s2:Shared} {it:Addr} {fp:List Addr} {tn:Nat→Heap→Prop} {J:It} {Q:VK} {E:Value→Shared→Prop} {RR:Value→Addr→Result→Shared→Prop}
    (hc:X.calm = true) (S:CompSc X.env.scope X.N N' src sc)
    (hg:∀ cl C s H fp,PG (compCx X N' sc cl C s H fp) target g) (ht:∀ cl C s H fp,PIfs (compCx X N' sc cl C s H fp) ifs tc) (he:∀ cl C s H fp,PE (compCx X N' sc cl C s H fp) elt te)
    (I2:Inv X pins σ H2 s2) (T:Turn X.prog X.w X.K target J fp it tn) (st2:tn 0 s2.heap) (f2:∀ b ∈ fp,FpOk X pins H2 b)
    (hW:∀ D,H2 D = none→∃ W:Nat→Nat→St→List V→Hp→Prop,(∃ m,W 0 m (inSt src σ) [] (upd H2 D (.lst [])))∧compW J g tc te D Q W)
    (hRR:∀ D C s5 H' m,Inv X pins σ H' s5→s5.heap.Ns C m→FpOk X pins H' C→Q (.ref D) H'→RR (.ref D) C (.ok .next) s5) :
    wpAny (model X.prog X.w) X.A (newList []) (fun acc s₃=>wpAny (model X.prog X.w) X.A (newFunctionEnv sc X.env.globals (cloOf X.env.cells sc.names []) [] X.env.qual none .none (some X.env)) (fun cenv s₄ =>
      codeAny (model X.prog X.w) X.A (.compStart (.ListComp elt [⟨target,iter,ifs,0⟩] sc pos) 0 (.ref it) acc { cenv with scope:=relabel sc X.env }) (RR acc cenv.locals) s₄) E s₃) E s2:=by
  have o2:∀ b ∈ fp,b < s2.heap.objs.size:=fun b hb=>by
    obtain ⟨o,e,_⟩:=T.obj 0 _ st2 b hb
    exact Heap.lt_size e
  refine wpAny_newObj_type ?_
  have fr2:H2 s2.heap.objs.size = none:=I2.hok.fresh (Nat.le_refl _)
  obtain ⟨W,⟨m0,w0⟩,turn⟩:=hW s2.heap.objs.size fr2
  have I3:Inv X pins σ (upd H2 s2.heap.objs.size (.lst [])) { s2 with heap:=s2.heap.push { cls:=.type "list", dict:=none,data:=.seq ([]:List Value).toArray } } :=
    I2.laid (t':=s2.toks) (fun b u e=>Heap.get?_push_of_some _ e) (Nat.le_refl _) ⟨Nat.zero_le _,[],0,.nil,Heap.get?_push_size _ rfl⟩
  have st3:tn 0 (s2.heap.push { cls:=.type "list", dict:=none,data:=.seq ([]:List Value).toArray }):=T.keep 0 _ _ st2 fun b hb o e=>Heap.get?_push_of_some _ e
  generalize hs3:({ s2 with heap:=s2.heap.push { cls:=.type "list", dict:=none,data:=.seq ([]:List Value).toArray } }:Shared) = s3 at I3
  have hh3:s3.heap = s2.heap.push { cls:=.type "list", dict:=none,data:=.seq ([]:List Value).toArray }:=by rw [← hs3]
  have sz3:s2.heap.objs.size < s3.heap.objs.size:=by rw [hh3,Heap.size_push]; exact Nat.lt_succ_self _
  have o3:∀ b ∈ fp,b < s3.heap.objs.size:=fun b hb=>Nat.lt_trans (o2 b hb) sz3
  have f3:∀ b ∈ fp,FpOk X pins (upd H2 s2.heap.objs.size (.lst [])) b:=fun b hb=>⟨by rw [upd_ne (Nat.ne_of_lt (o2 b hb))]; exact (f2 b hb).1,(f2 b hb).2⟩
  rw [← hh3] at st3
  refine wpAny_newFunctionEnv S.nocell (by intro y hy; simp at hy) (fun h1 hns hsb=>?_) S.kind
  have hsb':Heap.SameBut s3.heap.objs.size (s3.heap.push { cls:=.type "dict", data:=.dict #[] }) h1:=hsb
  have I4:Inv (compCx X N' sc (cloOf X.env.cells sc.names []) s3.heap.objs.size s3 (upd H2 s2.heap.objs.size (.lst [])) fp) [] (inSt src σ) (upd H2 s2.heap.objs.size (.lst [])) { s3 with heap:=h1,toks:=s3.toks + ([]:List (Str×Value)).length } :=
    comp_start S I3 f3 o3 hns hsb'
  have st4:tn 0 h1:=T.keep 0 _ _ st3 fun b hb o e=>(hsb'.2 b (Nat.ne_of_lt (o3 b hb))).trans (Heap.get?_push_of_some _ e)
  have fC:∀ (H':Hp) , H' s3.heap.objs.size = none→FpOk X pins H' s3.heap.objs.size:=fun H' hn=>I3.fpOk (Nat.le_refl _) hn
  have loop:codeAny (model X.prog X.w) X.A (.compLoop (.ListComp elt [⟨target,iter,ifs,0⟩] sc pos) 0 (.ref it) (.ref s2.heap.objs.size) (compEnvC sc (cloOf X.env.cells sc.names []) s3.heap.objs.size X.env))
      (RR (.ref s2.heap.objs.size) s3.heap.objs.size) { s3 with heap:=h1,toks:=s3.toks + ([]:List (Str×Value)).length }:=by
    have stat:∀ {H':Hp},(∀ b ∈ fp,H' b = none)→∀ b ∈ fp,FpOk (compCx X N' sc (cloOf X.env.cells sc.names []) s3.heap.objs.size s3 (upd H2 s2.heap.objs.size (.lst [])) fp) [] H' b:=fun hn b hb =>
      ⟨hn b hb,(I4.ok.exf b hb).1,I4.ok.exfs b hb,.inl hb,(I4.ok.exf b hb).2,fun p hp=>absurd (show p ∈ ([]:List (Addr×Obj)) from hp) (by simp)⟩
    refine comp_loop (fun n s'=>∃ i σ' ys H',Inv (compCx X N' sc (cloOf X.env.cells sc.names []) s3.heap.objs.size s3 (upd H2 s2.heap.objs.size (.lst [])) fp) [] σ' H' s'∧tn i s'.heap∧(∀ b ∈ fp,H' b = none)∧W i n σ' ys H') ?_ m0
      ⟨0,_,[],_,I4,st4,fun b hb=>(f3 b hb).1,w0⟩
    rintro n s5 ⟨i,σ5,ys,H5,I5,st5,fr5,w5⟩
    obtain ⟨hD,alt⟩:=turn i n σ5 ys H5 w5
    rcases alt with ⟨stop,qn⟩ | ⟨go,hsz,N,hN,step⟩
    · refine thn (T.done (compCx X N' sc (cloOf X.env.cells sc.names []) s3.heap.objs.size s3 (upd H2 s2.heap.objs.size (.lst [])) fp) rfl rfl rfl hc i [] s5 σ5 H5 _ I5 (stat fr5) st5 stop) fun r s6 ⟨hr,I6⟩=>?_
      subst hr
      obtain ⟨m6,n6,_⟩:=id I6.loc
      refine hRR _ _ s6 H5 m6 (I3.call' I6.os I6.base I6.hok I6.bare fun b hb=>⟨(f3 b hb).2.2.2.1,(f3 b hb).2.1,(f3 b hb).2.2.2.2.1,(f3 b hb).2.2.2.2.2⟩) n6 (fC _ I6.free) qn
    · refine thn (T.item (compCx X N' sc (cloOf X.env.cells sc.names []) s3.heap.objs.size s3 (upd H2 s2.heap.objs.size (.lst [])) fp) rfl rfl rfl hc i [] s5 σ5 H5 _ I5 (stat fr5) st5 go) fun r s6 ⟨u,hr,h6⟩=>?_
      subst hr
      refine thn h6 fun _ s7 ⟨x,H7,I7,r7,y7,st7,fr7⟩=>?_
      have I7':=I7.pinned (stat fr7) (T.obj _ _ st7)
      refine thn (hg _ _ _ _ _ _ s7 σ5 H7 x u _ I7' r7 (step x H7 y7)) fun _ s8 ⟨σ8,H8,I8,q8⟩=>?_
      refine thn (ht _ _ _ _ _ _ s8 σ8 H8 _ I8 q8) fun b s9 ⟨H9,I9,q9⟩=>?_
      have again:∀ {σ':St} {H':Hp} {s':Shared} {ys':List V} {m':Nat},Inv (compCx X N' sc (cloOf X.env.cells sc.names []) s3.heap.objs.size s3 (upd H2 s2.heap.objs.size (.lst [])) fp) ([] ++ pinsAt fp s7.heap) σ' H' s'→m' < n→W (i + 1) m' σ' ys' H' →
          ∃ m,m < n∧∃ i σ' ys H',Inv (compCx X N' sc (cloOf X.env.cells sc.names []) s3.heap.objs.size s3 (upd H2 s2.heap.objs.size (.lst [])) fp) [] σ' H' s'∧tn i s'.heap∧(∀ b ∈ fp,H' b = none)∧W i m σ' ys H':=fun {σ' H' s' ys' m'} I' hm w'=>by
        refine ⟨m',hm,i + 1,σ',ys',H',I'.unpinned,T.keep _ _ _ st7 fun b hb o e=>(I'.pin (b,o) (List.mem_append_right _ (List.mem_append_right _ (mem_pinsAt hb e)))).1,fun b hb=>?_,w'⟩
        obtain ⟨o,e,d⟩:=T.obj _ _ st7 b hb
        exact (I'.pin (b,o) (List.mem_append_right _ (List.mem_append_right _ (mem_pinsAt hb e)))).2.1
      cases b with
      | false =>
        rw [if_neg Bool.false_ne_true] at q9 ⊢
        obtain ⟨m',hm,w'⟩:=hN _ _ _ q9
        exact again I9 hm w'
      | true =>
        rw [if_pos rfl] at q9 ⊢
        refine thn (he _ _ _ _ _ _ s9 σ8 H9 _ I9 q9) fun xv s10 ⟨v,H10,I10,r10,hD10,w10⟩=>?_
        obtain ⟨m',hm,w'⟩:=hN _ _ _ w10
        have q10:rAppend (.ref s2.heap.objs.size) [v] H10 fun _ H'=>H' = upd H10 s2.heap.objs.size (.lst (ys ++ [v])):=⟨_,ys,v,rfl,rfl,hD10,hsz,rfl⟩
        refine thn (mt_append _ s10 σ8 H10 _ _ _ _ _ I10 (show RelV (.ref s2.heap.objs.size) (.ref s2.heap.objs.size) from rfl) (.cons r10 .nil) q10) fun _ s11 ⟨_,H11,I11,_,e11⟩=>?_
        rw [e11] at I11
        exact again I11 hm w'
  exact codeAny_compStart_list loop (T.self _ 0 _ _ _ st4 loop)
theorem pe_lcomp (hc:X.calm = true) (S:CompSc X.env.scope X.N N' src sc) (hi:PI X target iter wi)
    (hg:∀ cl C s H fp,PG (compCx X N' sc cl C s H fp) target g) (ht:∀ cl C s H fp,PIfs (compCx X N' sc cl C s H fp) ifs tc) (he:∀ cl C s H fp,PE (compCx X N' sc cl C s H fp) elt te)
    (hs:∀ x,foldedSetIterable iter X.env x = pure x:=by intro _; rfl) :
    PE X (.ListComp elt [⟨target,iter,ifs,0⟩] sc pos) (tComp src wi g tc te):=by
  intro pins s σ H Q I h
  rw [eval_ListComp]
  refine wpAny_comprehension_free (use:=none) rfl hs (closureFor_clo fun y hy hk=>I.ok.has y.1 (S.free y hy hk)) S.kind (fun y hy hl=>by rw [← hl]; exact S.uniq y hy) ?_
  refine thn (hi pins s σ H _ I h) fun v s1 h1=>thn h1 fun itv s2 h2=>?_
  obtain ⟨it,fp,tn,J,H2,e,I2,T,st2,f2,hW⟩:=h2
  subst e
  refine comp_block (Q:=Q) (RR:=fun acc C=>compPost (model X.prog X.w) X.A X.xe none (EP X pins σ Q) acc C) hc S hg ht he I2 T st2 f2 hW ?_
  intro D C s5 H' m I5 n5 fC q
  refine ⟨m,n5,fun h' sb=>⟨.ref D,H',?_,rfl,q⟩⟩
  exact I5.turned (t':=s5.toks) (fun b o hb e=>(sb.2 b hb).trans e) fC.1 fC.2.1 fC.2.2.2.1 fC.2.2.2.2.1 fC.2.2.2.2.2
end
def compOkB (osc:Scope) (ON N':List Str) (src:List (Option Nat)) (sc:Scope):Bool :=
  sc.kind == .function && osc.kind == .function && sc.names.all (fun y=>sc.names.lookup y.1 == some y.2 && y.2 != .cell && (y.2 != .free || osc.names.lookup y.1 == some .cell || osc.names.lookup y.1 == some .free)) &&
  src.length == N'.length && (N'.zip src).all fun y=>match y.2 with | none=>true | some j=>ON[j]? == some y.1 && sc.names.lookup y.1 == some .free
theorem CompSc.ofB {osc:Scope} {ON N':List Str} {src:List (Option Nat)} {sc:Scope} (h:compOkB osc ON N' src sc = true):CompSc osc ON N' src sc:=by
  unfold compOkB at h
  simp only [Bool.and_eq_true] at h
  obtain ⟨⟨⟨⟨h1,h2⟩,h3⟩,h4⟩,h5⟩:=h
  have h3':=List.all_eq_true.mp h3
  have h5':=List.all_eq_true.mp h5
  refine ⟨by simpa using h1,by simpa using h2,fun y hy=>?_,fun y hy=>?_,fun y hy hf=>?_,by simpa using h4,fun i x j e1 e2=>?_⟩
  · have:=h3' y hy
    simp only [Bool.and_eq_true] at this
    simpa using this.1.1
  · have:=h3' y hy
    simp only [Bool.and_eq_true] at this
    simpa using this.1.2
  · have:=h3' y hy
    simp only [Bool.and_eq_true,Bool.or_eq_true] at this
    rcases this.2 with (z | z) | z
    · rw [hf] at z; exact absurd z (by decide)
    · exact .inl (by simpa using z)
    · exact .inr (by simpa using z)
  · have m:(x,some j) ∈ N'.zip src:=by
      refine List.mem_of_getElem? (i:=i) ?_
      rw [List.getElem?_zip_eq_some]
      exact ⟨e1,e2⟩
    have:=h5' _ m
    simp only [Bool.and_eq_true] at this
    exact ⟨by simpa using this.1,by simpa using this.2⟩
section
variable {g:TG} {tc:TT} {te:TE} {D:Addr} {Q:VK} {σ0:St} {H0:Hp}
theorem comp_range {lo:Int} {n:Nat} (Pv:Nat→St→List V→Hp→Prop) (h0:Pv 0 σ0 [] H0) (hD:∀ i σ ys H,i ≤ n→Pv i σ ys H→H D = some (.lst ys)∧ys.length ≤ i) (hz:n ≤ sizeLine)
    (hs:∀ i σ ys H,i < n→Pv i σ ys H→g (.int (lo + i)) σ H fun σ2 H2=>tc σ2 H2 fun b H3=>if b = true then te σ2 H3 fun v H4=>H4 D = some (.lst ys)∧Pv (i + 1) σ2 (ys ++ [v]) (upd H4 D (.lst (ys ++ [v]))) else Pv (i + 1) σ2 ys H3)
    (hd:∀ σ ys H,Pv n σ ys H→Q (.ref D) H):∃ W:Nat→Nat→St→List V→Hp→Prop,(∃ m,W 0 m σ0 [] H0)∧compW (Itr lo n) g tc te D Q W:=by
  refine ⟨fun i m σ ys H=>m = n - i∧i ≤ n∧Pv i σ ys H,⟨n,by simp,Nat.zero_le _,h0⟩,?_⟩
  rintro i m σ ys H ⟨rfl,hi,p⟩
  refine ⟨(hD i σ ys H hi p).1,?_⟩
  by_cases hlt:i < n
  · refine .inr ⟨hlt,Nat.lt_of_le_of_lt (hD i σ ys H hi p).2 (Nat.lt_of_lt_of_le hlt hz),Pv (i + 1),fun σ' ys' H' p'=>⟨n - (i + 1),by omega,rfl,hlt,p'⟩,fun x H' y=>?_⟩
    obtain ⟨e,y⟩:=y
    subst e y
    exact hs i σ ys _ hlt p
  · have e:i = n:=by omega
    subst e
    exact .inl ⟨Nat.le_refl _,hd σ ys H p⟩
theorem comp_tup {K:PySem.W.Frag} {a:Addr} {xs:List V} (Pv:Nat→St→List V→Hp→Prop) (h0:Pv 0 σ0 [] H0) (hD:∀ i σ ys H,i ≤ xs.length→Pv i σ ys H→H D = some (.lst ys)∧ys.length ≤ i) (hl:∀ i σ ys H,i ≤ xs.length→Pv i σ ys H→SqT K H a xs) (hz:xs.length ≤ sizeLine)
    (hs:∀ i x σ ys H,xs[i]? = some x→Pv i σ ys H→g x σ H fun σ2 H2=>tc σ2 H2 fun b H3=>if b = true then te σ2 H3 fun v H4=>H4 D = some (.lst ys)∧Pv (i + 1) σ2 (ys ++ [v]) (upd H4 D (.lst (ys ++ [v]))) else Pv (i + 1) σ2 ys H3)
    (hd:∀ σ ys H,Pv xs.length σ ys H→Q (.ref D) H):∃ W:Nat→Nat→St→List V→Hp→Prop,(∃ m,W 0 m σ0 [] H0)∧compW (Itt K a) g tc te D Q W:=by
  refine ⟨fun i m σ ys H=>m = xs.length - i∧i ≤ xs.length∧Pv i σ ys H,⟨xs.length,by simp,Nat.zero_le _,h0⟩,?_⟩
  rintro i m σ ys H ⟨rfl,hi,p⟩
  have q:=hl i σ ys H hi p
  refine ⟨(hD i σ ys H hi p).1,?_⟩
  by_cases hlt:i < xs.length
  · refine .inr ⟨⟨xs,xs[i],q,by simp [hlt]⟩,Nat.lt_of_le_of_lt (hD i σ ys H hi p).2 (Nat.lt_of_lt_of_le hlt hz),Pv (i + 1),fun σ' ys' H' p'=>⟨xs.length - (i + 1),by omega,rfl,hlt,p'⟩,fun x H' y=>?_⟩
    obtain ⟨e,y⟩:=y
    subst e
    exact hs i x σ ys _ (y xs q) p
  · have e:i = xs.length:=by omega
    subst e
    exact .inl ⟨⟨xs,q,Nat.le_refl _⟩,hd σ ys H p⟩
end
section
variable {X:Cx} {N':List Str} {sc:Scope} {cl:List (Str×Addr)} {C:Addr} {s:Shared} {H:Hp} {fp:List Addr}
theorem relabel_free {env:Env} {x:Str} (e:sc.names.lookup x = some .free):(relabel sc env).names.lookup x = some .cell∨(relabel sc env).names.lookup x = some .free:=by
  have gen:∀ ns:List (Str×NameKind),ns.lookup x = some .free→(ns.map fun (n,k)=>if (k == NameKind.free && env.scope.kind == .function && env.kindOf n == some .cell) then (n,NameKind.cell) else (n,k)).lookup x = some .cell ∨
      (ns.map fun (n,k)=>if (k == NameKind.free && env.scope.kind == .function && env.kindOf n == some .cell) then (n,NameKind.cell) else (n,k)).lookup x = some .free:=by
    intro ns
    induction ns with
    | nil=>intro h; cases h
    | cons y r ih =>
      obtain ⟨n,k1⟩:=y
      intro h
      rw [List.map_cons]
      dsimp only
      rw [List.lookup_cons] at h
      by_cases hc:(k1 == NameKind.free && env.scope.kind == .function && env.kindOf n == some .cell) = true
      · rw [if_pos hc,List.lookup_cons]
        cases hx:x == n with
        | true=>exact .inl rfl
        | false=>rw [hx] at h; exact ih h
      · rw [if_neg hc,List.lookup_cons]
        cases hx:x == n with
        | true =>
          rw [hx] at h
          exact .inr h
        | false=>rw [hx] at h; exact ih h
  exact gen sc.names e
theorem relabel_other {env:Env} {x:Str} {k:NameKind} (hk:(k == NameKind.free) = false) (e:sc.names.lookup x = some k):(relabel sc env).names.lookup x = some k:=by
  have gen:∀ ns:List (Str×NameKind),ns.lookup x = some k→(ns.map fun (n,k)=>if (k == NameKind.free && env.scope.kind == .function && env.kindOf n == some .cell) then (n,NameKind.cell) else (n,k)).lookup x = some k:=by
    intro ns
    induction ns with
    | nil=>intro h; cases h
    | cons y r ih =>
      obtain ⟨n,k1⟩:=y
      intro h
      rw [List.map_cons]
      dsimp only
      rw [List.lookup_cons] at h
      cases hx:x == n with
      | true =>
        rw [hx] at h
        have h':k1 = k:=Option.some.inj h
        subst h'
        rw [if_neg (by rw [hk]; simp),List.lookup_cons,hx]
      | false =>
        rw [hx] at h
        split
        · rw [List.lookup_cons,hx]; exact ih h
        · rw [List.lookup_cons,hx]; exact ih h
  exact gen sc.names e
theorem pvf (i:Nat) {x:Str} {pos:Pos} (hN:N'[i]? = some x:=by rfl) (hv:sc.names.lookup x = some .free:=by rfl) (hd:(x == ("__debug__" : Str)) = false:=by decide) (hcd:(x == ("__classdict__" : Str)) = false:=by decide) :
    PE (compCx X N' sc cl C s H fp) (.Name x pos) (tVar i):=pe_var (X:=compCx X N' sc cl C s H fp) hN (.inr (relabel_free hv)) hd hcd
theorem pvl (i:Nat) {x:Str} {pos:Pos} (hN:N'[i]? = some x:=by rfl) (hv:sc.names.lookup x = some .local:=by rfl) (hd:(x == ("__debug__" : Str)) = false:=by decide) (hcd:(x == ("__classdict__" : Str)) = false:=by decide) :
    PE (compCx X N' sc cl C s H fp) (.Name x pos) (tVar i):=pe_var (X:=compCx X N' sc cl C s H fp) hN (.inl (relabel_other rfl hv)) hd hcd
theorem pgl {i:Nat} {x:Str} {pos:Pos} (hn:N'.Nodup:=by decide +kernel) (hN:N'[i]? = some x:=by rfl) (hv:sc.names.lookup x = some .local:=by rfl) :
    PG (compCx X N' sc cl C s H fp) (.Name x pos) (gName i):=pg_name (X:=compCx X N' sc cl C s H fp) hn hN (.inl (relabel_other rfl hv)) (.inr (relabel_other rfl hv))
theorem glc {x:Str} (hv:sc.names.lookup x = some .globalImplicit:=by rfl):Gl (compCx X N' sc cl C s H fp) x:=relabel_other (env:=X.env) rfl hv
end
section
variable {X:Cx}
theorem call_divmodB:CallR X (.builtin "divmod") (fun xs H Q=>∃ i j,xs = [.int i,.int j]∧(0 < j∧j.natAbs.log2 < 9000)∧∀ p,H p = none→Q (.ref p) (upd H p (.tup [.int (i / j),.int (i % j)]))):=by
  intro pins s σ H xs us Q I r h
  obtain ⟨i,j,rfl,⟨h1,h2⟩,q⟩:=h
  obtain ⟨u,w',rfl,⟨t,rfl⟩,⟨t',rfl⟩⟩:=vals2 r
  refine divmod_int (by omega) ?_ (.inl (PyProof.noPylong_of_log2 h2))
  rw [Int.fdiv_eq_ediv_of_nonneg i (by omega),Int.fmod_eq_emod_of_nonneg i (by omega)]
  have hn:H s.heap.objs.size = none:=I.hok.fresh (Nat.le_refl _)
  refine ⟨.ref s.heap.objs.size,_,?_,rfl,q _ hn⟩
  refine I.laid (fun b o e=>Heap.get?_push_of_some _ e) (Nat.le_refl _) ⟨by simp only [List.length_cons,List.length_nil]; rw [sizeLine_eq]; decide,[.int (i / j) s.toks,.int (i % j) (s.toks + 1)],.cons ⟨_,rfl⟩ (.cons ⟨_,rfl⟩ .nil),?_⟩
  exact ⟨_,Heap.get?_push_size s.heap rfl,rfl,⟨0,rfl⟩,rfl⟩
theorem strsAre_of {ys:List Str}:∀ {us:List Value},Vals (ys.map V.str) us→StrsAre us ys:=by
  induction ys with
  | nil=>intro us r; cases r; exact .nil
  | cons y ys ih =>
    intro us r
    cases r with
    | cons h t =>
      obtain ⟨tk,rfl⟩:=h
      exact .cons _ _ (ih t)
def rJoin (K:PySem.W.Frag):V→List V→Hp→VK→Prop:=fun x vs H Q=>∃ sep p ys,x = .str sep∧vs = [.ref p]∧SqL K H p (ys.map V.str)∧(ys.map (·.length)).sum + ys.length * sep.length ≤ 16777216∧Q (.str (Txt.join sep ys)) H
theorem mt_join:MtR X "str.join" (rJoin X.K):=by
  intro pins s σ H x vs v us Q I rx rv h
  obtain ⟨sep,p,ys,rfl,rfl,hS,hz,q⟩:=h
  obtain ⟨tk,rfl⟩:=rx
  obtain ⟨u,rfl,ru⟩:=vals1 rv
  cases ru
  obtain ⟨its,r,pl,_⟩:=I.list hS
  exact join_list pl.isList (strsAre_of (by simpa using r)) hz fun t' k=>⟨.str (Txt.join sep ys),H,I.tok _,⟨_,rfl⟩,q⟩
end
def PotAt (H:Hp) (p:Addr):Prop:=∃ a b:Int,H p = some (.lst [.int a,.int b])∧0 ≤ a∧0 ≤ b∧b ≤ 2147483647
structure Grow (p:Addr) (H H':Hp):Prop where
  keep:∀ b o,b ≠ p→H b = some o→H' b = some o
  pot:PotAt H' p
theorem Grow.refl {p:Addr} {H:Hp} (h:PotAt H p):Grow p H H:=⟨fun _ _ _ e=>e,h⟩
theorem Grow.trans {p:Addr} {H H1 H2:Hp} (a:Grow p H H1) (b:Grow p H1 H2):Grow p H H2:=⟨fun c o n e=>b.keep c o n (a.keep c o n e),b.pot⟩
theorem Grow.same {p:Addr} {H H1:Hp} (h:PotAt H p) (s:Same H H1):Grow p H H1:=⟨fun c o _ e=>s c o e,let ⟨a,b,e,r⟩:=h; ⟨a,b,s _ _ e,r⟩⟩
theorem same_new {H:Hp} {p:Addr} (h:H p = none) (o:HO):Same H (upd H p o):=fun b u q=>by rw [upd_ne (ne_of_none q h)]; exact q
theorem Grow.new {p q:Addr} {H H1:Hp} {o:HO} (a:Grow p H H1) (h:H1 q = none):Grow p H (upd H1 q o):=a.trans (.same a.pot (same_new h o))
def spCell (K:PySem.W.Frag):Sp:=fun vs H Q _=>∃ (a:Addr) (ns:List Int) (k:Int),vs = [.ref a,.int k]∧SqL K H a (ns.map V.int)∧0 ≤ k∧∀ n,Q (.int n) H
def spPot (K:PySem.W.Frag):Sp:=fun vs H Q _=>∃ (a:Addr) (ns:List Int) (k:Int),vs = [.ref a,.int k]∧SqL K H a (ns.map V.int)∧0 ≤ k∧k ≤ 1000∧∀ p H',H p = none→Same H H'→PotAt H' p→Q (.ref p) H'
def spDraw:Sp:=fun vs H Q _=>∃ (p:Addr) (m:Int),vs = [.ref p,.int m]∧PotAt H p∧0 < m∧m.natAbs.log2 < 9000∧∀ d H',Grow p H H'→0 ≤ d→d < m→Q (.int d) H'
def spNumber:Sp:=fun vs H Q _=>∃ (p:Addr),vs = [.ref p]∧PotAt H p∧∀ n H',Grow p H H'→-(10 ^ 60) < n→n < 10 ^ 60→Q (.int n) H'
def isW (x:Str):Prop:=1 ≤ x.length∧x.length ≤ 8∧∀ c ∈ x.cps.toList,97 ≤ c∧c ≤ 122
def spWord:Sp:=fun vs H Q _=>∃ (p:Addr),vs = [.ref p]∧PotAt H p∧∀ x H',Grow p H H'→isW x→Q (.str x) H'
theorem ixN_lt {n:Nat} {i:Int} (h0:0 ≤ i) (h1:i < n):ixN n i = some i.toNat:=by
  unfold ixN; rw [if_pos h0,if_pos h1]
theorem atI_lt {xs:List V} {i:Int} (h0:0 ≤ i) (h1:i < xs.length):∃ v,atI xs i = some v∧xs[i.toNat]? = some v:=by
  have e:=ixN_lt h0 h1
  have hj:i.toNat < xs.length:=by omega
  refine ⟨xs[i.toNat],?_,by simp [hj]⟩
  unfold atI; rw [e]
  show xs[i.toNat]? = _
  simp [hj]
theorem atI_mem {xs:List V} {i:Int} (h0:0 ≤ i) (h1:i < xs.length):∃ v,atI xs i = some v∧v ∈ xs:=by
  obtain ⟨v,h,g⟩:=atI_lt h0 h1
  exact ⟨v,h,List.mem_of_getElem? g⟩
theorem atS_mem {z:Str} {i:Int} (h0:0 ≤ i) (h1:i < (z.cps.toList.length:Nat)):∃ c,atI z.cps.toList i = some c∧c ∈ z.cps.toList:=by
  have e:=ixN_lt (n:=z.cps.toList.length) h0 h1
  have hj:i.toNat < z.cps.toList.length:=by omega
  refine ⟨z.cps.toList[i.toNat],?_,List.getElem_mem hj⟩
  unfold atI; rw [e]
  show z.cps.toList[i.toNat]? = _
  simp only [hj,List.getElem?_eq_getElem]
theorem glue_fold (g:Str):∀ (ps:List Str) (acc:Array Nat),(ps.foldl (fun acc p=>acc ++ g.cps ++ p.cps) acc).toList = acc.toList ++ (ps.map fun p=>g.cps.toList ++ p.cps.toList).flatten
  | [],acc=>by simp
  | p :: r,acc=>by
    rw [List.foldl_cons,glue_fold g r]
    simp [List.append_assoc]
theorem join_codes (g:Str) (ps:List Str):(Txt.join g ps).cps.toList = (ps.headD Str.empty).cps.toList ++ ((ps.drop 1).map fun p=>g.cps.toList ++ p.cps.toList).flatten:=by
  unfold Txt.join Builtin.Str.glued
  exact glue_fold g (ps.drop 1) _
def sgn (c:Nat):Str:=⟨#[c]⟩
theorem nosep:(("" : Str).cps).toList = []:=by decide +kernel
theorem noStr:(Str.empty.cps).toList = []:=by decide +kernel
theorem join_signs (zs:List Nat):(Txt.join "" (zs.map sgn)).cps.toList = zs:=by
  rw [join_codes,nosep]
  cases zs with
  | nil=>exact noStr
  | cons z r =>
    show [z] ++ ((r.map sgn).map fun p=>[] ++ p.cps.toList).flatten = z :: r
    have e:((r.map sgn).map fun p=>[] ++ p.cps.toList).flatten = r:=by
      induction r with
      | nil=>rfl
      | cons y r ih =>
        rw [List.map_cons,List.map_cons,List.flatten_cons,ih]
        rfl
    rw [e]
    rfl
theorem sgn_len (zs:List Nat):((zs.map sgn).map (·.length)).sum = zs.length:=by
  induction zs with
  | nil=>rfl
  | cons z r ih=>rw [List.map_cons,List.map_cons,List.sum_cons,ih,List.length_cons]; show 1 + _ = _; omega
theorem isW_of {x:Str} {zs:List Nat} (e:x.cps.toList = zs) (h1:1 ≤ zs.length) (h2:zs.length ≤ 8) (h3:∀ c ∈ zs,97 ≤ c∧c ≤ 122):isW x:=by
  have l:x.length = zs.length:=by show x.cps.size = _; rw [← e]; simp
  exact ⟨by omega,by omega,by rw [e]; exact h3⟩
theorem Grow.put {p D:Addr} {H H3 H4:Hp} {o:HO} (g3:Grow p H H3) (hD:H3 D = none) (n:D ≠ p) (g4:Grow p H H4):Grow p H (upd H4 D o):=by
  refine ⟨fun b u nb e=>?_,?_⟩
  · by_cases hb:b = D
    · subst hb
      exact absurd (g3.keep b u n e) (by rw [hD]; simp)
    · rw [upd_ne hb]
      exact g4.keep b u nb e
  · obtain ⟨x,y,e,r⟩:=g4.pot
    exact ⟨x,y,by rw [upd_ne (Ne.symm n)]; exact e,r⟩
theorem Grow.ne {p D:Addr} {H H3:Hp} (g3:Grow p H H3) (hD:H3 D = none):D ≠ p:=fun e=>by subst e; obtain ⟨_,_,z,_⟩:=g3.pot; rw [z] at hD; cases hD
section
variable {X:Cx} {x:Str} {pos:Pos} {c:Addr} {n:String} {a b:Expr} {ta tb:TE}
theorem pe_bty (hg:Gl X x) (hm:X.mg x = none) (hv:bootBuiltins x = some (.type n)) (hn:x ≠ "__name__":=by decide) (hd:(x == ("__debug__" : Str)) = false:=by decide):PE X (.Name x pos) (tC (.ty n)):=pe_bltn hg hm hv (show RelV (.ty n) (.type n) from rfl) hn hd
theorem pe_ixt (ha:PE X a ta) (hb:PE X b tb) (hs:PlainIx b):PE X (.Subscript a b pos) (tOp (rIxT X.K) ta tb):=pe_ix ix_tup ha hb hs
end
section
variable {X:Cx} {pins:List (Addr×Obj)} {σ:St} {H:Hp} {s:Shared}
theorem vals_at {xs:List V} {its:List Value} (r:Vals xs its) {j:Nat} (h:j < its.toArray.size):∃ x,xs[j]? = some x∧RelV x its.toArray[j]:=by
  have hj:j < its.length:=by simpa using h
  have hx:j < xs.length:=by rw [r.length]; exact hj
  refine ⟨xs[j],by simp [hx],?_⟩
  obtain ⟨u,e,ru⟩:=r.get (i:=j) (x:=xs[j]) (by simp [hx])
  have e':its[j] = u:=by rw [List.getElem?_eq_getElem hj] at e; exact Option.some.inj e
  show RelV xs[j] its[j]
  rw [e']; exact ru
end
end L2
namespace HT
open PySem PyProof.Rows
open PySem.AutoSeq1 (wpAny_loadPart')
theorem tuple_addW0 (l b:Addr) (items items2:Array Value) (n n2:Nat) (dd dd2:Option Addr) (sl sl2:Array (Option Value)) (hc0:items.isEmpty = true) :
    Meets (Builtin.«tuple.__add__» ⟨[.ref l,.ref b],[]⟩) (fun _ R s=>s.heap.get? l = some { cls:=.type "tuple", dict:=dd,data:=.seq items n,slots:=sl }∧s.heap.get? b = some { cls:=.type "tuple", dict:=dd2,data:=.seq items2 n2,slots:=sl2 }∧R (.ok (.ret (Value.ref b))) { s with heap:=s.heap,toks:=s.toks }) :=
  .of_wp fun prog w A R s h=>by
    obtain ⟨hp,g,d,tk,os⟩:=s; obtain ⟨hl,hb,h⟩:=h
    have f1:=AutoSeq1.idx_int; have f2:=AutoSeq1.sub_tuple_tuple; have f3:=AutoSeq1.sub_list_list; have f4:=AutoSeq1.sub_tuple_list; have f5:=AutoSeq1.sub_list_tuple
    wp_walk using wpAny_loadPart' hl,wpAny_loadPart' hb
    exact ⟨_,rfl,h⟩
section
variable {prog:Program} {w:World} {A:Around} {E:Value→Shared→Prop} {s:Shared}
theorem cat_tup0 {t b:Addr} {ws:List Value} {Q:Value→Shared→Prop} (ht:IsTup s.heap t #[]) (hb:IsTup s.heap b ws.toArray) (h1:Q (.ref b) s):wpAny (model prog w) A (binaryOp .Add (.ref t) (.ref b)) Q E s:=by
  obtain ⟨⟨cls,dd,data,sl⟩,ho,hc,n,hd⟩:=id ht
  obtain ⟨⟨cls2,dd2,data2,sl2⟩,ho2,hc2,n2,hd2⟩:=id hb
  simp only at hc hd hc2 hd2
  subst hc hd hc2 hd2
  exact concat_meets ⟨_,ho,rfl⟩ ⟨_,ho2,rfl⟩ noFill_tuple_add seq_tuple_add PySem.F.slot_tuple_add PySem.F.entry_tuple_add (PySem.F.args_tuple_add_2 _ _)
      (tuple_addW0 t b #[] ws.toArray n n2 dd dd2 sl sl2 rfl) ⟨ho,ho2,h1⟩
end
end HT
namespace L2
open PySem PySem.Spec PyProof.Rows
section
variable {X:Cx}
theorem op_neLen (hu:X.A.units < cLine):OpR X (compareOp .NotEq) (fun x y H Q=>∃ a b xs ys,x = .ref a∧y = .ref b∧SqL X.K H a xs∧SqL X.K H b ys∧xs.length ≠ ys.length∧Q (.bl true) H):=by
  intro pins s σ H x y v u Q I rx ry h
  obtain ⟨a,b,xs,ys,rfl,rfl,ha,hb,hl,q⟩:=h
  cases rx; cases ry
  obtain ⟨its,r1,p1,_⟩:=I.list ha
  obtain ⟨its',r2,p2,_⟩:=I.list hb
  exact SeqAt.RcNeAt.lists_lengths p1.isList p2.isList (by simp [← r1.length,← r2.length,hl]) hu _ _ _ _ ⟨.bl true,H,I,rfl,q⟩
theorem op_catT0:OpR X (binaryOp .Add) (fun x y H Q=>∃ a b ys,x = .ref a∧y = .ref b∧SqT X.K H a []∧SqT X.K H b ys∧Q (.ref b) H):=by
  intro pins s σ H x y v u Q I rx ry h
  obtain ⟨a,b,ys,rfl,rfl,ha,hb,q⟩:=h
  cases rx
  cases ry
  obtain ⟨its,r1,p1,_⟩:=I.tuple ha
  obtain ⟨its2,r2,p2,_⟩:=I.tuple hb
  cases r1
  exact HT.cat_tup0 p1 p2 ⟨.ref b,H,I,rfl,q⟩
end
def Ris (xs:Array Nat):Prop:=xs.toList.Pairwise (· < ·)
theorem Ris.lt {xs:Array Nat} (h:Ris xs) {i j a b:Nat} (hij:i < j) (ha:xs[i]? = some a) (hb:xs[j]? = some b):a < b:=by
  rw [← Array.getElem?_toList] at ha hb
  obtain ⟨h1,e1⟩:=List.getElem?_eq_some_iff.mp ha
  obtain ⟨h2,e2⟩:=List.getElem?_eq_some_iff.mp hb
  rw [← e1,← e2]
  exact List.pairwise_iff_getElem.mp h i j h1 h2 hij
theorem below_go {xs:Array Nat} (h:Ris xs) (j:Nat):∀ (fuel lo hi:Nat),hi ≤ xs.size→lo ≤ hi→hi - lo ≤ fuel→(∀ i a,i < lo→xs[i]? = some a→a < j)→(∀ i a,hi ≤ i→xs[i]? = some a→j ≤ a) →
    SetTable.below.go xs j fuel lo hi ≤ xs.size∧(∀ i a,i < SetTable.below.go xs j fuel lo hi→xs[i]? = some a→a < j)∧∀ i a,SetTable.below.go xs j fuel lo hi ≤ i→xs[i]? = some a→j ≤ a
  | 0,lo,hi,h1,h2,h3,h4,h5=>by
    have e:lo = hi:=by omega
    subst e
    exact ⟨h1,h4,h5⟩
  | fuel + 1,lo,hi,h1,h2,h3,h4,h5=>by
    unfold SetTable.below.go
    by_cases hlt:lo < hi
    · rw [if_pos hlt]
      have hm:(lo + hi) / 2 < xs.size:=by omega
      have eg:xs[(lo + hi) / 2]? = some xs[(lo + hi) / 2]:=Array.getElem?_eq_getElem hm
      have ed:xs.getD ((lo + hi) / 2) j = xs[(lo + hi) / 2]:=by simp [Array.getD,hm]
      dsimp only
      rw [ed]
      by_cases hc:xs[(lo + hi) / 2] < j
      · rw [if_pos hc]
        refine below_go h j fuel _ hi h1 (by omega) (by omega) (fun i a hi' e=>?_) h5
        by_cases q:i = (lo + hi) / 2
        · subst q
          rw [eg] at e
          cases e
          exact hc
        · exact Nat.lt_trans (h.lt (by omega) e eg) hc
      · rw [if_neg hc]
        refine below_go h j fuel lo _ (by omega) (by omega) (by omega) h4 fun i a hi' e=>?_
        by_cases q:i = (lo + hi) / 2
        · subst q
          rw [eg] at e
          cases e
          omega
        · have:=h.lt (show (lo + hi) / 2 < i by omega) eg e
          omega
    · rw [if_neg hlt]
      have e:lo = hi:=by omega
      subst e
      exact ⟨h1,h4,h5⟩
theorem below_spec {xs:Array Nat} (h:Ris xs) (j:Nat):SetTable.below xs j ≤ xs.size∧(∀ i a,i < SetTable.below xs j→xs[i]? = some a→a < j)∧∀ i a,SetTable.below xs j ≤ i→xs[i]? = some a→j ≤ a :=
  below_go h j xs.size 0 xs.size (Nat.le_refl _) (Nat.zero_le _) (by omega) (fun i a hi=>absurd hi (by omega)) fun i a hi e=>by
    rw [Array.getElem?_eq_none hi] at e
    cases e
theorem ris_insert {xs:Array Nat} (h:Ris xs) {j:Nat} (hn:xs[SetTable.below xs j]? ≠ some j):Ris (SetTable.insertAt xs (SetTable.below xs j) j):=by
  obtain ⟨h1,h2,h3⟩:=below_spec h j
  unfold Ris
  rw [SetTable.toList_insertAt]
  have hl:∀ a ∈ xs.toList.take (SetTable.below xs j),a < j:=fun a ha=>by
    obtain ⟨i,hi⟩:=List.mem_iff_getElem?.mp ha
    rw [List.getElem?_take] at hi
    split at hi
    · rename_i hlt
      exact h2 i a hlt (by rw [← Array.getElem?_toList]; exact hi)
    · cases hi
  have hr:∀ a ∈ xs.toList.drop (SetTable.below xs j),j < a:=fun a ha=>by
    obtain ⟨i,hi⟩:=List.mem_iff_getElem?.mp ha
    rw [List.getElem?_drop,Array.getElem?_toList] at hi
    have q:=h3 _ a (Nat.le_add_right _ i) hi
    rcases Nat.lt_or_eq_of_le q with q | q
    · exact q
    · exfalso
      subst q
      cases i with
      | zero=>exact hn hi
      | succ i =>
        have hb:SetTable.below xs j < xs.size:=by
          have:=(Array.getElem?_eq_some_iff.mp hi).1
          omega
        have e0:xs[SetTable.below xs j]? = some xs[SetTable.below xs j]:=Array.getElem?_eq_getElem hb
        have l1:=h3 _ _ (Nat.le_refl _) e0
        have l2:=h.lt (show SetTable.below xs j < SetTable.below xs j + (i + 1) by omega) e0 hi
        omega
  have hp:(xs.toList.take (SetTable.below xs j) ++ xs.toList.drop (SetTable.below xs j)).Pairwise (· < ·):=by rw [List.take_append_drop]; exact h
  rw [List.pairwise_append] at hp
  first
  | (rw [List.pairwise_append]
     refine ⟨hp.1,?_,fun a ha b hb=>?_⟩
     · exact List.pairwise_cons.mpr ⟨hr,hp.2.1⟩
     · rcases List.mem_cons.mp hb with e | hb
       · subst e; exact hl a ha
       · exact hp.2.2 a ha b hb)
  | skip
structure TabOk (t:SetTable) (b:Bool):Prop where
  ris:Ris t.place
  dum:t.dummies = #[]
  led:t.led = b
theorem has_nil (j:Nat):SetTable.has #[] j = false:=by simp [SetTable.has]
theorem probe_empty {t:SetTable} (hd:t.dummies = #[]) {f:Nat→Int} {h:Int} (hf:∀ i,(f i == h) = false):∀ (fuel:Nat) (p:SetTable.Probe) (j:Nat) (d:Option Nat),p.dummy = none→SetTable.probe.go t f h fuel p = some (.empty j d) →
    d = none∧t.slot j = .empty
  | 0,p,j,d,_,e=>by
    unfold SetTable.probe.go at e
    cases e
  | fuel + 1,p,j,d,hp,e=>by
    have adv:∀ p:SetTable.Probe,p.dummy = none→(t.advance p).dummy = none:=fun p hp=>by
      unfold SetTable.advance
      split
      · exact hp
      · exact hp
    unfold SetTable.probe.go at e
    split at e
    · rename_i hs
      cases e
      exact ⟨hp,hs⟩
    · rename_i hs
      unfold SetTable.slot at hs
      dsimp only at hs
      rw [hd,has_nil] at hs
      split at hs <;> cases hs
    · rename_i i hs
      rw [hf i] at e
      exact probe_empty hd hf fuel _ j d (adv p hp) e
theorem slot_empty {t:SetTable} {j:Nat} (h:t.slot j = .empty):t.place[SetTable.below t.place j]? ≠ some j:=fun e=>by
  unfold SetTable.slot at h
  dsimp only at h
  rw [e] at h
  rw [if_pos (by simp)] at h
  cases h
theorem ris_range (n:Nat):Ris (Array.range n):=by
  unfold Ris
  rw [Array.toList_range]
  exact List.pairwise_lt_range
theorem standIn_ok {t:SetTable} {b:Bool} (h:TabOk t b) (n:Nat):TabOk (t.standIn n) b:=⟨ris_range n,rfl,h.led⟩
theorem layNew_ok {t:SetTable} {b:Bool} (ok:TabOk t b) (es:Array (Int×Value)) (h:Int) (x:Value):TabOk (layNew t es h x).2.1 b:=by
  unfold layNew
  split
  · rename_i slot wd e
    have hs:t.slot slot = .empty:=by
      unfold SetTable.freeSlot at e
      split at e
      · rename_i j d e2
        unfold SetTable.probe at e2
        obtain ⟨q1,q2⟩:=probe_empty ok.dum (fun _=>by simp; omega) _ _ _ _ rfl e2
        subst q1
        cases e
        exact q2
      · cases e
    have o2:TabOk (t.put slot).1 b:=by
      unfold SetTable.put
      refine ⟨ris_insert ok.ris (slot_empty hs),?_,ok.led⟩
      show (if SetTable.has t.dummies slot = true then _ else t.dummies) = #[]
      rw [ok.dum,has_nil]
      rfl
    dsimp only
    unfold SetTable.orStandIn
    split
    · exact o2
    · exact standIn_ok o2 _
  · exact standIn_ok ok _
theorem ris_filterMap {α:Type} (f:Nat→Option α) (n:Nat):(((List.range n).filterMap fun j=>(f j).map (j,·)).map (·.1)).Pairwise (· < ·):=by
  have e:(((List.range n).filterMap fun j=>(f j).map (j,·)).map (·.1)) = (List.range n).filter fun j=>(f j).isSome:=by
    rw [List.map_filterMap,← List.filterMap_eq_filter]
    congr 1
    funext j
    cases hf:f j <;> simp [Option.guard,hf]
  rw [e]
  exact List.Pairwise.filter _ List.pairwise_lt_range
theorem relayAll_ok {t:SetTable} {b:Bool} (ok:TabOk t b) (es:Array (Int×Value)) (n:Nat):TabOk (relayAll t es n).2.1 b:=by
  unfold relayAll
  split
  · rename_i t' order e
    have o2:TabOk t' b:=by
      unfold SetTable.relaid SetTable.laid at e
      simp only [bind,Option.bind_eq_some_iff] at e
      obtain ⟨owner,_,e⟩:=e
      cases e
      exact ⟨ris_filterMap _ _,rfl,ok.led⟩
    dsimp only
    split
    · exact o2
    · exact standIn_ok ok _
  · exact standIn_ok ok _
section
variable {prog:Program} {w:World} {A:Around} {E:Value→Shared→Prop} {s:Shared}
def byTextW (w:World):Bool:=w.params.followText "set-order"
def kOf:Value→Key
  | .int i _=>.inl i
  | .str x _=>.inr x
  | _=>.inl 0
theorem kOf_is {k:Key} {v:Value} (h:keyIs k v = true):kOf v = k:=by
  rcases keyIs_shape h with ⟨i,t,rfl,rfl⟩ | ⟨x,t,rfl,rfl⟩ <;> rfl
structure SetR (prog:Program) (w:World) (h:Heap) (a:Addr) (ks:List Key) (es:Array (Int×Value)) (ep:Nat) (t:SetTable):Prop where
  obj:h.get? a = some { cls:=.type "set", dict:=none,data:=.set es ep t,slots:=#[] }
  els:ElemsOf (mixKind prog w) es.toList
  few:es.size < scanBound
  fits:t.fits es.size = true
  tab:TabOk t (!byTextW w)
  nod:ks.Nodup
  keys:(es.toList.map fun e=>kOf e.2).Perm ks
theorem SetR.keep {h h':Heap} {a:Addr} {ks:List Key} {es:Array (Int×Value)} {ep:Nat} {t:SetTable} (r:SetR prog w h a ks es ep t) (k:∀ o,h.get? a = some o→h'.get? a = some o):SetR prog w h' a ks es ep t :=
  ⟨k _ r.obj,r.els,r.few,r.fits,r.tab,r.nod,r.keys⟩
theorem SetR.mem {h:Heap} {a:Addr} {ks:List Key} {es:Array (Int×Value)} {ep:Nat} {t:SetTable} (r:SetR prog w h a ks es ep t) {k:Key}:(∃ e ∈ es.toList,(mixKind prog w).is k e.2 = true) ↔ k ∈ ks:=by
  constructor
  · rintro ⟨e,he,hk⟩
    refine r.keys.mem_iff.mp (List.mem_map.mpr ⟨e,he,kOf_is hk⟩)
  · intro hk
    obtain ⟨e,he,q⟩:=List.mem_map.mp (r.keys.mem_iff.mpr hk)
    obtain ⟨⟨k',hk',_⟩,_⟩:=r.els e he
    refine ⟨e,he,?_⟩
    have:kOf e.2 = k':=kOf_is hk'
    rw [← q,this]
    exact hk'
open Classical in
noncomputable def addK (ks:List Key) (k:Key):List Key:=if k ∈ ks then ks else ks ++ [k]
theorem store_r {h:Heap} {a:Addr} {es:Array (Int×Value)} {ep:Nat} {t:SetTable} (ho:h.get? a = some { cls:=.type "set", dict:=none,data:=.set es ep t,slots:=#[] }) (es':Array (Int×Value)) (t':SetTable) :
    (h.update a (Obj.putSet es' t')).get? a = some { cls:=.type "set", dict:=none,data:=.set es' (ep + 1) t',slots:=#[] }:=by
  have:=Heap.get?_update_self (Obj.putSet es' t') ho (by rw [putSet_of es' t' rfl]; rfl)
  rw [putSet_of es' t' rfl] at this
  exact this
theorem add_tail {g:Bool→Sem Unit} (hg:∀ (b:Bool) (s₁:Shared) (Q':Unit→Shared→Prop),Q' () s₁→wpAny (model prog w) A (g b) Q' E s₁)
    {a:Addr} {es:Array (Int×Value)} {ep:Nat} {t:SetTable} (ho:s.heap.get? a = some { cls:=.type "set", dict:=none,data:=.set es ep t,slots:=#[] })
    {es1:Array (Int×Value)} {t2:SetTable} {ks:List Key} (he:ElemsOf (mixKind prog w) es1.toList) (hb:es1.size < scanBound) (hf:t2.fits es1.size = true) (ht:TabOk t2 (!byTextW w)) (hn:ks.Nodup) (hk:(es1.toList.map fun e=>kOf e.2).Perm ks)
    {wasDummy:Bool} {R:Option Bool→Shared→Prop}
    (h:∀ h' es' ep' t',Heap.SameBut a s.heap h'→SetR prog w h' a ks es' ep' t'→R (some true) { s with heap:=h' }) :
    wpAny (model prog w) A (do
        storeSet a es1 t2
        if (!wasDummy && t2.tooFull) = true then do
            g (relayAll t2 es1 (SetTable.grown es1.size)).2.2
            storeSet a (relayAll t2 es1 (SetTable.grown es1.size)).1 (relayAll t2 es1 (SetTable.grown es1.size)).2.1
            pure (some true)
          else pure (some true)) R E s:=by
  refine wpAny_bind (wpAny_storeSet_of ho rfl ?_ (fits_of_scanBound hb))
  have ho1:=store_r ho es1 t2
  have sb1:=Heap.SameBut.update s.heap a (Obj.putSet es1 t2)
  split
  · have hp:=relayAll_perm t2 es1 (SetTable.grown es1.size)
    have hfr:=relayAll_fits t2 es1 (SetTable.grown es1.size)
    have hto:=relayAll_ok ht es1 (SetTable.grown es1.size)
    generalize hRl:relayAll t2 es1 (SetTable.grown es1.size) = Rl at hp hfr hto ⊢
    obtain ⟨es2,t3,gave2⟩:=Rl
    dsimp only at hp hfr hto ⊢
    have hsz:es2.size = es1.size:=by rw [← Array.length_toList,hp.length_eq,Array.length_toList]
    have hb2:es2.size < scanBound:=by rw [hsz]; exact hb
    refine wpAny_bind (hg _ _ _ ?_)
    refine wpAny_bind (wpAny_storeSet_of ho1 rfl ?_ (fits_of_scanBound hb2))
    exact wpAny_pure (h _ es2 _ t3 (sb1.trans (Heap.SameBut.update _ a _)) ⟨store_r ho1 es2 t3,he.perm hp,hb2,hfr,hto,hn,(hp.map _).trans hk⟩)
  · exact wpAny_pure (h _ es1 _ t2 sb1 ⟨ho1,he,hb,hf,ht,hn,hk⟩)
theorem add_hashed {a:Addr} {ks:List Key} {es:Array (Int×Value)} {ep:Nat} {t:SetTable} {k:Key} {x:Value} {Q:Bool→Shared→Prop} (hkey:keyIs k x = true) (hsc:x.scannable = true) (hS:SetR prog w s.heap a ks es ep t)
    (hroom:ks.length + 1 < scanBound)
    (h:∀ b h' es' ep' t',Heap.SameBut a s.heap h'→SetR prog w h' a (addK ks k) es' ep' t'→Q b { s with heap:=h' }) :
    wpAny (model prog w) A (setAddHashed a x ((mixKind prog w).hash k)) Q E s:=by
  have hsize:es.size = ks.length:=by rw [← hS.keys.length_eq,List.length_map,Array.length_toList]
  have hkey':(mixKind prog w).is k x = true:=hkey
  have hel:=hS.els
  unfold setAddHashed setAddHashedIn
  refine wpAny_holding (wpAny_bind (wpAny_setState_of hS.obj rfl hS.fits ?_))
  dsimp only
  rw [byScan_of hsc hS.few hel]
  simp only [↓reduceIte]
  unfold setAddByScan
  refine wpAny_bind ?_
  refine wpAny_bind (wpAny_rule ?_)
  refine wpAny_bind (wpAny_setScan_of hkey' hS.obj rfl hS.fits hel ?_)
  cases hr:List.findIdx? (fun e=>(mixKind prog w).is k e.2) es.toList with
  | some j =>
    dsimp only
    obtain ⟨hj,hpj,_⟩:=List.findIdx?_eq_some_iff_getElem.mp hr
    have hin:k ∈ ks:=hS.mem.mp ⟨es.toList[j],List.getElem_mem hj,hpj⟩
    refine wpAny_pure (wpAny_pure ?_)
    have e:s = { s with heap:=s.heap }:=by cases s; rfl
    have:=h false s.heap es ep t (Heap.SameBut.refl a s.heap) (by unfold addK; rw [if_pos hin]; exact hS)
    rw [e]
    exact this
  | none =>
    dsimp only
    have hout:k ∉ ks:=fun hin=>by
      obtain ⟨e,he,hp⟩:=hS.mem.mpr hin
      have:=List.findIdx?_eq_none_iff.mp hr e he
      rw [hp] at this
      exact Bool.noConfusion this
    have hgw:∀ (b:Bool) {s₁:Shared} {Q':Unit→Shared→Prop},Q' () s₁→wpAny (model prog w) A (match b with | true=>rule "set.scan.the-table-gave-way" | false=>pure ()) Q' E s₁ :=
      fun b s₁ Q' hq=>by cases b <;> first | exact wpAny_pure hq | exact wpAny_rule hq
    have hperm:=layNew_perm t es ((mixKind prog w).hash k) x
    have hfits:=layNew_fits t es ((mixKind prog w).hash k) x
    have htab:=layNew_ok hS.tab es ((mixKind prog w).hash k) x
    generalize hL:layNew t es ((mixKind prog w).hash k) x = L at hperm hfits htab ⊢
    obtain ⟨es1,t1,wasDummy,gave⟩:=L
    dsimp only at hperm hfits htab ⊢
    rw [Array.toList_push] at hperm
    have hel1:ElemsOf (mixKind prog w) es1.toList:=(hel.push hkey' hsc).perm hperm
    have hb1':es1.size < scanBound:=by
      rw [← Array.length_toList,hperm.length_eq,List.length_append,Array.length_toList,hsize]
      simpa using hroom
    have ead:addK ks k = ks ++ [k]:=by unfold addK; rw [if_neg hout]
    have hnod:(addK ks k).Nodup:=by
      rw [ead,List.nodup_append]
      exact ⟨hS.nod,by simp,fun x hx y hy e=>by simp at hy; subst hy; subst e; exact hout hx⟩
    have hkeys:(es1.toList.map fun e=>kOf e.2).Perm (addK ks k):=by
      rw [ead]
      refine (hperm.map _).trans ?_
      rw [List.map_append]
      refine hS.keys.append ?_
      show [kOf x].Perm [k]
      rw [kOf_is hkey]
    refine wpAny_bind (hgw _ ?_)
    split
    · refine wpAny_bind ?_
      rw [hashByValue_scannable 8 hsc]
      refine wpAny_pure ?_
      refine add_tail (ks:=addK ks k) ?_ hS.obj hel1 hb1' ?_ ?_ hnod hkeys ?_
      · intro b s₁ Q' hq; cases b <;> first | exact wpAny_pure hq | exact wpAny_rule hq
      · split
        · exact hfits
        · exact SetTable.fits_plain_off hfits
      · split
        · exact htab
        · exact ⟨htab.ris,htab.dum,htab.led⟩
      · intro h' es' ep' t' hsb hS'; dsimp only; exact wpAny_pure (h true h' es' ep' t' hsb hS')
    · refine wpAny_bind (wpAny_pure ?_)
      simp only [↓reduceIte]
      refine add_tail (ks:=addK ks k) ?_ hS.obj hel1 hb1' hfits htab hnod hkeys ?_
      · intro b s₁ Q' hq; cases b <;> first | exact wpAny_pure hq | exact wpAny_rule hq
      · intro h' es' ep' t' hsb hS'; dsimp only; exact wpAny_pure (h true h' es' ep' t' hsb hS')
noncomputable def metK (key:Nat→Key):Nat→List Key
  | 0=>[]
  | i + 1=>addK (metK key i) (key i)
theorem addK_len (ks:List Key) (k:Key):(addK ks k).length ≤ ks.length + 1:=by
  unfold addK
  split
  · omega
  · simp
theorem metK_len (key:Nat→Key):∀ i,(metK key i).length ≤ i
  | 0=>Nat.le_refl _
  | i + 1=>Nat.le_trans (addK_len _ _) (Nat.succ_le_succ (metK_len key i))
theorem mem_addK {ks:List Key} {k x:Key}:x ∈ addK ks k ↔ x ∈ ks∨x = k:=by
  unfold addK
  split
  · rename_i h
    exact ⟨.inl,fun q=>q.elim id fun e=>e ▸ h⟩
  · simp
theorem mem_metK {key:Nat→Key} {x:Key}:∀ {i:Nat},x ∈ metK key i ↔ ∃ j,j < i∧key j = x
  | 0=>by simp [metK]
  | i + 1=>by
    show x ∈ addK (metK key i) (key i) ↔ _
    rw [mem_addK,mem_metK]
    constructor
    · rintro (⟨j,hj,e⟩ | e)
      · exact ⟨j,Nat.lt_succ_of_lt hj,e⟩
      · exact ⟨i,Nat.lt_succ_self _,e.symm⟩
    · rintro ⟨j,hj,e⟩
      rcases Nat.lt_succ_iff_lt_or_eq.mp hj with q | q
      · exact .inl ⟨j,q,e⟩
      · exact .inr (by rw [← e,q])
end
section
variable {prog:Program} {w:World} {A:Around} {R:Result→Shared→Prop} {I:Addr} {fp wr:List Addr} {G:Array GenState→Array GenState→Prop} {n:Nat} {P:Nat→Value→Prop} {St:Nat→Shared→Prop}
theorem set_loop (W:WalksS prog w A.in1 I fp wr G n P St) (S:Addr) (hSf:S ∉ fp) (key:Nat→Key) (hval:∀ i v,P i v→keyIs (key i) v = true∧v.scannable = true) (hb:n + 1 < scanBound) :
    ∀ (k i:Nat) (s:Shared) (es:Array (Int×Value)) (ep:Nat) (t:SetTable),n - i = k→i ≤ n→St i s→SetR prog w s.heap S (metK key i) es ep t →
      (∀ s' es' ep' t',Moved (S :: wr) G s s'→SetR prog w s'.heap S (metK key n) es' ep' t'→R (.ok (.ret .none)) s') →
      codeAny (model prog w) A (.builtin "set.update.loop" ⟨[.ref S,.ref I],[]⟩) R s:=by
  have hSw:S ∉ wr:=fun h=>hSf (W.sub _ h)
  have hsub:∀ b ∈ wr,b ∈ S :: wr:=fun b hb=>List.mem_cons_of_mem _ hb
  intro k
  induction k with
  | zero =>
    intro i s es ep t hk hi hst hS hR
    have hin:i = n:=by omega
    subst hin
    refine codeAny_builtin F.entry_set_update_loop ?_
    rw [Around.under_plainId F.plain_set_update_loop _]
    show wpAny _ A.in1 (pyNext (.ref I) >>= _) _ _ s
    refine wpAny_bind (W.done s _ _ hst fun s' hm=>?_)
    show wpAny _ A.in1 (ret Value.none) _ _ s'
    exact wpAny_pure (hR s' es ep t (hm.mono hsub) (hS.keep fun o e=>hm.heap S o hSw e))
  | succ k ih =>
    intro i s es ep t hk hi hst hS hR
    have hlt:i < n:=by omega
    refine codeAny_builtin F.entry_set_update_loop ?_
    rw [Around.under_plainId F.plain_set_update_loop _]
    show wpAny _ A.in1 (pyNext (.ref I) >>= _) _ _ s
    refine wpAny_bind (W.item i s _ _ hlt hst fun v s' hP hst' hm=>?_)
    obtain ⟨hv1,hv2⟩:=hval i v hP
    have hS':=hS.keep (h':=s'.heap) fun o e=>hm.heap S o hSw e
    show wpAny _ A.in1 (holding [v] (setAdd S v) >>= _) _ _ s'
    refine wpAny_bind (wpAny_holding ?_)
    unfold setAdd
    refine wpAny_holding ?_
    refine wpAny_bind ((mixKind prog w).pyHash (k:=key i) hv1 ?_)
    have hroom:(metK key i).length + 1 < scanBound:=by have:=metK_len key i; omega
    refine add_hashed (s:={ s' with toks:=s'.toks + 1 }) hv1 hv2 hS' hroom fun b h' es' ep' t' hsb hS2=>?_
    refine wpAny_pure ⟨plainId_quiet F.plain_set_update_loop _,ih (i + 1) _ es' ep' t' (by omega) hlt (W.frame _ s' _ _ hst' (Nat.le_succ _) fun b hb o e=>?_) hS2 fun s'' es2 ep2 t2 hm'' hS''=>?_⟩
    · rw [hsb.2 b (fun h:b = S=>hSf (by rw [← h]; exact hb))]; exact e
    · refine hR s'' es2 ep2 t2 (Moved.trans W.gtrans ((hm.mono hsub).then_heap (Nat.le_succ _) fun b o hb e=>?_) hm'') hS''
      rw [hsb.2 b (fun h:b = S=>hb (by rw [h]; exact List.mem_cons_self))]; exact e
end
section
variable {prog:Program} {w:World} {A:Around} {E:Value→Shared→Prop} {s:Shared}
theorem set_new_led (a:Value) {Q₁:Value→Shared→Prop}
    (h:Q₁ (.ref s.heap.objs.size) { s with heap:=s.heap.push { cls:=.type "set", dict:=none,data:=.set #[] 0 (.fresh 0 0 (!byTextW w)) } }) :
    codeAny (model prog w) A (.call (.builtin "set.__new__") ⟨[.type "set", a],[]⟩) (wants Q₁ E) s:=by
  refine codeAny_of_tree ?_
  show wpAny _ A.in1 (do checkBuiltinCall "set.__new__" ⟨[.type "set", a],[]⟩; again (.builtin "set.__new__" ⟨[.type "set", a],[]⟩)) _ _ s
  refine wpAny_bind (wpAny_of_eq (F.newCall_set_1 a) (wpAny_pure ⟨plainId_quiet F.plain_set_new _,codeAny_builtin F.entry_set_new ?_⟩))
  rw [Around.under_plainId F.plain_set_new _]
  unfold Builtin.«set.__new__» Builtin.Frozenset.newClass
  have hsub:=sub_set_self
  obtain ⟨hp,g,d,tk,os⟩:=s
  dsimp only
  wp_walk
  refine wpAny_askSetting (wpAny_pure ?_)
  dsimp only
  simp only [newObj]
  refine wpAny_bind (wpAny_alloc (wpAny_pure ?_))
  exact wpAny_pure h
end
theorem sub_tuple_set:isSubtype (.type "tuple") (.type "set") = pure false:=by rw [isSubtype_type]; kernel_rfl
theorem sub_tuple_frozenset:isSubtype (.type "tuple") (.type "frozenset") = pure false:=by rw [isSubtype_type]; kernel_rfl
structure SetSrc (prog:Program) (w:World) (T:String) (l:Addr) (items:Array Value):Prop where
  sub1:isSubtype (.type T) (.type "set") = pure false
  sub2:isSubtype (.type T) (.type "frozenset") = pure false
  nd:(Value.type T == Value.type "dict") = false
  it:∀ (A:Around) (s:Shared) (o:Obj),A.handled = none→s.heap.get? l = some o→o.cls = .type T→(∃ n,o.data = .seq items n)→∃ (oI:Obj) (St:Nat→Heap→Prop),
    (∀ (E:Value→Shared→Prop) (Q:Value→Shared→Prop),Q (.ref s.heap.objs.size) { s with heap:=s.heap.push oI }→wpAny (model prog w) A (pyIter (.ref l)) Q E s) ∧
    Walks prog w A s.heap.objs.size [s.heap.objs.size,l] [s.heap.objs.size] items.size (fun i v=>items[i]? = some v) St∧St 0 (s.heap.push oI)
theorem src_list {prog:Program} {w:World} {l:Addr} {items:Array Value}:SetSrc prog w "list" l items where
  sub1:=F.sub_list_set
  sub2:=F.sub_list_frozenset
  nd:=by decide
  it:=fun A s o hh ho hc hd=>by
    have hl:s.heap.IsList l items:=⟨o,ho,hc,hd⟩
    refine ⟨_,_,fun E Q q=>wpAny_pyIter_list hl q,Walks.list hh _ l (Nat.ne_of_lt (Heap.lt_size ho)) items,⟨_,Heap.get?_push_size _ rfl,rfl,rfl⟩,hl.push _⟩
theorem src_tup {prog:Program} {w:World} {l:Addr} {items:Array Value}:SetSrc prog w "tuple" l items where
  sub1:=sub_tuple_set
  sub2:=sub_tuple_frozenset
  nd:=by decide
  it:=fun A s o hh ho hc hd=>by
    have hl:s.heap.IsTuple l items:=⟨o,ho,hc,hd⟩
    refine ⟨_,_,fun E Q q=>wpAny_pyIter_tuple hl q,Walks.tuple hh _ l (Nat.ne_of_lt (Heap.lt_size ho)) items,⟨_,Heap.get?_push_size _ rfl,rfl,rfl⟩,hl.push _⟩
section
variable {prog:Program} {w:World} {A:Around} {E:Value→Shared→Prop} {s:Shared}
theorem call_set_of {T:String} {l:Addr} {items:Array Value} {o:Obj} {key:Nat→Key} {Q:Value→Shared→Prop} (src:SetSrc prog w T l items)
    (hh:A.handled = none) (ho:s.heap.get? l = some o) (hc:o.cls = .type T) (hdt:∃ n,o.data = .seq items n) (hi:∀ i v,items[i]? = some v→keyIs (key i) v = true∧v.scannable = true) (hb:items.size + 1 < scanBound)
    (h:∀ (h':Heap) (tk:Nat) es ep t,SetR prog w h' s.heap.objs.size (metK key items.size) es ep t→(∀ b o,s.heap.get? b = some o→h'.get? b = some o)→Q (.ref s.heap.objs.size) { s with heap:=h',toks:=tk }) :
    wpAny (model prog w) A (call (.type "set") [.ref l]) Q E s:=by
  obtain ⟨c,tl,hmro⟩:=F.called_set.mro
  have hmade:=F.called_set.made
  have hsub:=F.called_set.sub
  refine wpAny_call (codeAny_of_tree ?_)
  show wpAny _ _ (callAny (.type "set") _) _ _ _
  refine wpAny_pure ⟨Code.quiet_builtin _ (by decide +kernel),codeAny_builtin F.entry_type_call ?_⟩
  rw [Around.under_plain (weight_type_call_type "set" [.ref l] []) rfl]
  have h1:=F.called_set.notType
  have h2:=F.called_set.canCreate
  have hct:=F.typeCall_set_1 (.ref l)
  repeat (any_goals (first | assumption | wp_step))
  refine codeAny_mono (set_new_led (.ref l) (E:=E) (Q₁:=fun obj s₁=>obj = .ref s.heap.objs.size∧s₁ = { s with heap:=s.heap.push { cls:=.type "set", dict:=none,data:=.set #[] 0 (.fresh 0 0 (!byTextW w)) } }) ⟨rfl,rfl⟩) fun r s₁ hr=>?_
  cases r with
  | error e=>exact hr
  | ok fl =>
    cases fl with
    | ret obj =>
      obtain ⟨rfl,rfl⟩:=hr
      have hS:(s.heap.push { cls:=.type "set", dict:=none,data:=.set #[] 0 (.fresh 0 0 (!byTextW w)) }).get? s.heap.objs.size = some { cls:=.type "set", dict:=none,data:=.set #[] 0 (.fresh 0 0 (!byTextW w)) }:=Heap.get?_push_size _ rfl
      have hT:Shared.TypeIs { s with heap:=s.heap.push { cls:=.type "set", dict:=none,data:=.set #[] 0 (.fresh 0 0 (!byTextW w)) } } (.ref s.heap.objs.size) "set":=⟨_,hS,rfl⟩
      have hli:=F.called_set.init.lookup
      have hbi:=F.called_set.init.bind (.ref s.heap.objs.size)
      repeat (any_goals (first | assumption | wp_step))
      refine codeAny_mono (codeAny_call_builtin (R:=wants (fun r s₂=>r = .none∧∃ h' tk es ep t,s₂ = { s with heap:=h',toks:=tk } ∧
          SetR prog w h' s.heap.objs.size (metK key items.size) es ep t∧(∀ b o,s.heap.get? b = some o→h'.get? b = some o)) E) F.called_set.init.plain F.entry_set_init (check_set_init_1 hT ?_)) fun r₂ s₂ hr₂=>?_
      · have ho':(s.heap.push { cls:=.type "set", dict:=none,data:=.set #[] 0 (.fresh 0 0 (!byTextW w)) }).get? l = some o:=Heap.get?_push_of_some _ ho
        have hTl:Shared.TypeIs { s with heap:=s.heap.push { cls:=.type "set", dict:=none,data:=.set #[] 0 (.fresh 0 0 (!byTextW w)) } } (.ref l) T:=⟨_,ho',hc⟩
        have hsls:=src.sub1
        have hslf:=src.sub2
        have hne:=src.nd
        obtain ⟨oI,St,hit,W,st⟩:=src.it A.in1.in1.in1 { s with heap:=s.heap.push { cls:=.type "set", dict:=none,data:=.set #[] 0 (.fresh 0 0 (!byTextW w)) } } o (by simpa using hh) ho' hc hdt
        unfold Builtin.«set.__init__» noKeywords Builtin.Frozenset.updateFrom
        generalize hPI:pyIter = PI
        wp_walk
        subst hPI
        refine wpAny_of_in1 (hit _ _ ?_)
        refine wpAny_bind (wpAny_runValue ?_)
        have hlS:l < s.heap.objs.size:=Heap.lt_size ho
        have hsz:(s.heap.push { cls:=.type "set", dict:=none,data:=.set #[] 0 (.fresh 0 0 (!byTextW w)) }).objs.size = s.heap.objs.size + 1:=Heap.size_push _ _
        have hSf:s.heap.objs.size ∉ [(s.heap.push { cls:=.type "set", dict:=none,data:=.set #[] 0 (.fresh 0 0 (!byTextW w)) }).objs.size,l]:=by
          rw [hsz]; simp only [List.mem_cons,List.not_mem_nil,or_false,not_or]
          exact ⟨Nat.ne_of_lt (Nat.lt_succ_self _),Nat.ne_of_gt hlS⟩
        refine set_loop W.toS s.heap.objs.size hSf key (fun i v hv=>hi i v hv) hb (items.size - 0) 0 _ #[] 0 (SetTable.fresh 0 0 (!byTextW w)) (by omega) (Nat.zero_le _) st ?hS0 ?hR
        case hS0 =>
          have hget:=Heap.get?_push_of_some oI hS
          exact ⟨hget,fun e he=>absurd he (by simp),by unfold scanBound; decide,by simp [SetTable.fits,SetTable.fresh,SetTable.fill],⟨List.Pairwise.nil,rfl,rfl⟩,List.nodup_nil,by simp [metK]⟩
        case hR =>
          intro s' es' ep' t' hm hS'
          obtain ⟨h',g',d',tk',os'⟩:=s'
          have eg:g' = s.gens:=hm.gens
          have ed:d' = s.drawn:=hm.drawn
          have eo:os' = s.os:=hm.os
          subst eg; subst ed; subst eo
          show wpAny _ _ _ _ _ _
          refine wpAny_pure ?_
          show wpAny _ _ (ret Value.none) _ _ _
          refine wpAny_pure ⟨rfl,h',tk',es',ep',t',rfl,hS',fun b o e=>?_⟩
          have hb1:b ≠ s.heap.objs.size:=Nat.ne_of_lt (Heap.lt_size e)
          have hb2:b ≠ (s.heap.push { cls:=.type "set", dict:=none,data:=.set #[] 0 (.fresh 0 0 (!byTextW w)) }).objs.size:=by
            rw [hsz]; exact Nat.ne_of_lt (Nat.lt_succ_of_lt (Heap.lt_size e))
          exact hm.heap b o (by simp only [List.mem_cons,List.not_mem_nil,or_false,not_or]; exact ⟨hb1,hb2⟩) (Heap.get?_push_of_some _ (Heap.get?_push_of_some _ e))
      · cases r₂ with
        | error e=>exact hr₂
        | ok fl₂ =>
          cases fl₂ with
          | ret r =>
            obtain ⟨rfl,h',tk,es,ep,t,rfl,hS',hk'⟩:=hr₂
            repeat (any_goals (first | assumption | wp_step))
            exact h _ _ es ep t hS' hk'
          | _=>exact hr₂.elim
    | _=>exact hr.elim
end
theorem entry_set_iter':entryFor table "set.__iter__" = some Builtin.«frozenset.__iter__» :=
  entryFor_alias (id':="frozenset.__iter__") (by kernel_rfl) rfl (by decide +kernel) (by kernel_rfl)
theorem slot_si_next:Slot "set_iterator" "__next__" "set_iterator.__next__" :=
  .of (owner:="set_iterator") (n:="__next__") (by rw [typeLookup_type,builtinLookup_eq_fast]; kernel_rfl) (by decide +kernel) (by decide +kernel) (by decide +kernel)
    (by first | exact .inl (by decide +kernel) | exact .inr (by decide +kernel)) (by rw [isSubtype_type]; kernel_rfl)
theorem entry_si_next:entryFor table "set_iterator.__next__" = some Builtin.«set_iterator.__next__»:=entryFor_of_fast (by kernel_rfl)
theorem args_si_next (a:Value):argsOk "set_iterator.__next__" ⟨[a],[]⟩:=by unfold argsOk; kernel_rfl
section
variable {prog:Program} {w:World} {A:Around} {E:Value→Shared→Prop} {s:Shared}
theorem choose_ok {src:Source} {n:Nat} {Q:Nat→Shared→Prop} (hn:n ≠ 0) (h:∀ k d,k < n→Q k { s with drawn:=d }):wpAny (model prog w) A (choose src n) Q E s:=fun _ _ _ =>
  ⟨hn,h _ _ (Nat.mod_lt _ (Nat.pos_of_ne_zero hn))⟩
theorem eraseIdx_perm {α:Type}:∀ {xs:List α} {i:Nat} {x:α},xs[i]? = some x→(x :: xs.eraseIdx i).Perm xs
  | [],i,x,h=>by simp at h
  | y :: ys,0,x,h=>by
    have e:y = x:=by simpa using h
    subst e
    exact List.Perm.refl _
  | y :: ys,i + 1,x,h=>by
    have h':ys[i]? = some x:=by simpa using h
    exact (List.Perm.swap _ _ _).trans ((eraseIdx_perm h').cons y)
theorem drawOrder_ok {α:Type}:∀ (n:Nat) (xs:List α) (s:Shared) {Q:List α→Shared→Prop},xs.length = n→(∀ ys d,ys.Perm xs→Q ys { s with drawn:=d })→wpAny (model prog w) A (drawOrder n xs) Q E s
  | 0,xs,s,Q,e,h=>by
    have:xs = []:=List.length_eq_zero_iff.mp e
    subst this
    unfold drawOrder
    exact wpAny_pure (h [] s.drawn (List.Perm.refl _))
  | n + 1,[],s,Q,e,h=>by cases e
  | n + 1,x :: xs,s,Q,e,h=>by
    unfold drawOrder
    refine wpAny_bind (choose_ok (by simp) fun k d hk=>?_)
    have hk':(x :: xs)[k]? = some (x :: xs)[k]:=List.getElem?_eq_getElem hk
    rw [hk']
    dsimp only
    refine wpAny_bind (drawOrder_ok n _ _ (by rw [List.length_eraseIdx_of_lt hk,e]; rfl) fun ys d' hp=>?_)
    exact wpAny_pure (h _ d' ((hp.cons _).trans (eraseIdx_perm hk')))
abbrev siObj (first:Value) (i:Nat) (S:Addr) (n ep:Nat):Obj:={ cls:=.type "set_iterator", data:=.fields #[first,.int i 0,.ref S,.int n 0,.int ep 0] }
def drawnB (es:Array (Int×Value)) (t:SetTable):Bool:=!t.plain && decide (es.size > 1)
theorem set_iter {S:Addr} {ks:List Key} {es:Array (Int×Value)} {ep:Nat} {t:SetTable} {Q:Value→Shared→Prop} (hS:SetR prog w s.heap S ks es ep t)
    (h1:(!byTextW w && drawnB es t) = false→Q (.ref s.heap.objs.size) { s with heap:=s.heap.push (siObj (.int 0 0) 0 S es.size ep) })
    (h2:(!byTextW w && drawnB es t) = true→∀ (d:Drawn) (ps:List Nat),ps.Perm (List.range es.size)→Q (.ref (s.heap.objs.size + 1)) { s with heap:=(s.heap.push { cls:=.type "tuple", data:=.seq (ps.map fun (i:Nat)=>Value.int i 0).toArray }).push (siObj (.ref s.heap.objs.size) 0 S es.size ep),drawn:=d }) :
    wpAny (model prog w) A (pyIter (.ref S)) Q E s:=by
  have hT:s.TypeIs (.ref S) "set":=⟨_,hS.obj,rfl⟩
  have hz:es.size ≤ sizeLine:=fits_of_scanBound hS.few
  refine wpAny_pyIter_slot hT F.slot_set_iter (wpAny_call_entry F.slot_set_iter hT entry_set_iter' ?_ (F.args_set_iter_1 _))
  unfold Builtin.«frozenset.__iter__» Builtin.Frozenset.slot0 slotArgs
  simp only [List.isEmpty_nil,Bool.not_true,Bool.false_eq_true,↓reduceIte,bind_assoc,List.length_nil,bne_self_eq_false]
  unfold Builtin.Frozenset.addrOf Builtin.Frozenset.sizeOf
  refine wpAny_bind (wpAny_pure ?_)
  try dsimp only
  refine wpAny_bind (wpAny_pure ?_)
  refine wpAny_bind (wpAny_bind (wpAny_setEntries_of hS.obj rfl hS.fits (wpAny_pure ?_)))
  unfold setDrawn setsByText
  refine wpAny_bind (wpAny_bind (wpAny_setState_of hS.obj rfl hS.fits (wpAny_bind (wpAny_bind (wpAny_askSetting (wpAny_pure (wpAny_pure ?_)))))))
  show wpAny _ _ (if (!byTextW w && drawnB es t) = true then _ else _) _ _ _
  cases hb:(!byTextW w && drawnB es t)
  · rw [if_neg (by simp)]
    refine wpAny_bind (wpAny_pure ?_)
    refine wpAny_bind (wpAny_setEpoch_of hS.obj rfl hS.fits ?_)
    refine wpAny_bind (wpAny_newObj_type (wpAny_pure ⟨_,rfl, "set_iterator", _,⟨_,Heap.get?_push_size _ rfl,rfl⟩,slot_si_next.lookup,?_⟩))
    exact h1 hb
  · rw [if_pos rfl]
    refine wpAny_bind (drawOrder_ok es.size (List.range es.size) s (by simp) fun ps d hp=>?_)
    have hl:ps.length = es.size:=by rw [hp.length_eq]; simp
    refine wpAny_bind (wpAny_newTuple ?_ (by rw [List.length_map,hl]; exact hz))
    have hS2:=hS.keep (h':=s.heap.push { cls:=.type "tuple", data:=.seq (ps.map fun (i:Nat)=>rawInt i).toArray }) fun o e=>Heap.get?_push_of_some _ e
    refine wpAny_bind (wpAny_setEpoch_of hS2.obj rfl hS2.fits ?_)
    refine wpAny_bind (wpAny_newObj_type (wpAny_pure ⟨_,rfl, "set_iterator", _,⟨_,Heap.get?_push_size _ rfl,rfl⟩,slot_si_next.lookup,?_⟩))
    have:=h2 hb d ps hp
    rw [size_push']
    exact this
theorem si_start {I S:Addr} {first:Value} {i n ep:Nat} {Q:Option Value→Shared→Prop} (hI:s.heap.get? I = some (siObj first i S n ep))
    (h:wpAny (model prog w) A.in1 (Builtin.«set_iterator.__next__» ⟨[.ref I],[]⟩) (fun fin s'=>∃ r,fin = .done (.ret r)∧Q (some r) s') (fun e s'=>wpAny (model prog w) A (do if ← isInstance e (.type "StopIteration") then pure none else throw e) Q E s') s) :
    wpAny (model prog w) A (pyNext (.ref I)) Q E s:=by
  have hT:s.TypeIs (.ref I) "set_iterator":=⟨_,hI,rfl⟩
  unfold pyNext
  refine wpAny_bind (wpAny_attempt (wpAny_callSpecial?_slot (name:=Str.ofString "__next__") hT slot_si_next (wpAny_call_entry slot_si_next hT entry_si_next ?_ (args_si_next _))))
  refine wpAny_mono h (fun fin s' q=>?_) fun e s' q=>?_
  · obtain ⟨r,rfl,q⟩:=q
    exact ⟨_,rfl,wpAny_pure q⟩
  · exact q
theorem si_field {I S:Addr} {first:Value} {i n ep:Nat} (hI:s.heap.get? I = some (siObj first i S n ep)) {first':Value} {i':Nat} {fs:Array Value} (k:Nat) (v:Value) (hk:k < 5) (e:(#[first,.int i 0,.ref S,.int n 0,.int ep 0]:Array Value).setIfInBounds k v = fs) :
    (s.heap.update I (Obj.mapFields (·.setIfInBounds k v))).get? I = some { cls:=.type "set_iterator", data:=.fields fs }:=by
  have:=Heap.get?_update_self (Obj.mapFields (·.setIfInBounds k v)) hI (Obj.isFreed_of_fields (Obj.data_mapFields (o:=siObj first i S n ep) rfl _))
  rw [this,← e]
  rfl
end
section
variable {prog:Program} {w:World} {A:Around} {E:Value→Shared→Prop} {s:Shared}
theorem si_raise {Q:Option Value→Shared→Prop} {h0:Heap} {I:Addr} (hh:A.handled = none) (hQ:∀ h',Heap.ExtBut I h0 h'→Q none { s with heap:=h' }) (hs:Heap.ExtBut I h0 s.heap) :
    wpAny (model prog w) A.in1 (newExc (.type "StopIteration") [] >>= fun e=>(raiseNew e:Sem Fin)) (fun fin s'=>∃ r,fin = .done (.ret r)∧Q (some r) s') (fun e s'=>wpAny (model prog w) A (do if ← isInstance e (.type "StopIteration") then pure none else throw e) Q E s') s:=by
  refine wpAny_bind ?_
  simp only [newExc,newTuple]
  refine wpAny_bind (wpAny_newObj_type ?_ (by size_fits))
  refine wpAny_bind (m:=firstArgMember _ _) (wpAny_of_eq (a:=Value.none) (by first | rfl | (simp only [firstArgMember]; rfl)) ?_)
  refine wpAny_newObj_type ?_ (by size_fits)
  simp only [raiseNew]
  refine wpAny_bind (wpAny_handled ?_)
  rw [show A.in1.handled = none from hh]
  refine wpAny_bind (wpAny_pure (wpAny_throw ?_))
  refine wpAny_bind (wpAny_isInstance (T:="StopIteration") (b:=true) ⟨_,Heap.get?_push_size _ rfl,rfl⟩ isSubtype_stop ?_)
  exact wpAny_pure (hQ _ ((hs.push _).push _))
theorem si_open {I S:Addr} {ks:List Key} {es:Array (Int×Value)} {i ep:Nat} {t:SetTable} {first:Value} {R:Fin→Shared→Prop} {F:Value→Shared→Prop} (hI:s.heap.get? I = some (siObj first i S es.size ep)) (hS:SetR prog w s.heap S ks es ep t)
    (h:wpAny (model prog w) A (if let .int slot _:=first then do
        match ← setNext S slot.toNat i ep with
        | some (x,next) =>
          setField (.ref I) 0 (rawInt next)
          setField (.ref I) 1 (rawInt (i + 1))
          ret x
        | none=>setField (.ref I) 2 .none; raiseNew (← newExc (.type "StopIteration") [])
      else do
        let some places ← seqItems? first | unsupported "internal:set_iterator"
        match places[i]? with
        | some (.int place _) =>
          let x ← setNextDrawn S place.toNat ep
          setField (.ref I) 1 (rawInt (i + 1))
          ret x
        | some _=>unsupported "internal:set_iterator"
        | none=>setField (.ref I) 0 (rawInt 0); setField (.ref I) 2 .none; raiseNew (← newExc (.type "StopIteration") [])) R F s) :
    wpAny (model prog w) A (Builtin.«set_iterator.__next__» ⟨[.ref I],[]⟩) R F s:=by
  unfold Builtin.«set_iterator.__next__» slotArgs
  simp only [List.isEmpty_nil,Bool.not_true,Bool.false_eq_true,↓reduceIte,bind_assoc,List.length_nil,bne_self_eq_false]
  refine wpAny_bind (wpAny_pure ?_)
  try dsimp only
  refine wpAny_bind (wpAny_fieldsOf hI rfl ?_)
  dsimp only
  refine wpAny_bind (wpAny_setEntries_of hS.obj rfl hS.fits ?_)
  rw [if_neg (by simp)]
  exact h
theorem si_item {I S:Addr} {ks:List Key} {es:Array (Int×Value)} {i ep slot next:Nat} {t:SetTable} {v:Value} {Q:Option Value→Shared→Prop} (hI:s.heap.get? I = some (siObj (.int slot 0) i S es.size ep)) (hS:SetR prog w s.heap S ks es ep t)
    (hn:∀ (Q:Option (Value×Nat)→Shared→Prop) (E:Value→Shared→Prop),Q (some (v,next)) s→wpAny (model prog w) A.in1 (setNext S slot i ep) Q E s)
    (hQ:∀ h',h'.get? I = some (siObj (.int next 0) (i + 1) S es.size ep)→(∀ b,b ≠ I→h'.get? b = s.heap.get? b)→Q (some v) { s with heap:=h' }):wpAny (model prog w) A (pyNext (.ref I)) Q E s:=by
  refine si_start hI (si_open hI hS ?_)
  dsimp only
  refine wpAny_bind (hn _ _ ?_)
  dsimp only
  refine wpAny_bind (wpAny_setField hI rfl (by simp) ?_)
  have h1:=si_field (s:=s) hI (first':=.none) (i':=0) (fs:=#[.int next 0,.int i 0,.ref S,.int es.size 0,.int ep 0]) 0 (rawInt next) (by decide) (by simp [rawInt])
  refine wpAny_bind (wpAny_setField h1 rfl (by simp) ?_)
  have h2:=si_field (s:={ s with heap:=s.heap.update I (Obj.mapFields (·.setIfInBounds 0 (rawInt next))) }) (first:=.int next 0) (i:=i) (S:=S) (n:=es.size) (ep:=ep) h1 (first':=.none) (i':=0) (fs:=#[.int next 0,.int ((i + 1:Nat):Int) 0,.ref S,.int es.size 0,.int ep 0]) 1 (rawInt ((i:Int) + 1)) (by decide) (by simp [rawInt])
  refine wpAny_pure ⟨_,rfl,hQ _ h2 fun b hb=>?_⟩
  exact ((Heap.SameBut.update _ I _).2 b hb).trans ((Heap.SameBut.update _ I _).2 b hb)
theorem si_end {I S:Addr} {ks:List Key} {es:Array (Int×Value)} {i ep slot:Nat} {t:SetTable} {Q:Option Value→Shared→Prop} (hh:A.handled = none) (hI:s.heap.get? I = some (siObj (.int slot 0) i S es.size ep)) (hS:SetR prog w s.heap S ks es ep t)
    (hn:∀ (Q:Option (Value×Nat)→Shared→Prop) (E:Value→Shared→Prop),Q none s→wpAny (model prog w) A.in1 (setNext S slot i ep) Q E s)
    (hQ:∀ h',Heap.ExtBut I s.heap h'→Q none { s with heap:=h' }):wpAny (model prog w) A (pyNext (.ref I)) Q E s:=by
  refine si_start hI (si_open hI hS ?_)
  dsimp only
  refine wpAny_bind (hn _ _ ?_)
  dsimp only
  refine wpAny_bind (wpAny_setField hI rfl (by simp) ?_)
  exact si_raise (s:={ s with heap:=s.heap.update I (Obj.mapFields (·.setIfInBounds 2 .none)) }) (I:=I) (h0:=s.heap) hh hQ (Heap.SameBut.update ..).extBut
theorem sd_item {I S T:Addr} {ks:List Key} {es:Array (Int×Value)} {i ep p:Nat} {t:SetTable} {ps:Array Value} {hv:Int} {v:Value} {Q:Option Value→Shared→Prop} (hI:s.heap.get? I = some (siObj (.ref T) i S es.size ep)) (hS:SetR prog w s.heap S ks es ep t)
    (hT:s.heap.get? T = some { cls:=.type "tuple", data:=.seq ps }) (hp:ps[i]? = some (.int p 0)) (he:es[p]? = some (hv,v))
    (hQ:∀ h',h'.get? I = some (siObj (.ref T) (i + 1) S es.size ep)→(∀ b,b ≠ I→h'.get? b = s.heap.get? b)→Q (some v) { s with heap:=h' }):wpAny (model prog w) A (pyNext (.ref I)) Q E s:=by
  refine si_start hI (si_open hI hS ?_)
  dsimp only
  unfold seqItems?
  refine wpAny_bind (wpAny_bind (wpAny_load hT (wpAny_pure ?_)))
  dsimp only
  rw [hp]
  dsimp only
  unfold setNextDrawn
  refine wpAny_bind (wpAny_bind (wpAny_setState_of hS.obj rfl hS.fits ?_))
  dsimp only
  rw [if_neg (by simp)]
  rw [show es[(p:Int).toNat]? = some (hv,v) from he]
  refine wpAny_pure ?_
  refine wpAny_bind (wpAny_setField hI rfl (by simp) ?_)
  have h2:=si_field (s:=s) hI (first':=.none) (i':=0) (fs:=#[.ref T,.int ((i + 1:Nat):Int) 0,.ref S,.int es.size 0,.int ep 0]) 1 (rawInt ((i:Int) + 1)) (by decide) (by simp [rawInt])
  exact wpAny_pure ⟨_,rfl,hQ _ h2 fun b hb=>(Heap.SameBut.update _ I _).2 b hb⟩
theorem sd_end {I S T:Addr} {ks:List Key} {es:Array (Int×Value)} {i ep:Nat} {t:SetTable} {ps:Array Value} {Q:Option Value→Shared→Prop} (hh:A.handled = none) (hI:s.heap.get? I = some (siObj (.ref T) i S es.size ep)) (hS:SetR prog w s.heap S ks es ep t)
    (hT:s.heap.get? T = some { cls:=.type "tuple", data:=.seq ps }) (hp:ps[i]? = none)
    (hQ:∀ h',Heap.ExtBut I s.heap h'→Q none { s with heap:=h' }):wpAny (model prog w) A (pyNext (.ref I)) Q E s:=by
  refine si_start hI (si_open hI hS ?_)
  dsimp only
  unfold seqItems?
  refine wpAny_bind (wpAny_bind (wpAny_load hT (wpAny_pure ?_)))
  dsimp only
  rw [hp]
  dsimp only
  refine wpAny_bind (wpAny_setField hI rfl (by simp) ?_)
  have h1:=si_field (s:=s) hI (first':=.none) (i':=0) (fs:=#[.int 0 0,.int i 0,.ref S,.int es.size 0,.int ep 0]) 0 (rawInt 0) (by decide) (by simp [rawInt])
  refine wpAny_bind (wpAny_setField h1 rfl (by simp) ?_)
  refine si_raise (s:={ s with heap:=(s.heap.update I (Obj.mapFields (·.setIfInBounds 0 (rawInt 0)))).update I (Obj.mapFields (·.setIfInBounds 2 .none)) }) (I:=I) (h0:=s.heap) hh hQ ?_
  exact ((Heap.SameBut.update s.heap I _).trans (Heap.SameBut.update _ I _)).extBut
end
theorem pick_go {α:Type} (next:Nat→Nat):∀ (fuel k:Nat) (left:List α) (out:Array α),left.length = fuel→(pickOrder.go next fuel k left out).toList.Perm (out.toList ++ left)
  | 0,k,left,out,e=>by
    have:left = []:=List.length_eq_zero_iff.mp e
    subst this
    unfold pickOrder.go
    simp
  | fuel + 1,k,left,out,e=>by
    unfold pickOrder.go
    have hlt:next k % left.length < left.length:=Nat.mod_lt _ (by omega)
    have hg:left[next k % left.length]? = some left[next k % left.length]:=List.getElem?_eq_getElem hlt
    rw [hg]
    dsimp only
    refine (pick_go next fuel (k + 1) _ _ (by rw [List.length_eraseIdx_of_lt hlt,e]; rfl)).trans ?_
    rw [Array.toList_push,List.append_assoc]
    refine List.Perm.append_left _ ?_
    exact eraseIdx_perm hg
theorem pick_perm {α:Type} (next:Nat→Nat) (xs:Array α):(pickOrder next xs).toList.Perm xs.toList:=by
  unfold pickOrder
  have:=pick_go next xs.size 0 xs.toList #[] (by simp)
  simpa using this
def slAt (place:Array Nat):Nat→Nat
  | 0=>0
  | i + 1=>(place[i]?.getD 0) + 1
theorem below_slAt {place:Array Nat} (h:Ris place):∀ {i:Nat},i ≤ place.size→SetTable.below place (slAt place i) = i
  | 0,_=>by
    obtain ⟨h1,h2,h3⟩:=below_spec h 0
    show SetTable.below place 0 = 0
    rcases Nat.eq_zero_or_pos (SetTable.below place 0) with q | q
    · exact q
    · have hz:0 < place.size:=by omega
      have:=h2 0 _ q (Array.getElem?_eq_getElem hz)
      omega
  | i + 1,hi=>by
    have hlt:i < place.size:=hi
    have eg:place[i]? = some place[i]:=Array.getElem?_eq_getElem hlt
    have es:slAt place (i + 1) = place[i] + 1:=by show (place[i]?.getD 0) + 1 = _; rw [eg]; rfl
    rw [es]
    obtain ⟨h1,h2,h3⟩:=below_spec h (place[i] + 1)
    rcases Nat.lt_trichotomy (SetTable.below place (place[i] + 1)) (i + 1) with q | q | q
    · have:=h3 i _ (by omega) eg
      omega
    · exact q
    · have hlt2:i + 1 < place.size:=by omega
      have e2:place[i + 1]? = some place[i + 1]:=Array.getElem?_eq_getElem hlt2
      have a:=h2 (i + 1) _ q e2
      have b:=h.lt (Nat.lt_succ_self i) eg e2
      omega
section
variable {prog:Program} {w:World}
def Nx (prog:Program) (w:World) (S:Addr) (ks:List Key) (es:Array (Int×Value)) (ep:Nat) (t:SetTable) (sl:Nat→Nat) (vs:List Value):Prop :=
  ∀ (i:Nat) (s:Shared) (A:Around) (E:Value→Shared→Prop) (Q:Option (Value×Nat)→Shared→Prop),SetR prog w s.heap S ks es ep t→i ≤ es.size→Q ((vs[i]?).map fun v=>(v,sl (i + 1))) s→wpAny (model prog w) A (setNext S (sl i) i ep) Q E s
theorem nx_text {S:Addr} {ks:List Key} {es:Array (Int×Value)} {ep:Nat} {t:SetTable} (hb:byTextW w = true):Nx prog w S ks es ep t (fun _=>0) ((pickOrder (w.params.setOrder S ep) es).toList.map (·.2)):=by
  intro i s A E Q hS hi q
  unfold setNext setsByText
  refine wpAny_bind (wpAny_setState_of hS.obj rfl hS.fits ?_)
  dsimp only
  refine wpAny_bind (wpAny_bind (wpAny_askSetting (wpAny_pure ?_)))
  rw [if_pos (show (model prog w).w.params.followText "set-order" = true from hb),if_neg (by simp)]
  unfold setWalk setsByText
  refine wpAny_bind (wpAny_bind (wpAny_setState_of hS.obj rfl hS.fits ?_))
  dsimp only
  refine wpAny_bind (wpAny_bind (wpAny_askSetting (wpAny_pure ?_)))
  rw [if_pos (show (model prog w).w.params.followText "set-order" = true from hb)]
  refine wpAny_bind (wpAny_askSetting (wpAny_pure (wpAny_pure ?_)))
  rw [List.getElem?_map,Option.map_map,Array.getElem?_toList] at q
  exact q
theorem nx_plain {S:Addr} {ks:List Key} {es:Array (Int×Value)} {ep:Nat} {t:SetTable} (hb:byTextW w = false) (hd:drawnB es t = false):Nx prog w S ks es ep t (slAt t.place) (es.toList.map (·.2)):=by
  intro i s A E Q hS hi q
  have hps:t.place.size = es.size:=by have:=hS.fits; simp [SetTable.fits] at this; exact this.1
  unfold setNext setsByText
  refine wpAny_bind (wpAny_setState_of hS.obj rfl hS.fits ?_)
  dsimp only
  refine wpAny_bind (wpAny_bind (wpAny_askSetting (wpAny_pure ?_)))
  rw [if_neg (show ¬ (model prog w).w.params.followText "set-order" = true by show ¬ byTextW w = true; rw [hb]; decide)]
  have hled:t.led = true:=by rw [hS.tab.led,hb]; rfl
  show wpAny _ _ (if drawnB es t = true then _ else _) _ _ _
  rw [if_neg (by rw [hd]; decide)]
  show wpAny _ _ ((if (!t.led && !es.isEmpty) = true then unsupported _ else pure ()) >>= _) _ _ _
  rw [if_neg (by rw [hled]; simp)]
  refine wpAny_bind (wpAny_pure (wpAny_pure ?_))
  rw [below_slAt hS.tab.ris (by rw [hps]; exact hi)]
  rw [List.getElem?_map,Option.map_map,Array.getElem?_toList] at q
  by_cases hlt:i < es.size
  · rw [Array.getElem?_eq_getElem hlt] at q ⊢
    have hp2:i < t.place.size:=by rw [hps]; exact hlt
    have e2:slAt t.place (i + 1) = t.place[i] + 1:=by show (t.place[i]?.getD 0) + 1 = _; rw [Array.getElem?_eq_getElem hp2]; rfl
    rw [Array.getElem?_eq_getElem hp2]
    dsimp only [Option.map_some,Function.comp] at q ⊢
    rw [e2] at q
    exact q
  · rw [Array.getElem?_eq_none (by omega)] at q ⊢
    exact q
theorem slot_si_iter:Slot "set_iterator" "__iter__" "set_iterator.__iter__" :=
  .of (owner:="set_iterator") (n:="__iter__") (by rw [typeLookup_type,builtinLookup_eq_fast]; kernel_rfl) (by decide +kernel) (by decide +kernel) (by decide +kernel)
    (by first | exact .inl (by decide +kernel) | exact .inr (by decide +kernel)) (by rw [isSubtype_type]; kernel_rfl)
theorem entry_si_iter:entryFor table "set_iterator.__iter__" = some Builtin.«dict_keyiterator.__iter__» :=
  entryFor_alias (id':="dict_keyiterator.__iter__") (by kernel_rfl) rfl (by decide +kernel) (by kernel_rfl)
theorem args_si_iter (a:Value):argsOk "set_iterator.__iter__" ⟨[a],[]⟩:=by unfold argsOk; kernel_rfl
theorem si_self {A:Around} {E:Value→Shared→Prop} {s:Shared} {I S:Addr} {first:Value} {i n ep:Nat} {Q:Value→Shared→Prop} (hI:s.heap.get? I = some (siObj first i S n ep)) (h:Q (.ref I) s):wpAny (model prog w) A (pyIter (.ref I)) Q E s:=by
  have hT:s.TypeIs (.ref I) "set_iterator":=⟨_,hI,rfl⟩
  refine wpAny_pyIter_slot hT slot_si_iter (wpAny_call_entry slot_si_iter hT entry_si_iter ?_ (args_si_iter _))
  show wpAny _ _ (ret (.ref I)) _ _ s
  exact wpAny_pure ⟨_,rfl, "set_iterator", _,hT,slot_si_next.lookup,h⟩
theorem walk_int {A:Around} (hh:A.handled = none) {I S:Addr} (hne:S ≠ I) {ks:List Key} {es:Array (Int×Value)} {ep:Nat} {t:SetTable} {sl:Nat→Nat} {vs:List Value} (hv:vs.length = es.size) (hn:Nx prog w S ks es ep t sl vs) :
    Walks prog w A I [I,S] [I] es.size (fun i v=>vs[i]? = some v) (fun i h=>h.get? I = some (siObj (.int (sl i) 0) i S es.size ep)∧SetR prog w h S ks es ep t) where
  sub:=fun b hb=>by simp at hb; simp [hb]
  frame:=fun _ _ _ st hk=>⟨hk I (by simp) _ st.1,st.2.keep fun o e=>hk S (by simp) o e⟩
  item:=fun i s Q E hi st hQ=>by
    have e:vs[i]? = some (vs[i]'(by omega)):=List.getElem?_eq_getElem (by omega)
    refine si_item (v:=vs[i]'(by omega)) (next:=sl (i + 1)) st.1 st.2 (fun Q E q=>hn i s _ E Q st.2 (Nat.le_of_lt hi) (by rw [e]; exact q)) fun h' h1 h2=>?_
    exact hQ _ h' s.toks e ⟨h1,st.2.keep fun o q=>(h2 S hne).trans q⟩ fun b o hb q=>(h2 b (by simpa using hb)).trans q
  done:=fun s Q E st hQ=>si_end hh st.1 st.2 (fun Q E q=>hn es.size s _ E Q st.2 (Nat.le_refl _) (by rw [List.getElem?_eq_none (by omega)]; exact q)) fun h' he=>hQ h' s.toks fun b o hb e=>he b o (fun h=>hb (by simp [h])) e
  self:=fun i s Q E st hQ=>si_self st.1 hQ
theorem walk_drawn {A:Around} (hh:A.handled = none) {I S T:Addr} (hne:S ≠ I) (hnt:T ≠ I) {ks:List Key} {es:Array (Int×Value)} {ep:Nat} {t:SetTable} {ps:List Nat} (hp:ps.Perm (List.range es.size)) :
    Walks prog w A I [I,S,T] [I] es.size (fun i v=>(ps.filterMap fun j=>(es[j]?).map (·.2))[i]? = some v) (fun i h=>h.get? I = some (siObj (.ref T) i S es.size ep)∧SetR prog w h S ks es ep t∧h.get? T = some { cls:=.type "tuple", data:=.seq (ps.map fun (i:Nat)=>Value.int i 0).toArray }) where
  sub:=fun b hb=>by simp at hb; simp [hb]
  frame:=fun _ _ _ st hk=>⟨hk I (by simp) _ st.1,st.2.1.keep fun o e=>hk S (by simp) o e,hk T (by simp) _ st.2.2⟩
  item:=fun i s Q E hi st hQ=>by
    have hl:ps.length = es.size:=by rw [hp.length_eq]; simp
    have hlt:i < ps.length:=by omega
    have hpi:ps[i] < es.size:=List.mem_range.mp (hp.mem_iff.mp (List.getElem_mem hlt))
    have em:(ps.filterMap fun j=>(es[j]?).map (·.2)) = ps.map fun j=>(es.getD j (0,.none)).2:=by
      have gen:∀ l:List Nat,(∀ j ∈ l,j < es.size)→(l.filterMap fun j=>(es[j]?).map (·.2)) = l.map fun j=>(es.getD j (0,.none)).2:=by
        intro l
        induction l with
        | nil=>intro _; rfl
        | cons a l ih =>
          intro hl
          have ha:=hl a List.mem_cons_self
          rw [List.filterMap_cons,ih fun j hj=>hl j (List.mem_cons_of_mem _ hj)]
          simp [Array.getD,ha]
      exact gen ps fun j hj=>List.mem_range.mp (hp.mem_iff.mp hj)
    refine sd_item (p:=ps[i]) (hv:=es[ps[i]].1) (v:=es[ps[i]].2) st.1 st.2.1 st.2.2 (by simp [hlt]) (by rw [Array.getElem?_eq_getElem hpi]) fun h' h1 h2=>?_
    refine hQ _ h' s.toks ?_ ⟨h1,st.2.1.keep fun o q=>(h2 S hne).trans q,(h2 T hnt).trans st.2.2⟩ fun b o hb q=>(h2 b (by simpa using hb)).trans q
    rw [em,List.getElem?_map,List.getElem?_eq_getElem hlt]
    simp [Array.getD,hpi]
  done:=fun s Q E st hQ=>by
    have hl:ps.length = es.size:=by rw [hp.length_eq]; simp
    exact sd_end hh st.1 st.2.1 st.2.2 (by simp [hl]) fun h' he=>hQ h' s.toks fun b o hb e=>he b o (fun h=>hb (by simp [h])) e
  self:=fun i s Q E st hQ=>si_self st.1 hQ
end
section
variable {prog:Program} {w:World} {A:Around} {E:Value→Shared→Prop} {s:Shared}
theorem set_walk (hh:A.handled = none) {S:Addr} {ks:List Key} {es:Array (Int×Value)} {ep:Nat} {t:SetTable} {Q:Value→Shared→Prop} (hS:SetR prog w s.heap S ks es ep t)
    (h:∀ (I:Addr) (h1:Heap) (d:Drawn) (fp:List Addr) (vs:List Value) (St:Nat→Heap→Prop),(∀ b o,s.heap.get? b = some o→h1.get? b = some o)→s.heap.objs.size ≤ I→(∀ b ∈ fp,b = S∨s.heap.objs.size ≤ b) →
      Walks prog w A I fp [I] es.size (fun i v=>vs[i]? = some v) St→St 0 h1→vs.length = es.size→vs.Perm (es.toList.map (·.2))→Q (.ref I) { s with heap:=h1,drawn:=d }) :
    wpAny (model prog w) A (pyIter (.ref S)) Q E s:=by
  have hlt:S < s.heap.objs.size:=Heap.lt_size hS.obj
  refine set_iter hS (fun hb=>?_) fun hb d ps hp=>?_
  · have key:∀ sl vs,sl 0 = 0→vs.length = es.size→vs.Perm (es.toList.map (·.2))→Nx prog w S ks es ep t sl vs→Q (.ref s.heap.objs.size) { s with heap:=s.heap.push (siObj (.int 0 0) 0 S es.size ep) }:=fun sl vs h0 hl hpm hn=>by
      have W:=walk_int (A:=A) hh (I:=s.heap.objs.size) (S:=S) (Nat.ne_of_lt hlt) hl hn
      have:=h s.heap.objs.size (s.heap.push (siObj (.int 0 0) 0 S es.size ep)) s.drawn _ vs _ (fun b o e=>Heap.get?_push_of_some _ e) (Nat.le_refl _) (fun b hb=>?_) W ⟨?_,hS.keep fun o e=>Heap.get?_push_of_some _ e⟩ hl hpm
      · exact this
      · simp only [List.mem_cons,List.not_mem_nil,or_false] at hb
        rcases hb with rfl | rfl
        · exact .inr (Nat.le_refl _)
        · exact .inl rfl
      · rw [h0]
        exact Heap.get?_push_size _ rfl
    cases hbt:byTextW w with
    | true=>exact key _ _ rfl (by rw [List.length_map,(pick_perm _ _).length_eq,Array.length_toList]) ((pick_perm _ _).map _) (nx_text hbt)
    | false =>
      rw [hbt] at hb
      exact key _ _ rfl (by rw [List.length_map,Array.length_toList]) (List.Perm.refl _) (nx_plain hbt (by simpa using hb))
  · have hl:ps.length = es.size:=by rw [hp.length_eq]; simp
    have W:=walk_drawn (prog:=prog) (w:=w) (A:=A) hh (I:=s.heap.objs.size + 1) (S:=S) (T:=s.heap.objs.size) (Nat.ne_of_lt (Nat.lt_succ_of_lt hlt)) (Nat.ne_of_lt (Nat.lt_succ_self _)) (ks:=ks) (es:=es) (ep:=ep) (t:=t) hp
    have pm:(ps.filterMap fun j=>(es[j]?).map (·.2)).Perm (es.toList.map (·.2)):=by
      refine (hp.filterMap _).trans ?_
      rw [← List.map_filterMap]
      rw [filterMap_getElem?_range]
    refine h (s.heap.objs.size + 1) _ d _ _ _ (fun b o e=>Heap.get?_push_of_some _ (Heap.get?_push_of_some _ e)) (Nat.le_succ _) (fun b hb=>?_) W ⟨?_,hS.keep fun o e=>Heap.get?_push_of_some _ (Heap.get?_push_of_some _ e),Heap.get?_push_of_some _ (Heap.get?_push_size _ rfl)⟩ (by rw [pm.length_eq,List.length_map,Array.length_toList]) pm
    · simp only [List.mem_cons,List.not_mem_nil,or_false] at hb
      rcases hb with rfl | rfl | rfl
      · exact .inr (Nat.le_succ _)
      · exact .inl rfl
      · exact .inr (Nat.le_refl _)
    · have:=Heap.get?_push_size (s.heap.push { cls:=.type "tuple", data:=.seq (ps.map fun (i:Nat)=>Value.int i 0).toArray }) (o:=siObj (.ref s.heap.objs.size) 0 S es.size ep) rfl
      rw [size_push'] at this
      exact this
theorem hint_set {r:Addr} {Q:Bool→Shared→Prop} (hT:s.TypeIs (.ref r) "set") (h:Q false s):wpAny (model prog w) A (Builtin.List.listLengthHint (.ref r)) Q E s:=by
  unfold Builtin.List.listLengthHint
  refine wpAny_bind (wpAny_specialOf hT PySem.F.slot_set_len.lookup ?_)
  generalize hid:("set.__len__" : String) = id0
  wp_delta
  rw [show splitId id0 = some ("set", "__len__") from by subst hid; decide +kernel]
  subst hid
  refine wpAny_bind (wpAny_isInstance (T:="set") (b:=true) hT (by rw [isSubtype_type]; kernel_rfl) ?_)
  refine wpAny_ite_split (fun hab=>absurd hab (by decide)) (fun _=>?_)
  refine wpAny_ite_split (fun _=>?_) (fun hab=>absurd (by decide +kernel) hab)
  refine wpAny_bind (wpAny_typeOf hT ?_)
  exact wpAny_pure h
theorem set_extend {S L:Addr} {ks:List Key} {es:Array (Int×Value)} {ep:Nat} {t:SetTable} {R:Result→Shared→Prop} (hh:A.handled = none) (hS:SetR prog w s.heap S ks es ep t) (hSL:L ≠ S) (res:Value) (c₀:Nat) (hL:s.heap.get? L = some { cls:=.type "list", data:=.seq #[] c₀ })
    (hR:∀ h' tk d acc' c',(∀ b o,b ≠ L→s.heap.get? b = some o→h'.get? b = some o)→h'.get? L = some { cls:=.type "list", dict:=none,data:=.seq acc' c',slots:=#[] }→acc'.toList.Perm (es.toList.map (·.2))→R (.ok (.ret res)) { s with heap:=h',toks:=tk,drawn:=d }) :
    wpAny (model prog w) A.in1 (Builtin.List.listExtendWith (.ref L) (.ref S) res)
      (fun fin s'=>match fin with | .done f=>R (.ok f) s' | .again c'=>c'.quiet = true∧codeAny (model prog w) A c' R s') (fun e s'=>R (.error e) s') s:=by
  have hT:s.TypeIs (.ref S) "set":=⟨_,hS.obj,rfl⟩
  have hz:es.size ≤ sizeLine:=fits_of_scanBound hS.few
  unfold Builtin.List.listExtendWith
  refine wpAny_bind (wpAny_typeOf hT ?_)
  have h1:Builtin.List.listSameRef (.ref L) (.ref S) = false:=by simp [Builtin.List.listSameRef,hSL]
  have h2:(Value.type "set" == Value.type "list") = false:=by decide
  have h3:(Value.type "set" == Value.type "tuple") = false:=by decide
  simp only [h1,h2,h3,Bool.or_false,Bool.false_eq_true,if_false]
  refine wpAny_bind (set_walk (A:=A.in1) hh hS fun I h1 d fp vs St hk hI hfp W st hvl hpm=>?_)
  have hLlt:L < s.heap.objs.size:=Heap.lt_size hL
  have hLI:L ≠ I:=Nat.ne_of_lt (Nat.lt_of_lt_of_le hLlt hI)
  have hLf:L ∉ fp:=fun hb=>by
    rcases hfp L hb with e | e
    · exact hSL e
    · exact absurd hLlt (Nat.not_lt.mpr e)
  have key:∀ (h:Heap) (c₁ tk:Nat),St 0 h→(∀ b o,b ≠ L→s.heap.get? b = some o→h.get? b = some o) →
      h.get? L = some { cls:=.type "list", data:=.seq #[] c₁ }→codeAny (model prog w) A (.builtin "list.extend.loop" ⟨[.ref L,.ref I,res],[]⟩) R { s with heap:=h,toks:=tk,drawn:=d }:=by
    intro h c₁ tk hst hkk hS₁
    refine codeAny_extend_loopS W.toS hz L hLf res es.size 0 _ #[] c₁ rfl (Nat.zero_le _) hst hS₁ (ItemsOf.nil _) fun s' acc' c' hm hS' hacc=>?_
    rw [Moved.eq_with hm]
    refine hR s'.heap s'.toks d acc' c' (fun b o hb e=>hm.heap b o (fun hmem=>?_) (hkk b o hb e)) hS' ?_
    · rcases List.mem_cons.mp hmem with e' | hmem
      · exact hb e'
      · have:=List.mem_singleton.mp hmem
        subst this
        exact absurd (Heap.lt_size e) (Nat.not_lt.mpr hI)
    · have ev:acc'.toList = vs:=by
        refine List.ext_getElem? fun i=>?_
        rw [Array.getElem?_toList]
        by_cases hlt:i < es.size
        · have:i < acc'.size:=by rw [hacc.1]; exact hlt
          rw [Array.getElem?_eq_getElem this]
          exact (hacc.2 i _ (Array.getElem?_eq_getElem this)).symm
        · rw [Array.getElem?_eq_none (by rw [hacc.1]; omega),List.getElem?_eq_none (by omega)]
      rw [ev]
      exact hpm
  have hS₁:h1.get? L = some { cls:=.type "list", data:=.seq #[] c₀ }:=hk _ _ hL
  refine wpAny_bind (wpAny_holding (hint_set (s:={ s with heap:=h1,drawn:=d }) ⟨_,hk _ _ hS.obj,rfl⟩ ?_))
  refine wpAny_ite_split (fun _=>?_) (fun _=>wpAny_pure ⟨plainId_quiet PySem.F.plain_extend_loop _,key _ c₀ _ st (fun b o _ e=>hk b o e) hS₁⟩)
  refine wpAny_bind (wpAny_rule ?_)
  refine wpAny_bind ?_
  show wpAny _ _ (updateSeq L (·.push .none) >>= fun _=>updateSeq L (·.pop)) _ _ _
  refine wpAny_bind (wpAny_updateSeq hS₁ rfl ?_)
  have hS₂:=Heap.get?_update_self (Obj.mapSeq (·.push Value.none)) hS₁ rfl
  refine wpAny_updateSeq (hz:=by seq_fits) hS₂ rfl ?_
  have hS₃:=Heap.get?_update_self (Obj.mapSeq (·.pop)) hS₂ rfl
  refine wpAny_pure ⟨plainId_quiet PySem.F.plain_extend_loop _,key _ _ _ ?_ (fun b o hb e=>?_) hS₃⟩
  · refine W.frame 0 _ _ st fun b hb o e=>?_
    have hbS:b ≠ L:=fun h=>hLf (h ▸ hb)
    exact (Heap.get?_update_other _ _ (Ne.symm hbS)).trans ((Heap.get?_update_other _ _ (Ne.symm hbS)).trans e)
  · exact (Heap.get?_update_other _ _ (Ne.symm hb)).trans ((Heap.get?_update_other _ _ (Ne.symm hb)).trans (hk _ _ e))
theorem set_collect {S:Addr} {ks:List Key} {es:Array (Int×Value)} {ep:Nat} {t:SetTable} {R:List Value→Shared→Prop} (hh:A.handled = none) (hS:SetR prog w s.heap S ks es ep t)
    (h:∀ (h':Heap) (tk:Nat) (d:Drawn) (vs:List Value),s.heap.objs.size ≤ h'.objs.size→(∀ b o,s.heap.get? b = some o→h'.get? b = some o)→vs.Perm (es.toList.map (·.2))→R vs { s with heap:=h',toks:=tk,drawn:=d }) :
    wpAny (model prog w) A (collect (.ref S)) R E s:=by
  have hlt:S < s.heap.objs.size:=Heap.lt_size hS.obj
  unfold collect
  refine wpAny_bind (wpAny_runValue (codeAny_builtin entry_proto_collect' ?_))
  rw [Around.under_plainId PySem.F.plain_proto_collect _]
  show wpAny _ A.in1 (newList [] >>= fun l=>again (.builtin "list.__iadd__" ⟨[l,.ref S],[]⟩)) _ _ s
  refine wpAny_bind (wpAny_newObj_type ?_)
  refine wpAny_pure ⟨plainId_quiet PySem.F.plain_list_iadd _,codeAny_builtin entry_list_iadd' ?_⟩
  rw [Around.under_plainId PySem.F.plain_list_iadd _]
  have hL:(s.heap.push { cls:=.type "list", data:=.seq ([]:List Value).toArray }).get? s.heap.objs.size = some { cls:=.type "list", data:=.seq #[] }:=Heap.get?_push_size _ rfl
  show wpAny _ A.in1 (Builtin.List.listExtendWith (.ref s.heap.objs.size) (.ref S) (.ref s.heap.objs.size)) _ _ _
  have key:=set_extend (A:=A) (s:={ s with heap:=s.heap.push { cls:=.type "list", data:=.seq ([]:List Value).toArray } })
    (R:=fun (q:Result) (s':Shared)=>∃ (h':Heap) (tk:Nat) (d:Drawn) (acc':Array Value) (c':Nat),q = .ok (.ret (.ref s.heap.objs.size))∧s' = { s with heap:=h',toks:=tk,drawn:=d } ∧
      (∀ b o,s.heap.get? b = some o→h'.get? b = some o)∧h'.get? s.heap.objs.size = some { cls:=.type "list", dict:=none,data:=.seq acc' c',slots:=#[] }∧acc'.toList.Perm (es.toList.map (·.2)))
    hh (hS.keep fun o e=>Heap.get?_push_of_some _ e) (Nat.ne_of_gt hlt) (.ref s.heap.objs.size) 0 hL
    (fun h' tk d acc' c' hk hS' hacc=>⟨h',tk,d,acc',c',rfl,rfl,fun b o e=>hk b o (Nat.ne_of_lt (Heap.lt_size e)) (Heap.get?_push_of_some _ e),hS',hacc⟩)
  refine wpAny_mono key (fun fin s' x=>?_) fun e s' x=>?_
  · cases fin with
    | done f =>
      obtain ⟨h',tk,d,acc',c',e,rfl,hk,hS',hacc⟩:=x
      cases e
      show wpAny _ A (load s.heap.objs.size >>= _) _ _ _
      refine wpAny_bind (wpAny_load hS' ?_)
      exact wpAny_pure (h h' tk d acc'.toList (Nat.le_of_lt (Heap.lt_size hS')) hk hacc)
    | again c₁ =>
      refine ⟨x.1,codeAny_mono x.2 fun q s₂ y=>?_⟩
      obtain ⟨h',tk,d,acc',c',rfl,rfl,hk,hS',hacc⟩:=y
      show wpAny _ A (load s.heap.objs.size >>= _) _ _ _
      refine wpAny_bind (wpAny_load hS' ?_)
      exact wpAny_pure (h h' tk d acc'.toList (Nat.le_of_lt (Heap.lt_size hS')) hk hacc)
  · obtain ⟨_,_,_,_,_,e',_⟩:=x
    cases e'
theorem set_sorted {S:Addr} {ks:List Key} {es:Array (Int×Value)} {ep:Nat} {t:SetTable} {Q:Value→Shared→Prop} (hh:A.handled = none) (hS:SetR prog w s.heap S ks es ep t)
    (h:∀ (h':Heap) (tk:Nat) (d:Drawn) (vs:List Value),s.heap.objs.size ≤ h'.objs.size→(∀ b o,s.heap.get? b = some o→h'.get? b = some o)→vs.Perm (es.toList.map (·.2)) →
      wpAny (model prog w) A.in1 (call (.builtin "list.sort") [.ref h'.objs.size]) (fun _ s'=>Q (.ref h'.objs.size) s') E { s with heap:=h'.push (seqObj "list" vs.toArray 0),toks:=tk,drawn:=d }) :
    wpAny (model prog w) A (call (.builtin "sorted") [.ref S]) Q E s:=by
  refine Calls.call_function_entry kind_sorted plain_sorted entry_sorted (args_sorted1 _) ?_
  unfold Builtin.«sorted»
  refine wpAny_bind (m:=checkCount "sorted" 1 1 _) (wpAny_pure ?_)
  refine wpAny_bind (set_collect (A:=A.in1) hh hS fun h' tk d vs hz hk hp=>?_)
  have hl:vs.length ≤ sizeLine:=by rw [hp.length_eq,List.length_map,Array.length_toList]; exact fits_of_scanBound hS.few
  refine wpAny_bind (wpAny_newList ?_ hl)
  refine wpAny_bind (wpAny_holding (wpAny_mono (h h' tk d vs hz hk hp) (fun _ s' x=>?_) fun _ _ e=>e))
  exact wpAny_pure ⟨_,rfl,x⟩
end
end L2
namespace StT
open PySem PyProof.Rows
abbrev KA:=Array Keyed
abbrev SM:=StateT SortSt Sem
def gallop':Bool→Keyed→KA→Nat→Nat→Nat→SM (Option Nat):=sortPriv% PySem.Builtin.gallop
def setMG':Nat→SM Unit:=sortPriv% PySem.Builtin.setMinGallop
def mergeLo':KA→KA→SM KA:=sortPriv% PySem.Builtin.mergeLo
def mergeHi':KA→KA→SM KA:=sortPriv% PySem.Builtin.mergeHi
abbrev setG (st:SortSt) (g:Nat):SortSt:=SortSt.mk' (kindOf st) (arrOf st) (pendingOf st) g (failedOf st)
theorem setMG'_eq (g:Nat):setMG' g = modify fun s=>setG s g:=rfl
def bey (left:Bool) (key:Keyed) (arr:KA) (base i:Nat):SM (Option Bool):=do
  let x ← elem' arr (base + i)
  if left = true then lt' x key
  else do
    let z ← lt' key x
    pure (z.map (!·))
def gBin (B:Nat→SM (Option Bool)) (n lo hi:Nat):SM (Option Nat):=do
  let c ← forIn [:n] ((none,lo,hi):Option (Option Nat) × Nat × Nat) fun _ c =>
    if c.2.1 ≥ c.2.2 then pure (.done (none,c.2.1,c.2.2))
    else do
      let z ← B (c.2.1 + (c.2.2 - c.2.1) / 2)
      match z with
      | some m=>if m = true then pure (.yield (none,c.2.1 + (c.2.2 - c.2.1) / 2 + 1,c.2.2)) else pure (.yield (none,c.2.1,c.2.1 + (c.2.2 - c.2.1) / 2))
      | _=>pure (.done (some none,c.2.1,c.2.2))
  match c.1 with
  | some r=>pure r
  | none=>pure (some c.2.2)
def gUp (B:Nat→SM (Option Bool)) (n hint:Nat):SM (Option Nat):=do
  let c ← forIn [:n] ((none,0,1):Option (Option Nat) × Nat × Nat) fun _ c =>
    if c.2.2 ≥ n - hint then pure (.done (none,c.2.1,c.2.2))
    else do
      let z ← B (hint + c.2.2)
      match z with
      | some m=>if (!m) = true then pure (.done (none,c.2.1,c.2.2)) else pure (.yield (none,c.2.2,2 * c.2.2 + 1))
      | _=>pure (.done (some none,c.2.1,c.2.2))
  match c.1 with
  | some r=>pure r
  | none=>gBin B n (hint + c.2.1 + 1) (hint + min c.2.2 (n - hint))
def gDown (B:Nat→SM (Option Bool)) (n hint:Nat):SM (Option Nat):=do
  let c ← forIn [:n] ((none,0,1):Option (Option Nat) × Nat × Nat) fun _ c =>
    if c.2.2 ≥ hint + 1 then pure (.done (none,c.2.1,c.2.2))
    else do
      let z ← B (hint - c.2.2)
      match z with
      | some m=>if m = true then pure (.done (none,c.2.1,c.2.2)) else pure (.yield (none,c.2.2,2 * c.2.2 + 1))
      | _=>pure (.done (some none,c.2.1,c.2.2))
  match c.1 with
  | some r=>pure r
  | none=>gBin B n (hint + 1 - min c.2.2 (hint + 1)) (hint - c.2.1)
theorem gallop'_eq (left:Bool) (key:Keyed) (arr:KA) (base n hint:Nat):gallop' left key arr base n hint = (do
    let z ← bey left key arr base hint
    match z with
    | some r=>if r = true then gUp (bey left key arr base) n hint else gDown (bey left key arr base) n hint
    | _=>pure none):=by kernel_rfl
section
variable {prog:Program} {w:World} {A:Around} {E:Value→Shared→Prop} {s:Shared}
structure Mono (prog:Program) (w:World) (A:Around) (E:Value→Shared→Prop) (s:Shared) (st:SortSt) (n:Nat) (F:Nat→SM (Option Bool)) (B:Nat→Bool):Prop where
  ask:∀ i,i < n→∀ Q':Option Bool→SortSt→Prop,Q' (some (B i)) st→wpS (model prog w) A E s (F i) Q' st
  dn:∀ i j,i ≤ j→j < n→B j = true→B i = true
theorem Mono.up {st:SortSt} {n:Nat} {F:Nat→SM (Option Bool)} {B:Nat→Bool} (h:Mono prog w A E s st n F B) {i j:Nat} (h1:i ≤ j) (h2:j < n) (h3:B i = false):B j = false:=by
  cases e:B j with
  | false=>rfl
  | true=>rw [h.dn i j h1 h2 e] at h3; cases h3
theorem wpS_gBin {st:SortSt} {n:Nat} {F:Nat→SM (Option Bool)} {B:Nat→Bool} (hm:Mono prog w A E s st n F B) {Q:Option Nat→SortSt→Prop} {lo hi:Nat} (h1:lo ≤ hi) (h2:hi ≤ n) (h3:∀ i,i < lo→B i = true) (h4:∀ i,hi ≤ i→i < n→B i = false)
    (h:∀ k,k ≤ n→(∀ i,i < k→B i = true)→(∀ i,k ≤ i→i < n→B i = false)→Q (some k) st):wpS (model prog w) A E s (gBin F n lo hi) Q st:=by
  unfold gBin
  refine wpS_bind (wpS_mono (wpS_forRange (I:=fun x c st'=>st' = st∧∃ l r,c = (none,l,r)∧l ≤ r∧r ≤ n∧r - l ≤ n - x∧(∀ i,i < l→B i = true)∧(∀ i,r ≤ i→i < n→B i = false))
    (Q:=fun c st'=>st' = st∧∃ l,c = (none,l,l)∧l ≤ n∧(∀ i,i < l→B i = true)∧(∀ i,l ≤ i→i < n→B i = false)) ?step ?fin ⟨rfl,lo,hi,rfl,h1,h2,by omega,h3,h4⟩) ?post)
  case fin =>
    rintro c st' ⟨rfl,l,r,rfl,a1,a2,a3,a4,a5⟩
    have:l = r:=by omega
    subst this
    exact ⟨rfl,l,rfl,a2,a4,a5⟩
  case step =>
    rintro x c st' _ hx ⟨rfl,l,r,rfl,a1,a2,a3,a4,a5⟩
    dsimp only
    by_cases hge:l ≥ r
    · rw [if_pos hge]
      have:l = r:=by omega
      subst this
      exact wpS_pure ⟨rfl,l,rfl,a2,a4,a5⟩
    · rw [if_neg hge]
      refine wpS_bind (hm.ask _ (by omega) _ ?_)
      cases hB:B (l + (r - l) / 2) with
      | true =>
        simp only [if_true]
        exact wpS_pure ⟨rfl,_,_,rfl,by omega,a2,by omega,fun i hi=>hm.dn _ _ (by omega) (by omega) hB,a5⟩
      | false =>
        simp only [Bool.false_eq_true,if_false]
        exact wpS_pure ⟨rfl,_,_,rfl,by omega,by omega,by omega,a4,fun i h1 h2=>hm.up h1 h2 hB⟩
  case post =>
    rintro c st' ⟨rfl,l,rfl,a2,a4,a5⟩
    exact wpS_pure (h l a2 a4 a5)
theorem wpS_gallop {left:Bool} {key:Keyed} {arr:Array Keyed} {base n hint:Nat} {st:SortSt} {Q:Option Nat→SortSt→Prop} (B:Nat→Bool)
    (hm:Mono prog w A E s st n (bey left key arr base) B) (hh:hint < n)
    (h:∀ k,k ≤ n→(∀ i,i < k→B i = true)→(∀ i,k ≤ i→i < n→B i = false)→Q (some k) st):wpS (model prog w) A E s (gallop' left key arr base n hint) Q st:=by
  rw [gallop'_eq]
  refine wpS_bind (hm.ask hint hh _ ?_)
  cases hB:B hint with
  | true =>
    simp only [if_true]
    unfold gUp
    refine wpS_bind (wpS_mono (wpS_forRange (I:=fun x c st'=>st' = st∧∃ l o,c = (none,l,o)∧l < o∧l < n - hint∧x < o∧B (hint + l) = true)
      (Q:=fun c st'=>st' = st∧∃ l o,c = (none,l,o)∧l < o∧l < n - hint∧B (hint + l) = true∧(o ≥ n - hint∨o < n - hint∧B (hint + o) = false)) ?step ?fin ⟨rfl,0,1,rfl,by omega,by omega,by omega,hB⟩) ?post)
    case fin =>
      rintro c st' ⟨rfl,l,o,rfl,a1,a2,a3,a4⟩
      exact ⟨rfl,l,o,rfl,a1,a2,a4,.inl (by omega)⟩
    case step =>
      rintro x c st' _ hx ⟨rfl,l,o,rfl,a1,a2,a3,a4⟩
      dsimp only
      by_cases hge:o ≥ n - hint
      · rw [if_pos hge]
        exact wpS_pure ⟨rfl,l,o,rfl,a1,a2,a4,.inl hge⟩
      · rw [if_neg hge]
        refine wpS_bind (hm.ask _ (by omega) _ ?_)
        cases hB2:B (hint + o) with
        | true =>
          simp only [Bool.not_true,Bool.false_eq_true,if_false]
          exact wpS_pure ⟨rfl,_,_,rfl,by omega,by omega,by omega,hB2⟩
        | false =>
          simp only [Bool.not_false,if_true]
          exact wpS_pure ⟨rfl,l,o,rfl,a1,a2,a4,.inr ⟨by omega,hB2⟩⟩
    case post =>
      rintro c st' ⟨rfl,l,o,rfl,a1,a2,a3,a4⟩
      refine wpS_gBin hm (lo:=hint + l + 1) (hi:=hint + min o (n - hint)) (by omega) (by omega) (fun i hi=>hm.dn i (hint + l) (by omega) (by omega) a3) (fun i h1 h2=>?_) h
      rcases a4 with a4 | ⟨a4,a5⟩
      · omega
      · exact hm.up (i:=hint + o) (by omega) h2 a5
  | false =>
    simp only [Bool.false_eq_true,if_false]
    unfold gDown
    refine wpS_bind (wpS_mono (wpS_forRange (I:=fun x c st'=>st' = st∧∃ l o,c = (none,l,o)∧l < o∧l < hint + 1∧x < o∧B (hint - l) = false)
      (Q:=fun c st'=>st' = st∧∃ l o,c = (none,l,o)∧l < o∧l < hint + 1∧B (hint - l) = false∧(o ≥ hint + 1∨o < hint + 1∧B (hint - o) = true)) ?step ?fin ⟨rfl,0,1,rfl,by omega,by omega,by omega,hB⟩) ?post)
    case fin =>
      rintro c st' ⟨rfl,l,o,rfl,a1,a2,a3,a4⟩
      exact ⟨rfl,l,o,rfl,a1,a2,a4,.inl (by omega)⟩
    case step =>
      rintro x c st' _ hx ⟨rfl,l,o,rfl,a1,a2,a3,a4⟩
      dsimp only
      by_cases hge:o ≥ hint + 1
      · rw [if_pos hge]
        exact wpS_pure ⟨rfl,l,o,rfl,a1,a2,a4,.inl hge⟩
      · rw [if_neg hge]
        refine wpS_bind (hm.ask _ (by omega) _ ?_)
        cases hB2:B (hint - o) with
        | true =>
          simp only [if_true]
          exact wpS_pure ⟨rfl,l,o,rfl,a1,a2,a4,.inr ⟨by omega,hB2⟩⟩
        | false =>
          simp only [Bool.false_eq_true,if_false]
          exact wpS_pure ⟨rfl,_,_,rfl,by omega,by omega,by omega,hB2⟩
    case post =>
      rintro c st' ⟨rfl,l,o,rfl,a1,a2,a3,a4⟩
      refine wpS_gBin hm (lo:=hint + 1 - min o (hint + 1)) (hi:=hint - l) (by omega) (by omega) (fun i hi=>?_) (fun i h1 h2=>hm.up (i:=hint - l) (by omega) h2 a3) h
      rcases a4 with a4 | ⟨a4,a5⟩
      · omega
      · exact hm.dn _ (hint - o) (by omega) (by omega) a5
def kv (κ:KeyKind) (p:Keyed):κ.α:=(κ.keyOf p.1).getD κ.dflt
def HasK (κ:KeyKind) (p:Keyed):Prop:=∃ a,κ.keyOf p.1 = some a
theorem wpS_lt {κ:KeyKind} (hO:κ.OneLt) {st:SortSt} {x y:Keyed} {Q:Option Bool→SortSt→Prop} (hk:kindOf st = oneType')
    (hx:HasK κ x) (hy:HasK κ y) (h:Q (some (κ.blt (kv κ x) (kv κ y))) st):wpS (model prog w) A E s (lt' x y) Q st:=by
  obtain ⟨a,ha⟩:=hx
  obtain ⟨b,hb⟩:=hy
  unfold kv at h
  rw [ha,hb] at h
  rw [lt'_eq]
  refine wpS_bind (wpS_get ?_)
  rw [hk,keyLt'_oneType]
  exact wpS_bind (wpS_lift (wpAny_attempt (hO prog w A _ s x.1 y.1 a b ha hb ⟨rfl,wpS_pure h⟩)))
theorem wpS_elem {st:SortSt} {arr:Array Keyed} {i:Nat} {Q:Keyed→SortSt→Prop} (hi:i < arr.size) (h:Q arr[i] st):wpS (model prog w) A E s (elem' arr i) Q st:=by
  rw [elem'_eq,getElem?_pos arr i hi]
  exact wpS_pure h
theorem wpS_gallopR {κ:KeyKind} (hO:κ.OneLt) {key:Keyed} {arr:Array Keyed} {base n hint:Nat} {st:SortSt} {Q:Option Nat→SortSt→Prop} (hk:kindOf st = oneType')
    (hK:HasK κ key) (hA:∀ p ∈ arr,HasK κ p) (hn:base + n ≤ arr.size) (hs:∀ i j (hij:i ≤ j) (hj:j < n),κ.kle (kv κ (arr[base + i]'(by omega))) (kv κ (arr[base + j]'(by omega)))) (hh:hint < n)
    (h:∀ k (hk:k ≤ n),(∀ i (hi:i < k),κ.kle (kv κ (arr[base + i]'(by omega))) (kv κ key))→(∀ i (h1:k ≤ i) (hi:i < n),κ.klt (kv κ key) (kv κ (arr[base + i]'(by omega))))→Q (some k) st) :
    wpS (model prog w) A E s (gallop' false key arr base n hint) Q st:=by
  refine wpS_gallop (fun i=>if hi:i < n then !(κ.blt (kv κ key) (kv κ (arr[base + i]'(by omega)))) else false) ⟨?_,?_⟩ hh ?_
  · intro i hi Q' hQ
    rw [dif_pos hi] at hQ
    unfold bey
    refine wpS_bind (wpS_elem (by omega) ?_)
    simp only [Bool.false_eq_true,if_false]
    exact wpS_bind (wpS_lt hO hk hK (hA _ (Array.getElem_mem _)) (wpS_pure hQ))
  · intro i j hij hj e
    rw [dif_pos hj] at e
    rw [dif_pos (by omega)]
    simp only [Bool.not_eq_true'] at e ⊢
    exact KeyOrd.kle_trans (hs i j hij hj) e
  · intro k hk h1 h2
    refine h k hk (fun i hi=>?_) fun i h3 hi=>?_
    · have:=h1 i hi
      rw [dif_pos (by omega)] at this
      simpa [KeyOrd.kle] using this
    · have:=h2 i h3 hi
      rw [dif_pos hi] at this
      simpa [KeyOrd.klt] using this
theorem wpS_gallopL {κ:KeyKind} (hO:κ.OneLt) {key:Keyed} {arr:Array Keyed} {base n hint:Nat} {st:SortSt} {Q:Option Nat→SortSt→Prop} (hk:kindOf st = oneType')
    (hK:HasK κ key) (hA:∀ p ∈ arr,HasK κ p) (hn:base + n ≤ arr.size) (hs:∀ i j (hij:i ≤ j) (hj:j < n),κ.kle (kv κ (arr[base + i]'(by omega))) (kv κ (arr[base + j]'(by omega)))) (hh:hint < n)
    (h:∀ k (hk:k ≤ n),(∀ i (hi:i < k),κ.klt (kv κ (arr[base + i]'(by omega))) (kv κ key))→(∀ i (h1:k ≤ i) (hi:i < n),κ.kle (kv κ key) (kv κ (arr[base + i]'(by omega))))→Q (some k) st) :
    wpS (model prog w) A E s (gallop' true key arr base n hint) Q st:=by
  refine wpS_gallop (fun i=>if hi:i < n then κ.blt (kv κ (arr[base + i]'(by omega))) (kv κ key) else false) ⟨?_,?_⟩ hh ?_
  · intro i hi Q' hQ
    rw [dif_pos hi] at hQ
    unfold bey
    refine wpS_bind (wpS_elem (by omega) ?_)
    simp only [if_true]
    exact wpS_lt hO hk (hA _ (Array.getElem_mem _)) hK hQ
  · intro i j hij hj e
    rw [dif_pos hj] at e
    rw [dif_pos (by omega)]
    exact KeyOrd.klt_of_kle_of_klt (hs i j hij hj) e
  · intro k hk h1 h2
    refine h k hk (fun i hi=>?_) fun i h3 hi=>?_
    · have:=h1 i hi
      rw [dif_pos (by omega)] at this
      exact this
    · have:=h2 i h3 hi
      rw [dif_pos hi] at this
      exact this
end
abbrev S1:=Option KA×KA×Nat×Nat×Nat×Nat
abbrev S2:=Option KA×KA×Nat×Nat×Nat×Nat×Nat
abbrev S3:=Option KA×KA×Nat×Nat×Nat
def loDone (a b out:KA) (ia ib:Nat):KA:=out ++ a.extract ia a.size ++ b.extract ib b.size
def loLast (a b out:KA) (ia ib:Nat):KA:=out ++ b.extract ib b.size ++ a.extract ia a.size
def loOne (a b:KA) (mg:Nat) (c:S1):SM (ForInStep S1):=do
  let x ← elem' b c.2.2.2.1
  let y ← elem' a c.2.2.1
  let z ← lt' x y
  match z with
  | some bw =>
    if bw = true then do
      let x ← elem' b c.2.2.2.1
      if (c.2.2.2.1 + 1 == b.size) = true then pure (.done (some (loDone a b (c.2.1.push x) c.2.2.1 (c.2.2.2.1 + 1)),c.2.1.push x,c.2.2.1,c.2.2.2.1 + 1,0,c.2.2.2.2.2 + 1))
      else if c.2.2.2.2.2 + 1 ≥ mg then pure (.done (none,c.2.1.push x,c.2.2.1,c.2.2.2.1 + 1,0,c.2.2.2.2.2 + 1))
      else pure (.yield (none,c.2.1.push x,c.2.2.1,c.2.2.2.1 + 1,0,c.2.2.2.2.2 + 1))
    else do
      let y ← elem' a c.2.2.1
      if (c.2.2.1 + 1 + 1 == a.size) = true then pure (.done (some (loLast a b (c.2.1.push y) (c.2.2.1 + 1) c.2.2.2.1),c.2.1.push y,c.2.2.1 + 1,c.2.2.2.1,c.2.2.2.2.1 + 1,0))
      else if c.2.2.2.2.1 + 1 ≥ mg then pure (.done (none,c.2.1.push y,c.2.2.1 + 1,c.2.2.2.1,c.2.2.2.2.1 + 1,0))
      else pure (.yield (none,c.2.1.push y,c.2.2.1 + 1,c.2.2.2.1,c.2.2.2.2.1 + 1,0))
  | _=>pure (.done (some (loDone a b c.2.1 c.2.2.1 c.2.2.2.1),c.2.1,c.2.2.1,c.2.2.2.1,c.2.2.2.2.1,c.2.2.2.2.2))
def loTail (a b out:KA) (ia ib mg ac bc:Nat):SM (ForInStep S2):=do
  let y ← elem' a ia
  if (ia + 1 + 1 == a.size) = true then pure (.done (some (loLast a b (out.push y) (ia + 1) ib),out.push y,ia + 1,ib,mg,ac,bc))
  else if (decide (ac < 7) && decide (bc < 7)) = true then pure (.done (none,out.push y,ia + 1,ib,mg,ac,bc))
  else pure (.yield (none,out.push y,ia + 1,ib,mg,ac,bc))
def loMid (a b out:KA) (ia ib mg ac bc:Nat):SM (ForInStep S2):=do
  let x ← elem' b ib
  if (ib + 1 == b.size) = true then pure (.done (some (loDone a b (out.push x) ia (ib + 1)),out.push x,ia,ib + 1,mg,ac,bc))
  else do
    let y ← elem' a ia
    let r ← gallop' true y b (ib + 1) (b.size - (ib + 1)) 0
    match r with
    | some k =>
      if k > 0 then
        if (ib + 1 + k == b.size) = true then pure (.done (some (loDone a b (out.push x ++ b.extract (ib + 1) (ib + 1 + k)) ia (ib + 1 + k)),out.push x ++ b.extract (ib + 1) (ib + 1 + k),ia,ib + 1 + k,mg,ac,k))
        else loTail a b (out.push x ++ b.extract (ib + 1) (ib + 1 + k)) ia (ib + 1 + k) mg ac k
      else loTail a b (out.push x) ia (ib + 1) mg ac k
    | _=>pure (.done (some (loDone a b (out.push x) ia (ib + 1)),out.push x,ia,ib + 1,mg,ac,bc))
def loHead (a b out:KA) (ia ib mg ac bc:Nat):SM (ForInStep S2):=do
  setMG' mg
  let x ← elem' b ib
  let r ← gallop' false x a ia (a.size - ia) 0
  match r with
  | some k =>
    if k > 0 then
      if (ia + k + 1 == a.size) = true then pure (.done (some (loLast a b (out ++ a.extract ia (ia + k)) (ia + k) ib),out ++ a.extract ia (ia + k),ia + k,ib,mg,k,bc))
      else if (ia + k == a.size) = true then pure (.done (some (loDone a b (out ++ a.extract ia (ia + k)) (ia + k) ib),out ++ a.extract ia (ia + k),ia + k,ib,mg,k,bc))
      else loMid a b (out ++ a.extract ia (ia + k)) (ia + k) ib mg k bc
    else loMid a b out ia ib mg k bc
  | _=>pure (.done (some (loDone a b out ia ib),out,ia,ib,mg,ac,bc))
def loGal (a b:KA) (c:S2):SM (ForInStep S2) :=
  if c.2.2.2.2.1 > 1 then loHead a b c.2.1 c.2.2.1 c.2.2.2.1 (c.2.2.2.2.1 - 1) c.2.2.2.2.2.1 c.2.2.2.2.2.2
  else loHead a b c.2.1 c.2.2.1 c.2.2.2.1 c.2.2.2.2.1 c.2.2.2.2.2.1 c.2.2.2.2.2.2
def loOuter (a b:KA) (c:S3):SM (ForInStep S3):=do
  let r ← forIn [:a.size + b.size] ((none,c.2.1,c.2.2.1,c.2.2.2.1,0,0):S1) fun _ d=>loOne a b c.2.2.2.2 d
  match r.1 with
  | some o=>pure (.done (some o,r.2.1,r.2.2.1,r.2.2.2.1,c.2.2.2.2))
  | none=>do
    liftM (rule "list.sort.gallop")
    let q ← forIn [:a.size + b.size] ((none,r.2.1,r.2.2.1,r.2.2.2.1,c.2.2.2.2 + 1,r.2.2.2.2.1,r.2.2.2.2.2):S2) fun _ d=>loGal a b d
    match q.1 with
    | some o=>pure (.done (some o,q.2.1,q.2.2.1,q.2.2.2.1,q.2.2.2.2.1))
    | none=>do
      setMG' (q.2.2.2.2.1 + 1)
      pure (.yield (none,q.2.1,q.2.2.1,q.2.2.2.1,q.2.2.2.2.1 + 1))
theorem mergeLo'_eq2 (a b:KA):mergeLo' a b = (do
  liftM (rule "list.sort.merge-lo")
  let x ← elem' b 0
  if (1 == b.size) = true then pure (loDone a b #[x] 0 1)
  else if (0 + 1 == a.size) = true then pure (loLast a b #[x] 0 1)
  else do
    let st ← get
    let r ← forIn [:a.size + b.size] ((none,#[x],0,1,gallopOf st):S3) fun _ d=>loOuter a b d
    match r.1 with
    | some o=>pure o
    | none=>liftM (unsupported "internal:list.sort.merge-bound")):=by kernel_rfl
theorem wpS_if {A:Around} {E:Value→Shared→Prop} {s:Shared} {M:Model} {σ α:Type} {c:Prop} [Decidable c] {m1 m2:StateT σ Sem α} {Q:α→σ→Prop} {st:σ} (h1:c→wpS M A E s m1 Q st) (h2:¬ c→wpS M A E s m2 Q st):wpS M A E s (if c then m1 else m2) Q st:=by
  by_cases h:c
  · rw [if_pos h]; exact h1 h
  · rw [if_neg h]; exact h2 h
section pure
variable {κ:KeyKind}
def Srt (κ:KeyKind) (l:List Keyed):Prop:=l.Pairwise fun x y=>κ.kle (kv κ x) (kv κ y)
theorem Srt.app {l m:List Keyed}:Srt κ (l ++ m) ↔ Srt κ l∧Srt κ m∧∀ x ∈ l,∀ y ∈ m,κ.kle (kv κ x) (kv κ y):=List.pairwise_append
theorem Srt.mv {o k r t:List Keyed} (h1:Srt κ (o ++ (k ++ r))) (h2:Srt κ (o ++ t)) (h:∀ x ∈ k,∀ y ∈ t,κ.kle (kv κ x) (kv κ y)):Srt κ ((o ++ k) ++ r)∧Srt κ ((o ++ k) ++ t):=by
  rw [List.append_assoc]
  refine ⟨h1,?_⟩
  rw [Srt.app] at h1 h2
  obtain ⟨a1,a2,a3⟩:=h1
  obtain ⟨b1,b2,b3⟩:=h2
  rw [Srt.app] at a2
  refine Srt.app.mpr ⟨Srt.app.mpr ⟨a1,a2.1,fun x hx y hy=>a3 x hx y (List.mem_append_left _ hy)⟩,b2,fun x hx y hy=>?_⟩
  rcases List.mem_append.mp hx with hx | hx
  · exact b3 x hx y hy
  · exact h x hx y hy
structure LoI (κ:KeyKind) (a b out:KA) (ia ib:Nat):Prop where
  ha:ia ≤ a.size
  hb:ib ≤ b.size
  perm:out.toList.Perm (a.toList.take ia ++ b.toList.take ib)
  sa:Srt κ (out.toList ++ a.toList.drop ia)
  sb:Srt κ (out.toList ++ b.toList.drop ib)
theorem drop_take_drop {α:Type} (l:List α) (i k:Nat):l.drop i = (l.drop i).take k ++ l.drop (i + k):=by
  rw [← List.drop_drop,List.take_append_drop]
theorem take_add' {α:Type} (l:List α) (i k:Nat):l.take (i + k) = l.take i ++ (l.drop i).take k:=List.take_add
theorem LoI.blkA {a b out:KA} {ia ib:Nat} (h:LoI κ a b out ia ib) (k:Nat) (hk:ia + k ≤ a.size) {o:KA} (ho:o.toList = out.toList ++ (a.toList.drop ia).take k)
    (hle:∀ x ∈ (a.toList.drop ia).take k,∀ y ∈ b.toList.drop ib,κ.kle (kv κ x) (kv κ y)):LoI κ a b o (ia + k) ib:=by
  have h1:=h.sa
  rw [drop_take_drop _ ia k] at h1
  obtain ⟨s1,s2⟩:=Srt.mv h1 h.sb hle
  refine ⟨hk,h.hb,?_,?_,?_⟩
  · rw [ho,take_add']
    refine (h.perm.append_right _).trans ?_
    rw [List.append_assoc,List.append_assoc]
    exact List.Perm.append_left _ List.perm_append_comm
  · rw [ho]; exact s1
  · rw [ho]; exact s2
theorem LoI.blkB {a b out:KA} {ia ib:Nat} (h:LoI κ a b out ia ib) (k:Nat) (hk:ib + k ≤ b.size) {o:KA} (ho:o.toList = out.toList ++ (b.toList.drop ib).take k)
    (hle:∀ x ∈ (b.toList.drop ib).take k,∀ y ∈ a.toList.drop ia,κ.kle (kv κ x) (kv κ y)):LoI κ a b o ia (ib + k):=by
  have h1:=h.sb
  rw [drop_take_drop _ ib k] at h1
  obtain ⟨s1,s2⟩:=Srt.mv h1 h.sa hle
  refine ⟨h.ha,hk,?_,?_,?_⟩
  · rw [ho,take_add',← List.append_assoc]
    exact h.perm.append_right _
  · rw [ho]; exact s2
  · rw [ho]; exact s1
theorem drop_one {a:KA} {i:Nat} (h:i < a.size):(a.toList.drop i).take 1 = [a[i]]:=by
  have h':i < a.toList.length:=by simpa using h
  rw [List.drop_eq_getElem_cons h']
  simp
theorem mem_drop_iff {a:KA} {i:Nat} {x:Keyed} (h:x ∈ a.toList.drop i):∃ j,∃ (hj:j < a.size),i ≤ j∧x = a[j]:=by
  obtain ⟨j,hj,e⟩:=List.mem_iff_getElem.mp h
  rw [List.getElem_drop] at e
  have hl:i + j < a.size:=by simpa using (by rw [List.length_drop] at hj; omega:i + j < a.toList.length)
  exact ⟨i + j,hl,by omega,by rw [← e]; simp⟩
theorem mem_dt {a:KA} {i k:Nat} {x:Keyed} (h:x ∈ (a.toList.drop i).take k):∃ j,∃ (hj:j < a.size),i ≤ j∧j < i + k∧x = a[j]:=by
  obtain ⟨j,hj,e⟩:=List.mem_iff_getElem.mp h
  rw [List.getElem_take,List.getElem_drop] at e
  rw [List.length_take,List.length_drop] at hj
  have hl:i + j < a.size:=by simpa using (by omega:i + j < a.toList.length)
  exact ⟨i + j,hl,by omega,by omega,by rw [← e]; simp⟩
def Mrg (κ:KeyKind) (a b o:KA):Prop:=o.toList.Perm (a.toList ++ b.toList)∧Srt κ o.toList
theorem ext_all (a:KA) (i:Nat):(a.extract i a.size).toList = a.toList.drop i:=by
  rw [Array.toList_extract,List.extract_eq_take_drop]
  exact List.take_of_length_le (by simp)
theorem ext_some (a:KA) (i k:Nat):(a.extract i (i + k)).toList = (a.toList.drop i).take k:=by
  rw [Array.toList_extract,List.extract_eq_take_drop]
  congr 1; omega
theorem perm_fin {o a b:List Keyed} {i j:Nat} (h:o.Perm (a.take i ++ b.take j)):(o ++ a.drop i ++ b.drop j).Perm (a ++ b):=by
  have e:(a ++ b).Perm ((a.take i ++ a.drop i) ++ (b.take j ++ b.drop j)):=by rw [List.take_append_drop,List.take_append_drop]
  refine ((h.append_right _).append_right _).trans (List.Perm.trans ?_ e.symm)
  simp only [List.append_assoc]
  refine List.Perm.append_left _ ?_
  rw [← List.append_assoc,← List.append_assoc]
  exact List.perm_append_comm.append_right _
theorem LoI.done {a b out:KA} {ia ib:Nat} (h:LoI κ a b out ia ib) (hib:ib = b.size∨ia = a.size):Mrg κ a b (loDone a b out ia ib):=by
  have e:(loDone a b out ia ib).toList = out.toList ++ a.toList.drop ia ++ b.toList.drop ib:=by
    unfold loDone; rw [Array.toList_append,Array.toList_append,ext_all,ext_all]
  refine ⟨by rw [e]; exact perm_fin h.perm,?_⟩
  rw [e]
  rcases hib with rfl | rfl
  · rw [show b.toList.drop b.size = [] from List.drop_of_length_le (by simp),List.append_nil]; exact h.sa
  · rw [show a.toList.drop a.size = [] from List.drop_of_length_le (by simp),List.append_nil]; exact h.sb
theorem LoI.last {a b out:KA} {ia ib:Nat} (h:LoI κ a b out ia ib) (hle:∀ x ∈ b.toList.drop ib,∀ y ∈ a.toList.drop ia,κ.kle (kv κ x) (kv κ y)):Mrg κ a b (loLast a b out ia ib):=by
  have e:(loLast a b out ia ib).toList = out.toList ++ b.toList.drop ib ++ a.toList.drop ia:=by
    unfold loLast; rw [Array.toList_append,Array.toList_append,ext_all,ext_all]
  refine ⟨?_,?_⟩
  · rw [e]
    have:=perm_fin (h.perm.trans List.perm_append_comm)
    exact this.trans List.perm_append_comm
  · rw [e]
    have h1:=h.sb
    rw [← List.append_nil (b.toList.drop ib)] at h1
    exact (Srt.mv h1 h.sa hle).2
end pure
section
variable {prog:Program} {w:World} {A:Around} {E:Value→Shared→Prop} {s:Shared} {κ:KeyKind}
structure MArg (κ:KeyKind) (a b:KA):Prop where
  ka:∀ p ∈ a,HasK κ p
  kb:∀ p ∈ b,HasK κ p
  sa:Srt κ a.toList
  sb:Srt κ b.toList
  ha:0 < a.size
  hb:0 < b.size
  first:κ.klt (kv κ b[0]) (kv κ a[0])
  last:κ.klt (kv κ (b[b.size - 1]'(by omega))) (kv κ (a[a.size - 1]'(by omega)))
theorem Srt.at {a:KA} (h:Srt κ a.toList) {i j:Nat} (hij:i ≤ j) (hj:j < a.size):κ.kle (kv κ (a[i]'(by omega))) (kv κ a[j]):=by
  by_cases e:i = j
  · subst e; exact KeyOrd.kle_refl _
  · have:=List.pairwise_iff_getElem.mp h i j (by simpa using (by omega:i < a.size)) (by simpa using hj) (by omega)
    simpa using this
structure LoH (κ:KeyKind) (a b out:KA) (ia ib:Nat):Prop where
  i:LoI κ a b out ia ib
  la:ia + 1 < a.size
  lb:ib < b.size
theorem leLast {a b:KA} (h:MArg κ a b) {ia ib:Nat} (hia:ia + 1 = a.size):∀ x ∈ b.toList.drop ib,∀ y ∈ a.toList.drop ia,κ.kle (kv κ x) (kv κ y):=by
  intro x hx y hy
  obtain ⟨j,hj,_,rfl⟩:=mem_drop_iff hx
  obtain ⟨i,hi,hi2,rfl⟩:=mem_drop_iff hy
  have e:i = a.size - 1:=by omega
  subst e
  exact KeyOrd.kle_trans (h.sb.at (by omega) (by omega)) (KeyOrd.kle_of_klt h.last)
theorem wpS_loOne (hO:κ.OneLt) {a b:KA} (hM:MArg κ a b) {st:SortSt} (hk:kindOf st = oneType') {mg:Nat} {out:KA} {ia ib ac bc:Nat} (h:LoH κ a b out ia ib) {Q:ForInStep S1→SortSt→Prop}
    (hr:∀ o r,Mrg κ a b o→Q (.done (some o,r)) st)
    (hd:∀ out' ia' ib' ac' bc',LoH κ a b out' ia' ib'→ia' + ib' = ia + ib + 1→Q (.done (none,out',ia',ib',ac',bc')) st)
    (hy:∀ out' ia' ib' ac' bc',LoH κ a b out' ia' ib'→ia' + ib' = ia + ib + 1→Q (.yield (none,out',ia',ib',ac',bc')) st) :
    wpS (model prog w) A E s (loOne a b mg (none,out,ia,ib,ac,bc)) Q st:=by
  have la:=h.la
  have lb:=h.lb
  unfold loOne
  dsimp only
  refine wpS_bind (wpS_elem lb (wpS_bind (wpS_elem (by omega) (wpS_bind (wpS_lt hO hk (hM.kb _ (Array.getElem_mem _)) (hM.ka _ (Array.getElem_mem _)) ?_)))))
  cases hw:κ.blt (kv κ b[ib]) (kv κ a[ia]) with
  | true =>
    dsimp only
    rw [if_pos rfl]
    refine wpS_bind (wpS_elem lb ?_)
    have I:LoI κ a b (out.push b[ib]) ia (ib + 1):=h.i.blkB 1 (by omega) (by rw [Array.toList_push,drop_one lb]) (by
      intro x hx y hy
      rw [drop_one lb,List.mem_singleton] at hx
      subst hx
      obtain ⟨i,hi,hi2,rfl⟩:=mem_drop_iff hy
      exact KeyOrd.kle_trans (KeyOrd.kle_of_klt hw) (hM.sa.at hi2 hi))
    refine wpS_if (fun e=>wpS_pure (hr _ _ (I.done (.inl (by simpa using e))))) fun e=>?_
    have e':ib + 1 ≠ b.size:=by simpa using e
    have H:LoH κ a b (out.push b[ib]) ia (ib + 1):=⟨I,la,by omega⟩
    exact wpS_if (fun _=>wpS_pure (hd _ _ _ _ _ H (by omega))) fun _=>wpS_pure (hy _ _ _ _ _ H (by omega))
  | false =>
    dsimp only
    rw [if_neg (by simp)]
    have la':ia < a.size:=by omega
    refine wpS_bind (wpS_elem la' ?_)
    have I:LoI κ a b (out.push a[ia]) (ia + 1) ib:=h.i.blkA 1 (by omega) (by rw [Array.toList_push,drop_one la']) (by
      intro x hx y hy
      rw [drop_one la',List.mem_singleton] at hx
      subst hx
      obtain ⟨i,hi,hi2,rfl⟩:=mem_drop_iff hy
      exact KeyOrd.kle_trans (show κ.kle _ _ from hw) (hM.sb.at hi2 hi))
    refine wpS_if (fun e=>wpS_pure (hr _ _ (I.last (leLast hM (by simpa using e))))) fun e=>?_
    have e':ia + 1 + 1 ≠ a.size:=by simpa using e
    have H:LoH κ a b (out.push a[ia]) (ia + 1) ib:=⟨I,by omega,lb⟩
    exact wpS_if (fun _=>wpS_pure (hd _ _ _ _ _ H (by omega))) fun _=>wpS_pure (hy _ _ _ _ _ H (by omega))
theorem wpS_loTail {a b:KA} (hM:MArg κ a b) {st:SortSt} {mg:Nat} {out:KA} {ia ib ac bc:Nat} (h:LoI κ a b out ia ib) (la:ia + 1 < a.size) (lb:ib < b.size)
    (hle:∀ j (hj:j < b.size),ib ≤ j→κ.kle (kv κ (a[ia]'(by omega))) (kv κ b[j])) {Q:ForInStep S2→SortSt→Prop}
    (hr:∀ o r,Mrg κ a b o→Q (.done (some o,r)) st)
    (hd:∀ out' ia' ib' mg' ac' bc',LoH κ a b out' ia' ib'→ia' + ib' = ia + ib + 1→Q (.done (none,out',ia',ib',mg',ac',bc')) st)
    (hy:∀ out' ia' ib' mg' ac' bc',LoH κ a b out' ia' ib'→ia' + ib' = ia + ib + 1→Q (.yield (none,out',ia',ib',mg',ac',bc')) st) :
    wpS (model prog w) A E s (loTail a b out ia ib mg ac bc) Q st:=by
  unfold loTail
  have la':ia < a.size:=by omega
  refine wpS_bind (wpS_elem la' ?_)
  have I:LoI κ a b (out.push a[ia]) (ia + 1) ib:=h.blkA 1 (by omega) (by rw [Array.toList_push,drop_one la']) (by
    intro x hx y hy
    rw [drop_one la',List.mem_singleton] at hx
    subst hx
    obtain ⟨i,hi,hi2,rfl⟩:=mem_drop_iff hy
    exact hle i hi hi2)
  refine wpS_if (fun e=>wpS_pure (hr _ _ (I.last (leLast hM (by simpa using e))))) fun e=>?_
  have e':ia + 1 + 1 ≠ a.size:=by simpa using e
  have H:LoH κ a b (out.push a[ia]) (ia + 1) ib:=⟨I,by omega,lb⟩
  exact wpS_if (fun _=>wpS_pure (hd _ _ _ _ _ _ H (by omega))) fun _=>wpS_pure (hy _ _ _ _ _ _ H (by omega))
theorem wpS_loMid (hO:κ.OneLt) {a b:KA} (hM:MArg κ a b) {st:SortSt} (hk:kindOf st = oneType') {mg:Nat} {out:KA} {ia ib ac bc:Nat} (h:LoI κ a b out ia ib) (la:ia + 1 < a.size) (lb:ib < b.size)
    (hle:κ.klt (kv κ b[ib]) (kv κ (a[ia]'(by omega)))) {Q:ForInStep S2→SortSt→Prop}
    (hr:∀ o r,Mrg κ a b o→Q (.done (some o,r)) st)
    (hd:∀ out' ia' ib' mg' ac' bc',LoH κ a b out' ia' ib'→ia + ib < ia' + ib'→Q (.done (none,out',ia',ib',mg',ac',bc')) st)
    (hy:∀ out' ia' ib' mg' ac' bc',LoH κ a b out' ia' ib'→ia + ib < ia' + ib'→Q (.yield (none,out',ia',ib',mg',ac',bc')) st) :
    wpS (model prog w) A E s (loMid a b out ia ib mg ac bc) Q st:=by
  unfold loMid
  have la':ia < a.size:=by omega
  refine wpS_bind (wpS_elem lb ?_)
  have I:LoI κ a b (out.push b[ib]) ia (ib + 1):=h.blkB 1 (by omega) (by rw [Array.toList_push,drop_one lb]) (by
    intro x hx y hy
    rw [drop_one lb,List.mem_singleton] at hx
    subst hx
    obtain ⟨i,hi,hi2,rfl⟩:=mem_drop_iff hy
    exact KeyOrd.kle_trans (KeyOrd.kle_of_klt hle) (hM.sa.at hi2 hi))
  refine wpS_if (fun e=>wpS_pure (hr _ _ (I.done (.inl (by simpa using e))))) fun e=>?_
  have e':ib + 1 ≠ b.size:=by simpa using e
  refine wpS_bind (wpS_elem la' (wpS_bind (wpS_gallopL hO hk (hM.ka _ (Array.getElem_mem _)) hM.kb (by omega) (fun i j hij hj=>hM.sb.at (by omega) (by omega)) (by omega) fun k hkn h1 h2=>?_)))
  dsimp only
  have I2:LoI κ a b (out.push b[ib] ++ b.extract (ib + 1) (ib + 1 + k)) ia (ib + 1 + k):=I.blkB k (by omega) (by rw [Array.toList_append,ext_some]) (by
    intro x hx y hy
    obtain ⟨j,hj,hj1,hj2,rfl⟩:=mem_dt hx
    obtain ⟨i,hi,hi2,rfl⟩:=mem_drop_iff hy
    have:=h1 (j - (ib + 1)) (by omega)
    simp only [show ib + 1 + (j - (ib + 1)) = j by omega] at this
    exact KeyOrd.kle_trans (KeyOrd.kle_of_klt this) (hM.sa.at hi2 hi))
  have I3:∀ j (hj:j < b.size),ib + 1 + k ≤ j→κ.kle (kv κ a[ia]) (kv κ b[j]):=fun j hj hjj=>by
    have:=h2 (j - (ib + 1)) (by omega) (by omega)
    simpa only [show ib + 1 + (j - (ib + 1)) = j by omega] using this
  refine wpS_if (fun hk0=>?_) fun hk0=>?_
  · refine wpS_if (fun e=>wpS_pure (hr _ _ (I2.done (.inl (by simpa using e))))) fun e=>?_
    have e':ib + 1 + k ≠ b.size:=by simpa using e
    exact wpS_loTail hM I2 la (by omega) I3 hr (fun _ _ _ _ _ _ H hh=>hd _ _ _ _ _ _ H (by omega)) fun _ _ _ _ _ _ H hh=>hy _ _ _ _ _ _ H (by omega)
  · have:k = 0:=by omega
    subst this
    exact wpS_loTail hM I la (by omega) I3 hr (fun _ _ _ _ _ _ H hh=>hd _ _ _ _ _ _ H (by omega)) fun _ _ _ _ _ _ H hh=>hy _ _ _ _ _ _ H (by omega)
theorem wpS_loHead (hO:κ.OneLt) {a b:KA} (hM:MArg κ a b) {st:SortSt} (hk:kindOf st = oneType') {mg:Nat} {out:KA} {ia ib ac bc:Nat} (h:LoH κ a b out ia ib) {Q:ForInStep S2→SortSt→Prop}
    (hr:∀ o r g,Mrg κ a b o→Q (.done (some o,r)) (setG st g))
    (hd:∀ out' ia' ib' mg' ac' bc' g,LoH κ a b out' ia' ib'→ia + ib < ia' + ib'→Q (.done (none,out',ia',ib',mg',ac',bc')) (setG st g))
    (hy:∀ out' ia' ib' mg' ac' bc' g,LoH κ a b out' ia' ib'→ia + ib < ia' + ib'→Q (.yield (none,out',ia',ib',mg',ac',bc')) (setG st g)) :
    wpS (model prog w) A E s (loHead a b out ia ib mg ac bc) Q st:=by
  unfold loHead
  have la:=h.la
  have lb:=h.lb
  have I:=h.i
  rw [setMG'_eq]
  refine wpS_bind (wpS_modify (wpS_bind (wpS_elem lb (wpS_bind (wpS_gallopR hO (show kindOf (setG st mg) = oneType' from hk) (hM.kb _ (Array.getElem_mem _)) hM.ka (by omega) (fun i j hij hj=>hM.sa.at (by omega) (by omega)) (by omega) fun k hkn h1 h2=>?_)))))
  dsimp only
  have I2:LoI κ a b (out ++ a.extract ia (ia + k)) (ia + k) ib:=I.blkA k (by omega) (by rw [Array.toList_append,ext_some]) (by
    intro x hx y hy
    obtain ⟨j,hj,hj1,hj2,rfl⟩:=mem_dt hx
    obtain ⟨i,hi,hi2,rfl⟩:=mem_drop_iff hy
    have:=h1 (j - ia) (by omega)
    simp only [show ia + (j - ia) = j by omega] at this
    exact KeyOrd.kle_trans this (hM.sb.at hi2 hi))
  have I3:∀ (hh:ia + k < a.size),κ.klt (kv κ b[ib]) (kv κ a[ia + k]):=fun hh=>h2 k (Nat.le_refl _) (by omega)
  refine wpS_if (fun hk0=>?_) fun hk0=>?_
  · refine wpS_if (fun e=>wpS_pure (hr _ _ _ (I2.last (leLast hM (by simpa using e))))) fun e=>?_
    have e':ia + k + 1 ≠ a.size:=by simpa using e
    refine wpS_if (fun e=>wpS_pure (hr _ _ _ (I2.done (.inr (by simpa using e))))) fun e=>?_
    have e'':ia + k ≠ a.size:=by simpa using e
    exact wpS_loMid (st:=setG st mg) hO hM hk I2 (by omega) lb (I3 (by omega)) (fun _ _=>hr _ _ _) (fun _ _ _ _ _ _ H hh=>hd _ _ _ _ _ _ _ H (by omega)) fun _ _ _ _ _ _ H hh=>hy _ _ _ _ _ _ _ H (by omega)
  · have:k = 0:=by omega
    subst this
    exact wpS_loMid (st:=setG st mg) hO hM hk I (by omega) lb (I3 (by omega)) (fun _ _=>hr _ _ _) (fun _ _ _ _ _ _ H hh=>hd _ _ _ _ _ _ _ H (by omega)) fun _ _ _ _ _ _ H hh=>hy _ _ _ _ _ _ _ H (by omega)
theorem wpS_mergeLo (hO:κ.OneLt) {a b:KA} (hM:MArg κ a b) {st:SortSt} (hk:kindOf st = oneType') {Q:KA→SortSt→Prop} (h:∀ o g,Mrg κ a b o→Q o (setG st g)):wpS (model prog w) A E s (mergeLo' a b) Q st:=by
  have ha:=hM.ha
  have hb:=hM.hb
  rw [mergeLo'_eq2]
  refine wpS_bind (wpS_lift (wpAny_rule ⟨rfl,?_⟩))
  refine wpS_bind (wpS_elem hb ?_)
  have I:LoI κ a b #[b[0]] 0 1:=LoI.blkB (out:=#[]) (ia:=0) (ib:=0) ⟨Nat.zero_le _,Nat.zero_le _,by simp,by simpa using hM.sa,by simpa using hM.sb⟩ 1 (by omega) (by rw [drop_one hb]; rfl) (by
    intro x hx y hy
    rw [drop_one hb,List.mem_singleton] at hx
    subst hx
    obtain ⟨i,hi,hi2,rfl⟩:=mem_drop_iff hy
    exact KeyOrd.kle_trans (KeyOrd.kle_of_klt hM.first) (hM.sa.at hi2 hi))
  refine wpS_if (fun e=>wpS_pure (h _ (gallopOf st) (I.done (.inl (by simpa using e))))) fun e1=>?_
  refine wpS_if (fun e=>wpS_pure (h _ (gallopOf st) (I.last (leLast hM (by simpa using e))))) fun e2=>?_
  have e1':1 ≠ b.size:=by simpa using e1
  have e2':0 + 1 ≠ a.size:=by simpa using e2
  have H0:LoH κ a b #[b[0]] 0 1:=⟨I,by omega,by omega⟩
  refine wpS_bind (wpS_get ?_)
  refine wpS_bind (wpS_mono (wpS_forRange (I:=fun x c st'=>∃ out ia ib mg g,c = (none,out,ia,ib,mg)∧st' = setG st g∧LoH κ a b out ia ib∧x < ia + ib)
    (Q:=fun c st'=>∃ o r g,c = (some o,r)∧st' = setG st g∧Mrg κ a b o) ?step ?fin ⟨_,_,_,_,gallopOf st,rfl,rfl,H0,by omega⟩) ?post)
  case post =>
    rintro c st' ⟨o,r,g,rfl,rfl,hm⟩
    exact wpS_pure (h _ _ hm)
  case fin =>
    rintro c st' ⟨out,ia,ib,mg,g,rfl,rfl,hH,hx⟩
    have:=hH.la
    have:=hH.lb
    omega
  case step =>
    rintro x c st' _ hx ⟨out,ia,ib,mg,g,rfl,rfl,hH,hxi⟩
    unfold loOuter
    dsimp only
    refine wpS_bind (wpS_mono (wpS_forRange (I:=fun y c st'=>∃ out' ia' ib' ac bc,c = (none,out',ia',ib',ac,bc)∧st' = setG st g∧LoH κ a b out' ia' ib'∧ia + ib ≤ ia' + ib'∧y < ia' + ib'∧(0 < y→ia + ib < ia' + ib'))
      (Q:=fun c st'=>st' = setG st g∧((∃ o r,c = (some o,r)∧Mrg κ a b o)∨∃ out' ia' ib' ac bc,c = (none,out',ia',ib',ac,bc)∧LoH κ a b out' ia' ib'∧ia + ib < ia' + ib')) ?s1 ?f1 ⟨_,_,_,_,_,rfl,rfl,hH,Nat.le_refl _,by omega,by omega⟩) ?p1)
    case f1 =>
      rintro c st' ⟨out',ia',ib',ac,bc,rfl,rfl,hH',h1,h2,h3⟩
      have:=hH'.la
      have:=hH'.lb
      omega
    case s1 =>
      rintro y c st' _ hy ⟨out',ia',ib',ac,bc,rfl,rfl,hH',h1,h2,h3⟩
      refine wpS_loOne (st:=setG st g) hO hM hk hH' (fun o r hm=>⟨rfl,.inl ⟨o,r,rfl,hm⟩⟩) (fun _ _ _ _ _ H hh=>⟨rfl,.inr ⟨_,_,_,_,_,rfl,H,by omega⟩⟩) fun _ _ _ _ _ H hh=>⟨_,_,_,_,_,rfl,rfl,H,by omega,by omega,by omega⟩
    case p1 =>
      rintro c st' ⟨rfl,⟨o,r,rfl,hm⟩ | ⟨out',ia',ib',ac,bc,rfl,hH',h1⟩⟩
      · exact wpS_pure ⟨_,_,_,rfl,rfl,hm⟩
      · dsimp only
        refine wpS_bind (wpS_lift (wpAny_rule ⟨rfl,?_⟩))
        refine wpS_bind (wpS_mono (wpS_forRange (I:=fun y c st'=>∃ out2 ia2 ib2 mg2 ac2 bc2 g2,c = (none,out2,ia2,ib2,mg2,ac2,bc2)∧st' = setG st g2∧LoH κ a b out2 ia2 ib2∧ia + ib < ia2 + ib2∧y < ia2 + ib2)
          (Q:=fun c st'=>∃ g2,st' = setG st g2∧((∃ o r,c = (some o,r)∧Mrg κ a b o)∨∃ out' ia' ib' mg ac bc,c = (none,out',ia',ib',mg,ac,bc)∧LoH κ a b out' ia' ib'∧ia + ib < ia' + ib')) ?s2 ?f2 ⟨_,_,_,_,_,_,_,rfl,rfl,hH',h1,by omega⟩) ?p2)
        case f2 =>
          rintro c st' ⟨out2,ia2,ib2,mg2,ac2,bc2,g2,rfl,rfl,hH2,h2,h3⟩
          have:=hH2.la
          have:=hH2.lb
          omega
        case s2 =>
          rintro y c st' _ hy ⟨out2,ia2,ib2,mg2,ac2,bc2,g2,rfl,rfl,hH2,h2,h3⟩
          unfold loGal
          dsimp only
          refine wpS_if (fun _=>?_) fun _=>?_
          all_goals exact wpS_loHead (st:=setG st g2) hO hM hk hH2 (fun o r g' hm=>⟨_,rfl,.inl ⟨o,r,rfl,hm⟩⟩) (fun _ _ _ _ _ _ g' H hh=>⟨_,rfl,.inr ⟨_,_,_,_,_,_,rfl,H,by omega⟩⟩) fun _ _ _ _ _ _ g' H hh=>⟨_,_,_,_,_,_,_,rfl,rfl,H,by omega,by omega⟩
        case p2 =>
          rintro c st' ⟨g2,rfl,⟨o,r,rfl,hm⟩ | ⟨out2,ia2,ib2,mg2,ac2,bc2,rfl,hH2,h2⟩⟩
          · exact wpS_pure ⟨_,_,_,rfl,rfl,hm⟩
          · dsimp only
            rw [setMG'_eq]
            exact wpS_bind (wpS_modify (wpS_pure ⟨_,_,_,_,_,rfl,rfl,hH2,by omega⟩))
end
abbrev H1:=Option KA×Nat×Nat×KA×Nat×Nat
abbrev H2:=Option KA×Nat×Nat×KA×Nat×Nat×Nat
abbrev H3:=Option KA×Nat×Nat×KA×Nat
def hiDone (a b out:KA) (na nb:Nat):KA:=a.extract 0 na ++ b.extract 0 nb ++ out.reverse
def hiFirst (a b out:KA) (na nb:Nat):KA:=b.extract 0 nb ++ a.extract 0 na ++ out.reverse
def hiOne (a b:KA) (mg:Nat) (c:H1):SM (ForInStep H1):=do
  let x ← elem' b (c.2.2.1 - 1)
  let y ← elem' a (c.2.1 - 1)
  let z ← lt' x y
  match z with
  | some aw =>
    if aw = true then do
      let y ← elem' a (c.2.1 - 1)
      if (c.2.1 - 1 == 0) = true then pure (.done (some (hiDone a b (c.2.2.2.1.push y) (c.2.1 - 1) c.2.2.1),c.2.1 - 1,c.2.2.1,c.2.2.2.1.push y,c.2.2.2.2.1 + 1,0))
      else if c.2.2.2.2.1 + 1 ≥ mg then pure (.done (none,c.2.1 - 1,c.2.2.1,c.2.2.2.1.push y,c.2.2.2.2.1 + 1,0))
      else pure (.yield (none,c.2.1 - 1,c.2.2.1,c.2.2.2.1.push y,c.2.2.2.2.1 + 1,0))
    else do
      let x ← elem' b (c.2.2.1 - 1)
      if (c.2.2.1 - 1 == 1) = true then pure (.done (some (hiFirst a b (c.2.2.2.1.push x) c.2.1 (c.2.2.1 - 1)),c.2.1,c.2.2.1 - 1,c.2.2.2.1.push x,0,c.2.2.2.2.2 + 1))
      else if c.2.2.2.2.2 + 1 ≥ mg then pure (.done (none,c.2.1,c.2.2.1 - 1,c.2.2.2.1.push x,0,c.2.2.2.2.2 + 1))
      else pure (.yield (none,c.2.1,c.2.2.1 - 1,c.2.2.2.1.push x,0,c.2.2.2.2.2 + 1))
  | _=>pure (.done (some (hiDone a b c.2.2.2.1 c.2.1 c.2.2.1),c.2.1,c.2.2.1,c.2.2.2.1,c.2.2.2.2.1,c.2.2.2.2.2))
def hiTail (a b out:KA) (na nb mg ac bc:Nat):SM (ForInStep H2):=do
  let y ← elem' a (na - 1)
  if (na - 1 == 0) = true then pure (.done (some (hiDone a b (out.push y) (na - 1) nb),na - 1,nb,out.push y,mg,ac,bc))
  else if (decide (ac < 7) && decide (bc < 7)) = true then pure (.done (none,na - 1,nb,out.push y,mg,ac,bc))
  else pure (.yield (none,na - 1,nb,out.push y,mg,ac,bc))
def hiMid (a b out:KA) (na nb mg ac bc:Nat):SM (ForInStep H2):=do
  let x ← elem' b (nb - 1)
  if (nb - 1 == 1) = true then pure (.done (some (hiFirst a b (out.push x) na (nb - 1)),na,nb - 1,out.push x,mg,ac,bc))
  else do
    let y ← elem' a (na - 1)
    let r ← gallop' true y b 0 (nb - 1) (nb - 1 - 1)
    match r with
    | some k =>
      if nb - 1 - k > 0 then
        if (k == 1) = true then pure (.done (some (hiFirst a b (out.push x ++ (b.extract k (nb - 1)).reverse) na k),na,k,out.push x ++ (b.extract k (nb - 1)).reverse,mg,ac,nb - 1 - k))
        else if (k == 0) = true then pure (.done (some (hiDone a b (out.push x ++ (b.extract k (nb - 1)).reverse) na k),na,k,out.push x ++ (b.extract k (nb - 1)).reverse,mg,ac,nb - 1 - k))
        else hiTail a b (out.push x ++ (b.extract k (nb - 1)).reverse) na k mg ac (nb - 1 - k)
      else hiTail a b (out.push x) na (nb - 1) mg ac (nb - 1 - k)
    | _=>pure (.done (some (hiDone a b (out.push x) na (nb - 1)),na,nb - 1,out.push x,mg,ac,bc))
def hiHead (a b out:KA) (na nb mg ac bc:Nat):SM (ForInStep H2):=do
  setMG' mg
  let x ← elem' b (nb - 1)
  let r ← gallop' false x a 0 na (na - 1)
  match r with
  | some k =>
    if na - k > 0 then
      if (k == 0) = true then pure (.done (some (hiDone a b (out ++ (a.extract k na).reverse) k nb),k,nb,out ++ (a.extract k na).reverse,mg,na - k,bc))
      else hiMid a b (out ++ (a.extract k na).reverse) k nb mg (na - k) bc
    else hiMid a b out na nb mg (na - k) bc
  | _=>pure (.done (some (hiDone a b out na nb),na,nb,out,mg,ac,bc))
def hiGal (a b:KA) (c:H2):SM (ForInStep H2) :=
  if c.2.2.2.2.1 > 1 then hiHead a b c.2.2.2.1 c.2.1 c.2.2.1 (c.2.2.2.2.1 - 1) c.2.2.2.2.2.1 c.2.2.2.2.2.2
  else hiHead a b c.2.2.2.1 c.2.1 c.2.2.1 c.2.2.2.2.1 c.2.2.2.2.2.1 c.2.2.2.2.2.2
def hiOuter (a b:KA) (c:H3):SM (ForInStep H3):=do
  let r ← forIn [:a.size + b.size] ((none,c.2.1,c.2.2.1,c.2.2.2.1,0,0):H1) fun _ d=>hiOne a b c.2.2.2.2 d
  match r.1 with
  | some o=>pure (.done (some o,r.2.1,r.2.2.1,r.2.2.2.1,c.2.2.2.2))
  | none=>do
    liftM (rule "list.sort.gallop")
    let q ← forIn [:a.size + b.size] ((none,r.2.1,r.2.2.1,r.2.2.2.1,c.2.2.2.2 + 1,r.2.2.2.2.1,r.2.2.2.2.2):H2) fun _ d=>hiGal a b d
    match q.1 with
    | some o=>pure (.done (some o,q.2.1,q.2.2.1,q.2.2.2.1,q.2.2.2.2.1))
    | none=>do
      setMG' (q.2.2.2.2.1 + 1)
      pure (.yield (none,q.2.1,q.2.2.1,q.2.2.2.1,q.2.2.2.2.1 + 1))
theorem mergeHi'_eq2 (a b:KA):mergeHi' a b = (do
  liftM (rule "list.sort.merge-hi")
  let x ← elem' a (a.size - 1)
  if (a.size - 1 == 0) = true then pure (hiDone a b #[x] (a.size - 1) b.size)
  else if (b.size == 1) = true then pure (hiFirst a b #[x] (a.size - 1) b.size)
  else do
    let st ← get
    let r ← forIn [:a.size + b.size] ((none,a.size - 1,b.size,#[x],gallopOf st):H3) fun _ d=>hiOuter a b d
    match r.1 with
    | some o=>pure o
    | none=>liftM (unsupported "internal:list.sort.merge-bound")):=by kernel_rfl
section pure
variable {κ:KeyKind}
theorem Srt.mv' {o k r t:List Keyed} (h1:Srt κ ((r ++ k) ++ o)) (h2:Srt κ (t ++ o)) (h:∀ x ∈ t,∀ y ∈ k,κ.kle (kv κ x) (kv κ y)):Srt κ (r ++ (k ++ o))∧Srt κ (t ++ (k ++ o)):=by
  rw [List.append_assoc] at h1
  refine ⟨h1,?_⟩
  have h3:=(Srt.app.mp h1).2.1
  obtain ⟨b1,b2,b3⟩:=Srt.app.mp h2
  refine Srt.app.mpr ⟨b1,h3,fun x hx y hy=>?_⟩
  rcases List.mem_append.mp hy with hy | hy
  · exact h x hx y hy
  · exact b3 x hx y hy
structure HiI (κ:KeyKind) (a b out:KA) (na nb:Nat):Prop where
  ha:na ≤ a.size
  hb:nb ≤ b.size
  perm:out.toList.Perm (a.toList.drop na ++ b.toList.drop nb)
  sa:Srt κ (a.toList.take na ++ out.toList.reverse)
  sb:Srt κ (b.toList.take nb ++ out.toList.reverse)
theorem take_split {α:Type} (l:List α) {i n:Nat} (h:i ≤ n):l.take n = l.take i ++ (l.drop i).take (n - i):=by
  rw [← List.take_add]; congr 1; omega
theorem drop_split {α:Type} (l:List α) {i n:Nat} (h:i ≤ n):l.drop i = (l.drop i).take (n - i) ++ l.drop n:=by
  rw [drop_take_drop l i (n - i)]
  congr 1
  · rw [← drop_take_drop l i (n - i)]
  · congr 1; omega
theorem HiI.blkA {a b out:KA} {na nb:Nat} (h:HiI κ a b out na nb) (k:Nat) (hk:k ≤ na) {o:KA} (ho:o.toList.reverse = (a.toList.drop k).take (na - k) ++ out.toList.reverse)
    (hle:∀ x ∈ b.toList.take nb,∀ y ∈ (a.toList.drop k).take (na - k),κ.kle (kv κ x) (kv κ y)):HiI κ a b o k nb:=by
  have h1:=h.sa
  rw [take_split _ hk] at h1
  obtain ⟨s1,s2⟩:=Srt.mv' h1 h.sb hle
  have ha:=h.ha
  refine ⟨by omega,h.hb,?_,by rw [ho]; exact s1,by rw [ho]; exact s2⟩
  rw [drop_split a.toList hk,List.append_assoc]
  refine (List.reverse_perm _).symm.trans ?_
  rw [ho]
  exact List.Perm.append_left _ ((List.reverse_perm _).trans h.perm)
theorem HiI.blkB {a b out:KA} {na nb:Nat} (h:HiI κ a b out na nb) (k:Nat) (hk:k ≤ nb) {o:KA} (ho:o.toList.reverse = (b.toList.drop k).take (nb - k) ++ out.toList.reverse)
    (hle:∀ x ∈ a.toList.take na,∀ y ∈ (b.toList.drop k).take (nb - k),κ.kle (kv κ x) (kv κ y)):HiI κ a b o na k:=by
  have h1:=h.sb
  rw [take_split _ hk] at h1
  obtain ⟨s1,s2⟩:=Srt.mv' h1 h.sa hle
  have hb:=h.hb
  refine ⟨h.ha,by omega,?_,by rw [ho]; exact s2,by rw [ho]; exact s1⟩
  rw [drop_split b.toList hk]
  refine (List.reverse_perm _).symm.trans ?_
  rw [ho]
  refine (List.Perm.append_left _ ((List.reverse_perm _).trans h.perm)).trans ?_
  rw [← List.append_assoc,← List.append_assoc]
  exact List.perm_append_comm.append_right _
theorem mem_take_iff {a:KA} {n:Nat} {x:Keyed} (h:x ∈ a.toList.take n):∃ j,∃ (hj:j < a.size),j < n∧x = a[j]:=by
  obtain ⟨j,hj,e⟩:=List.mem_iff_getElem.mp h
  rw [List.getElem_take] at e
  rw [List.length_take] at hj
  have hl:j < a.size:=by simpa using (by omega:j < a.toList.length)
  exact ⟨j,hl,by omega,by rw [← e]; simp⟩
theorem ext_to (a:KA) (n:Nat):(a.extract 0 n).toList = a.toList.take n:=by
  rw [Array.toList_extract,List.extract_eq_take_drop]; simp
theorem ext_mid (a:KA) (k n:Nat):(a.extract k n).toList = (a.toList.drop k).take (n - k):=by
  rw [Array.toList_extract,List.extract_eq_take_drop]
theorem one_back {a:KA} {n:Nat} (h0:0 < n) (h:n ≤ a.size):(a.toList.drop (n - 1)).take (n - (n - 1)) = [a[n - 1]'(by omega)]:=by
  rw [show n - (n - 1) = 1 by omega]; exact drop_one (by omega)
theorem perm_fin' {o a b:List Keyed} {i j:Nat} (h:o.Perm (a.drop i ++ b.drop j)):(a.take i ++ b.take j ++ o).Perm (a ++ b):=by
  have e:(a ++ b).Perm ((a.take i ++ a.drop i) ++ (b.take j ++ b.drop j)):=by rw [List.take_append_drop,List.take_append_drop]
  refine (List.Perm.append_left _ h).trans (List.Perm.trans ?_ e.symm)
  simp only [List.append_assoc]
  refine List.Perm.append_left _ ?_
  rw [← List.append_assoc,← List.append_assoc]
  exact List.perm_append_comm.append_right _
theorem HiI.done {a b out:KA} {na nb:Nat} (h:HiI κ a b out na nb) (hz:nb = 0∨na = 0):Mrg κ a b (hiDone a b out na nb):=by
  have e:(hiDone a b out na nb).toList = a.toList.take na ++ b.toList.take nb ++ out.toList.reverse:=by
    unfold hiDone; rw [Array.toList_append,Array.toList_append,ext_to,ext_to,Array.toList_reverse]
  refine ⟨?_,?_⟩
  · rw [e]; exact perm_fin' ((List.reverse_perm _).trans h.perm)
  rw [e]
  rcases hz with rfl | rfl
  · rw [List.take_zero,List.append_nil]; exact h.sa
  · rw [List.take_zero,List.nil_append]; exact h.sb
theorem HiI.first {a b out:KA} {na nb:Nat} (h:HiI κ a b out na nb) (hle:∀ x ∈ b.toList.take nb,∀ y ∈ a.toList.take na,κ.kle (kv κ x) (kv κ y)):Mrg κ a b (hiFirst a b out na nb):=by
  have e:(hiFirst a b out na nb).toList = b.toList.take nb ++ a.toList.take na ++ out.toList.reverse:=by
    unfold hiFirst; rw [Array.toList_append,Array.toList_append,ext_to,ext_to,Array.toList_reverse]
  refine ⟨?_,?_⟩
  · rw [e]
    exact (perm_fin' (((List.reverse_perm _).trans h.perm).trans List.perm_append_comm)).trans List.perm_append_comm
  · rw [e,List.append_assoc]
    have h1:=h.sa
    rw [← List.nil_append (a.toList.take na)] at h1
    exact (Srt.mv' h1 h.sb hle).2
end pure
section
variable {prog:Program} {w:World} {A:Around} {E:Value→Shared→Prop} {s:Shared} {κ:KeyKind}
structure HiH (κ:KeyKind) (a b out:KA) (na nb:Nat):Prop where
  i:HiI κ a b out na nb
  la:0 < na
  lb:1 < nb
theorem leFirst {a b:KA} (h:MArg κ a b) {na nb:Nat} (hnb:nb = 1):∀ x ∈ b.toList.take nb,∀ y ∈ a.toList.take na,κ.kle (kv κ x) (kv κ y):=by
  intro x hx y hy
  obtain ⟨j,hj,hj2,rfl⟩:=mem_take_iff hx
  obtain ⟨i,hi,hi2,rfl⟩:=mem_take_iff hy
  have e:j = 0:=by omega
  subst e
  exact KeyOrd.kle_trans (KeyOrd.kle_of_klt h.first) (h.sa.at (by omega) hi)
theorem HiI.pushA {a b out:KA} {na nb:Nat} (h:HiI κ a b out na nb) (h0:0 < na) (hs:na ≤ a.size) (hle:∀ j (hj:j < b.size),j < nb→κ.kle (kv κ b[j]) (kv κ (a[na - 1]'(by omega)))):HiI κ a b (out.push (a[na - 1]'(by omega))) (na - 1) nb :=
  h.blkA (na - 1) (by omega) (by rw [one_back h0 hs,Array.toList_push,List.reverse_append]; rfl) (by
    intro x hx y hy
    rw [one_back h0 hs,List.mem_singleton] at hy
    subst hy
    obtain ⟨j,hj,hj2,rfl⟩:=mem_take_iff hx
    exact hle j hj hj2)
theorem HiI.pushB {a b out:KA} {na nb:Nat} (h:HiI κ a b out na nb) (h0:0 < nb) (hs:nb ≤ b.size) (hle:∀ j (hj:j < a.size),j < na→κ.kle (kv κ a[j]) (kv κ (b[nb - 1]'(by omega)))):HiI κ a b (out.push (b[nb - 1]'(by omega))) na (nb - 1) :=
  h.blkB (nb - 1) (by omega) (by rw [one_back h0 hs,Array.toList_push,List.reverse_append]; rfl) (by
    intro x hx y hy
    rw [one_back h0 hs,List.mem_singleton] at hy
    subst hy
    obtain ⟨j,hj,hj2,rfl⟩:=mem_take_iff hx
    exact hle j hj hj2)
theorem wpS_hiOne (hO:κ.OneLt) {a b:KA} (hM:MArg κ a b) {st:SortSt} (hk:kindOf st = oneType') {mg:Nat} {out:KA} {na nb ac bc:Nat} (h:HiH κ a b out na nb) {Q:ForInStep H1→SortSt→Prop}
    (hr:∀ o r,Mrg κ a b o→Q (.done (some o,r)) st)
    (hd:∀ out' na' nb' ac' bc',HiH κ a b out' na' nb'→na' + nb' < na + nb→Q (.done (none,na',nb',out',ac',bc')) st)
    (hy:∀ out' na' nb' ac' bc',HiH κ a b out' na' nb'→na' + nb' < na + nb→Q (.yield (none,na',nb',out',ac',bc')) st) :
    wpS (model prog w) A E s (hiOne a b mg (none,na,nb,out,ac,bc)) Q st:=by
  have la:=h.la
  have lb:=h.lb
  have ha:=h.i.ha
  have hb:=h.i.hb
  unfold hiOne
  dsimp only
  have ia:na - 1 < a.size:=by omega
  have ib:nb - 1 < b.size:=by omega
  refine wpS_bind (wpS_elem ib (wpS_bind (wpS_elem ia (wpS_bind (wpS_lt hO hk (hM.kb _ (Array.getElem_mem _)) (hM.ka _ (Array.getElem_mem _)) ?_)))))
  cases hw:κ.blt (kv κ b[nb - 1]) (kv κ a[na - 1]) with
  | true =>
    dsimp only
    rw [if_pos rfl]
    refine wpS_bind (wpS_elem ia ?_)
    have I:=h.i.pushA la ha (fun j hj hj2=>KeyOrd.kle_trans (hM.sb.at (by omega) ib) (KeyOrd.kle_of_klt hw))
    refine wpS_if (fun e=>wpS_pure (hr _ _ (I.done (.inr (by simpa using e))))) fun e=>?_
    have e':na - 1 ≠ 0:=by simpa using e
    have H:HiH κ a b _ _ _:=⟨I,by omega,lb⟩
    exact wpS_if (fun _=>wpS_pure (hd _ _ _ _ _ H (by omega))) fun _=>wpS_pure (hy _ _ _ _ _ H (by omega))
  | false =>
    dsimp only
    rw [if_neg (by simp)]
    refine wpS_bind (wpS_elem ib ?_)
    have I:=h.i.pushB (by omega) hb (fun j hj hj2=>KeyOrd.kle_trans (hM.sa.at (by omega) ia) (show κ.kle _ _ from hw))
    refine wpS_if (fun e=>wpS_pure (hr _ _ (I.first (leFirst hM (by simpa using e))))) fun e=>?_
    have e':nb - 1 ≠ 1:=by simpa using e
    have H:HiH κ a b _ _ _:=⟨I,la,by omega⟩
    exact wpS_if (fun _=>wpS_pure (hd _ _ _ _ _ H (by omega))) fun _=>wpS_pure (hy _ _ _ _ _ H (by omega))
theorem wpS_hiTail {a b:KA} (hM:MArg κ a b) {st:SortSt} {mg:Nat} {out:KA} {na nb ac bc:Nat} (h:HiI κ a b out na nb) (la:0 < na) (hna:na ≤ a.size) (lb:1 < nb)
    (hle:∀ j (hj:j < b.size),j < nb→κ.kle (kv κ b[j]) (kv κ (a[na - 1]'(by omega)))) {Q:ForInStep H2→SortSt→Prop}
    (hr:∀ o r,Mrg κ a b o→Q (.done (some o,r)) st)
    (hd:∀ out' na' nb' mg' ac' bc',HiH κ a b out' na' nb'→na' + nb' < na + nb→Q (.done (none,na',nb',out',mg',ac',bc')) st)
    (hy:∀ out' na' nb' mg' ac' bc',HiH κ a b out' na' nb'→na' + nb' < na + nb→Q (.yield (none,na',nb',out',mg',ac',bc')) st) :
    wpS (model prog w) A E s (hiTail a b out na nb mg ac bc) Q st:=by
  unfold hiTail
  have ia:na - 1 < a.size:=by omega
  refine wpS_bind (wpS_elem ia ?_)
  have I:=h.pushA la hna hle
  refine wpS_if (fun e=>wpS_pure (hr _ _ (I.done (.inr (by simpa using e))))) fun e=>?_
  have e':na - 1 ≠ 0:=by simpa using e
  have H:HiH κ a b _ _ _:=⟨I,by omega,lb⟩
  exact wpS_if (fun _=>wpS_pure (hd _ _ _ _ _ _ H (by omega))) fun _=>wpS_pure (hy _ _ _ _ _ _ H (by omega))
theorem wpS_hiMid (hO:κ.OneLt) {a b:KA} (hM:MArg κ a b) {st:SortSt} (hk:kindOf st = oneType') {mg:Nat} {out:KA} {na nb ac bc:Nat} (h:HiI κ a b out na nb) (la:0 < na) (lb:1 < nb) (hnb:nb ≤ b.size)
    (hle:∀ j (hj:j < a.size),j < na→κ.kle (kv κ a[j]) (kv κ (b[nb - 1]'(by omega)))) {Q:ForInStep H2→SortSt→Prop}
    (hr:∀ o r,Mrg κ a b o→Q (.done (some o,r)) st)
    (hd:∀ out' na' nb' mg' ac' bc',HiH κ a b out' na' nb'→na' + nb' < na + nb→Q (.done (none,na',nb',out',mg',ac',bc')) st)
    (hy:∀ out' na' nb' mg' ac' bc',HiH κ a b out' na' nb'→na' + nb' < na + nb→Q (.yield (none,na',nb',out',mg',ac',bc')) st) :
    wpS (model prog w) A E s (hiMid a b out na nb mg ac bc) Q st:=by
  unfold hiMid
  have ha:=h.ha
  have ia:na - 1 < a.size:=by omega
  have ib:nb - 1 < b.size:=by omega
  refine wpS_bind (wpS_elem ib ?_)
  have I:=h.pushB (by omega) hnb hle
  refine wpS_if (fun e=>wpS_pure (hr _ _ (I.first (leFirst hM (by simpa using e))))) fun e=>?_
  have e':nb - 1 ≠ 1:=by simpa using e
  refine wpS_bind (wpS_elem ia (wpS_bind (wpS_gallopL hO hk (hM.ka _ (Array.getElem_mem _)) hM.kb (by omega) (fun i j hij hj=>hM.sb.at (by omega) (by omega)) (by omega) fun k hkn h1 h2=>?_)))
  dsimp only
  simp only [Nat.zero_add] at h1 h2
  have I2:HiI κ a b (out.push b[nb - 1] ++ (b.extract k (nb - 1)).reverse) na k:=I.blkB k hkn (by rw [Array.toList_append,List.reverse_append,Array.toList_reverse,List.reverse_reverse,ext_mid]) (by
    intro x hx y hy
    obtain ⟨j,hj,hj1,hj2,rfl⟩:=mem_dt hy
    obtain ⟨i,hi,hi2,rfl⟩:=mem_take_iff hx
    exact KeyOrd.kle_trans (hM.sa.at (by omega) ia) (h2 j hj1 (by omega)))
  have I3:∀ j (hj:j < b.size),j < k→κ.kle (kv κ b[j]) (kv κ a[na - 1]):=fun j hj hjj=>KeyOrd.kle_of_klt (h1 j hjj)
  refine wpS_if (fun hk0=>?_) fun hk0=>?_
  · refine wpS_if (fun e=>wpS_pure (hr _ _ (I2.first (leFirst hM (by simpa using e))))) fun e1=>?_
    refine wpS_if (fun e=>wpS_pure (hr _ _ (I2.done (.inl (by simpa using e))))) fun e2=>?_
    have e1':k ≠ 1:=by simpa using e1
    have e2':k ≠ 0:=by simpa using e2
    exact wpS_hiTail hM I2 la ha (by omega) I3 hr (fun _ _ _ _ _ _ H hh=>hd _ _ _ _ _ _ H (by omega)) fun _ _ _ _ _ _ H hh=>hy _ _ _ _ _ _ H (by omega)
  · have:k = nb - 1:=by omega
    subst this
    exact wpS_hiTail hM I la ha (by omega) I3 hr (fun _ _ _ _ _ _ H hh=>hd _ _ _ _ _ _ H (by omega)) fun _ _ _ _ _ _ H hh=>hy _ _ _ _ _ _ H (by omega)
theorem wpS_hiHead (hO:κ.OneLt) {a b:KA} (hM:MArg κ a b) {st:SortSt} (hk:kindOf st = oneType') {mg:Nat} {out:KA} {na nb ac bc:Nat} (h:HiH κ a b out na nb) {Q:ForInStep H2→SortSt→Prop}
    (hr:∀ o r g,Mrg κ a b o→Q (.done (some o,r)) (setG st g))
    (hd:∀ out' na' nb' mg' ac' bc' g,HiH κ a b out' na' nb'→na' + nb' < na + nb→Q (.done (none,na',nb',out',mg',ac',bc')) (setG st g))
    (hy:∀ out' na' nb' mg' ac' bc' g,HiH κ a b out' na' nb'→na' + nb' < na + nb→Q (.yield (none,na',nb',out',mg',ac',bc')) (setG st g)) :
    wpS (model prog w) A E s (hiHead a b out na nb mg ac bc) Q st:=by
  unfold hiHead
  have la:=h.la
  have lb:=h.lb
  have I:=h.i
  have ha:=I.ha
  have hb:=I.hb
  have ib:nb - 1 < b.size:=by omega
  rw [setMG'_eq]
  refine wpS_bind (wpS_modify (wpS_bind (wpS_elem ib (wpS_bind (wpS_gallopR hO (show kindOf (setG st mg) = oneType' from hk) (hM.kb _ (Array.getElem_mem _)) hM.ka (by omega) (fun i j hij hj=>hM.sa.at (by omega) (by omega)) (by omega) fun k hkn h1 h2=>?_)))))
  dsimp only
  simp only [Nat.zero_add] at h1 h2
  have I2:HiI κ a b (out ++ (a.extract k na).reverse) k nb:=I.blkA k hkn (by rw [Array.toList_append,List.reverse_append,Array.toList_reverse,List.reverse_reverse,ext_mid]) (by
    intro x hx y hy
    obtain ⟨j,hj,hj1,hj2,rfl⟩:=mem_dt hy
    obtain ⟨i,hi,hi2,rfl⟩:=mem_take_iff hx
    exact KeyOrd.kle_trans (hM.sb.at (by omega) ib) (KeyOrd.kle_of_klt (h2 j hj1 (by omega))))
  have I3:∀ j (hj:j < a.size),j < k→κ.kle (kv κ a[j]) (kv κ b[nb - 1]):=fun j hj hjj=>h1 j hjj
  refine wpS_if (fun hk0=>?_) fun hk0=>?_
  · refine wpS_if (fun e=>wpS_pure (hr _ _ _ (I2.done (.inr (by simpa using e))))) fun e=>?_
    have e':k ≠ 0:=by simpa using e
    exact wpS_hiMid (st:=setG st mg) hO hM hk I2 (by omega) lb hb I3 (fun _ _=>hr _ _ _) (fun _ _ _ _ _ _ H hh=>hd _ _ _ _ _ _ _ H (by omega)) fun _ _ _ _ _ _ H hh=>hy _ _ _ _ _ _ _ H (by omega)
  · have:k = na:=by omega
    subst this
    exact wpS_hiMid (st:=setG st mg) hO hM hk I (by omega) lb hb I3 (fun _ _=>hr _ _ _) (fun _ _ _ _ _ _ H hh=>hd _ _ _ _ _ _ _ H (by omega)) fun _ _ _ _ _ _ H hh=>hy _ _ _ _ _ _ _ H (by omega)
theorem wpS_mergeHi (hO:κ.OneLt) {a b:KA} (hM:MArg κ a b) {st:SortSt} (hk:kindOf st = oneType') {Q:KA→SortSt→Prop} (h:∀ o g,Mrg κ a b o→Q o (setG st g)):wpS (model prog w) A E s (mergeHi' a b) Q st:=by
  have ha:=hM.ha
  have hb:=hM.hb
  rw [mergeHi'_eq2]
  refine wpS_bind (wpS_lift (wpAny_rule ⟨rfl,?_⟩))
  have ia:a.size - 1 < a.size:=by omega
  refine wpS_bind (wpS_elem ia ?_)
  have I:HiI κ a b #[a[a.size - 1]] (a.size - 1) b.size:=HiI.pushA (out:=#[]) (na:=a.size) (nb:=b.size) ⟨Nat.le_refl _,Nat.le_refl _,by simp [List.drop_of_length_le],by
      rw [List.take_of_length_le (by simp)]; simpa using hM.sa,by rw [List.take_of_length_le (by simp)]; simpa using hM.sb⟩ ha (Nat.le_refl _) (fun j hj _=>KeyOrd.kle_trans (hM.sb.at (by omega) (by omega)) (KeyOrd.kle_of_klt hM.last))
  refine wpS_if (fun e=>wpS_pure (h _ (gallopOf st) (I.done (.inr (by simpa using e))))) fun e1=>?_
  refine wpS_if (fun e=>wpS_pure (h _ (gallopOf st) (I.first (leFirst hM (by simpa using e))))) fun e2=>?_
  have e1':a.size - 1 ≠ 0:=by simpa using e1
  have e2':b.size ≠ 1:=by simpa using e2
  have H0:HiH κ a b #[a[a.size - 1]] (a.size - 1) b.size:=⟨I,by omega,by omega⟩
  refine wpS_bind (wpS_get ?_)
  refine wpS_bind (wpS_mono (wpS_forRange (I:=fun x c st'=>∃ out na nb mg g,c = (none,na,nb,out,mg)∧st' = setG st g∧HiH κ a b out na nb∧x + na + nb ≤ a.size + b.size)
    (Q:=fun c st'=>∃ o r g,c = (some o,r)∧st' = setG st g∧Mrg κ a b o) ?step ?fin ⟨_,_,_,_,gallopOf st,rfl,rfl,H0,by omega⟩) ?post)
  case post =>
    rintro c st' ⟨o,r,g,rfl,rfl,hm⟩
    exact wpS_pure (h _ _ hm)
  case fin =>
    rintro c st' ⟨out,na,nb,mg,g,rfl,rfl,hH,hx⟩
    have:=hH.la
    have:=hH.lb
    omega
  case step =>
    rintro x c st' _ hx ⟨out,na,nb,mg,g,rfl,rfl,hH,hxi⟩
    unfold hiOuter
    dsimp only
    have q1:=hH.i.ha
    have q2:=hH.i.hb
    refine wpS_bind (wpS_mono (wpS_forRange (I:=fun y c st'=>∃ out' na' nb' ac bc,c = (none,na',nb',out',ac,bc)∧st' = setG st g∧HiH κ a b out' na' nb'∧na' + nb' ≤ na + nb∧y + na' + nb' ≤ a.size + b.size∧(0 < y→na' + nb' < na + nb))
      (Q:=fun c st'=>st' = setG st g∧((∃ o r,c = (some o,r)∧Mrg κ a b o)∨∃ out' na' nb' ac bc,c = (none,na',nb',out',ac,bc)∧HiH κ a b out' na' nb'∧na' + nb' < na + nb)) ?s1 ?f1 ⟨_,_,_,_,_,rfl,rfl,hH,Nat.le_refl _,by omega,by omega⟩) ?p1)
    case f1 =>
      rintro c st' ⟨out',na',nb',ac,bc,rfl,rfl,hH',h1,h2,h3⟩
      have:=hH'.la
      have:=hH'.lb
      omega
    case s1 =>
      rintro y c st' _ hy ⟨out',na',nb',ac,bc,rfl,rfl,hH',h1,h2,h3⟩
      refine wpS_hiOne (st:=setG st g) hO hM hk hH' (fun o r hm=>⟨rfl,.inl ⟨o,r,rfl,hm⟩⟩) (fun _ _ _ _ _ H hh=>⟨rfl,.inr ⟨_,_,_,_,_,rfl,H,by omega⟩⟩) fun _ _ _ _ _ H hh=>⟨_,_,_,_,_,rfl,rfl,H,by omega,by omega,by omega⟩
    case p1 =>
      rintro c st' ⟨rfl,⟨o,r,rfl,hm⟩ | ⟨out',na',nb',ac,bc,rfl,hH',h1⟩⟩
      · exact wpS_pure ⟨_,_,_,rfl,rfl,hm⟩
      · dsimp only
        refine wpS_bind (wpS_lift (wpAny_rule ⟨rfl,?_⟩))
        refine wpS_bind (wpS_mono (wpS_forRange (I:=fun y c st'=>∃ out2 na2 nb2 mg2 ac2 bc2 g2,c = (none,na2,nb2,out2,mg2,ac2,bc2)∧st' = setG st g2∧HiH κ a b out2 na2 nb2∧na2 + nb2 < na + nb∧y + na2 + nb2 ≤ a.size + b.size)
          (Q:=fun c st'=>∃ g2,st' = setG st g2∧((∃ o r,c = (some o,r)∧Mrg κ a b o)∨∃ out' na' nb' mg ac bc,c = (none,na',nb',out',mg,ac,bc)∧HiH κ a b out' na' nb'∧na' + nb' < na + nb)) ?s2 ?f2 ⟨_,_,_,_,_,_,_,rfl,rfl,hH',h1,by omega⟩) ?p2)
        case f2 =>
          rintro c st' ⟨out2,na2,nb2,mg2,ac2,bc2,g2,rfl,rfl,hH2,h2,h3⟩
          have:=hH2.la
          have:=hH2.lb
          omega
        case s2 =>
          rintro y c st' _ hy ⟨out2,na2,nb2,mg2,ac2,bc2,g2,rfl,rfl,hH2,h2,h3⟩
          unfold hiGal
          dsimp only
          refine wpS_if (fun _=>?_) fun _=>?_
          all_goals exact wpS_hiHead (st:=setG st g2) hO hM hk hH2 (fun o r g' hm=>⟨_,rfl,.inl ⟨o,r,rfl,hm⟩⟩) (fun _ _ _ _ _ _ g' H hh=>⟨_,rfl,.inr ⟨_,_,_,_,_,_,rfl,H,by omega⟩⟩) fun _ _ _ _ _ _ g' H hh=>⟨_,_,_,_,_,_,_,rfl,rfl,H,by omega,by omega⟩
        case p2 =>
          rintro c st' ⟨g2,rfl,⟨o,r,rfl,hm⟩ | ⟨out2,na2,nb2,mg2,ac2,bc2,rfl,hH2,h2⟩⟩
          · exact wpS_pure ⟨_,_,_,rfl,rfl,hm⟩
          · dsimp only
            rw [setMG'_eq]
            exact wpS_bind (wpS_modify (wpS_pure ⟨_,_,_,_,_,rfl,rfl,hH2,by omega⟩))
end
def putAll (o:KA) (at_:Nat) (a:KA):KA:=o.toList.zipIdx.foldl (fun a p=>a.setIfInBounds (at_ + p.2) p.1) a
def maRest (sb:Nat) (s:SortSt) (sa na nb:Nat):SM Bool:=do
  if (nb == 0) = true then pure true
  else do
    let o ← if na ≤ nb then mergeLo' ((arrOf s).extract sa sb) ((arrOf s).extract sb (sb + nb)) else mergeHi' ((arrOf s).extract sa sb) ((arrOf s).extract sb (sb + nb))
    modify fun s=>setArr s (putAll o sa (arrOf s))
    let s ← get
    pure (failedOf s).isNone
theorem mergeAt'_eq2 (i:Nat):mergeAt' i = (do
    let s ← get
    match ((pendingOf s)[i]?,(pendingOf s)[i + 1]?) with
    | (some (sa,na,power),some (sb,nb,_))=>do
      set (setPending s (((pendingOf s).setIfInBounds i (sa,na + nb,power)).eraseIdxIfInBounds (i + 1)))
      let x ← elem' (arrOf s) sb
      let z ← gallop' false x (arrOf s) sa na 0
      match z with
      | some k =>
        if (na - k == 0) = true then pure true
        else do
          let y ← elem' (arrOf s) (sa + k + (na - k) - 1)
          let z2 ← gallop' true y (arrOf s) sb nb (nb - 1)
          match z2 with
          | some m=>maRest sb s (sa + k) (na - k) m
          | _=>pure false
      | _=>pure false
    | _=>unsupported "internal:list.sort.pending"):=by kernel_rfl
theorem foldl_put (at_:Nat):∀ (l:List Keyed) (n:Nat) (a:KA),at_ + n + l.length ≤ a.size →
    ((l.zipIdx n).foldl (fun a p=>a.setIfInBounds (at_ + p.2) p.1) a).toList = a.toList.take (at_ + n) ++ (l ++ a.toList.drop (at_ + n + l.length))
  | [],n,a,h=>by simp
  | x :: l,n,a,h=>by
    rw [List.length_cons] at h
    rw [List.zipIdx_cons,List.foldl_cons,foldl_put at_ l (n + 1) _ (by rw [Array.size_setIfInBounds]; omega),Array.toList_setIfInBounds]
    have hl:at_ + n < a.toList.length:=by rw [Array.length_toList]; omega
    rw [show at_ + (n + 1) = at_ + n + 1 by omega,List.take_set,List.drop_set_of_lt (by omega),List.take_add_one,List.getElem?_eq_getElem hl,List.set_append_right _ _ (by rw [List.length_take]; omega)]
    rw [List.length_take,Nat.min_eq_left (by omega),Nat.sub_self]
    simp only [Option.toList_some,List.set_cons_zero,List.append_assoc,List.cons_append,List.nil_append,List.length_cons]
    rw [show at_ + n + 1 + l.length = at_ + n + (l.length + 1) by omega]
theorem putAll_eq (o:KA) (i:Nat) (a:KA) (h:i + o.size ≤ a.size):(putAll o i a).toList = a.toList.take i ++ (o.toList ++ a.toList.drop (i + o.size)):=by
  unfold putAll
  have:=foldl_put i o.toList 0 a (by rw [Array.length_toList]; omega)
  rw [Array.length_toList] at this
  exact this
section
variable {prog:Program} {w:World} {A:Around} {E:Value→Shared→Prop} {s:Shared} {κ:KeyKind}
theorem Srt.atL {l:List Keyed} (h:Srt κ l) {i j:Nat} (hij:i ≤ j) (hj:j < l.length):κ.kle (kv κ (l[i]'(by omega))) (kv κ l[j]):=by
  by_cases e:i = j
  · subst e; exact KeyOrd.kle_refl _
  · exact List.pairwise_iff_getElem.mp h i j (by omega) hj (by omega)
theorem wpS_mergeAt (hO:κ.OneLt) {i:Nat} {st:SortSt} {sa na sb nb pw pw2:Nat} {P Aa Bb R:List Keyed} {Q:Bool→SortSt→Prop}
    (hp1:(pendingOf st)[i]? = some (sa,na,pw)) (hp2:(pendingOf st)[i + 1]? = some (sb,nb,pw2)) (hsb:sb = sa + na)
    (he:(arrOf st).toList = P ++ (Aa ++ (Bb ++ R))) (hP:P.length = sa) (hA:Aa.length = na) (hB:Bb.length = nb) (ha0:0 < na) (hb0:0 < nb) (sA:Srt κ Aa) (sB:Srt κ Bb)
    (hK:∀ p ∈ arrOf st,HasK κ p) (hk:kindOf st = oneType') (hf:failedOf st = none)
    (h:∀ M st',M.Perm (Aa ++ Bb)→Srt κ M→kindOf st' = oneType'→failedOf st' = none→pendingOf st' = ((pendingOf st).setIfInBounds i (sa,na + nb,pw)).eraseIdxIfInBounds (i + 1)→(arrOf st').toList = P ++ (M ++ R)→Q true st') :
    wpS (model prog w) A E s (mergeAt' i) Q st:=by
  have hsz:(arrOf st).size = sa + na + nb + R.length:=by
    have:=congrArg List.length he
    simp only [Array.length_toList,List.length_append] at this
    omega
  have gA:∀ j (hj:j < na) (h':sa + j < (arrOf st).size),(arrOf st)[sa + j]'h' = Aa[j]'(by omega):=fun j hj h'=>by
    rw [← Array.getElem_toList]
    simp only [he]
    rw [List.getElem_append_right (by omega),List.getElem_append_left (by omega)]
    congr 1; omega
  have gB:∀ j (hj:j < nb) (h':sb + j < (arrOf st).size),(arrOf st)[sb + j]'h' = Bb[j]'(by omega):=fun j hj h'=>by
    rw [← Array.getElem_toList]
    simp only [he]
    rw [List.getElem_append_right (by omega),List.getElem_append_right (by omega),List.getElem_append_left (by omega)]
    congr 1; omega
  rw [mergeAt'_eq2]
  refine wpS_bind (wpS_get ?_)
  rw [hp1,hp2]
  dsimp only
  refine wpS_bind (wpS_modify (f:=fun _=>_) ?_)
  have e0:(arrOf st)[sb]'(by omega) = Bb[0]'(by omega):=gB 0 hb0 (by omega)
  refine wpS_bind (wpS_elem (by omega) ?_)
  rw [e0]
  have hK0:HasK κ (Bb[0]'(by omega)):=by rw [← e0]; exact hK _ (Array.getElem_mem _)
  refine wpS_bind (wpS_gallopR hO hk hK0 hK (by omega) (fun a b hab hb=>by rw [gA a (by omega),gA b hb]; exact sA.atL hab (by omega)) (by omega) fun k hkn k1 k2=>?_)
  dsimp only
  have k1':∀ j (hj:j < k),κ.kle (kv κ (Aa[j]'(by omega))) (kv κ (Bb[0]'(by omega))):=fun j hj=>by rw [← gA j (by omega) (by omega)]; exact k1 j hj
  have k2':∀ j (h1:k ≤ j) (hj:j < na),κ.klt (kv κ (Bb[0]'(by omega))) (kv κ (Aa[j]'(by omega))):=fun j h1 hj=>by rw [← gA j hj (by omega)]; exact k2 j h1 hj
  clear k1 k2
  refine wpS_if (fun ez=>?_) fun ez=>?_
  · have ez':na - k = 0:=by simpa using ez
    refine wpS_pure (h (Aa ++ Bb) _ (List.Perm.refl _) (Srt.app.mpr ⟨sA,sB,fun x hx y hy=>?_⟩) hk hf rfl (by rw [List.append_assoc]; exact he))
    obtain ⟨a,ha,rfl⟩:=List.mem_iff_getElem.mp hx
    obtain ⟨b,hb,rfl⟩:=List.mem_iff_getElem.mp hy
    exact KeyOrd.kle_trans (k1' a (by omega)) (sB.atL (by omega) hb)
  have ez':na - k ≠ 0:=by simpa using ez
  have e1:∀ h',(arrOf st)[sa + k + (na - k) - 1]'h' = Aa[na - 1]'(by omega):=fun h'=>by
    have:=gA (na - 1) (by omega) (by omega)
    rw [← this]; congr 1; omega
  refine wpS_bind (wpS_elem (by omega) ?_)
  rw [e1]
  have hK1:HasK κ (Aa[na - 1]'(by omega)):=by rw [← gA (na - 1) (by omega) (by omega)]; exact hK _ (Array.getElem_mem _)
  refine wpS_bind (wpS_gallopL hO hk hK1 hK (by omega) (fun a b hab hb=>by rw [gB a (by omega),gB b hb]; exact sB.atL hab (by omega)) (by omega) fun m hmn m1 m2=>?_)
  dsimp only
  have m1':∀ j (hj:j < m),κ.klt (kv κ (Bb[j]'(by omega))) (kv κ (Aa[na - 1]'(by omega))):=fun j hj=>by rw [← gB j (by omega) (by omega)]; exact m1 j hj
  have m2':∀ j (h1:m ≤ j) (hj:j < nb),κ.kle (kv κ (Aa[na - 1]'(by omega))) (kv κ (Bb[j]'(by omega))):=fun j h1 hj=>by rw [← gB j hj (by omega)]; exact m2 j h1 hj
  clear m1 m2
  unfold maRest
  refine wpS_if (fun ez=>?_) fun ez=>?_
  · have ez':m = 0:=by simpa using ez
    refine wpS_pure (h (Aa ++ Bb) _ (List.Perm.refl _) (Srt.app.mpr ⟨sA,sB,fun x hx y hy=>?_⟩) hk hf rfl (by rw [List.append_assoc]; exact he))
    obtain ⟨a,ha,rfl⟩:=List.mem_iff_getElem.mp hx
    obtain ⟨b,hb,rfl⟩:=List.mem_iff_getElem.mp hy
    exact KeyOrd.kle_trans (sA.atL (show a ≤ na - 1 by omega) (by omega)) (m2' b (by omega) (by omega))
  have ezm:m ≠ 0:=by simpa using ez
  have ex:(arrOf st).extract (sa + k) sb = (Aa.drop k).toArray:=by
    apply Array.toList_inj.mp
    rw [ext_mid,he,List.drop_append,List.drop_of_length_le (by omega),List.nil_append,hP,show sa + k - sa = k by omega,List.drop_append_of_le_length (by omega),List.take_append_of_le_length (by rw [List.length_drop]; omega),List.take_of_length_le (by rw [List.length_drop]; omega)]
  have ey:(arrOf st).extract sb (sb + m) = (Bb.take m).toArray:=by
    apply Array.toList_inj.mp
    rw [ext_mid,he,List.drop_append,List.drop_of_length_le (by omega),List.nil_append,hP,List.drop_append,List.drop_of_length_le (by omega),List.nil_append,show sb - sa - Aa.length = 0 by omega,List.drop_zero,show sb + m - sb = m by omega,List.take_append_of_le_length (by omega)]
  rw [ex,ey]
  have hmemA:∀ x ∈ Aa,HasK κ x:=fun x hx=>hK x (by rw [← Array.mem_toList_iff,he]; simp [hx])
  have hmemB:∀ x ∈ Bb,HasK κ x:=fun x hx=>hK x (by rw [← Array.mem_toList_iff,he]; simp [hx])
  have hM:MArg κ (Aa.drop k).toArray (Bb.take m).toArray:=by
    refine ⟨fun p hp=>hmemA p (List.mem_of_mem_drop (by simpa using hp)),fun p hp=>hmemB p (List.mem_of_mem_take (by simpa using hp)),List.Pairwise.sublist (List.drop_sublist _ _) sA,List.Pairwise.sublist (List.take_sublist _ _) sB,by simp; omega,by simp; omega,?_,?_⟩
    · simp only [List.getElem_toArray,List.getElem_take,List.getElem_drop,Nat.add_zero]
      exact k2' k (Nat.le_refl _) (by omega)
    · simp only [List.getElem_toArray,List.getElem_take,List.getElem_drop,List.size_toArray,List.length_drop,List.length_take]
      have:=m1' (m - 1) (by omega)
      have e1:min m Bb.length - 1 = m - 1:=by omega
      have e2:k + (Aa.length - k - 1) = na - 1:=by omega
      simp only [e1,e2]
      exact this
  have fin:∀ o g,Mrg κ (Aa.drop k).toArray (Bb.take m).toArray o→Q true (setArr (setG (setPending st (((pendingOf st).setIfInBounds i (sa,na + nb,pw)).eraseIdxIfInBounds (i + 1))) g) (putAll o (sa + k) (arrOf st))):=by
    rintro o g ⟨hp,hs⟩
    have hp':o.toList.Perm (Aa.drop k ++ Bb.take m):=hp
    have hlen:o.size = (na - k) + m:=by
      have:=hp'.length_eq
      simp only [Array.length_toList,List.length_append,List.length_drop,List.length_take] at this
      omega
    refine h (Aa.take k ++ (o.toList ++ Bb.drop m)) _ ?_ ?_ hk hf rfl ?_
    · have:(Aa ++ Bb).Perm (Aa.take k ++ ((Aa.drop k ++ Bb.take m) ++ Bb.drop m)):=by
        rw [List.append_assoc,List.take_append_drop,← List.append_assoc,List.take_append_drop]
      exact (List.Perm.append_left _ (hp'.append_right _)).trans this.symm
    · have inO:∀ x ∈ o.toList,x ∈ Aa.drop k∨x ∈ Bb.take m:=fun x hx=>List.mem_append.mp (hp'.mem_iff.mp hx)
      refine Srt.app.mpr ⟨List.Pairwise.sublist (List.take_sublist _ _) sA,Srt.app.mpr ⟨hs,List.Pairwise.sublist (List.drop_sublist _ _) sB,fun x hx y hy=>?_⟩,fun x hx y hy=>?_⟩
      · obtain ⟨b,hb,rfl⟩:=List.mem_iff_getElem.mp hy
        rw [List.length_drop] at hb
        rw [List.getElem_drop]
        rcases inO x hx with hx | hx
        · obtain ⟨a,ha,rfl⟩:=List.mem_iff_getElem.mp hx
          rw [List.length_drop] at ha
          rw [List.getElem_drop]
          exact KeyOrd.kle_trans (sA.atL (show k + a ≤ na - 1 by omega) (by omega)) (m2' _ (by omega) (by omega))
        · obtain ⟨a,ha,rfl⟩:=List.mem_iff_getElem.mp hx
          rw [List.length_take] at ha
          rw [List.getElem_take]
          exact sB.atL (by omega) (by omega)
      · obtain ⟨a,ha,rfl⟩:=List.mem_iff_getElem.mp hx
        rw [List.length_take] at ha
        rw [List.getElem_take]
        have key:∀ b (hb:b < nb),κ.kle (kv κ (Aa[a]'(by omega))) (kv κ (Bb[b]'(by omega))):=fun b hb=>KeyOrd.kle_trans (k1' a (by omega)) (sB.atL (Nat.zero_le _) (by omega))
        rcases List.mem_append.mp hy with hy | hy
        · rcases inO y hy with hy | hy
          · obtain ⟨b,hb,rfl⟩:=List.mem_iff_getElem.mp hy
            rw [List.length_drop] at hb
            rw [List.getElem_drop]
            exact sA.atL (by omega) (by omega)
          · obtain ⟨b,hb,rfl⟩:=List.mem_iff_getElem.mp hy
            rw [List.length_take] at hb
            rw [List.getElem_take]
            exact key b (by omega)
        · obtain ⟨b,hb,rfl⟩:=List.mem_iff_getElem.mp hy
          rw [List.length_drop] at hb
          rw [List.getElem_drop]
          exact key _ (by omega)
    · show (putAll o (sa + k) (arrOf st)).toList = _
      rw [putAll_eq _ _ _ (by omega),he]
      have e1:(P ++ (Aa ++ (Bb ++ R))).take (sa + k) = P ++ Aa.take k:=by
        rw [List.take_append,List.take_of_length_le (by omega),hP,show sa + k - sa = k by omega,List.take_append_of_le_length (by omega)]
      have e2:(P ++ (Aa ++ (Bb ++ R))).drop (sa + k + o.size) = Bb.drop m ++ R:=by
        rw [List.drop_append,List.drop_of_length_le (by omega),List.nil_append,List.drop_append,List.drop_of_length_le (by omega),List.nil_append,List.drop_append_of_le_length (by omega)]
        congr 2; omega
      rw [e1,e2]
      simp only [List.append_assoc]
  dsimp only
  refine wpS_if (fun _=>?_) fun _=>?_
  · refine wpS_bind (wpS_mergeLo hO hM (st:=setPending st (((pendingOf st).setIfInBounds i (sa,na + nb,pw)).eraseIdxIfInBounds (i + 1))) hk fun o g hm=>wpS_bind (wpS_modify (wpS_bind (wpS_get ?_))))
    show wpS _ _ _ _ (pure (failedOf st).isNone) Q _
    rw [hf]
    exact wpS_pure (fin o g hm)
  · refine wpS_bind (wpS_mergeHi hO hM (st:=setPending st (((pendingOf st).setIfInBounds i (sa,na + nb,pw)).eraseIdxIfInBounds (i + 1))) hk fun o g hm=>wpS_bind (wpS_modify (wpS_bind (wpS_get ?_))))
    show wpS _ _ _ _ (pure (failedOf st).isNone) Q _
    rw [hf]
    exact wpS_pure (fin o g hm)
end
def cAsc (lo a nrem:Nat):SM AscSt :=
  forIn [a:nrem] ((none,a):AscSt) fun _ c=>do
    let z ← ltAt' (lo + c.2) (lo + c.2 - 1)
    match z with
    | some m=>if m = true then pure (.done (none,c.2)) else pure (.yield (none,c.2 + 1))
    | _=>pure (.done (some none,c.2))
def cTail (lo n nrem:Nat):SM (Option Nat):=do
  reverseSlice' lo (lo + n)
  let c ← cAsc lo n nrem
  match c.1 with
  | some r=>pure r
  | none=>pure (some c.2)
def cDesc (lo n nrem:Nat):SM DescSt :=
  forIn [n:nrem] ((none,n,0):DescSt) fun _ c=>do
    let z ← ltAt' (lo + c.2.1) (lo + c.2.1 - 1)
    match z with
    | some m =>
      if m = true then
        if c.2.2 > 0 then do
          reverseSlice' (lo + c.2.1 - (c.2.2 + 1)) (lo + c.2.1)
          pure (.yield (none,c.2.1 + 1,0))
        else pure (.yield (none,c.2.1 + 1,0))
      else do
        let y ← ltAt' (lo + c.2.1 - 1) (lo + c.2.1)
        match y with
        | some q=>if q = true then pure (.done (none,c.2.1,c.2.2)) else pure (.yield (none,c.2.1 + 1,c.2.2 + 1))
        | _=>pure (.done (some none,c.2.1,c.2.2))
    | _=>pure (.done (some none,c.2.1,c.2.2))
def cPart (lo n nrem:Nat):SM (Option Nat):=do
  liftM (rule "list.sort.descending-run")
  let c ← cDesc lo (n + 1) nrem
  match c.1 with
  | some r=>pure r
  | none =>
    if c.2.2 > 0 then do
      reverseSlice' (lo + c.2.1 - (c.2.2 + 1)) (lo + c.2.1)
      cTail lo c.2.1 nrem
    else cTail lo c.2.1 nrem
theorem countRun'_eq2 (lo nrem:Nat):countRun' lo nrem = (do
    let c ← cAsc lo 1 nrem
    match c.1 with
    | some r=>pure r
    | none =>
      if (c.2 == nrem) = true then pure (some c.2)
      else if c.2 > 1 then do
        let z ← ltAt' lo (lo + c.2 - 1)
        match z with
        | some r=>if r = true then pure (some c.2) else do
            reverseSlice' lo (lo + c.2)
            cPart lo c.2 nrem
        | _=>pure none
      else cPart lo c.2 nrem):=by kernel_rfl
def bIn (lo k:Nat):SM (Option Bool×Nat×Nat) :=
  forIn [:k] ((none,0,k):Option Bool×Nat×Nat) fun _ c =>
    if c.2.1 ≥ c.2.2 then pure (.done (none,c.2.1,c.2.2))
    else do
      let z ← ltAt' (lo + k) (lo + (c.2.1 + c.2.2) / 2)
      match z with
      | some m=>if m = true then pure (.yield (none,c.2.1,(c.2.1 + c.2.2) / 2)) else pure (.yield (none,(c.2.1 + c.2.2) / 2 + 1,c.2.2))
      | _=>pure (.done (some false,c.2.1,c.2.2))
theorem binarySort'_eq2 (lo n ok:Nat):binarySort' lo n ok = (do
    let c ← forIn [max ok 1:n] ((none,()):Option Bool×Unit) fun k _=>do
      let c ← bIn lo k
      match c.1 with
      | some r=>pure (.done (some r,()))
      | none=>do
        moveDown' (lo + k) (lo + c.2.1)
        pure (.yield (none,()))
    match c.1 with
    | some r=>pure r
    | none=>pure true):=by kernel_rfl
section
variable {prog:Program} {w:World} {A:Around} {E:Value→Shared→Prop} {s:Shared} {κ:KeyKind}
structure RB (st0:SortSt) (lo:Nat) (st:SortSt):Prop where
  perm:(arrOf st).Perm (arrOf st0)
  eq:st = setArr st0 (arrOf st)
  pre:∀ k,k < lo→(arrOf st)[k]? = (arrOf st0)[k]?
theorem RB.refl (st:SortSt) (lo:Nat):RB st lo st:=⟨Array.Perm.refl _,rfl,fun _ _=>rfl⟩
theorem RB.size {st0 st:SortSt} {lo:Nat} (h:RB st0 lo st):(arrOf st).size = (arrOf st0).size:=h.perm.size_eq
theorem RB.mir {st0 st:SortSt} {lo:Nat} (h:RB st0 lo st) {i j:Nat} (hi:lo ≤ i) (hj:j ≤ (arrOf st0).size):RB st0 lo (setArr st (mirror (arrOf st) i j ((j - i) / 2))):=by
  refine ⟨(mirror_perm _ _ _ _).trans h.perm,by rw [h.eq],fun k hk=>?_⟩
  show (mirror (arrOf st) i j ((j - i) / 2))[k]? = _
  rw [getElem?_mirror_all (by rw [h.size]; exact hj),if_neg (by omega)]
  exact h.pre k hk
theorem RB.bub {st0 st:SortSt} {lo:Nat} (h:RB st0 lo st) {src d:Nat} (hs:src < (arrOf st0).size) (hd:lo + d ≤ src):RB st0 lo (setArr st (bubble (arrOf st) src d)):=by
  refine ⟨(bubble_perm _ _ _).trans h.perm,by rw [h.eq],fun k hk=>?_⟩
  show (bubble (arrOf st) src d)[k]? = _
  rw [getElem?_bubble (by rw [h.size]; exact hs) _ (by omega),if_neg (by omega),if_neg (by omega)]
  exact h.pre k hk
structure RK (κ:KeyKind) (st0:SortSt):Prop where
  one:κ.OneLt
  kind:kindOf st0 = oneType'
  has:∀ p ∈ arrOf st0,HasK κ p
theorem KK_eq {xs:KA} {i:Nat} (hi:i < xs.size):KK κ xs i = kv κ xs[i]:=by
  unfold KK kv; rw [getElem?_pos xs i hi]
theorem wpS_ltO {st0 st:SortSt} {lo i j:Nat} (h0:RK κ st0) (hB:RB st0 lo st) {Q:Option Bool→SortSt→Prop} (hi:i < (arrOf st0).size) (hj:j < (arrOf st0).size)
    (h:Q (some (κ.blt (KK κ (arrOf st) i) (KK κ (arrOf st) j))) st):wpS (model prog w) A E s (ltAt' i j) Q st:=by
  have hsz:=hB.size
  have mem:∀ p ∈ arrOf st,HasK κ p:=fun p hp=>h0.has p (hB.perm.mem_iff.mp hp)
  rw [KK_eq (by omega),KK_eq (by omega)] at h
  rw [ltAt'_eq]
  refine wpS_bind (wpS_get ?_)
  have hk:kindOf st = oneType':=by rw [hB.eq]; exact h0.kind
  exact wpS_bind (wpS_elem (by omega) (wpS_bind (wpS_elem (by omega) (wpS_lt h0.one hk (mem _ (Array.getElem_mem _)) (mem _ (Array.getElem_mem _)) h))))
def SrO (κ:KeyKind) (xs:KA) (lo k:Nat):Prop:=∀ i j,i ≤ j→j < k→κ.kle (KK κ xs (lo + i)) (KK κ xs (lo + j))
def NiO (κ:KeyKind) (xs:KA) (lo k:Nat):Prop:=∀ i j,i ≤ j→j < k→κ.kle (KK κ xs (lo + j)) (KK κ xs (lo + i))
theorem SrO.one (xs:KA) (lo:Nat):SrO κ xs lo 1:=fun i j h1 h2=>by
  have:i = j:=by omega
  rw [this]; exact KeyOrd.kle_refl _
theorem SrO.snoc {xs:KA} {lo k:Nat} (h:SrO κ xs lo k) (h1:1 ≤ k) (hl:κ.kle (KK κ xs (lo + (k - 1))) (KK κ xs (lo + k))):SrO κ xs lo (k + 1):=fun i j hij hj=>by
  rcases Nat.lt_or_ge j k with e | e
  · exact h i j hij e
  · obtain rfl:j = k:=by omega
    rcases Nat.lt_or_ge i j with e2 | e2
    · exact KeyOrd.kle_trans (h i (j - 1) (by omega) (by omega)) hl
    · obtain rfl:i = j:=by omega
      exact KeyOrd.kle_refl _
theorem NiO.snoc {xs:KA} {lo k:Nat} (h:NiO κ xs lo k) (h1:1 ≤ k) (hl:κ.kle (KK κ xs (lo + k)) (KK κ xs (lo + (k - 1)))):NiO κ xs lo (k + 1):=fun i j hij hj=>by
  rcases Nat.lt_or_ge j k with e | e
  · exact h i j hij e
  · obtain rfl:j = k:=by omega
    rcases Nat.lt_or_ge i j with e2 | e2
    · exact KeyOrd.kle_trans hl (h i (j - 1) (by omega) (by omega))
    · obtain rfl:i = j:=by omega
      exact KeyOrd.kle_refl _
theorem NiO.congr {xs ys:KA} {lo k:Nat} (h:NiO κ xs lo k) (e:∀ i,KK κ ys i = KK κ xs i):NiO κ ys lo k:=fun i j hij hj=>by
  rw [e,e]; exact h i j hij hj
theorem wpS_cAsc {st0 st:SortSt} {lo a nrem:Nat} (h0:RK κ st0) (hB:RB st0 lo st) (hn:lo + nrem ≤ (arrOf st0).size) (ha:1 ≤ a) (han:a ≤ nrem) (hs:SrO κ (arrOf st) lo a) {Q:AscSt→SortSt→Prop}
    (h:∀ n,a ≤ n→n ≤ nrem→SrO κ (arrOf st) lo n→(n = nrem∨κ.klt (KK κ (arrOf st) (lo + n)) (KK κ (arrOf st) (lo + (n - 1))))→Q (none,n) st):wpS (model prog w) A E s (cAsc lo a nrem) Q st:=by
  unfold cAsc
  refine wpS_forRange (I:=fun x c st'=>st' = st∧c = (none,x)∧SrO κ (arrOf st) lo x) ?step ?fin ⟨rfl,rfl,hs⟩
  case fin =>
    rintro c st' ⟨rfl,rfl,hs'⟩
    have e:max a nrem = nrem:=by omega
    rw [e] at hs' ⊢
    exact h nrem han (Nat.le_refl _) hs' (.inl rfl)
  case step =>
    rintro x c st' hx1 hx2 ⟨rfl,rfl,hs'⟩
    dsimp only
    rw [show lo + x - 1 = lo + (x - 1) by omega]
    refine wpS_bind (wpS_ltO h0 hB (by omega) (by omega) ?_)
    cases e:κ.blt (KK κ (arrOf st') (lo + x)) (KK κ (arrOf st') (lo + (x - 1))) with
    | true=>exact wpS_pure (h x hx1 (by omega) hs' (.inr e))
    | false=>exact wpS_pure ⟨rfl,rfl,hs'.snoc (by omega) e⟩
theorem wpS_cTail {st0 st:SortSt} {lo n nrem:Nat} (h0:RK κ st0) (hB:RB st0 lo st) (hn:lo + nrem ≤ (arrOf st0).size) (h1:1 ≤ n) (hnn:n ≤ nrem) (hs:NiO κ (arrOf st) lo n) {Q:Option Nat→SortSt→Prop}
    (h:∀ m st',RB st0 lo st'→1 ≤ m→m ≤ nrem→SrO κ (arrOf st') lo m→Q (some m) st'):wpS (model prog w) A E s (cTail lo n nrem) Q st:=by
  unfold cTail
  have hB':=hB.mir (i:=lo) (j:=lo + n) (Nat.le_refl _) (by omega)
  refine wpS_bind (wpS_reverse (wpS_bind (wpS_cAsc h0 hB' hn h1 hnn (fun i j hij hj=>?_) fun m hm1 hm2 hsm _=>wpS_pure (h m _ hB' (by omega) hm2 hsm))))
  have hz:lo + n ≤ (arrOf st).size:=by rw [hB.size]; omega
  show κ.kle (KK κ (mirror (arrOf st) lo (lo + n) ((lo + n - lo) / 2)) (lo + i)) (KK κ (mirror (arrOf st) lo (lo + n) ((lo + n - lo) / 2)) (lo + j))
  rw [KK_mirror hz,KK_mirror hz,if_pos (by omega),if_pos (by omega)]
  have:=hs (n - 1 - j) (n - 1 - i) (by omega) (by omega)
  rw [show lo + (lo + n) - 1 - (lo + i) = lo + (n - 1 - i) by omega,show lo + (lo + n) - 1 - (lo + j) = lo + (n - 1 - j) by omega]
  exact this
theorem mir_eq {xs:KA} {lo m q:Nat} (hj:lo + m ≤ xs.size) (hq:q + 1 ≤ m) (he:∀ i,m - (q + 1) ≤ i→i < m→KK κ xs (lo + i) = KK κ xs (lo + (m - 1))) (k:Nat) :
    KK κ (mirror xs (lo + m - (q + 1)) (lo + m) ((lo + m - (lo + m - (q + 1))) / 2)) k = KK κ xs k:=by
  rw [KK_mirror hj]
  by_cases h:lo + m - (q + 1) ≤ k∧k < lo + m
  · rw [if_pos h]
    have a1:=he (k - lo) (by omega) (by omega)
    have a2:=he (lo + m - (q + 1) + (lo + m) - 1 - k - lo) (by omega) (by omega)
    rw [show lo + (k - lo) = k by omega] at a1
    rw [show lo + (lo + m - (q + 1) + (lo + m) - 1 - k - lo) = lo + m - (q + 1) + (lo + m) - 1 - k by omega] at a2
    rw [a1,a2]
  · rw [if_neg h]
theorem wpS_cDesc {st0 st:SortSt} {lo n nrem:Nat} (h0:RK κ st0) (hB:RB st0 lo st) (hn:lo + nrem ≤ (arrOf st0).size) (h1:1 ≤ n) (hnn:n ≤ nrem) (hs:NiO κ (arrOf st) lo n) {Q:DescSt→SortSt→Prop}
    (h:∀ m q st',RB st0 lo st'→n ≤ m→m ≤ nrem→NiO κ (arrOf st') lo m→q + 1 ≤ m→(∀ i,m - (q + 1) ≤ i→i < m→KK κ (arrOf st') (lo + i) = KK κ (arrOf st') (lo + (m - 1)))→Q (none,m,q) st') :
    wpS (model prog w) A E s (cDesc lo n nrem) Q st:=by
  unfold cDesc
  refine wpS_forRange (I:=fun x c st'=>∃ q,c = (none,x,q)∧RB st0 lo st'∧NiO κ (arrOf st') lo x∧q + 1 ≤ x∧(∀ i,x - (q + 1) ≤ i→i < x→KK κ (arrOf st') (lo + i) = KK κ (arrOf st') (lo + (x - 1)))) ?step ?fin
    ⟨0,rfl,hB,hs,by omega,fun i a1 a2=>by rw [show i = n - 1 by omega]⟩
  case fin =>
    rintro c st' ⟨q,rfl,hB',hs',hq,he⟩
    have e:max n nrem = nrem:=by omega
    rw [e] at hs' hq he ⊢
    exact h nrem q st' hB' hnn (Nat.le_refl _) hs' hq he
  case step =>
    rintro x c st' hx1 hx2 ⟨q,rfl,hB',hs',hq,he⟩
    dsimp only
    have hz:lo + x ≤ (arrOf st').size:=by rw [hB'.size]; omega
    rw [show lo + x - 1 = lo + (x - 1) by omega]
    refine wpS_bind (wpS_ltO h0 hB' (by omega) (by omega) ?_)
    cases e:κ.blt (KK κ (arrOf st') (lo + x)) (KK κ (arrOf st') (lo + (x - 1))) with
    | true =>
      have hN:NiO κ (arrOf st') lo (x + 1):=hs'.snoc (by omega) (KeyOrd.kle_of_klt e)
      dsimp only
      rw [if_pos rfl]
      refine wpS_if (fun _=>wpS_bind (wpS_reverse (wpS_pure ?_))) fun _=>wpS_pure ?_
      · exact ⟨0,rfl,hB'.mir (by omega) (by omega),hN.congr (mir_eq hz hq he),by omega,fun i a1 a2=>by rw [show i = x + 1 - 1 by omega]⟩
      · exact ⟨0,rfl,hB',hN,by omega,fun i a1 a2=>by rw [show i = x + 1 - 1 by omega]⟩
    | false =>
      refine wpS_bind (wpS_ltO h0 hB' (by omega) (by omega) ?_)
      cases e2:κ.blt (KK κ (arrOf st') (lo + (x - 1))) (KK κ (arrOf st') (lo + x)) with
      | true=>exact wpS_pure (h x q st' hB' hx1 (by omega) hs' hq he)
      | false =>
        have hE:KK κ (arrOf st') (lo + x) = KK κ (arrOf st') (lo + (x - 1)):=KeyOrd.kle_antisymm e2 e
        refine wpS_pure ⟨q + 1,rfl,hB',hs'.snoc (by omega) e2,by omega,fun i a1 a2=>?_⟩
        rw [show x + 1 - 1 = x by omega,hE]
        rcases Nat.lt_or_ge i x with e3 | e3
        · exact he i (by omega) e3
        · rw [show i = x by omega,hE]
theorem wpS_cPart {st0 st:SortSt} {lo n nrem:Nat} (h0:RK κ st0) (hB:RB st0 lo st) (hn:lo + nrem ≤ (arrOf st0).size) (hnn:n + 1 ≤ nrem) (hs:NiO κ (arrOf st) lo (n + 1)) {Q:Option Nat→SortSt→Prop}
    (h:∀ m st',RB st0 lo st'→1 ≤ m→m ≤ nrem→SrO κ (arrOf st') lo m→Q (some m) st'):wpS (model prog w) A E s (cPart lo n nrem) Q st:=by
  unfold cPart
  refine wpS_bind (wpS_lift (wpAny_rule ⟨rfl,wpS_bind (wpS_cDesc h0 hB hn (by omega) hnn hs fun m q st' hB' hm1 hm2 hs' hq he=>?_)⟩))
  have hz:lo + m ≤ (arrOf st').size:=by rw [hB'.size]; omega
  dsimp only
  refine wpS_if (fun _=>wpS_bind (wpS_reverse (wpS_cTail h0 (hB'.mir (by omega) (by omega)) hn (by omega) hm2 (hs'.congr (mir_eq hz hq he)) h))) fun _=>wpS_cTail h0 hB' hn (by omega) hm2 hs' h
theorem wpS_countRunO {st0:SortSt} {lo nrem:Nat} (h0:RK κ st0) (hn:lo + nrem ≤ (arrOf st0).size) (h1:1 ≤ nrem) {Q:Option Nat→SortSt→Prop}
    (h:∀ m st',RB st0 lo st'→1 ≤ m→m ≤ nrem→SrO κ (arrOf st') lo m→Q (some m) st'):wpS (model prog w) A E s (countRun' lo nrem) Q st0:=by
  rw [countRun'_eq2]
  have hB:=RB.refl st0 lo
  refine wpS_bind (wpS_cAsc h0 hB hn (Nat.le_refl 1) h1 (SrO.one _ _) fun n hn1 hn2 hsn hor=>?_)
  dsimp only
  refine wpS_if (fun _=>wpS_pure (h n _ hB hn1 hn2 hsn)) fun hne=>?_
  have hne':n ≠ nrem:=by simpa using hne
  have hlt:=hor.resolve_left hne'
  refine wpS_if (fun hgt=>?_) fun hgt=>?_
  · rw [show lo + n - 1 = lo + (n - 1) by omega]
    refine wpS_bind (wpS_ltO h0 hB (by omega) (by omega) ?_)
    cases e:κ.blt (KK κ (arrOf st0) lo) (KK κ (arrOf st0) (lo + (n - 1))) with
    | true=>exact wpS_pure (h n _ hB hn1 hn2 hsn)
    | false =>
      have hall:∀ i,i < n→KK κ (arrOf st0) (lo + i) = KK κ (arrOf st0) (lo + (n - 1)):=fun i hi=>by
        have a1:=hsn 0 i (by omega) hi
        have a2:=hsn i (n - 1) (by omega) (by omega)
        exact KeyOrd.kle_antisymm a2 (KeyOrd.kle_trans e a1)
      have hz:lo + n ≤ (arrOf st0).size:=by omega
      have q:n - 1 + 1 ≤ n:=by omega
      have me:=mir_eq (κ:=κ) (lo:=lo) (m:=n) (q:=n - 1) hz q fun i _ hi=>hall i hi
      rw [show lo + n - (n - 1 + 1) = lo by omega] at me
      refine wpS_bind (wpS_reverse (wpS_cPart h0 (hB.mir (Nat.le_refl _) hz) hn (by omega) (NiO.congr (xs:=arrOf st0) (NiO.snoc (fun i j hij hj=>?_) (by omega) (KeyOrd.kle_of_klt hlt)) me) h))
      rw [hall i (by omega),hall j hj]; exact KeyOrd.kle_refl _
  · have e1:n = 1:=by omega
    subst e1
    refine wpS_cPart h0 hB hn (by omega) (NiO.snoc (fun i j hij hj=>?_) (by omega) (KeyOrd.kle_of_klt hlt)) h
    rw [show i = j by omega]; exact KeyOrd.kle_refl _
theorem wpS_binO {st0 st:SortSt} {lo n ok:Nat} (h0:RK κ st0) (hB:RB st0 lo st) (hn:lo + n ≤ (arrOf st0).size) (hok:ok ≤ n) (h1:1 ≤ ok) (hs:SrO κ (arrOf st) lo ok) {Q:Bool→SortSt→Prop}
    (h:∀ st',RB st0 lo st'→SrO κ (arrOf st') lo n→Q true st'):wpS (model prog w) A E s (binarySort' lo n ok) Q st:=by
  rw [binarySort'_eq2]
  refine wpS_bind (wpS_mono (wpS_forRange (I:=fun k c st'=>c = (none,())∧RB st0 lo st'∧SrO κ (arrOf st') lo k) (Q:=fun c st'=>c = (none,())∧RB st0 lo st'∧SrO κ (arrOf st') lo n) ?step ?fin ⟨rfl,hB,?ini⟩) ?post)
  case post =>
    rintro c st' ⟨rfl,hB',hs'⟩
    exact wpS_pure (h st' hB' hs')
  case fin =>
    rintro c st' ⟨hc,hB',hs'⟩
    rw [show max (max ok 1) n = n by omega] at hs'
    exact ⟨hc,hB',hs'⟩
  case ini=>rw [show max ok 1 = ok by omega]; exact hs
  case step =>
    rintro k c st' hk1 hk2 ⟨rfl,hB',hs'⟩
    have hsz:=hB'.size
    refine wpS_bind (wpS_mono (Q:=fun c st''=>st'' = st'∧∃ l,c = (none,l,l)∧l ≤ k∧(∀ i,i < l→κ.kle (KK κ (arrOf st') (lo + i)) (KK κ (arrOf st') (lo + k)))∧(∀ i,l ≤ i→i < k→κ.klt (KK κ (arrOf st') (lo + k)) (KK κ (arrOf st') (lo + i)))) ?_ ?ip)
    · unfold bIn
      refine wpS_forRange (I:=fun x c st''=>st'' = st'∧∃ l r,c = (none,l,r)∧l ≤ r∧r ≤ k∧r - l ≤ k - x∧(∀ i,i < l→κ.kle (KK κ (arrOf st') (lo + i)) (KK κ (arrOf st') (lo + k)))∧(∀ i,r ≤ i→i < k→κ.klt (KK κ (arrOf st') (lo + k)) (KK κ (arrOf st') (lo + i)))) ?is ?ie
        ⟨rfl,0,k,rfl,by omega,by omega,by omega,fun i hi=>by omega,fun i a1 a2=>by omega⟩
      case ie =>
        rintro c st'' ⟨rfl,l,r,rfl,a1,a2,a3,a4,a5⟩
        obtain rfl:l = r:=by omega
        exact ⟨rfl,l,rfl,a2,a4,a5⟩
      case is =>
        rintro x c st'' _ hx ⟨rfl,l,r,rfl,a1,a2,a3,a4,a5⟩
        dsimp only
        refine wpS_if (fun hge=>?_) fun hge=>?_
        · obtain rfl:l = r:=by omega
          exact wpS_pure ⟨rfl,l,rfl,a2,a4,a5⟩
        refine wpS_bind (wpS_ltO h0 hB' (by omega) (by omega) ?_)
        cases e:κ.blt (KK κ (arrOf st'') (lo + k)) (KK κ (arrOf st'') (lo + (l + r) / 2)) with
        | true=>exact wpS_pure ⟨rfl,l,(l + r) / 2,rfl,by omega,by omega,by omega,a4,fun i b1 b2=>KeyOrd.klt_of_klt_of_kle e (hs' _ _ b1 b2)⟩
        | false=>exact wpS_pure ⟨rfl,(l + r) / 2 + 1,r,rfl,by omega,by omega,by omega,fun i b1=>KeyOrd.kle_trans (hs' i ((l + r) / 2) (by omega) (by omega)) (show κ.kle _ _ from e),a5⟩
    case ip =>
      rintro c st'' ⟨rfl,l,rfl,a1,a2,a3⟩
      dsimp only
      rw [moveDown'_eq]
      refine wpS_bind (wpS_modify (wpS_pure ⟨rfl,hB'.bub (by omega) (by omega),fun i j hij hj=>?_⟩))
      show κ.kle (KK κ (bubble (arrOf st'') (lo + k) (lo + k - (lo + l))) (lo + i)) (KK κ (bubble (arrOf st'') (lo + k) (lo + k - (lo + l))) (lo + j))
      rw [KK_bubble (by omega) (by omega),KK_bubble (by omega) (by omega),show lo + k - (lo + k - (lo + l)) = lo + l by omega]
      have g:∀ x,lo + l < lo + x→lo + x - 1 = lo + (x - 1):=fun x hx=>by omega
      by_cases i1:lo + i = lo + l <;> by_cases i2:lo + l < lo + i∧lo + i ≤ lo + k <;> by_cases j1:lo + j = lo + l <;> by_cases j2:lo + l < lo + j∧lo + j ≤ lo + k <;> simp only [i1,i2,j1,j2,if_true,if_false]
      all_goals first
        | (exfalso; omega)
        | exact KeyOrd.kle_refl _
        | exact a2 _ (by omega)
        | (rw [g j (by omega)]; exact KeyOrd.kle_of_klt (a3 _ (by omega) (by omega)))
        | (rw [g i (by omega),g j (by omega)]; exact hs' _ _ (by omega) (by omega))
        | (rw [g j (by omega)]; exact hs' _ _ (by omega) (by omega))
        | exact hs' _ _ (by omega) (by omega)
        | skip
end
variable {κ:KeyKind}
def Pd (κ:KeyKind):Nat→List (List Keyed)→List (Nat×Nat×Nat)→Prop
  | _,[],[]=>True
  | o,g :: gs,p :: ps=>p.1 = o∧p.2.1 = g.length∧0 < g.length∧Srt κ g∧Pd κ (o + g.length) gs ps
  | _,_,_=>False
theorem Pd.snoc:∀ {gs:List (List Keyed)} {ps:List (Nat×Nat×Nat)} {o:Nat},Pd κ o gs ps→∀ {g:List Keyed} {p:Nat×Nat×Nat},p.1 = o + gs.flatten.length→p.2.1 = g.length→0 < g.length→Srt κ g→Pd κ o (gs ++ [g]) (ps ++ [p])
  | [],[],o,_,g,p,h1,h2,h3,h4=>⟨by simpa using h1,h2,h3,h4,trivial⟩
  | [],_ :: _,_,h,_,_,_,_,_,_=>h.elim
  | _ :: _,[],_,h,_,_,_,_,_,_=>h.elim
  | x :: gs,y :: ps,o,h,g,p,h1,h2,h3,h4=>⟨h.1,h.2.1,h.2.2.1,h.2.2.2.1,Pd.snoc h.2.2.2.2 (by rw [h1,List.flatten_cons,List.length_append]; omega) h2 h3 h4⟩
theorem Pd.len:∀ {gs:List (List Keyed)} {ps:List (Nat×Nat×Nat)} {o:Nat},Pd κ o gs ps→ps.length = gs.length∧ps.length ≤ gs.flatten.length
  | [],[],o,_=>⟨rfl,Nat.zero_le _⟩
  | [],_ :: _,_,h=>h.elim
  | _ :: _,[],_,h=>h.elim
  | x :: gs,y :: ps,o,h=>by
    have:=h.2.2.2.2.len
    have h3:=h.2.2.1
    simp only [List.length_cons,List.flatten_cons,List.length_append]
    omega
theorem Pd.last:∀ {gs:List (List Keyed)} {ps:List (Nat×Nat×Nat)} {o:Nat} {p q:Nat×Nat×Nat},Pd κ o gs (ps ++ [p])→q.1 = p.1→q.2.1 = p.2.1→Pd κ o gs (ps ++ [q])
  | [],ps,o,p,q,h,_,_=>by cases ps <;> exact h.elim
  | g :: gs,[],o,p,q,h,e1,e2=>⟨e1.trans h.1,e2.trans h.2.1,h.2.2.1,h.2.2.2.1,h.2.2.2.2⟩
  | g :: gs,y :: ps,o,p,q,h,e1,e2=>⟨h.1,h.2.1,h.2.2.1,h.2.2.2.1,Pd.last h.2.2.2.2 e1 e2⟩
theorem Pd.split:∀ {i:Nat} {gs:List (List Keyed)} {ps:List (Nat×Nat×Nat)} {o:Nat},Pd κ o gs ps→i + 1 < ps.length →
    ∃ g1 Aa Bb g2 p1 sa na pw sb nb pw2 p2,gs = g1 ++ Aa :: Bb :: g2∧ps = p1 ++ (sa,na,pw) :: (sb,nb,pw2) :: p2∧p1.length = i∧sa = o + g1.flatten.length∧na = Aa.length∧sb = sa + na∧nb = Bb.length∧0 < na∧0 < nb∧Srt κ Aa∧Srt κ Bb ∧
      ∀ M,M.Perm (Aa ++ Bb)→Srt κ M→Pd κ o (g1 ++ M :: g2) (p1 ++ (sa,na + nb,pw) :: p2)
  | 0,g :: g' :: gs,(sa,na,pw) :: (sb,nb,pw2) :: ps,o,h,_=>by
    obtain ⟨h1,h2,h3,h4,h5,h6,h7,h8,h9⟩:=h
    refine ⟨[],g,g',gs,[],sa,na,pw,sb,nb,pw2,ps,rfl,rfl,rfl,by simpa using h1,h2,?_,h6,?_,?_,h4,h8,fun M hM hS=>?_⟩
    · simp only at h1 h2 h5; omega
    · simp only at h2; omega
    · simp only at h6; omega
    · have hl:M.length = g.length + g'.length:=by rw [hM.length_eq,List.length_append]
      refine ⟨h1,?_,by omega,hS,?_⟩
      · simp only at h2 h6 ⊢; omega
      · rw [hl,← Nat.add_assoc]; exact h9
  | 0,[],_ :: _,_,h,_=>h.elim
  | 0,[_],_ :: _ :: _,_,h,_=>h.2.2.2.2.elim
  | 0,_,[],_,_,hl=>by simp at hl
  | 0,_,[_],_,_,hl=>by simp at hl
  | i + 1,g :: gs,p :: ps,o,h,hl=>by
    obtain ⟨h1,h2,h3,h4,h5⟩:=h
    obtain ⟨g1,Aa,Bb,g2,p1,sa,na,pw,sb,nb,pw2,p2,rfl,rfl,e1,e2,e3,e4,e5,e6,e7,e8,e9,e10⟩:=Pd.split (i:=i) h5 (by simpa using hl)
    refine ⟨g :: g1,Aa,Bb,g2,p :: p1,sa,na,pw,sb,nb,pw2,p2,rfl,rfl,by simp [e1],by rw [e2,List.flatten_cons,List.length_append]; omega,e3,e4,e5,e6,e7,e8,e9,fun M hM hS=>⟨h1,h2,h3,h4,e10 M hM hS⟩⟩
  | i + 1,[],_ :: _,_,h,_=>h.elim
  | i + 1,_,[],_,_,hl=>by simp at hl
theorem set_erase {α:Type} {p:Array α} {p1 p2:List α} {x y v:α} {i:Nat} (h:p.toList = p1 ++ x :: y :: p2) (hi:p1.length = i):((p.setIfInBounds i v).eraseIdxIfInBounds (i + 1)).toList = p1 ++ v :: p2:=by
  have hsz:p.size = p1.length + (p2.length + 1 + 1):=by rw [← Array.length_toList,h]; simp
  rw [Array.eraseIdxIfInBounds_eq,dif_pos (by rw [Array.size_setIfInBounds]; omega),Array.toList_eraseIdx,Array.toList_setIfInBounds,h]
  subst hi
  simp only [List.set_append,Nat.lt_irrefl,if_false,Nat.sub_self,List.set_cons_zero,List.eraseIdx_append,show ¬ (p1.length + 1 < p1.length) by omega,show p1.length + 1 - p1.length = 1 by omega]
  rfl
structure SI (κ:KeyKind) (a₀:List Keyed) (gs:List (List Keyed)) (rest:List Keyed) (st:SortSt):Prop where
  kind:kindOf st = oneType'
  failed:failedOf st = none
  arr:(arrOf st).toList = gs.flatten ++ rest
  perm:(gs.flatten ++ rest).Perm a₀
  pd:Pd κ 0 gs (pendingOf st).toList
section
variable {prog:Program} {w:World} {A:Around} {E:Value→Shared→Prop} {s:Shared} {a₀:List Keyed}
theorem SI.has {gs:List (List Keyed)} {rest:List Keyed} {st:SortSt} (h:SI κ a₀ gs rest st) (h0:∀ p ∈ a₀,HasK κ p):∀ p ∈ arrOf st,HasK κ p:=fun p hp =>
  h0 p (h.perm.mem_iff.mp (by rw [← h.arr]; exact Array.mem_toList_iff.mpr hp))
theorem wpS_mergeSt (hO:κ.OneLt) (h0:∀ p ∈ a₀,HasK κ p) {gs:List (List Keyed)} {rest:List Keyed} {st:SortSt} (hS:SI κ a₀ gs rest st) {i:Nat} (hi:i + 1 < (pendingOf st).size) {Q:Bool→SortSt→Prop}
    (h:∀ gs' st',SI κ a₀ gs' rest st'→(pendingOf st').size + 1 = (pendingOf st).size→gs'.flatten.length = gs.flatten.length→Q true st'):wpS (model prog w) A E s (mergeAt' i) Q st:=by
  obtain ⟨g1,Aa,Bb,g2,p1,sa,na,pw,sb,nb,pw2,p2,rfl,e0,e1,e2,e3,e4,e5,e6,e7,e8,e9,e10⟩:=hS.pd.split (i:=i) (by rw [Array.length_toList]; exact hi)
  rw [Nat.zero_add] at e2
  have q1:(pendingOf st)[i]? = some (sa,na,pw):=by
    rw [← Array.getElem?_toList,e0]; subst e1; simp
  have q2:(pendingOf st)[i + 1]? = some (sb,nb,pw2):=by
    rw [← Array.getElem?_toList,e0]; subst e1; simp
  have ha:=hS.arr
  simp only [List.flatten_append,List.flatten_cons,List.append_assoc] at ha
  refine wpS_mergeAt hO q1 q2 e4 (P:=g1.flatten) (Aa:=Aa) (Bb:=Bb) (R:=g2.flatten ++ rest) ha e2.symm e3.symm e5.symm e6 e7 e8 e9 (hS.has h0) hS.kind hS.failed fun M st' hM hSr k1 k2 k3 k4=>?_
  have hp:=set_erase (v:=(sa,na + nb,pw)) e0 e1
  refine h (g1 ++ M :: g2) st' ⟨k1,k2,?_,?_,?_⟩ ?_ ?_
  · rw [k4]; simp only [List.flatten_append,List.flatten_cons,List.append_assoc]
  · refine List.Perm.trans ?_ hS.perm
    simp only [List.flatten_append,List.flatten_cons,List.append_assoc]
    refine List.Perm.append_left _ ?_
    rw [← List.append_assoc Aa]
    exact hM.append_right _
  · rw [k3,hp]; exact e10 M hM hSr
  · have l1:=congrArg List.length e0
    have l2:=congrArg List.length hp
    rw [k3,← Array.length_toList,l2,← Array.length_toList,l1]
    simp only [List.length_append,List.length_cons]
    omega
  · simp only [List.flatten_append,List.flatten_cons,List.length_append,hM.length_eq]
    omega
end
abbrev U2:=Option Unit×Unit
abbrev UN:=Option Unit×Nat
def srIn (size pw:Nat):SM U2 :=
  forIn [:size] ((none,()):U2) fun _ _=>do
    let st ← get
    match (if (pendingOf st).size > 1 then (pendingOf st)[(pendingOf st).size - 2]? else none) with
    | some (_,_,older) =>
      if older ≤ pw then pure (.done (none,()))
      else do
        let b ← mergeAt' ((pendingOf st).size - 2)
        if (!b) = true then pure (.done (some (),())) else pure (.yield (none,()))
    | _=>pure (.done (none,()))
def srPush (size lo n:Nat):SM (ForInStep UN):=do
  let st ← get
  match (pendingOf st).back? with
  | some (s1,n1,_)=>do
    let c ← srIn size (power' size (2 * s1 + n1) (2 * s1 + n1 + n1 + n) size)
    match c.1 with
    | some r=>pure (.done (some r,lo))
    | none=>do
      modify fun s=>setPending s ((pendingOf s).modify ((pendingOf s).size - 1) fun p=>(p.1,p.2.1,power' size (2 * s1 + n1) (2 * s1 + n1 + n1 + n) size))
      modify fun s=>setPending s ((pendingOf s).push (lo,n,0))
      pure (.yield (none,lo + n))
  | _=>do
    modify fun s=>setPending s ((pendingOf s).push (lo,n,0))
    pure (.yield (none,lo + n))
def srOne (size minrun:Nat) (c:UN):SM (ForInStep UN) :=
  if c.2 ≥ size then pure (.done (none,c.2))
  else do
    let z ← countRun' c.2 (size - c.2)
    match z with
    | some m =>
      if m < minrun then do
        liftM (rule "list.sort.binary-insertion")
        let b ← binarySort' c.2 (min (size - c.2) minrun) m
        if (!b) = true then pure (.done (some (),c.2)) else srPush size c.2 (min (size - c.2) minrun)
      else srPush size c.2 m
    | _=>pure (.done (some (),c.2))
def srIdx (p:Array (Nat×Nat×Nat)):Nat :=
  if (if p.size - 2 > 0 then p[p.size - 2 - 1]?.map (·.2.1) else none).any (· < (p[p.size - 2 + 1]?.elim 0 (·.2.1))) then p.size - 2 - 1 else p.size - 2
def srEnd (size:Nat):SM U2 :=
  forIn [:size] ((none,()):U2) fun _ _=>do
    let st ← get
    if (pendingOf st).size ≤ 1 then pure (.done (none,()))
    else do
      let b ← mergeAt' (srIdx (pendingOf st))
      if (!b) = true then pure (.done (some (),())) else pure (.yield (none,()))
theorem sortRuns'_eq2:sortRuns' = (do
    let st ← get
    let c ← forIn [:(arrOf st).size] ((none,0):UN) fun _ c=>srOne (arrOf st).size (minRun' (arrOf st).size (arrOf st).size 0) c
    match c.1 with
    | some r=>pure r
    | none=>do
      let c ← srEnd (arrOf st).size
      match c.1 with
      | some r=>pure r
      | none=>pure ()):=by kernel_rfl
section
variable {prog:Program} {w:World} {A:Around} {E:Value→Shared→Prop} {s:Shared} {a₀:List Keyed} {κ:KeyKind}
theorem RB.split {st0 st:SortSt} {lo:Nat} (h:RB st0 lo st) {F rest:List Keyed} (he:(arrOf st0).toList = F ++ rest) (hl:F.length = lo):∃ r,(arrOf st).toList = F ++ r∧r.Perm rest:=by
  have e:(arrOf st).toList.take lo = F:=by
    apply List.ext_getElem?
    intro k
    rcases Nat.lt_or_ge k lo with hk | hk
    · rw [List.getElem?_take_of_lt hk,Array.getElem?_toList,h.pre k hk,← Array.getElem?_toList,he,List.getElem?_append_left (by omega)]
    · rw [List.getElem?_eq_none (by rw [List.length_take]; omega),List.getElem?_eq_none (by omega)]
  have e2:(arrOf st).toList = F ++ (arrOf st).toList.drop lo:=by rw [← e,List.take_append_drop]
  refine ⟨_,e2,?_⟩
  have hp:=Array.perm_iff_toList_perm.mp h.perm
  rw [e2,he] at hp
  exact (List.perm_append_left_iff F).mp hp
theorem SrO.srt {xs:KA} {F r:List Keyed} {lo n:Nat} (h:SrO κ xs lo n) (he:xs.toList = F ++ r) (hl:F.length = lo) (hn:n ≤ r.length):Srt κ (r.take n):=by
  have hsz:xs.size = lo + r.length:=by rw [← Array.length_toList,he,List.length_append,hl]
  have g:∀ i (hi:i < n),KK κ xs (lo + i) = kv κ (r[i]'(by omega)):=fun i hi=>by
    rw [KK_eq (by omega),← Array.getElem_toList]
    simp only [he]
    rw [List.getElem_append_right (by omega)]
    congr 2; omega
  refine List.pairwise_iff_getElem.mpr fun i j hi hj hij=>?_
  rw [List.length_take] at hi hj
  rw [List.getElem_take,List.getElem_take,← g i (by omega),← g j (by omega)]
  exact h i j (by omega) (by omega)
theorem modify_last {α:Type} {p:Array α} {ps:List α} {x:α} {f:α→α} (h:p.toList = ps ++ [x]):(p.modify (p.size - 1) f).toList = ps ++ [f x]:=by
  have hsz:p.size = ps.length + 1:=by rw [← Array.length_toList,h]; simp
  rw [Array.toList_modify,h,hsz,Nat.add_sub_cancel]
  clear h hsz
  induction ps with
  | nil=>rfl
  | cons y ps ih=>simpa using ih
theorem wpS_srPush (hO:κ.OneLt) (h0:∀ p ∈ a₀,HasK κ p) {size lo n:Nat} {gs:List (List Keyed)} {g r:List Keyed} {st:SortSt} (hS:SI κ a₀ gs (g ++ r) st) (hlo:lo = gs.flatten.length) (hn:n = g.length) (hn0:0 < n) (hg:Srt κ g) {Q:ForInStep UN→SortSt→Prop}
    (h:∀ gs' st',SI κ a₀ gs' r st'→gs'.flatten.length = lo + n→Q (.yield (none,lo + n)) st'):wpS (model prog w) A E s (srPush size lo n) Q st:=by
  have fin:∀ gs' st',SI κ a₀ gs' (g ++ r) st'→gs'.flatten.length = lo→Q (.yield (none,lo + n)) (setPending st' ((pendingOf st').push (lo,n,0))):=by
    intro gs' st' h1 h2
    refine h (gs' ++ [g]) _ ⟨h1.kind,h1.failed,?_,?_,?_⟩ ?_
    · show (arrOf st').toList = _
      rw [h1.arr]; simp
    · have:=h1.perm
      simpa using this
    · show Pd κ 0 _ ((pendingOf st').push (lo,n,0)).toList
      rw [Array.toList_push]
      exact h1.pd.snoc (by show lo = _; omega) hn (by omega) hg
    · rw [List.flatten_append,List.length_append,h2]; simp [hn]
  unfold srPush
  refine wpS_bind (wpS_get ?_)
  cases hb:(pendingOf st).back? with
  | none=>exact wpS_bind (wpS_modify (wpS_pure (fin gs st hS hlo.symm)))
  | some b =>
    obtain ⟨s1,n1,b3⟩:=b
    dsimp only
    generalize power' size (2 * s1 + n1) (2 * s1 + n1 + n1 + n) size = pw
    unfold srIn
    refine wpS_bind (wpS_mono (wpS_forRange (I:=fun _ c st'=>c = (none,())∧∃ gs',SI κ a₀ gs' (g ++ r) st'∧gs'.flatten.length = lo) (Q:=fun c st'=>c = (none,())∧∃ gs',SI κ a₀ gs' (g ++ r) st'∧gs'.flatten.length = lo) ?step (fun _ _ hh=>hh) ⟨rfl,gs,hS,hlo.symm⟩) ?post)
    case step =>
      rintro x c st' _ _ ⟨rfl,gs',hS',hl'⟩
      refine wpS_bind (wpS_get ?_)
      by_cases hz:(pendingOf st').size > 1
      · rw [if_pos hz,getElem?_pos (pendingOf st') ((pendingOf st').size - 2) (by omega)]
        dsimp only
        refine wpS_if (fun _=>wpS_pure ⟨rfl,gs',hS',hl'⟩) fun _=>wpS_bind (wpS_mergeSt hO h0 hS' (by omega) fun gs2 st2 h1 h2 h3=>?_)
        exact wpS_pure ⟨rfl,gs2,h1,by omega⟩
      · rw [if_neg hz]
        exact wpS_pure ⟨rfl,gs',hS',hl'⟩
    case post =>
      rintro c st' ⟨rfl,gs',hS',hl'⟩
      dsimp only
      refine wpS_bind (wpS_modify (wpS_bind (wpS_modify (wpS_pure ?_))))
      refine fin gs' (setPending st' ((pendingOf st').modify ((pendingOf st').size - 1) fun p=>(p.1,p.2.1,pw))) ⟨hS'.kind,hS'.failed,hS'.arr,hS'.perm,?_⟩ hl'
      show Pd κ 0 gs' ((pendingOf st').modify ((pendingOf st').size - 1) fun p=>(p.1,p.2.1,pw)).toList
      have hpd:=hS'.pd
      rcases List.eq_nil_or_concat (pendingOf st').toList with e | ⟨ps,y,e⟩
      · have e':pendingOf st' = #[]:=Array.toList_inj.mp e
        rw [e'] at hpd ⊢
        exact hpd
      · rw [List.concat_eq_append] at e
        rw [modify_last e]
        rw [e] at hpd
        exact hpd.last rfl rfl
theorem wpS_srOne (hO:κ.OneLt) (h0:∀ p ∈ a₀,HasK κ p) {mr:Nat} {gs:List (List Keyed)} {rest:List Keyed} {st:SortSt} (hS:SI κ a₀ gs rest st) {lo:Nat} (hlo:gs.flatten.length = lo) {Q:ForInStep UN→SortSt→Prop}
    (hd:lo = a₀.length→Q (.done (none,lo)) st) (hy:∀ gs' r st' n,SI κ a₀ gs' r st'→gs'.flatten.length = lo + n→0 < n→Q (.yield (none,lo + n)) st'):wpS (model prog w) A E s (srOne a₀.length mr (none,lo)) Q st:=by
  have hlen:lo + rest.length = a₀.length:=by rw [← hS.perm.length_eq,List.length_append,hlo]
  have hsz:(arrOf st).size = a₀.length:=by rw [← Array.length_toList,hS.arr,hS.perm.length_eq]
  unfold srOne
  dsimp only
  refine wpS_if (fun hge=>wpS_pure (hd (by omega))) fun hge=>?_
  have hK:RK κ st:=⟨hO,hS.kind,hS.has h0⟩
  have fin:∀ n st2,RB st lo st2→1 ≤ n→n ≤ a₀.length - lo→SrO κ (arrOf st2) lo n→wpS (model prog w) A E s (srPush a₀.length lo n) Q st2:=by
    intro n st2 hB h1 h2 hs
    obtain ⟨r,e1,e2⟩:=hB.split hS.arr hlo
    have hrl:r.length = a₀.length - lo:=by rw [e2.length_eq]; omega
    have hse:st2 = setArr st (arrOf st2):=hB.eq
    refine wpS_srPush hO h0 (gs:=gs) (g:=r.take n) (r:=r.drop n) ⟨?_,?_,?_,?_,?_⟩ hlo.symm (by rw [List.length_take]; omega) (by omega) (hs.srt e1 hlo (by omega)) fun gs' st' a1 a2=>hy gs' _ st' n a1 a2 (by omega)
    · rw [hse]; exact hS.kind
    · rw [hse]; exact hS.failed
    · rw [List.take_append_drop]; exact e1
    · rw [List.take_append_drop]; exact (List.Perm.append_left _ e2).trans hS.perm
    · rw [hse]; exact hS.pd
  refine wpS_bind (wpS_countRunO hK (by omega) (by omega) fun m st2 hB hm1 hm2 hs2=>?_)
  dsimp only
  refine wpS_if (fun hlt=>?_) fun hlt=>fin m st2 hB hm1 hm2 hs2
  refine wpS_bind (wpS_lift (wpAny_rule ⟨rfl,wpS_bind (wpS_binO hK hB (by omega) (by omega) hm1 hs2 fun st3 hB3 hs3=>?_)⟩))
  exact fin _ st3 hB3 (by omega) (by omega) hs3
theorem srIdx_le {p:Array (Nat×Nat×Nat)} (h:¬ p.size ≤ 1):srIdx p + 1 < p.size:=by
  unfold srIdx
  generalize Option.any _ _ = c
  cases c
  · rw [if_neg (by simp)]; omega
  · rw [if_pos rfl]; omega
theorem wpS_sortRunsG (hO:κ.OneLt) {b₀:KA} (h0:KeysOf κ b₀) {st:SortSt} (hB:SBase b₀ st) {Q:Unit→SortSt→Prop}
    (h:∀ st',(arrOf st').Perm b₀→failedOf st' = none→SortedToK κ (arrOf st') b₀.size→Q () st'):wpS (model prog w) A E s sortRuns' Q st:=by
  have hk:∀ p ∈ b₀.toList,HasK κ p:=h0
  have hS0:SI κ b₀.toList [] (arrOf st).toList st:=⟨hB.kind,hB.failed,rfl,Array.perm_iff_toList_perm.mp hB.perm,by rw [hB.pend]; trivial⟩
  have hsz:(arrOf st).size = b₀.toList.length:=by rw [hB.size,Array.length_toList]
  rw [sortRuns'_eq2]
  refine wpS_bind (wpS_get ?_)
  rw [hsz]
  refine wpS_bind (wpS_mono (wpS_forRange (I:=fun x c st'=>∃ lo gs r,c = (none,lo)∧SI κ b₀.toList gs r st'∧gs.flatten.length = lo∧x ≤ lo)
    (Q:=fun c st'=>∃ lo gs r,c = (none,lo)∧SI κ b₀.toList gs r st'∧gs.flatten.length = b₀.toList.length) ?step ?fin ⟨0,[],_,rfl,hS0,rfl,Nat.le_refl _⟩) ?post)
  case fin =>
    rintro c st' ⟨lo,gs,r,rfl,hS,hl,hx⟩
    have:=hS.perm.length_eq
    rw [List.length_append] at this
    exact ⟨lo,gs,r,rfl,hS,by omega⟩
  case step =>
    rintro x c st' _ hx ⟨lo,gs,r,rfl,hS,hl,hx2⟩
    exact wpS_srOne hO hk hS hl (fun e=>⟨lo,gs,r,rfl,hS,by omega⟩) fun gs' r' st2 n h1 h2 h3=>⟨lo + n,gs',r',rfl,h1,h2,by omega⟩
  case post =>
    rintro c st' ⟨lo,gs,r,rfl,hS,hl⟩
    dsimp only
    have hr:r = []:=by
      have:=hS.perm.length_eq
      rw [List.length_append] at this
      exact List.eq_nil_of_length_eq_zero (by omega)
    subst hr
    have hpl:=hS.pd.len
    rw [Array.length_toList] at hpl
    unfold srEnd
    refine wpS_bind (wpS_mono (wpS_forRange (I:=fun x c st'=>c = (none,())∧∃ gs,SI κ b₀.toList gs [] st'∧(pendingOf st').size + x ≤ b₀.toList.length + 1)
      (Q:=fun c st'=>c = (none,())∧∃ gs,SI κ b₀.toList gs [] st'∧(pendingOf st').size ≤ 1) ?s2 ?f2 ⟨rfl,gs,hS,by omega⟩) ?p2)
    case f2 =>
      rintro c st2 ⟨rfl,gs2,hS2,hx⟩
      exact ⟨rfl,gs2,hS2,by omega⟩
    case s2 =>
      rintro x c st2 _ hx ⟨rfl,gs2,hS2,hx2⟩
      refine wpS_bind (wpS_get ?_)
      refine wpS_if (fun h1=>wpS_pure ⟨rfl,gs2,hS2,h1⟩) fun h1=>wpS_bind (wpS_mergeSt hO hk hS2 (srIdx_le h1) fun gs3 st3 a1 a2 a3=>?_)
      exact wpS_pure ⟨rfl,gs3,a1,by omega⟩
    case p2 =>
      rintro c st2 ⟨rfl,gs2,hS2,h1⟩
      have hl2:=hS2.pd.len
      rw [Array.length_toList] at hl2
      have ha:=hS2.arr
      rw [List.append_nil] at ha
      have hp:(arrOf st2).Perm b₀:=Array.perm_iff_toList_perm.mpr (by rw [hS2.arr]; exact hS2.perm)
      have hsrt:Srt κ (arrOf st2).toList:=by
        rw [ha]
        match gs2,hl2,hS2.pd with
        | [],_,_=>exact List.Pairwise.nil
        | [g],_,hpd =>
          rw [show [g].flatten = g by simp]
          revert hpd
          cases (pendingOf st2).toList with
          | nil=>exact fun hpd=>hpd.elim
          | cons p ps=>exact fun hpd=>hpd.2.2.2.1
        | _ :: _ :: _,hl2,_=>simp only [List.length_cons] at hl2; omega
      refine wpS_pure (h st2 hp hS2.failed fun i j hij hj=>?_)
      have hz:=hp.size_eq
      rw [KK_eq (by omega),KK_eq (by omega)]
      exact hsrt.at hij (by omega)
end
@[reducible] def intK:KeyKind where
  α:=Int
  blt a b:=decide (a < b)
  irrefl a:=by simp
  trans a b c h1 h2:=by simp only [decide_eq_true_eq] at *; omega
  negTrans a b c h:=by simp only [decide_eq_true_eq] at *; omega
  total a b h1 h2:=by simp only [decide_eq_false_iff_not] at *; omega
  keyOf v:=match v with | .int x _=>some x | _=>none
  dflt:=0
section
variable {prog:Program} {w:World} {A:Around} {E:Value→Shared→Prop} {s:Shared}
theorem intK_oneLt:intK.OneLt:=by
  intro prog w A E s x y a b Q ha hb h
  cases x <;> simp only [intK,reduceCtorEq,Option.some.injEq] at ha
  cases y <;> simp only [intK,reduceCtorEq,Option.some.injEq] at hb
  cases ha; cases hb
  exact oneLt_int h
theorem KK_int (xs:KA) (i:Nat):KK intK xs i = K xs i:=by
  unfold KK K
  cases xs[i]? with
  | none=>rfl
  | some p=>obtain ⟨v,q⟩:=p; cases v <;> rfl
theorem two_of:∀ {vs:List Value},¬ vs.toArray.size < 2→∃ a b r,vs = a :: b :: r
  | [],h=>absurd (by simp) h
  | [_],h=>absurd (by simp) h
  | a :: b :: r,_=>⟨a,b,r,rfl⟩
theorem sortG {κ:KeyKind} (hO:κ.OneLt) {a:Addr} {vs:List Value} {n:Nat} {P:Fin→Shared→Prop} (ho:s.heap.get? a = some (seqObj "list" vs.toArray n)) (h0:KeysOf κ (pairsOf vs))
    (hkk:∀ x y r,vs = x :: y :: r→keyKind' (x :: y :: r).toArray = pure oneType') (hz:vs.length ≤ 1000000)
    (h:∀ st':SortSt,(arrOf st').Perm (pairsOf vs)→SortedToK κ (arrOf st') (pairsOf vs).size→P (.done (.ret .none)) { s with heap:=sortedHeap s.heap a vs ((arrOf st').map (·.2)) }):wpAny (model prog w) A (Builtin.«list.sort» ⟨[.ref a],[]⟩) P E s:=by
  have ha:=Heap.lt_size ho
  have hps:=pairsOf_size vs
  obtain ⟨e1,ho1⟩ : ∃ e,(s.heap.update a (Obj.mapSeq fun _=>#[])).get? a = some (seqObj "list" #[] e):=⟨_,get?_update_seq ho _⟩
  have hsm:vs.toArray.size ≤ sizeLine:=by rw [List.size_toArray,sizeLine_eq]; omega
  have hl:=sizeLine_eq
  have ho6:(((s.heap.update a (Obj.mapSeq fun _=>#[])).push (seqObj "tuple" vs.toArray 0)).push (seqObj "list" #[] 0)).get? a = some (seqObj "list" #[] e1):=by
    have q1:a ≠ (s.heap.update a (Obj.mapSeq fun _=>#[])).objs.size:=by rw [Heap.size_update]; exact Nat.ne_of_lt ha
    have q2:a ≠ ((s.heap.update a (Obj.mapSeq fun _=>#[])).push (seqObj "tuple" vs.toArray 0)).objs.size:=by rw [size_push',Heap.size_update]; exact Nat.ne_of_lt (Nat.lt_succ_of_lt ha)
    rw [Heap.get?_push_ne _ _ _ q2,Heap.get?_push_ne _ _ _ q1,ho1]
  have hup:∀ st':SortSt,(arrOf st').Perm (pairsOf vs)→((arrOf st').map (·.2)).size ≤ sizeLine + 1:=fun st' hp=>by rw [Array.size_map,hp.size_eq,hps,hl]; omega
  rw [list_sort_plain]
  refine wpAny_bind (listItems_at ho rfl (wpAny_bind ?_))
  refine listUpdate_at ho rfl (wpAny_bind (seqEpoch_at ho1 rfl (wpAny_bind ?_))) hsm (Nat.zero_le _)
  refine wpAny_newTuple (wpAny_bind (wpAny_newList (wpAny_holding ?_)))
  show wpAny (model prog w) A _ P E { s with heap:=((s.heap.update a (Obj.mapSeq fun _=>#[])).push (seqObj "tuple" vs.toArray 0)).push (seqObj "list" #[] 0) }
  dsimp only
  by_cases h2:vs.toArray.size < 2
  · rw [if_pos h2,if_pos h2]
    refine wpAny_bind (wpAny_pure (wpAny_bind ?_))
    rw [StateT.run_pure]
    refine wpAny_pure (wpAny_bind (seqEpoch_at ho6 rfl (wpAny_bind ?_)))
    have hp:(vs.toArray.zip vs.toArray).Perm (pairsOf vs):=Array.Perm.refl _
    refine listUpdate_at ho6 rfl ?_ (hsz2:=hup (SortSt.mk' general' (vs.toArray.zip vs.toArray) #[] 7 none) hp)
    simp only [bne_self_eq_false,Bool.false_eq_true,if_false]
    refine wpAny_pure (h (SortSt.mk' general' (vs.toArray.zip vs.toArray) #[] 7 none) hp fun i j hij hj=>?_)
    obtain rfl:i = j:=by rw [hps] at hj; rw [List.size_toArray] at h2; omega
    exact KeyOrd.kle_refl _
  · rw [if_neg h2,if_neg h2]
    obtain ⟨x,y,r,rfl⟩:=two_of h2
    rw [hkk _ _ _ rfl]
    refine wpAny_bind (wpAny_pure (wpAny_bind ?_))
    have hB:SBase (pairsOf (x :: y :: r)) (SortSt.mk' oneType' ((x :: y :: r).toArray.zip (x :: y :: r).toArray) #[] 7 none):=⟨Array.Perm.refl _,rfl,rfl,rfl⟩
    refine wpAny_mono (wpS_sortRunsG (Q:=fun _ st'=>(arrOf st').Perm (pairsOf (x :: y :: r))∧failedOf st' = none∧SortedToK κ (arrOf st') (pairsOf (x :: y :: r)).size) hO h0 hB fun st' b1 b2 b3=>⟨b1,b2,b3⟩) ?_ fun _ _ e=>e
    rintro ⟨⟨⟩,st'⟩ s' ⟨rfl,hp,hf,hs⟩
    dsimp only
    refine wpAny_bind (seqEpoch_at ho6 rfl (wpAny_bind (listUpdate_at ho6 rfl ?_ (hsz2:=hup st' hp))))
    rw [hf]
    simp only [bne_self_eq_false,Bool.false_eq_true,if_false]
    exact wpAny_pure (h st' hp hs)
theorem keysI {vs:List Value} {ns:List Int} (hI:IntsAre vs ns):KeysOf intK (pairsOf vs):=fun p hp=>by
  obtain ⟨n,t,e⟩:=hI.intKeys p hp
  exact ⟨n,by rw [e]⟩
theorem sortG_ints {a:Addr} {vs:List Value} {ns:List Int} {Q:Value→Shared→Prop} (ho:s.heap.get? a = some (seqObj "list" vs.toArray 0)) (hI:IntsAre vs ns) (hz:vs.length ≤ 1000000)
    (h:∀ (out:Array Value) (ns':List Int),IntsAre out.toList ns'→ns'.Perm ns→ns'.Pairwise (· ≤ ·)→Q .none { s with heap:=sortedHeap s.heap a vs out }):wpAny (model prog w) A (call (.builtin "list.sort") [.ref a]) Q E s :=
  wpAny_call_entry slot_list_sort ⟨_,ho,rfl⟩ entry_list_sort (sortG intK_oneLt ho (keysI hI) (fun x y r e=>keyKind_ints (by rw [← e]; exact hI)) hz fun st' hp hs=>⟨_,rfl,by
    obtain ⟨ns',h1,h2,h3⟩:=sorted_out hI hp fun i j hij hj=>by
      have:=hs i j hij hj
      rw [KK_int,KK_int] at this
      exact Int.not_lt.mp (of_decide_eq_false this)
    exact h _ ns' h1 h2 h3⟩) (args_list_sort _)
end
end StT
namespace L2
open PySem PySem.Spec PyProof.Rows
def ltS (x y:Str):Prop:=x.cps.toList < y.cps.toList
theorem boot_set':bootBuiltins "set" = some (.type "set"):=by kernel_rfl
theorem ltS_of {x y:Str} (h:¬ y.cps.toList < x.cps.toList) (n:x ≠ y):ltS x y:=by
  unfold ltS
  have hle:x.cps.toList ≤ y.cps.toList:=List.not_lt.mp h
  refine Decidable.byContradiction fun h2=>n ?_
  have hle2:y.cps.toList ≤ x.cps.toList:=List.not_lt.mp h2
  have e:=List.le_antisymm hle hle2
  cases x; cases y
  simp at e
  subst e
  rfl
theorem out_str {vs:List Value} {ss:List Str} (hS:StrsAre vs ss) {xs:Array Keyed} (hp:xs.Perm (pairsOf vs)) (hs:SortedToK strKind xs (pairsOf vs).size) :
    ∃ ss',StrsAre (xs.map (·.2)).toList ss'∧ss'.Perm ss∧ss'.Pairwise fun a b=>¬ b.cps.toList < a.cps.toList:=by
  have hl:xs.toList.Perm (vs.zip vs):=by rw [← pairsOf_toList]; exact Array.perm_iff_toList_perm.mp hp
  have hmem:∀ p,p ∈ xs.toList→p.1 = p.2∧p.1 ∈ vs:=fun p hp'=>mem_zip_self (hl.mem_iff.mp hp')
  refine ⟨xs.toList.map (fun p=>strOf p.1),?_,?_,?_⟩
  · have e:(xs.map (·.2)).toList = xs.toList.map (·.1):=by
      rw [Array.toList_map]; exact List.map_congr_left fun p hp'=>(hmem p hp').1.symm
    rw [e]
    have h1:=strsAre_map (xs.toList.map (·.1)) (by
      intro v hv
      obtain ⟨p,hp',rfl⟩:=List.mem_map.mp hv
      exact hS.all _ (hmem p hp').2)
    rwa [List.map_map] at h1
  · have h1:=hl.map (fun p=>strOf p.1)
    have e2:(vs.zip vs).map (fun p=>strOf p.1) = ss:=by
      have:(vs.zip vs).map (fun p=>strOf p.1) = ((vs.zip vs).map Prod.fst).map strOf:=by rw [List.map_map]; rfl
      rw [this,List.map_fst_zip (Nat.le_refl _),hS.strs]
    rwa [e2] at h1
  · rw [List.pairwise_iff_getElem]
    intro i j hi hj hij
    have hi':i < xs.size:=by simpa using hi
    have hj':j < xs.size:=by simpa using hj
    have h1:=hs i j (Nat.le_of_lt hij) (by rw [← hp.size_eq]; exact hj')
    obtain ⟨x,t,ex⟩:=hS.all _ (hmem xs[i] (by simp)).2
    obtain ⟨y,u,ey⟩:=hS.all _ (hmem xs[j] (by simp)).2
    rw [KK_str hi' (x:=x) (t:=t) (q:=xs[i].2) (Prod.ext ex rfl),KK_str hj' (x:=y) (t:=u) (q:=xs[j].2) (Prod.ext ey rfl)] at h1
    change decide (y.cps.toList < x.cps.toList) = false at h1
    simp only [List.getElem_map,Array.getElem_toList]
    rw [show strOf xs[i].1 = x by rw [ex]; rfl,show strOf xs[j].1 = y by rw [ey]; rfl]
    exact of_decide_eq_false h1
section
variable {prog:Program} {w:World} {A:Around} {E:Value→Shared→Prop} {s:Shared}
theorem sort_strs {a:Addr} {vs:List Value} {ss:List Str} {Q:Value→Shared→Prop} (ho:s.heap.get? a = some (seqObj "list" vs.toArray 0)) (hS:StrsAre vs ss) (h64:vs.length < 1000)
    (h:∀ (out:Array Value) (ss':List Str),StrsAre out.toList ss'→ss'.Perm ss→(ss'.Pairwise fun a b=>¬ b.cps.toList < a.cps.toList)→Q .none { s with heap:=sortedHeap s.heap a vs out }):wpAny (model prog w) A (call (.builtin "list.sort") [.ref a]) Q E s :=
  wpAny_call_entry slot_list_sort ⟨_,ho,rfl⟩ entry_list_sort (StT.sortG strKind_oneLt ho hS.keysOf (fun v₁ v₂ rest e=>keyKind_strs (by rw [← e]; exact hS)) (by omega) fun st' hp hs=>⟨_,rfl,by
    obtain ⟨ss',h1,h2,h3⟩:=out_str hS hp hs
    exact h _ ss' h1 h2 h3⟩) (args_list_sort _)
end
def SortedOf (xs ys:List V):Prop :=
  (∃ ns ms:List Int,xs = ns.map V.int∧ys = ms.map V.int∧ms.Pairwise (· < ·)∧∀ n,n ∈ ms ↔ n ∈ ns)∨∃ ns ms:List Str,xs = ns.map V.str∧ys = ms.map V.str∧ms.Pairwise ltS∧∀ n,n ∈ ms ↔ n ∈ ns
def tSortSet (K:PySem.W.Frag) (te:TE):TE:=fun σ H Q=>te σ H fun x H1=>∃ a xs,x = .ref a∧(SqL K H1 a xs∨SqT K H1 a xs)∧xs.length < 1000∧((∃ ns:List Int,xs = ns.map V.int)∨∃ ss:List Str,xs = ss.map V.str) ∧
  ∀ p ys,H1 p = none→SortedOf xs ys→Q (.ref p) (upd H1 p (.lst ys))
theorem nod_of {ms ms':List Int} (h:ms.Pairwise (· ≤ ·)) (n:ms.Nodup):ms.Pairwise (· < ·):=by
  rw [List.pairwise_iff_getElem] at h ⊢
  intro i j hi hj hij
  have h1:=h i j hi hj hij
  have h2:=List.pairwise_iff_getElem.mp n i j hi hj hij
  omega
theorem vals_intsA {ns:List Int}:∀ {us:List Value},IntsAre us ns→Vals (ns.map V.int) us:=by
  induction ns with
  | nil=>intro us r; cases r; exact .nil
  | cons y ys ih=>intro us r; cases r with | cons _ t r=>exact .cons ⟨t,rfl⟩ (ih r)
theorem vals_strs' {ns:List Str}:∀ {us:List Value},StrsAre us ns→Vals (ns.map V.str) us:=by
  induction ns with
  | nil=>intro us r; cases r; exact .nil
  | cons y ys ih=>intro us r; cases r with | cons _ t r=>exact .cons ⟨t,rfl⟩ (ih r)
def keyV:V→Key
  | .int n=>.inl n
  | .str x=>.inr x
  | _=>.inl 0
def keyAt (xs:List V) (i:Nat):Key:=((xs[i]?).map keyV).getD (.inl 0)
theorem mem_keyAt {xs:List V} {k:Key}:k ∈ metK (keyAt xs) xs.length ↔ ∃ x ∈ xs,keyV x = k:=by
  rw [mem_metK]
  constructor
  · rintro ⟨j,hj,e⟩
    refine ⟨xs[j],List.getElem_mem hj,?_⟩
    unfold keyAt at e
    rw [List.getElem?_eq_getElem hj] at e
    exact e
  · rintro ⟨x,hx,e⟩
    obtain ⟨j,hj,rfl⟩:=List.mem_iff_getElem.mp hx
    refine ⟨j,hj,?_⟩
    unfold keyAt
    rw [List.getElem?_eq_getElem hj]
    exact e
theorem keyAt_is {xs:List V} {its:List Value} (r:Vals xs its) (hx:∀ x ∈ xs,(∃ n,x = .int n)∨∃ y,x = .str y) (i:Nat) (v:Value) (e:its.toArray[i]? = some v):keyIs (keyAt xs i) v = true∧v.scannable = true:=by
  have e':its[i]? = some v:=by simpa using e
  have hl:=r.length
  have hi:i < xs.length:=by rw [hl]; exact (List.getElem?_eq_some_iff.mp e').1
  obtain ⟨u,hu,ru⟩:=r.get (List.getElem?_eq_getElem hi)
  rw [e'] at hu
  cases hu
  have ek:keyAt xs i = keyV xs[i]:=by unfold keyAt; rw [List.getElem?_eq_getElem hi]; rfl
  rw [ek]
  rcases hx xs[i] (List.getElem_mem hi) with ⟨n,q⟩ | ⟨y,q⟩
  · rw [q] at ru ⊢
    obtain ⟨t,rfl⟩:=ru
    exact ⟨keyIs_int n t,rfl⟩
  · rw [q] at ru ⊢
    obtain ⟨t,rfl⟩:=ru
    exact ⟨keyIs_str y t,rfl⟩
section
variable {X:Cx} {e:Expr} {te:TE} {p1 p2 pos pos2:Pos}
theorem sortset_run {pins:List (Addr×Obj)} {σ:St} {H:Hp} {s:Shared} {Q:VK} {S:Addr} {xs:List V} {es:Array (Int×Value)} {ep:Nat} {t:SetTable} (hc:X.calm = true) (I:Inv X pins σ H s) (hS:SetR X.prog X.w s.heap S (metK (keyAt xs) xs.length) es ep t) (h64:xs.length < 1000)
    (hx:(∃ ns:List Int,xs = ns.map V.int)∨∃ ss:List Str,xs = ss.map V.str) (q:∀ p ys,H p = none→SortedOf xs ys→Q (.ref p) (upd H p (.lst ys))) :
    wpAny (model X.prog X.w) X.A (call (.builtin "sorted") [.ref S]) (EP X pins σ Q) X.xe s:=by
  refine set_sorted (I.ok.hd hc) hS fun h' tk d vs hz hk hp=>?_
  have hn:H h'.objs.size = none:=I.hok.fresh hz
  have hperm:(vs.map kOf).Perm (metK (keyAt xs) xs.length):=by
    refine (hp.map kOf).trans ?_
    rw [List.map_map]
    exact hS.keys
  have hlen:vs.length < 1000:=by
    have h1:=hperm.length_eq
    have h2:=metK_len (keyAt xs) xs.length
    rw [List.length_map] at h1
    omega
  have hel:∀ v ∈ vs,∃ k,keyIs k v = true∧k ∈ metK (keyAt xs) xs.length:=fun v hv=>by
    obtain ⟨e,he,rfl⟩:=List.mem_map.mp (hp.mem_iff.mp hv)
    obtain ⟨⟨k,hk',_⟩,_⟩:=hS.els e he
    exact ⟨k,hk',hS.mem.mp ⟨e,he,hk'⟩⟩
  have hob:(h'.push (seqObj "list" vs.toArray 0)).get? h'.objs.size = some (seqObj "list" vs.toArray 0):=Heap.get?_push_size _ rfl
  have fin:∀ (ys:List V) (out:Array Value),Vals ys out.toList→ys.length < 1000→SortedOf xs ys→EP X pins σ Q (.ref h'.objs.size) { s with heap:=sortedHeap (h'.push (seqObj "list" vs.toArray 0)) h'.objs.size vs out,toks:=tk,drawn:=d }:=fun ys out r hl so=>by
    have keep:∀ b o,s.heap.get? b = some o→(sortedHeap (h'.push (seqObj "list" vs.toArray 0)) h'.objs.size vs out).get? b = some o:=fun b o e=>by
      have hb:=hk b o e
      have hlt:=Heap.lt_size hb
      rw [sortedHeap_old (Nat.ne_of_lt hlt) (by rw [size_push']; exact Nat.lt_succ_of_lt hlt)]
      exact Heap.get?_push_of_some _ hb
    obtain ⟨c,hat⟩ : ∃ c,(sortedHeap (h'.push (seqObj "list" vs.toArray 0)) h'.objs.size vs out).get? h'.objs.size = some (seqObj "list" out c):=sortedHeap_at hob
    have hobj:ObjOk X.prog X.w (upd H h'.objs.size (.lst ys)) (sortedHeap (h'.push (seqObj "list" vs.toArray 0)) h'.objs.size vs out) h'.objs.size (.lst ys):=⟨by rw [sizeLine_eq]; omega,out.toList,c,r,by rw [hat]⟩
    refine ⟨.ref h'.objs.size,upd H h'.objs.size (.lst ys),?_,rfl,q _ _ hn so⟩
    exact I.call' (s':={ s with heap:=sortedHeap (h'.push (seqObj "list" vs.toArray 0)) h'.objs.size vs out,toks:=tk,drawn:=d }) (ch:=[]) rfl (Un.laid keep hz hn) (I.hok.laid keep hz hobj) I.bare fun b hb=>absurd hb (by simp)
  rcases hx with ⟨ns,rfl⟩ | ⟨ss,rfl⟩
  · have hint:∀ v ∈ vs,∃ n t,v = Value.int n t:=fun v hv=>by
      obtain ⟨k,hk1,hk2⟩:=hel v hv
      obtain ⟨x,hx,e⟩:=mem_keyAt.mp hk2
      obtain ⟨n,hn',rfl⟩:=List.mem_map.mp hx
      subst e
      rcases keyIs_shape hk1 with ⟨i,t,e1,e2⟩ | ⟨y,t,e1,e2⟩
      · exact ⟨i,t,e2⟩
      · cases e1
    have hI:=intsAre_map vs hint
    refine StT.sortG_ints hob hI (by omega) fun out ns' a1 a2 a3=>?_
    have ek:vs.map kOf = (vs.map numOf).map Sum.inl:=by
      rw [List.map_map]
      refine List.map_congr_left fun v hv=>?_
      obtain ⟨n,t,rfl⟩:=hint v hv
      rfl
    have hnod:ns'.Nodup:=by
      refine a2.nodup_iff.mpr ?_
      have h1:=hperm.nodup_iff.mpr hS.nod
      rw [ek] at h1
      exact (List.pairwise_map.mp h1).imp fun hne e=>hne (congrArg _ e)
    refine fin (ns'.map V.int) out (vals_intsA a1) (by rw [List.length_map,a2.length_eq,List.length_map]; exact hlen) (.inl ⟨ns,ns',rfl,rfl,nod_of (ms':=[]) a3 hnod,fun n=>?_⟩)
    rw [a2.mem_iff]
    have:n ∈ vs.map numOf ↔ (Sum.inl n:Key) ∈ vs.map kOf:=by
      rw [ek]
      constructor
      · exact fun h=>List.mem_map.mpr ⟨n,h,rfl⟩
      · intro h
        obtain ⟨m,hm,e⟩:=List.mem_map.mp h
        cases e
        exact hm
    rw [this,hperm.mem_iff,mem_keyAt]
    constructor
    · rintro ⟨x,hx,e⟩
      obtain ⟨m,hm,rfl⟩:=List.mem_map.mp hx
      cases e
      exact hm
    · exact fun h=>⟨.int n,List.mem_map.mpr ⟨n,h,rfl⟩,rfl⟩
  · have hstr:∀ v ∈ vs,∃ n t,v = Value.str n t:=fun v hv=>by
      obtain ⟨k,hk1,hk2⟩:=hel v hv
      obtain ⟨x,hx,e⟩:=mem_keyAt.mp hk2
      obtain ⟨n,hn',rfl⟩:=List.mem_map.mp hx
      subst e
      rcases keyIs_shape hk1 with ⟨i,t,e1,e2⟩ | ⟨y,t,e1,e2⟩
      · cases e1
      · exact ⟨y,t,e2⟩
    have hI:=strsAre_map vs hstr
    refine sort_strs hob hI hlen fun out ns' a1 a2 a3=>?_
    have ek:vs.map kOf = (vs.map strOf).map Sum.inr:=by
      rw [List.map_map]
      refine List.map_congr_left fun v hv=>?_
      obtain ⟨n,t,rfl⟩:=hstr v hv
      rfl
    have hnod:ns'.Nodup:=by
      refine a2.nodup_iff.mpr ?_
      have h1:=hperm.nodup_iff.mpr hS.nod
      rw [ek] at h1
      exact (List.pairwise_map.mp h1).imp fun hne e=>hne (congrArg _ e)
    refine fin (ns'.map V.str) out (vals_strs' a1) (by rw [List.length_map,a2.length_eq,List.length_map]; exact hlen) (.inr ⟨ss,ns',rfl,rfl,?_,fun n=>?_⟩)
    · rw [List.pairwise_iff_getElem] at a3 ⊢
      intro i j hi hj hij
      exact ltS_of (a3 i j hi hj hij) (List.pairwise_iff_getElem.mp hnod i j hi hj hij)
    rw [a2.mem_iff]
    have:n ∈ vs.map strOf ↔ (Sum.inr n:Key) ∈ vs.map kOf:=by
      rw [ek]
      constructor
      · exact fun h=>List.mem_map.mpr ⟨n,h,rfl⟩
      · intro h
        obtain ⟨m,hm,e⟩:=List.mem_map.mp h
        cases e
        exact hm
    rw [this,hperm.mem_iff,mem_keyAt]
    constructor
    · rintro ⟨x,hx,e⟩
      obtain ⟨m,hm,rfl⟩:=List.mem_map.mp hx
      cases e
      exact hm
    · exact fun h=>⟨.str n,List.mem_map.mpr ⟨n,h,rfl⟩,rfl⟩
theorem pe_sortset (hc:X.calm = true) (hg1:Gl X "sorted") (hm1:X.mg "sorted" = none) (hg2:Gl X "set") (hm2:X.mg "set" = none) (he:PE X e te) (hs1:starEach [e] X.env = [(false,eval e X.env)]:=by rfl)
    (hs2:starEach [Expr.Call (.Name "set" p2) [e] [] pos2] X.env = [(false,eval (.Call (.Name "set" p2) [e] [] pos2) X.env)]:=by rfl) :
    PE X (.Call (.Name "sorted" p1) [.Call (.Name "set" p2) [e] [] pos2] [] pos) (tSortSet X.K te):=by
  intro pins s σ H Q I h
  refine wpAny_Call_Name_kw (ld_blt I hg1 hm1 boot_sorted ?_ (by decide) (by decide))
  refine PyProof.Rows.callWith_builtin1 ?_ hs2 rfl
  rw [hs2]
  refine Calls.spliced_cons ?_
  refine wpAny_Call_Name_kw (ld_blt I hg2 hm2 boot_set' ?_ (by decide) (by decide))
  refine PyProof.Rows.callWith_type1 ?_ hs1 rfl
  rw [hs1]
  refine Calls.spliced_cons (thn (he pins s σ H _ I h) fun u s1 ⟨x,H1,I1,r1,a,xs,ex,hsq,h64,hx,q⟩=>?_)
  refine Calls.spliced_nil ?_
  subst ex
  cases r1
  have hx':∀ x ∈ xs,(∃ n,x = .int n)∨∃ y,x = .str y:=fun x hxm=>by
    rcases hx with ⟨ns,rfl⟩ | ⟨ss,rfl⟩
    · obtain ⟨n,_,rfl⟩:=List.mem_map.mp hxm; exact .inl ⟨n,rfl⟩
    · obtain ⟨n,_,rfl⟩:=List.mem_map.mp hxm; exact .inr ⟨n,rfl⟩
  have go:∀ {T:String} {its:List Value} {o:Obj},SetSrc X.prog X.w T a its.toArray→Vals xs its→s1.heap.get? a = some o→o.cls = .type T→(∃ n,o.data = .seq its.toArray n) →
      wpAny (model X.prog X.w) X.A (call (.type "set") [.ref a]) (fun v s2=>wpAny (model X.prog X.w) X.A (spliced []) (fun vs s3=>wpAny (model X.prog X.w) X.A (call (.builtin "sorted") (v :: vs)) (EP X pins σ Q) X.xe s3) X.xe s2) X.xe s1:=fun {T its o} src r ho hcl hd=>by
    have hl:=r.length
    refine call_set_of (key:=keyAt xs) src (I1.ok.hd hc) ho hcl hd (keyAt_is r hx') (by simp [scanBound]; omega) fun h' tk es ep t hS hk=>?_
    refine Calls.spliced_nil ?_
    have esz:its.toArray.size = xs.length:=by rw [List.size_toArray,hl]
    rw [esz] at hS
    exact sortset_run hc (I1.kept (t':=tk) hk) hS h64 hx q
  rcases hsq with hsq | hsq
  · obtain ⟨its,r,pl,_⟩:=I1.list hsq
    obtain ⟨o,ho,hcl,hd⟩:=pl.isList
    exact go src_list r ho hcl hd
  · obtain ⟨its,r,pl,_⟩:=I1.tuple hsq
    obtain ⟨o,ho,hcl,hd⟩:=pl
    exact go src_tup r ho hcl hd
end
end L2
namespace CS
open PySem L2
abbrev Spn:=Option Int×Option Int
def eV:Option Int→V
  | none=>.non
  | some n=>.int n
inductive CSet where
  | num (sps:List Spn)
  | wrd (b:Bool) (ws:List Str)
structure SpansAt (H:Hp) (t:Addr) (as:List Addr) (sps:List Spn):Prop where
  tup:H t = some (.tup (as.map V.ref))
  len:as.length = sps.length
  at_:∀ (i:Nat) a s,as[i]? = some a→sps[i]? = some s→H a = some (.tup [eV s.1,eV s.2])
def SetAt (H:Hp) (a:Addr):CSet→Prop
  | .num sps=>∃ t as,H a = some (.tup [.str "n", .ref t])∧SpansAt H t as sps
  | .wrd b ws=>∃ t,H a = some (.tup [.str "w", .bl b,.ref t])∧H t = some (.tup (ws.map V.str))
theorem SpansAt.keep {H H':Hp} {t:Addr} {as:List Addr} {sps:List Spn} (k:∀ a xs,H a = some (.tup xs)→H' a = some (.tup xs)) (h:SpansAt H t as sps):SpansAt H' t as sps :=
  ⟨k _ _ h.tup,h.len,fun i a s e1 e2=>k _ _ (h.at_ i a s e1 e2)⟩
theorem SetAt.keep {H H':Hp} {a:Addr} {S:CSet} (k:∀ a xs,H a = some (.tup xs)→H' a = some (.tup xs)) (h:SetAt H a S):SetAt H' a S:=by
  cases S with
  | num sps=>obtain ⟨t,as,h1,h2⟩:=h; exact ⟨t,as,k _ _ h1,h2.keep k⟩
  | wrd b ws=>obtain ⟨t,h1,h2⟩:=h; exact ⟨t,k _ _ h1,k _ _ h2⟩
theorem SetAt.same {H H':Hp} {a:Addr} {S:CSet} (s:Same H H') (h:SetAt H a S):SetAt H' a S:=h.keep fun _ _ e=>s _ _ e
theorem SpansAt.same {H H':Hp} {t:Addr} {as:List Addr} {sps:List Spn} (s:Same H H') (h:SpansAt H t as sps):SpansAt H' t as sps:=h.keep fun _ _ e=>s _ _ e
theorem SetAt.grow {p:Addr} {H H':Hp} {a:Addr} {S:CSet} (hP:PotAt H p) (g:Grow p H H') (h:SetAt H a S):SetAt H' a S:=h.keep fun c xs e=>g.keep c _ (fun z=>by
  subst z
  obtain ⟨_,_,q,_⟩:=hP
  rw [q] at e
  cases e) e
def inSp (s:Spn) (n:Int):Bool:=s.1.all (fun l=>decide (l ≤ n)) && s.2.all (fun h=>decide (n ≤ h))
def hasV:CSet→V→Bool
  | .num sps,.int n=>sps.any fun s=>inSp s n
  | .num _,_=>false
  | .wrd b ws,.str x=>decide (x ∈ ws) == b
  | .wrd _ _,_=>false
def relS (s s':Spn):Prop:=∃ h l,s.2 = some h∧s'.1 = some l∧h + 1 < l
def okSp (s:Spn):Prop:=(∀ l h,s.1 = some l→s.2 = some h→l ≤ h)∧∀ n,s.1 = some n∨s.2 = some n→-(10 ^ 60) < n∧n < 10 ^ 60
def okS:CSet→Prop
  | .num sps=>sps.length ≤ 40∧sps.Pairwise relS∧∀ s ∈ sps,okSp s
  | .wrd _ ws=>ws.length ≤ 40∧ws.Pairwise ltS∧∀ x ∈ ws,isW x
def noneB:CSet→Bool
  | .num sps=>decide ((sps.length:Int) = 0)
  | .wrd b ws=>b && decide ((ws.length:Int) = 0)
theorem ltS_irrefl {x:Str} (h:ltS x x):False:=List.lt_irrefl _ h
theorem nodup_of {ws:List Str} (h:ws.Pairwise ltS):ws.Nodup:=h.imp fun hl e=>by subst e; exact ltS_irrefl hl
structure SpL (H:Hp) (l:Addr) (as:List Addr) (sps:List Spn):Prop where
  lst:H l = some (.lst (as.map V.ref))
  len:as.length = sps.length
  at_:∀ (i:Nat) a s,as[i]? = some a→sps[i]? = some s→H a = some (.tup [eV s.1,eV s.2])
theorem pot_ne_tup {H:Hp} {p a:Addr} {xs:List V} (hP:PotAt H p) (e:H a = some (.tup xs)):a ≠ p:=fun z=>by
  subst z
  obtain ⟨_,_,q,_⟩:=hP
  rw [q] at e
  cases e
theorem SpL.grow {p:Addr} {H H':Hp} {l:Addr} {as:List Addr} {sps:List Spn} (hP:PotAt H p) (n:l ≠ p) (g:Grow p H H') (h:SpL H l as sps):SpL H' l as sps :=
  ⟨g.keep _ _ n h.lst,h.len,fun i a s e1 e2=>g.keep _ _ (pot_ne_tup hP (h.at_ i a s e1 e2)) (h.at_ i a s e1 e2)⟩
theorem SpL.same {H H':Hp} {l:Addr} {as:List Addr} {sps:List Spn} (s:Same H H') (h:SpL H l as sps):SpL H' l as sps :=
  ⟨s _ _ h.lst,h.len,fun i a sp e1 e2=>s _ _ (h.at_ i a sp e1 e2)⟩
theorem pair_snoc {as:List Addr} {sps:List Spn} (hl:as.length = sps.length) {R:Addr→Spn→Prop} (h:∀ (i:Nat) a s,as[i]? = some a→sps[i]? = some s→R a s) {t:Addr} {s':Spn} (ht:R t s') :
    ∀ (i:Nat) a s,(as ++ [t])[i]? = some a→(sps ++ [s'])[i]? = some s→R a s:=by
  intro i a s e1 e2
  by_cases hi:i < as.length
  · rw [List.getElem?_append_left hi] at e1
    rw [List.getElem?_append_left (by omega)] at e2
    exact h i a s e1 e2
  · have hi':i = as.length:=by
      have:=(List.getElem?_eq_some_iff.mp e1).1
      rw [List.length_append] at this
      simp at this
      omega
    subst hi'
    rw [List.getElem?_append_right (Nat.le_refl _),Nat.sub_self] at e1
    rw [hl,List.getElem?_append_right (Nat.le_refl _),Nat.sub_self] at e2
    cases e1
    cases e2
    exact ht
theorem SpL.put {H:Hp} {l:Addr} {as as2:List Addr} {sps sps2:List Spn} {old:List V} (h:H l = some (.lst old)) (hl:as2.length = sps2.length) (hat:∀ (i:Nat) a s,as2[i]? = some a→sps2[i]? = some s→H a = some (.tup [eV s.1,eV s.2])) :
    SpL (upd H l (.lst (as2.map V.ref))) l as2 sps2 :=
  ⟨upd_same,hl,fun i a s e1 e2=>by rw [upd_ne (ne_of (hat i a s e1 e2) h (by intro z; cases z))]; exact hat i a s e1 e2⟩
theorem SpL.unsnoc {H:Hp} {l:Addr} {as:List Addr} {sps:List Spn} (h:SpL H l as sps) (ne:sps ≠ []):∃ as' a sps' s,as = as' ++ [a]∧sps = sps' ++ [s]∧as'.length = sps'.length∧(∀ (i:Nat) a s,as'[i]? = some a→sps'[i]? = some s→H a = some (.tup [eV s.1,eV s.2]))∧H a = some (.tup [eV s.1,eV s.2]):=by
  have ne2:as ≠ []:=fun z=>ne (List.eq_nil_of_length_eq_zero (by rw [← h.len,z]; rfl))
  have e1:=List.dropLast_concat_getLast ne2
  have e2:=List.dropLast_concat_getLast ne
  have hl:as.dropLast.length = sps.dropLast.length:=by rw [List.length_dropLast,List.length_dropLast,h.len]
  have hpos:0 < sps.length:=List.length_pos_iff.mpr ne
  refine ⟨as.dropLast,as.getLast ne2,sps.dropLast,sps.getLast ne,e1.symm,e2.symm,hl,fun i a s g1 g2=>?_,?_⟩
  · refine h.at_ i a s ?_ ?_
    · rw [← e1,List.getElem?_append_left (List.getElem?_eq_some_iff.mp g1).1]; exact g1
    · rw [← e2,List.getElem?_append_left (List.getElem?_eq_some_iff.mp g2).1]; exact g2
  · refine h.at_ (sps.length - 1) _ _ ?_ ?_
    · rw [← h.len,← List.getLast?_eq_getElem?]; exact List.getLast?_eq_some_getLast ne2
    · rw [← List.getLast?_eq_getElem?]; exact List.getLast?_eq_some_getLast ne
theorem ixN_last {α:Type} (xs:List α) (v:α):ixN (xs ++ [v]).length (-1) = some xs.length:=by
  unfold ixN
  rw [if_neg (by decide),List.length_append,List.length_singleton,if_pos (by omega)]
  congr 1
  omega
theorem set_last {α:Type} (xs:List α) (v w:α):(xs ++ [v]).set xs.length w = xs ++ [w]:=by
  rw [List.set_append_right _ _ (Nat.le_refl _),Nat.sub_self]
  rfl
def Bd (ms:List Int) (s:Spn):Prop:=∃ l h,s = (some l,some h)∧l ≤ h∧(-(10 ^ 60) < l∧h < 10 ^ 60)∧∀ m ∈ ms,h < m
structure GoodL (ms:List Int) (sps:List Spn):Prop where
  pw:sps.Pairwise relS
  bd:∀ s ∈ sps,Bd ms s
theorem GoodL.nil (ms:List Int):GoodL ms []:=⟨.nil,by simp⟩
theorem GoodL.merge {x:Int} {ms:List Int} {sps:List Spn} {l h:Int} (g:GoodL (x :: ms) (sps ++ [(some l,some h)])) (hx:∀ m ∈ ms,x < m) (hb:-(10 ^ 60) < x∧x < 10 ^ 60):GoodL ms (sps ++ [(some l,some x)]):=by
  obtain ⟨pw,bd⟩:=g
  rw [List.pairwise_append] at pw
  refine ⟨?_,fun s hs=>?_⟩
  · rw [List.pairwise_append]
    refine ⟨pw.1,List.pairwise_singleton _ _,fun a ha b hb'=>?_⟩
    have:=pw.2.2 a ha _ (List.mem_singleton.mpr rfl)
    rw [List.mem_singleton.mp hb']
    exact this
  · rcases List.mem_append.mp hs with z | z
    · obtain ⟨l',h',e,h1,h2,h3⟩:=bd s (List.mem_append_left _ z)
      exact ⟨l',h',e,h1,h2,fun m hm=>h3 m (List.mem_cons_of_mem _ hm)⟩
    · obtain ⟨l',h',e,h1,h2,h3⟩:=bd (some l,some h) (List.mem_append_right _ (List.mem_singleton.mpr rfl))
      cases e
      have:=h3 x List.mem_cons_self
      exact ⟨l,x,List.mem_singleton.mp z,by omega,⟨h2.1,hb.2⟩,hx⟩
theorem GoodL.snoc {x:Int} {ms:List Int} {sps:List Spn} (g:GoodL (x :: ms) sps) (hx:∀ m ∈ ms,x < m) (hb:-(10 ^ 60) < x∧x < 10 ^ 60) (hlast:∀ sps' l h,sps = sps' ++ [(some l,some h)]→h + 1 < x):GoodL ms (sps ++ [(some x,some x)]):=by
  obtain ⟨pw,bd⟩:=g
  refine ⟨?_,fun s hs=>?_⟩
  · rw [List.pairwise_append]
    refine ⟨pw,List.pairwise_singleton _ _,fun a ha b hb'=>?_⟩
    rw [List.mem_singleton.mp hb']
    by_cases ne:sps = []
    · rw [ne] at ha; cases ha
    · have e2:=List.dropLast_concat_getLast ne
      obtain ⟨l,h,e,h1,h2,h3⟩:=bd _ (List.getLast_mem ne)
      rw [e] at e2
      have hh:=hlast _ l h e2.symm
      rw [← e2] at ha pw
      rw [List.pairwise_append] at pw
      rcases List.mem_append.mp ha with z | z
      · obtain ⟨h',l',e3,e4,lt⟩:=pw.2.2 a z _ (List.mem_singleton.mpr rfl)
        have e4':l = l':=Option.some.inj e4
        exact ⟨h',x,e3,rfl,by omega⟩
      · rw [List.mem_singleton.mp z]
        exact ⟨h,x,rfl,rfl,hh⟩
  · rcases List.mem_append.mp hs with z | z
    · obtain ⟨l',h',e,h1,h2,h3⟩:=bd s z
      exact ⟨l',h',e,h1,h2,fun m hm=>h3 m (List.mem_cons_of_mem _ hm)⟩
    · exact ⟨x,x,List.mem_singleton.mp z,Int.le_refl _,hb,hx⟩
structure OkL (sps:List Spn):Prop where
  pw:sps.Pairwise relS
  ok:∀ s ∈ sps,okSp s
theorem GoodL.ok {ms:List Int} {sps:List Spn} (g:GoodL ms sps):OkL sps:=⟨g.pw,fun s hs=>by
  obtain ⟨l,h,rfl,h1,h2,_⟩:=g.bd s hs
  refine ⟨fun a b e1 e2=>?_,fun n hn=>?_⟩
  · cases e1; cases e2; exact h1
  · rcases hn with e | e
    · cases e
      exact ⟨h2.1,by omega⟩
    · cases e
      exact ⟨by omega,h2.2⟩⟩
theorem OkL.first {s:Spn} {r:List Spn} (g:OkL (s :: r)):OkL ((none,s.2) :: r):=by
  refine ⟨?_,fun s' hs=>?_⟩
  · have h:=List.pairwise_cons.mp g.pw
    exact List.pairwise_cons.mpr ⟨fun b hb=>h.1 b hb,h.2⟩
  · rcases List.mem_cons.mp hs with rfl | z
    · refine ⟨fun l h e _=>(by cases e),fun n hn=>(g.ok s List.mem_cons_self).2 n ?_⟩
      rcases hn with e | e
      · cases e
      · exact .inr e
    · exact g.ok s' (List.mem_cons_of_mem _ z)
theorem OkL.last {s:Spn} {r:List Spn} (g:OkL (r ++ [s])):OkL (r ++ [(s.1,none)]):=by
  refine ⟨?_,fun s' hs=>?_⟩
  · have h:=List.pairwise_append.mp g.pw
    refine List.pairwise_append.mpr ⟨h.1,List.pairwise_singleton _ _,fun a ha b hb=>?_⟩
    have:=h.2.2 a ha s (List.mem_singleton.mpr rfl)
    rw [List.mem_singleton.mp hb]
    exact this
  · rcases List.mem_append.mp hs with z | z
    · exact g.ok s' (List.mem_append_left _ z)
    · rw [List.mem_singleton.mp z]
      refine ⟨fun l h _ e=>(by cases e),fun n hn=>(g.ok s (List.mem_append_right _ (List.mem_singleton.mpr rfl))).2 n ?_⟩
      rcases hn with e | e
      · exact .inl e
      · cases e
theorem nodup_le {α:Type} [DecidableEq α]:∀ {ms ns:List α},ms.Nodup→(∀ m ∈ ms,m ∈ ns)→ms.length ≤ ns.length
  | [],_,_,_=>Nat.zero_le _
  | m :: ms,ns,nd,h=>by
    have nd':=List.nodup_cons.mp nd
    have hm:=h m List.mem_cons_self
    have ih:=nodup_le (ms:=ms) (ns:=ns.erase m) nd'.2 fun x hx=>(List.mem_erase_of_ne (fun e=>nd'.1 (by rw [← e]; exact hx))).mpr (h x (List.mem_cons_of_mem _ hx))
    rw [List.length_erase_of_mem hm] at ih
    have:0 < ns.length:=List.length_pos_of_mem hm
    rw [List.length_cons]
    omega
theorem sorted_ints {ns:List Int} {ys:List V} (h:SortedOf (ns.map V.int) ys):∃ ms:List Int,ys = ms.map V.int∧ms.Pairwise (· < ·)∧(∀ n ∈ ms,n ∈ ns)∧ms.length ≤ ns.length:=by
  rcases h with ⟨ns',ms,e1,e2,h1,h2⟩ | ⟨ss,ms,e1,e2,h1,h2⟩
  · have:ns = ns':=by
      have:=congrArg (List.map fun v=>match v with | V.int n=>n | _=>0) e1
      simpa [List.map_map,Function.comp_def] using this
    subst this
    refine ⟨ms,e2,h1,fun n hn=>(h2 n).mp hn,nodup_le (h1.imp fun hl e=>by omega) fun n hn=>(h2 n).mp hn⟩
  · cases ns with
    | nil =>
      cases ss with
      | nil =>
        cases ms with
        | nil=>exact ⟨[],e2,.nil,by simp,Nat.le_refl _⟩
        | cons m ms=>exact absurd ((h2 m).mp List.mem_cons_self) (by simp)
      | cons s ss=>cases e1
    | cons n ns =>
      cases ss with
      | nil=>cases e1
      | cons s ss=>simp at e1
theorem sorted_strs {ns:List Str} {ys:List V} (h:SortedOf (ns.map V.str) ys):∃ ms:List Str,ys = ms.map V.str∧ms.Pairwise ltS∧(∀ n ∈ ms,n ∈ ns)∧ms.length ≤ ns.length:=by
  rcases h with ⟨ss,ms,e1,e2,h1,h2⟩ | ⟨ns',ms,e1,e2,h1,h2⟩
  · cases ns with
    | nil =>
      cases ss with
      | nil =>
        cases ms with
        | nil=>exact ⟨[],e2,.nil,by simp,Nat.le_refl _⟩
        | cons m ms=>exact absurd ((h2 m).mp List.mem_cons_self) (by simp)
      | cons s ss=>cases e1
    | cons n ns =>
      cases ss with
      | nil=>cases e1
      | cons s ss=>simp at e1
  · have:ns = ns':=by
      have:=congrArg (List.map fun v=>match v with | V.str n=>n | _=>"") e1
      simpa [List.map_map,Function.comp_def] using this
    subst this
    exact ⟨ms,e2,h1,fun n hn=>(h2 n).mp hn,nodup_le (nodup_of h1) fun n hn=>(h2 n).mp hn⟩
end CS
namespace L2
open PySem PySem.Spec PyProof.Rows
abbrev bmVE:List Value:=[.type "ValueError", .type "Exception", .type "BaseException", .type "object"]
abbrev xO (a C:Addr) (od:Option Addr):HO:=.ext fun h=>∃ fl sl,h.get? a = some { cls:=.ref C,dict:=od,data:=.fields fl,slots:=sl }
abbrev xD (d:Addr) (fs:List (Str×V)):HO:=.ext fun h=>∃ mA,h.Ns1 d mA∧∀ f,RelO (fs.lookup f) (mA f)
structure XCls (K:PySem.W.Frag) (C:Addr):Prop where
  cls:∃ cd PE,PySem.W.clsIn K C = some cd∧cd.mro = .ref C :: .ref PE :: bmVE∧cd.hasDict = true
  mo:PySem.W.mroIn K C (.type "object") = some true
  sa:PySem.W.findIn K (.ref C) "__setattr__" = some (some (.builtin "object.__setattr__"))
  ga:PySem.W.findIn K (.ref C) "__getattribute__" = some (some (.builtin "BaseException.__getattribute__"))
  gh:PySem.W.findIn K (.ref C) "__getattr__" = some none
  mb:PySem.W.mroIn K C (.type "BaseException") = some true
  ca:PySem.W.findIn K (.ref C) "__class__" = some (some (.builtin "object.__class__"))
  cg:PySem.W.specialIn K (.builtin "object.__class__") "__get__" = some (some (.builtin "getset_descriptor.__get__"))
  ct:PySem.W.takesIn K (.builtin "object.__class__") = some true
theorem XCls.hd {K:PySem.W.Frag} {C:Addr} (c:XCls K C):PySem.W.hasDictIn K C = true:=by
  obtain ⟨cd,PE,e,_,h⟩:=c.cls
  unfold PySem.W.hasDictIn
  rw [e]
  exact h
section
variable {prog:Program} {w:World} {A:Around} {E:Value→Shared→Prop} {R:Result→Shared→Prop} {s:Shared} {K:PySem.W.Frag} {x C:Addr} {ox:Obj} {od:Option Obj} {name:Str} {tk:Tok} {v:Value}
theorem bga_entry {Q:Fin→Shared→Prop} {r:Builtin.ObjectAttr.Found} (X:K.In s.heap) (I:PySem.W.InstAt s.heap x ox C od) (hf:PySem.W.findObj K C od name = some r)
    (h:wpAny (model prog w) A (match r with | .value v=>ret v | .bind g a=>Builtin.ObjectAttr.bindTo g a (.ref x) (.ref C) | .missing=>Builtin.ObjectAttr.noSuchAttribute (.ref x) name) Q E s) :
    wpAny (model prog w) A (Builtin.«object.__getattribute__» ⟨[.ref x,.str name tk],[]⟩) Q E s:=by
  obtain ⟨hh',g,d,t,os⟩:=s
  have L0:=I.type (M:=model prog w)
  have L1:=PySem.W.looks_find (M:=model prog w) X I hf
  unfold Builtin.«object.__getattribute__»
  refine wpAny_bind (wpAny_pure ?_)
  refine wpAny_bind (wpAny_pure (wpAny_bind (L0.at (wpAny_bind (L1.at ?_)))))
  cases r with
  | value v=>exact h
  | bind g a=>exact h
  | missing=>exact h
theorem xgetBy {fill expr:Bool} {Q:Value→Shared→Prop} {r:Builtin.ObjectAttr.Found} (c:XCls K C) (X:K.In s.heap) (I:PySem.W.InstAt s.heap x ox C od) (hf:PySem.W.findObj K C od name = some r)
    (h:codeAny (model prog w) A (.call (.builtin "BaseException.__getattribute__") ⟨[.ref x,.str name tk],[]⟩) (fun r s'=>match r with | .ok (.ret v)=>wpAny (model prog w) A (handedOut v) Q E s' | _=>False) s) :
    wpAny (model prog w) A (getAttrBy (.ref x) (.str name tk) fill expr) Q E s:=by
  obtain ⟨hh',g,d,t,os⟩:=s
  have L0:=I.type (M:=model prog w)
  have L1:=PySem.W.looks_findIn (M:=model prog w) X c.ga
  have LH:=PySem.W.looks_hook (M:=model prog w) (mc:=.ref C) (r:=none) X (by show PySem.W.findIn K (.ref C) "__getattr__" = _; exact c.gh)
  have hx2:(Value.builtin "BaseException.__getattribute__" == Value.builtin "object.__getattribute__") = false:=by decide +kernel
  have hx1:(onTheHeap (Value.ref C) && Value.builtin "BaseException.__getattribute__" == Value.builtin "object.__getattribute__") = false:=by rw [hx2]; rfl
  have hx0:(expr && onTheHeap (Value.builtin "BaseException.__getattribute__")) = false:=by cases expr <;> rfl
  unfold getAttrBy
  refine wpAny_holding (wpAny_bind (L0.at (wpAny_bind (L1.at ?_))))
  show wpAny _ _ (if (onTheHeap (Value.ref C) && Value.builtin "BaseException.__getattribute__" == Value.builtin "object.__getattribute__") = true then _ else _) _ _ _
  rw [if_neg (by rw [hx1]; exact Bool.false_ne_true)]
  unfold getAttrByItsOwn
  refine wpAny_bind (LH.at (wpAny_bind (wpAny_attempt (wpAny_holding ?_))))
  unfold callGetattribute
  rw [if_neg (by rw [hx0]; exact Bool.false_ne_true)]
  unfold boundAndCalled
  rw [PySem.F.excAttr_ValueError.ga.bind]
  refine wpAny_bind (wpAny_pure (wpAny_call (codeAny_mono h fun r s' z=>?_)))
  rcases r with e | (v | _ | _ | _) <;> first | exact z | exact z.elim
theorem bga_call {r:Builtin.ObjectAttr.Found} (c:XCls K C) (X:K.In s.heap) (I:PySem.W.InstAt s.heap x ox C od) (hf:PySem.W.findObj K C od name = some r)
    (h:wpAny (model prog w) A.in1 (match r with | .value v=>ret v | .bind g a=>Builtin.ObjectAttr.bindTo g a (.ref x) (.ref C) | .missing=>Builtin.ObjectAttr.noSuchAttribute (.ref x) name)
      (fun fin s'=>match fin with | .done f=>R (.ok f) s' | .again c'=>c'.quiet = true∧codeAny (model prog w) A c' R s') (fun e s'=>R (.error e) s') s) :
    codeAny (model prog w) A (.call (.builtin "BaseException.__getattribute__") ⟨[.ref x,.str name tk],[]⟩) R s:=by
  have sub:PySem.W.Looks (model prog w) s.heap (isInstance (.ref x) (.type "BaseException")) true:=I.type.andThen (PySem.W.looks_mroIn X c.mb)
  exact codeAny_call_builtin PySem.F.excAttr_ValueError.ga.plain PySem.F.entry_bexc_ga (@PySem.W.check_slot (model prog w) _ _ s "BaseException.__getattribute__" "BaseException" "__getattribute__" (.ref x) [.str name tk] [] _ (by decide +kernel) (by decide +kernel) sub (PySem.F.args_bexc_ga _ _) (bga_entry X I hf h))
theorem xget_class {Q:Option Value→Shared→Prop} (c:XCls K C) (X:K.In s.heap) (I:PySem.W.InstAt s.heap x ox C od) (hf:PySem.W.findObj K C od "__class__" = some (.bind (.builtin "getset_descriptor.__get__") (.builtin "object.__class__")))
    (h:Q (some (.ref C)) { s with toks:=s.toks + 1 }):wpAny (model prog w) A (getAttr? (.ref x) "__class__") Q E s:=by
  unfold getAttr? getAttrBy?
  refine wpAny_bind (wpAny_mkText (wpAny_bind (wpAny_attempt (xgetBy (s:={ s with toks:=s.toks + 1 }) c X I hf (bga_call (s:={ s with toks:=s.toks + 1 }) c X I hf ?_)))))
  show wpAny _ _ (holding [Value.builtin "object.__class__"] (call (.builtin "getset_descriptor.__get__") [.builtin "object.__class__", .ref x,.ref C]) >>= ret) _ _ _
  refine wpAny_bind (wpAny_holding (wpAny_call (PySem.W.class_get (s:={ s with toks:=s.toks + 1 }) (ox:=ox) (od:=od) X I c.mo (wpAny_pure ?_))))
  show wpAny _ _ (handedOut (.ref C)) _ _ _
  rw [PySem.W.handedOut_of rfl]
  exact wpAny_pure (wpAny_pure h)
end
def XAt (K:PySem.W.Frag) (H:Hp) (a C:Addr):Prop:=XCls K C∧(H a = some (xO a C none)∨∃ dx fs,H a = some (xO a C (some dx))∧H dx = some (xD dx fs))
theorem kitx_exc {K:PySem.W.Frag} {x D:Addr} (c:XCls K D):PySem.W.KitX K (.ref x) (.ref D) (fun h=>∃ ox od,PySem.W.InstAt h x ox D od) where
  ty:=fun _ _ _ ⟨ox,od,I⟩=>I.type
  it:=fun _ _ X _=>by
    obtain ⟨cdD,hcD,_⟩:=PySem.W.any_some c.hd
    unfold PySem.W.clsIn at hcD
    split at hcD
    · rename_i c' d' cd' sl' ho
      intro A' Q' E' s' k q
      unfold isType loadHead
      exact wpAny_bind (wpAny_loadPart (k _ _ (X _ _ ho)) (wpAny_pure q))
    · cases hcD
  ne:=fun h tp dd its n sl X htp=>by
    obtain ⟨cdD,hcD,_⟩:=PySem.W.any_some c.hd
    refine Bool.eq_false_iff.mpr fun q=>?_
    have e:D = tp:=Value.ref.inj (beq_iff_eq.mp q)
    subst e
    unfold PySem.W.clsIn at hcD
    split at hcD
    · rename_i c' d' cd' sl' ho
      have z:=(X _ _ ho).symm.trans htp
      cases z
    · cases hcD
  ca:=fun {prog w A E Q s} X I h=>by
    obtain ⟨ox,od,I⟩:=I
    have hf:PySem.W.findObj K D od "__class__" = some (.bind (.builtin "getset_descriptor.__get__") (.builtin "object.__class__")):=by
      obtain ⟨cd,PE,hc,_⟩:=c.cls
      unfold PySem.W.findObj
      rw [hc,Option.bind_some,c.ca,Option.bind_some]
      simp [c.cg,c.ct]
    exact xget_class c X I hf h
section
variable {X:Cx}
def clV:V→Value→Prop
  | .ref a,u=>u = .ref a
  | .ty n,u=>u = .type n
  | _,_=>False
theorem call_isinst:CallR X (.builtin "isinstance") (fun xs H Q=>∃ x cv t c b,xs = [x,cv]∧clV cv c∧(TyOf X.K H x t∨∃ a C,x = .ref a∧t = .ref C∧XAt X.K H a C)∧PySem.W.kitOne X.K t c = some b∧Q (.bl b) H):=by
  intro pins s σ H xs us Q I r h
  obtain ⟨x,cv,t,c,b,rfl,hc,ty,e,q⟩:=h
  obtain ⟨u,w',rfl,r1,r2⟩:=vals2 r
  have e2:w' = c:=by
    cases cv with
    | ref a=>cases (show c = _ from hc); exact r2
    | ty n=>cases (show c = _ from hc); exact r2
    | _=>exact hc.elim
  subst e2
  rcases ty with ty | ⟨a,C,rfl,rfl,cx,hx⟩
  · exact isinst_ok I r1 ty e fun tk=>⟨.bl b,H,I.tok _,rfl,q⟩
  · cases (show u = Value.ref a from r1)
    have J:∃ ox od,PySem.W.InstAt s.heap a ox C od:=by
      rcases hx with ea | ⟨dx,fs,ea,ed⟩
      · obtain ⟨⟨fl,sl,ha⟩,_⟩:=I.hok a _ ea
        exact ⟨_,none,ha,rfl,rfl,True.intro⟩
      · obtain ⟨⟨fl,sl,ha⟩,_⟩:=I.hok a _ ea
        obtain ⟨⟨mA,⟨od,_,_,ho,_⟩,_⟩,_⟩:=I.hok dx _ ed
        exact ⟨_,some od,ha,rfl,rfl,ho⟩
    exact PySem.W.kia_one (kitx_exc cx) I.kIn J e (fun z=>nomatch z) fun tk=>⟨.bl b,H,I.tok _,rfl,q⟩
end
end L2
namespace L2
open PySem PyProof.Rows
theorem fs {N P:List Str} {sc:Scope} (h1:sc.kind = .function:=by rfl) (h2:sc.isCoroutine = false:=by rfl) (h3:sc.isGenerator = false:=by rfl) (h4:N.Nodup:=by decide +kernel) (h5:N.take P.length = P:=by rfl)
    (h6:∀ x ∈ P,sc.names.lookup x = some .local∨sc.names.lookup x = some .cell:=by decide +kernel) (h7:∀ y ∈ sc.names,y.2 ≠ .free:=by decide +kernel):FnScope N P sc:=⟨h1,h2,h3,h4,h5,h6,h7⟩
theorem len1 {P:List Value→Prop} (h:∀ a0,P [a0]):∀ us:List Value,us.length = 1→P us:=fun us hl=>match us,hl with | [_],_=>h _
theorem len2 {P:List Value→Prop} (h:∀ a0 a1,P [a0,a1]):∀ us:List Value,us.length = 2→P us:=fun us hl=>match us,hl with | [_,_],_=>h _ _
theorem len3 {P:List Value→Prop} (h:∀ a0 a1 a2,P [a0,a1,a2]):∀ us:List Value,us.length = 3→P us:=fun us hl=>match us,hl with | [_,_,_],_=>h _ _ _
structure FA (K:PySem.W.Frag) (mg:Str→Option Value) (x:Str) (st:Stmt):Prop where
  ex:∃ f fd,Fun K x x st f fd∧mg x = some (.ref f)
structure Cal (CX:CXT) (P:Program) (w:World) (K:PySem.W.Frag) (mg:Str→Option Value) (base:Heap) (k:Nat) (x:Str) (ps:List Str) (sp:Sp):Prop where
  ex:∃ f fd,FnOk P w K mg base CX k f fd ps sp∧Binds K fd ps []∧PySem.W.keepIn K (.ref f) = true∧mg x = some (.ref f)
section
variable {CX:CXT} {P:Program} {w:World} {K:PySem.W.Frag} {mg:Str→Option Value} {base:Heap} {x:Str} {st:Stmt} {ps N:List Str} {sp:Sp} {j k:Nat}
theorem Cal.m (G:Cal CX P w K mg base j x ps sp) (h:j ≤ k:=by decide):Cal CX P w K mg base k x ps sp:=by
  obtain ⟨f,fd,h1,h2⟩:=G.ex
  exact ⟨f,fd,h1.mono h,h2⟩
theorem FA.cal (F:FA K mg x st) (ok:∀ f fd,Fun K x x st f fd→FnOk P w K mg base CX k f fd ps sp)
    (hb:∀ (kV doc pm:Value) (an:Option Addr) (cdv ct:Value) (us:List Value),us.length = ps.length→bindArgs (PySem.W.fnOf x x (defArgs st) (defBody st) (defScope st) .none kV doc pm an cdv ct) ⟨us,[]⟩ = pure (ps.zip us):=by first
      | (intro _ _ _ _ _ _; refine L2.len1 ?_; intro _; rfl)
      | (intro _ _ _ _ _ _; refine L2.len2 ?_; intro _ _; rfl)
      | (intro _ _ _ _ _ _; refine L2.len3 ?_; intro _ _ _; rfl)
      | (intro _ _ _ _ _ _; refine L2.len4 ?_; intro _ _ _ _; rfl)
      | (intro _ _ _ _ _ _; refine L2.len5 ?_; intro _ _ _ _ _; rfl)):Cal CX P w K mg base k x ps sp:=by
  obtain ⟨f,fd,h1,h2⟩:=F.ex
  exact ⟨f,fd,ok f fd h1,h1.binds hb,h1.kp,h2⟩
theorem FA.ok (F:FA K mg x st) (S:FnScope N ps (defScope st))
    (hbody:∀ (f:Addr) (cdv:Value) (A:Around) (outer:List Env) (s:Shared) (H:Hp) (vs:List V) (Q:VK) (E:XK),Room k (A.deeper (envOfC x (defScope st) s.heap.objs.size f cdv))→sp vs H Q E →
      ∃ t,PSs (cxOf CX0 P w K mg base N x (defScope st) f cdv A outer s H E).nox (defBody st) t∧t { nx:=fun _ H'=>Q .non H',rt:=Q } (start N vs) H)
    (len:∀ vs H Q E,sp vs H Q E→vs.length = ps.length:=by
      intro vs H Q E h
      first
      | exact False.elim h
      | (obtain ⟨_,rfl,_⟩:=h; rfl)
      | (obtain ⟨_,_,rfl,_⟩:=h; rfl)
      | (obtain ⟨_,_,_,rfl,_⟩:=h; rfl)
      | (obtain ⟨_,_,_,_,rfl,_⟩:=h; rfl)
      | (obtain ⟨_,_,_,_,_,rfl,_⟩:=h; rfl)
      | (obtain ⟨_,_,_,_,_,_,rfl,_⟩:=h; rfl)
      | (obtain ⟨_,_,_,_,_,_,_,rfl,_⟩:=h; rfl)
      | (obtain ⟨_,_,_,_,_,_,_,_,rfl,_⟩:=h; rfl)
      | (obtain ⟨_,_,_,_,_,_,_,_,_,rfl,_⟩:=h; rfl)
      | (obtain ⟨_,_,_,_,_,_,_,_,_,_,rfl,_⟩:=h; rfl)
      | (obtain ⟨_,_,_,_,_,_,_,_,_,_,_,rfl,_⟩:=h; rfl))
    (hb:∀ (kV doc pm:Value) (an:Option Addr) (cdv ct:Value) (us:List Value),us.length = ps.length→bindArgs (PySem.W.fnOf x x (defArgs st) (defBody st) (defScope st) .none kV doc pm an cdv ct) ⟨us,[]⟩ = pure (ps.zip us):=by first
      | (intro _ _ _ _ _ _; refine L2.len1 ?_; intro _; rfl)
      | (intro _ _ _ _ _ _; refine L2.len2 ?_; intro _ _; rfl)
      | (intro _ _ _ _ _ _; refine L2.len3 ?_; intro _ _ _; rfl)
      | (intro _ _ _ _ _ _; refine L2.len4 ?_; intro _ _ _ _; rfl)
      | (intro _ _ _ _ _ _; refine L2.len5 ?_; intro _ _ _ _ _; rfl)):Cal CX0 P w K mg base (k + 1) x ps sp :=
  F.cal (fun f fd h1=>h1.ok S len fun cdv A outer s H vs Q E=>hbody f cdv A outer s H vs Q E) hb
end
section
variable {X:Cx} {CX:CXT} {x:Str} {ps:List Str} {sp:Sp} {j k:Nat} {E:XK} {e:Expr} {es:List Expr} {t:TA} {p pos:Pos}
theorem pe_cl (G:Cal CX X.prog X.w X.K X.mg X.base j x ps sp) (hr:Room k X.A) (hg:Gl X x) (hx:Passes CX X E) (ha:PA X (e :: es) t) (hl:j ≤ k:=by omega)
    (hdb:(x == ("__debug__" : Str)) = false:=by decide) (he:starEach (e :: es) X.env = (false,eval e X.env) :: starEach es X.env:=by rfl) (hpl:(backTo pos (starEach es X.env)).any (·.1) = false:=by rfl) :
    PE X (.Call (.Name x p) (e :: es) [] pos) (tCall sp [] E t):=by
  obtain ⟨f,fd,h1,h2,h3,h4⟩:=G.ex
  exact pe_call (h1.mono hl) hr hg h4 h3 h2 .nil hx ha hdb he hpl
end
section
variable {X:Cx} {a b e:Expr} {ta tb te:TE} {pos p pos2:Pos} {es:List Expr} {t:TA}
theorem pe_xT (K:PySem.W.Frag) (ha:PE X a ta) (hb:PE X b tb) (e:X.K = K:=by rfl) (hs:PlainIx b:=by exact fun _ _=>rfl):PE X (.Subscript a b pos) (tOp (rIxT K) ta tb):=by subst e; exact pe_ix ix_tup ha hb hs
theorem pe_xL (K:PySem.W.Frag) (ha:PE X a ta) (hb:PE X b tb) (e:X.K = K:=by rfl) (hs:PlainIx b:=by exact fun _ _=>rfl):PE X (.Subscript a b pos) (tOp (rIxL K) ta tb):=by subst e; exact pe_ix ix_list ha hb hs
theorem pt_cC {op:CmpOp} {r:R2} (ho:OpR X (compareOp op) r) (ha:PE X a ta) (hb:PE X b tb) (hm:behindInMarks op b = false:=by exact nomark _):PT X (.Compare a [op] [b] pos) (tTest (tOp r ta tb)):=pt_cmpR ho ha hb hm
theorem pe_cC {op:CmpOp} {r:R2} (ho:OpR X (compareOp op) r) (ha:PE X a ta) (hb:PE X b tb) (hm:behindInMarks op b = false:=by exact nomark _):PE X (.Compare a [op] [b] pos) (tOp r ta tb):=pe_cmpR ho ha hb hm
theorem pe_c0 {x:Str} {ps:List Str} {sp:Sp} {j k:Nat} (G:Cal CX0 X.prog X.w X.K X.mg X.base j x ps sp) (hr:Room k X.A) (ha:PA X (e :: es) t) (hg:Gl X x:=by rfl) (hl:j ≤ k:=by omega)
    (hdb:(x == ("__debug__" : Str)) = false:=by decide) (he:starEach (e :: es) X.env = (false,eval e X.env) :: starEach es X.env:=by rfl) (hpl:(backTo pos (starEach es X.env)).any (·.1) = false:=by rfl) :
    PE X (.Call (.Name x p) (e :: es) [] pos) (tCall sp [] E0 t):=pe_cl G hr hg pass0 ha hl hdb he hpl
theorem pss_ret (he:PE X e te):PSs X [.Return (some e) pos] (tRet te):=pss_one (ps_ret he)
theorem pss_ifR {c:Expr} {tc:TT} {u:TS} {rest:List Stmt} (hc:PT X c tc) (he:PE X e te) (hr:PSs X rest u):PSs X (.If c [.Return (some e) pos] [] pos2 :: rest) (tSeq (tIfS tc (tRet te) tNext) u):=pss_cons (ps_if hc (pss_ret he) pss_nil) hr
end
theorem hu8 {A:Around} {k:Nat} (hr:Room k A):A.units + 8 < cLine:=by have:=hr.un; omega
theorem szl0:0 ≤ sizeLine:=by decide
theorem szl1:1 ≤ sizeLine:=by decide
theorem szl2:2 ≤ sizeLine:=by decide
theorem szl3:3 ≤ sizeLine:=by decide
def FK (K:PySem.W.Frag) (x:Str) (st:Stmt) (f:Addr):Prop:=PySem.W.nsIn K mainGlobals x = some (some (.ref f))∧∃ fd,Fun K x x st f fd
theorem FK.fa {K:PySem.W.Frag} {h:Heap} {mg:Str→Option Value} {x:Str} {st:Stmt} {f:Addr} (F:FK K x st f) (X:K.In h) (G:h.Ns mainGlobals mg):FA K mg x st:=by
  obtain ⟨h1,fd,h2⟩:=F
  exact ⟨f,fd,h2,PySem.W.mg_of X G h1⟩
theorem fk_mk {K:PySem.W.Frag} {x:Str} {st:Stmt} {f:Addr} {oc:Value} {od an:Option Addr} {osl:Array (Option Value)} {kV doc pm cdv ct:Value} (a:PySem.W.nsIn K mainGlobals x = some (some (.ref f)))
    (l:K.lookup f = some ⟨oc,od,.func (PySem.W.fnOf x x (defArgs st) (defBody st) (defScope st) .none kV doc pm an cdv ct),osl⟩) (c:PySem.W.codeIn K cdv x = true) (k:PySem.W.keepIn K (.ref f) = true):FK K x st f :=
  ⟨a,_,fun_mk l c k⟩
end L2
namespace My
open PySem L2
def top (i:Nat):Stmt:=PySem.Challenge.pw_rowpipes_k14_whole_sets_combined.main.body.getD i (.Pass ⟨0,0,0,0⟩)
abbrev sCell:Stmt:=top 17
abbrev sPot:Stmt:=top 18
abbrev sDraw:Stmt:=top 19
abbrev sNumber:Stmt:=top 20
abbrev sWord:Stmt:=top 21
abbrev nCell:List Str:=["_law_script", "_law_k"]
abbrev nPot:List Str:=["_law_script", "_law_k", "_law_cell"]
abbrev nDraw:List Str:=["_law_pot_here", "_law_many", "_law_digit"]
abbrev nNumber:List Str:=["_law_pot_here", "_law_near", "_law_far"]
abbrev nWord:List Str:=["_law_pot_here", "_law_letters", "_law_some"]
theorem scCell:FnScope nCell ["_law_script", "_law_k"] (defScope sCell):=fs
theorem scPot:FnScope nPot ["_law_script", "_law_k"] (defScope sPot):=fs
theorem scDraw:FnScope nDraw ["_law_pot_here", "_law_many"] (defScope sDraw):=fs
theorem scNumber:FnScope nNumber ["_law_pot_here"] (defScope sNumber):=fs
theorem scWord:FnScope nWord ["_law_pot_here"] (defScope sWord):=fs
structure Blt (mg:Str→Option Value):Prop where
  len:mg "len" = none
  max:mg "max" = none
  abs:mg "abs" = none
  divmod:mg "divmod" = none
  range:mg "range" = none
  tuple:mg "tuple" = none
  list:mg "list" = none
  isinstance:mg "isinstance" = none
variable {P:Program} {w:World} {K:PySem.W.Frag} {mg:Str→Option Value} {base:Heap}
theorem ok_cell (B:Blt mg) (F:FA K mg "_law_cell_at" sCell) :
    Cal CX0 P w K mg base 1 "_law_cell_at" ["_law_script", "_law_k"] (spCell K):=by
  refine F.ok scCell fun f cdv A outer s H vs Q E hr h=>?_
  obtain ⟨a,ns,k,rfl,hS,h0,q⟩:=h
  refine ⟨_,pss_cons (ps_if (pt_cmpR op_lt (pv 1) (pe_callB call_len_seq rfl B.len PySem.boot_len (pa_cons (pv 0) pa_nil)) (nomark _)) (pss_one (ps_ret (pe_ix ix_list (pv 0) (pv 1) (fun _ _=>rfl)))) pss_nil)
    (pss_one (ps_ret pe_int)),?_⟩
  refine ⟨_,rfl,_,rfl,a,_,rfl,.inl hS,_,_,rfl,rfl,_,rfl,?_⟩
  refine ite2 (fun c=>?_) (fun c=>?_)
  · have c':k < (((ns.map V.int).length:Nat):Int):=of_decide_eq_true c
    obtain ⟨v,hv,hg⟩:=atI_lt h0 c'
    rw [List.getElem?_map] at hg
    cases e:ns[k.toNat]? with
    | none=>rw [e] at hg; cases hg
    | some n =>
      rw [e] at hg
      have hg':V.int n = v:=Option.some.inj hg
      subst hg'
      exact ⟨_,rfl,_,rfl,a,_,_,_,rfl,rfl,hS,hv,q n⟩
  · exact q 0
theorem ok_pot (B:Blt mg) (F:FA K mg "_law_pot" sPot) (G:Cal CX0 P w K mg base 1 "_law_cell_at" ["_law_script", "_law_k"] (spCell K)) :
    Cal CX0 P w K mg base 2 "_law_pot" ["_law_script", "_law_k"] (spPot K):=by
  refine F.ok scPot fun f cdv A outer s H vs Q E hr h=>?_
  obtain ⟨a,ns,k,rfl,hS,h0,h1,q⟩:=h
  refine ⟨_,pss_cons (ps_set (i:=2) scPot.nd rfl (Or.inl rfl) (pe_cl G hr rfl pass0 (pa_cons (pv 0) (pa_cons (pv 1) pa_nil))))
    (pss_one (ps_ret (pe_lst (pa_cons (pe_callB (call_max2 rfl) rfl B.max PyProof.Rows.boot_max (pa_cons pe_int (pa_cons (pe_op op_sub (pv 2) (pe_op op_pow pe_int pe_int)) pa_nil)))
      (pa_cons (pe_op op_add (pe_op op_mod (pe_op op_add (pe_op op_add (pe_callB call_abs rfl B.abs PyProof.Rows.boot_abs (pa_cons (pv 2) pa_nil)) (pe_op op_mul pe_int (pv 1))) pe_int) pe_int) pe_int) pa_nil))))),?_⟩
  refine ⟨_,rfl,_,rfl,a,ns,k,rfl,hS,h0,fun n=>?_⟩
  refine ⟨_,rfl,_,_,rfl,rfl,⟨by decide,by decide,by decide⟩,_,_,rfl,rfl,_,_,rfl,?_⟩
  refine ⟨_,rfl,_,rfl,_,rfl,_,_,rfl,rfl,.inl ⟨by decide,by decide⟩,_,_,rfl,rfl,_,_,rfl,rfl,_,_,rfl,rfl,(by show (0:Int) < 2147483629; decide),_,_,rfl,rfl,(by show 2 ≤ sizeLine; decide),fun p hp=>?_⟩
  refine q p _ hp (same_new hp _) ⟨_,_,upd_same,?_,?_,?_⟩
  · split <;> omega
  · have:=Int.emod_nonneg ((if n < 0 then -n else n) + 7919 * k + 3) (show (2147483629:Int) ≠ 0 by decide)
    omega
  · have:=Int.emod_lt_of_pos ((if n < 0 then -n else n) + 7919 * k + 3) (show (0:Int) < 2147483629 by decide)
    omega
theorem ok_draw (B:Blt mg) (F:FA K mg "_law_draw" sDraw) :
    Cal CX0 P w K mg base 1 "_law_draw" ["_law_pot_here", "_law_many"] spDraw:=by
  refine F.ok scDraw fun f cdv A outer s H vs Q E hr h=>?_
  obtain ⟨p,m,rfl,⟨a,b,hp,ha,hb,hb'⟩,hm,hm',q⟩:=h
  refine ⟨_,pss_cons (ps_if (pt_cmpR op_gt (pe_ix ix_list (pv 0) pe_int (fun _ _=>rfl)) pe_int (nomark _))
      (pss_cons (ps_asg (pe_callB call_divmodB rfl B.divmod PyProof.Rows.boot_divmod (pa_cons (pe_ix ix_list (pv 0) pe_int (fun _ _=>rfl)) (pa_cons (pv 1) pa_nil)))
        (pg_tup rfl (pgs_cons (pg_sub (pv 0) pe_int set_list) (pgs_cons (pg_name (i:=2) scDraw.nd rfl (Or.inl rfl)) pgs_nil))))
      (pss_one (ps_ret (pv 2)))) pss_nil)
    (pss_cons (ps_asg (pe_op op_mod (pe_op op_add (pe_op op_mul (pe_ix ix_list (pv 0) pe_int (fun _ _=>rfl)) pe_int) pe_int) pe_int) (pg_sub (pv 0) pe_int set_list))
    (pss_one (ps_ret (pe_op op_mod (pe_op op_fdiv (pe_op op_mod (pe_op op_mul (pe_ix ix_list (pv 0) pe_int (fun _ _=>rfl)) (pe_ix ix_list (pv 0) pe_int (fun _ _=>rfl))) pe_int) pe_int) (pv 1))))),?_⟩
  refine ⟨_,rfl,p,_,_,_,rfl,rfl,SqL.of hp,rfl,_,_,rfl,rfl,_,rfl,?_⟩
  refine ite2 (fun c=>?_) (fun c=>?_)
  · refine ⟨_,rfl,p,_,_,_,rfl,rfl,SqL.of hp,rfl,_,rfl,_,_,rfl,⟨hm,hm'⟩,fun t ht=>?_⟩
    have np:p ≠ t:=ne_of_none hp ht
    refine ⟨t,_,rfl,SqT.of upd_same,rfl,_,_,rfl,_,rfl,p,_,_,0,rfl,rfl,(by rw [upd_ne np]; exact hp),rfl,_,_,rfl,rfl,?_⟩
    refine ⟨_,rfl,q _ _ ⟨fun c o nc e=>?_,_,_,upd_same,Int.ediv_nonneg ha (by omega),hb,hb'⟩ (Int.emod_nonneg _ (by omega)) (Int.emod_lt_of_pos _ hm)⟩
    rw [upd_ne nc,upd_ne (ne_of_none e ht)]
    exact e
  · have h1:=Int.emod_nonneg (b * 48271 + 11) (show (2147483647:Int) ≠ 0 by decide)
    have h2:=Int.emod_lt_of_pos (b * 48271 + 11) (show (0:Int) < 2147483647 by decide)
    refine ⟨_,rfl,p,_,_,_,rfl,rfl,SqL.of hp,rfl,_,_,rfl,rfl,.inr ⟨by decide,by decide⟩,_,_,rfl,rfl,_,_,rfl,rfl,(by show (0:Int) < 2147483647; decide),_,rfl,p,_,_,1,rfl,rfl,hp,rfl,?_⟩
    refine ⟨_,rfl,p,_,_,_,rfl,rfl,SqL.of upd_same,rfl,_,rfl,p,_,_,_,rfl,rfl,SqL.of upd_same,rfl,_,_,rfl,rfl,.inl ⟨?_,?_⟩,_,_,rfl,rfl,(by show (0:Int) < 2147483629; decide),_,_,rfl,rfl,⟨by decide,by decide⟩,_,rfl,_,_,rfl,rfl,hm,?_⟩
    · have e:((2:Int) ^ 64) = 18446744073709551616:=by decide
      rw [e]; omega
    · have e:((2:Int) ^ 64) = 18446744073709551616:=by decide
      rw [e]; omega
    · exact q _ _ ⟨fun c o nc e=>by rw [upd_ne nc]; exact e,_,_,upd_same,ha,h1,by omega⟩ (Int.emod_nonneg _ (by omega)) (Int.emod_lt_of_pos _ hm)
theorem ok_number (F:FA K mg "_law_number" sNumber) (G:Cal CX0 P w K mg base 1 "_law_draw" ["_law_pot_here", "_law_many"] spDraw) :
    Cal CX0 P w K mg base 2 "_law_number" ["_law_pot_here"] spNumber:=by
  refine F.ok scNumber fun f cdv A outer s H vs Q E hr h=>?_
  obtain ⟨p,rfl,hP,q⟩:=h
  refine ⟨_,pss_cons (ps_set (i:=1) scNumber.nd rfl (Or.inl rfl) (pe_op op_sub (pe_c0 G hr (pa_cons (pv 0) (pa_cons pe_int pa_nil))) pe_int))
    (pss_ifR (pt_cC op_gt (pe_c0 G hr (pa_cons (pv 0) (pa_cons pe_int pa_nil))) pe_int) (pv 1)
    (pss_cons (ps_set (i:=2) scNumber.nd rfl (Or.inl rfl) (pe_lst (pa_cons (pe_op op_add (pe_op op_sub (pe_c0 G hr (pa_cons (pv 0) (pa_cons (pe_op op_sub (pe_op op_mul pe_int (pe_op op_pow pe_int pe_int)) pe_int) pa_nil))) (pe_op op_pow pe_int pe_int)) pe_int)
      (pa_cons (pe_op op_sub (pe_op op_pow pe_int pe_int) pe_int) (pa_cons (pe_op op_sub pe_int (pe_op op_pow pe_int pe_int)) pa_nil)))))
    (pss_ret (pe_ix ix_list (pv 2) (pe_op op_add (pe_op op_fdiv (pe_c0 G hr (pa_cons (pv 0) (pa_cons pe_int pa_nil))) pe_int) (pe_op op_mod (pv 1) pe_int)) (fun _ _=>rfl))))),?_⟩
  refine ⟨_,rfl,p,_,rfl,hP,by decide,by decide,fun d1 H1 g1 a1 b1=>⟨_,_,rfl,rfl,?_⟩⟩
  refine ⟨_,rfl,p,_,rfl,g1.pot,by decide,by decide,fun d2 H2 g2 a2 b2=>⟨_,_,rfl,rfl,_,rfl,?_⟩⟩
  have e60:((10:Int) ^ (60:Nat)) = 1000000000000000000000000000000000000000000000000000000000000:=by decide
  refine ite2 (fun c=>?_) (fun c=>?_)
  · exact ⟨_,rfl,q _ _ (g1.trans g2) (by rw [e60]; omega) (by rw [e60]; omega)⟩
  · refine ⟨_,rfl,_,_,rfl,rfl,⟨by decide,by decide,by decide⟩,_,_,rfl,rfl,.inl ⟨by decide,by decide⟩,_,_,rfl,rfl,p,_,rfl,g2.pot,by decide +kernel,by decide +kernel,fun d3 H3 g3 a3 b3=>?_⟩
    have b3':d3 < 1999999999999999999999999999999999999999999999999999999999999:=b3
    refine ⟨_,_,rfl,rfl,⟨by decide,by decide,by decide⟩,_,_,rfl,rfl,_,_,rfl,rfl,_,_,rfl,rfl,⟨by decide,by decide,by decide⟩,_,_,rfl,rfl,_,_,rfl,rfl,⟨by decide,by decide,by decide⟩,_,_,rfl,rfl,szl3,fun l hl=>?_⟩
    have g3':=(g1.trans g2).trans g3
    have n1:l ≠ p:=fun e=>by subst e; obtain ⟨_,_,z,_⟩:=g3'.pot; rw [z] at hl; cases hl
    refine ⟨_,rfl,_,rfl,p,_,rfl,(g3'.new hl).pot,by decide,by decide,fun d4 H4 g4 a4 b4=>?_⟩
    have hl4:=g4.keep l _ n1 upd_same
    refine ⟨_,_,rfl,rfl,⟨by decide,by decide⟩,_,rfl,_,_,rfl,rfl,(by show (0:Int) < 2; decide),_,_,rfl,rfl,?_⟩
    have i0:0 ≤ d4 / 2 + (d1 - 15) % 2:=by omega
    have i1:d4 / 2 + (d1 - 15) % 2 < (3:Nat):=by omega
    obtain ⟨v,hv,hm⟩:=atI_mem (xs:=[V.int (d3 - 10 ^ (60:Int).toNat + 1),V.int (10 ^ (60:Int).toNat - 1),V.int (1 - 10 ^ (60:Int).toNat)]) i0 i1
    have good:∃ n:Int,v = .int n∧-(10 ^ 60) < n∧n < 10 ^ 60:=by
      have e60':((10:Int) ^ ((60:Int).toNat)) = 1000000000000000000000000000000000000000000000000000000000000:=by decide
      simp only [List.mem_cons,List.not_mem_nil,or_false] at hm
      rcases hm with rfl | rfl | rfl
      · exact ⟨_,rfl,by rw [e60,e60']; omega,by rw [e60,e60']; omega⟩
      · exact ⟨_,rfl,by rw [e60,e60']; omega,by rw [e60,e60']; omega⟩
      · exact ⟨_,rfl,by rw [e60,e60']; omega,by rw [e60,e60']; omega⟩
    obtain ⟨n,rfl,q1,q2⟩:=good
    exact ⟨l,_,_,_,rfl,rfl,SqL.of hl4,hv,q n _ ((g3'.new hl).trans g4) q1 q2⟩
def letters:Str:="abcdefghijklmnopqrstuvwxyz"
theorem letters_ok:∀ c ∈ letters.cps.toList,97 ≤ c∧c ≤ 122:=by decide +kernel
theorem letters_len:letters.cps.toList.length = 26:=by decide +kernel
theorem ok_word (B:Blt mg) (F:FA K mg "_law_word" sWord) (G:Cal CX0 P w K mg base 1 "_law_draw" ["_law_pot_here", "_law_many"] spDraw) :
    Cal CX0 P w K mg base 2 "_law_word" ["_law_pot_here"] spWord:=by
  refine F.ok scWord fun f cdv A outer s H vs Q E hr h=>?_
  obtain ⟨p,rfl,hP,q⟩:=h
  refine ⟨_,pss_cons (ps_set (i:=1) scWord.nd rfl (Or.inr rfl) pe_str)
    (pss_cons (ps_set (i:=2) scWord.nd rfl (Or.inr rfl) (pe_ix ix_list (pe_lst (pa_cons pe_int (pa_cons pe_int pa_nil))) (pe_c0 G hr (pa_cons (pv 0) (pa_cons pe_int pa_nil))) (fun _ _=>rfl)))
    (pss_ret (pe_bm PySem.F.plainAttrs_str PySem.F.slot_str_join PySem.F.type_str_join mt_join pe_str
      (pa_cons (pe_lcomp (N':=["_law_k", "_law_pot_here", "_law_letters", "_law_some"]) (src:=[none,some 0,some 1,some 2]) rfl (CompSc.ofB (by kernel_rfl))
        (pi_range1 rfl B.range (pa_cons (pe_op op_add pe_int (pe_op op_mul (pe_c0 G hr (pa_cons (pv 0) (pa_cons pe_int pa_nil))) (pe_c0 G hr (pa_cons (pv 0) (pa_cons pe_int pa_nil))))) pa_nil))
        (fun cl C s H fp=>pgl (i:=0))
        (fun cl C s H fp=>pifs_nil)
        (fun cl C s H fp=>pe_ix ix_str (pvf 2) (pe_c0 (hg:=glc) G hr (pa_cons (pvf 1) (pa_cons (pvf 3) pa_nil))) (fun _ _=>rfl))) pa_nil)))),?_⟩
  refine ⟨szl2,fun l hl=>?_⟩
  have n1:l ≠ p:=fun e=>by subst e; obtain ⟨_,_,z,_⟩:=hP; rw [z] at hl; cases hl
  refine ⟨_,rfl,p,_,rfl,((Grow.refl hP).new hl).pot,by decide,by decide,fun d1 H1 g1 a1 b1=>?_⟩
  have g1':=((Grow.refl hP).new hl).trans g1
  obtain ⟨v,hv,hm⟩:=atI_mem (xs:=[V.int 3,V.int 26]) a1 b1
  have good:∃ n:Int,v = .int n∧0 < n∧n ≤ 26:=by
    simp only [List.mem_cons,List.not_mem_nil,or_false] at hm
    rcases hm with rfl | rfl
    · exact ⟨3,rfl,by decide,by decide⟩
    · exact ⟨26,rfl,by decide,by decide⟩
  obtain ⟨n,rfl,n0,n26⟩:=good
  refine ⟨l,_,_,_,rfl,rfl,SqL.of (g1.keep l _ n1 upd_same),hv,rfl,?_⟩
  refine ⟨_,rfl,p,_,rfl,g1'.pot,by decide,by decide,fun d2 H2 g2 a2 b2=>?_⟩
  refine ⟨_,rfl,p,_,rfl,g2.pot,by decide,by decide,fun d3 H3 g3 a3 b3=>?_⟩
  have g3':=(g1'.trans g2).trans g3
  have d23:0 ≤ d2 * d3∧d2 * d3 ≤ 7:=by
    have e:d2 = 0∨d2 = 1:=by omega
    rcases e with rfl | rfl <;> omega
  refine ⟨_,_,rfl,rfl,.inl ⟨?_,?_⟩,_,_,rfl,rfl,_,rfl,?_,?_,fun D hD=>?_⟩
  · have e:((2:Int) ^ 64) = 18446744073709551616:=by decide
    rw [e]; omega
  · have e:((2:Int) ^ 64) = 18446744073709551616:=by decide
    rw [e]; omega
  · have e:((2:Int) ^ 62) = 4611686018427387904:=by decide
    rw [e]; omega
  · have e:((2:Int) ^ 62) = 4611686018427387904:=by decide
    rw [e]; omega
  have n2:D ≠ p:=fun e=>by subst e; obtain ⟨_,_,z,_⟩:=g3'.pot; rw [z] at hD; cases hD
  have log:n.natAbs.log2 < 9000:=Nat.lt_of_le_of_lt (Nat.log2_le_self _) (by omega)
  refine comp_range (fun i σ ys H'=>∃ (o:Option V) (zs:List Nat),σ = [o,some (.ref p),some (.str letters),some (.int n)]∧ys = zs.map (fun c=>V.str (sgn c))∧zs.length = i∧(∀ c ∈ zs,97 ≤ c∧c ≤ 122)∧H' D = some (.lst ys)∧Grow p H H')
    ⟨none,[],rfl,rfl,rfl,(fun _ z=>nomatch z),upd_same,g3'.new hD⟩ ?_ ?_ ?_ ?_
  · rintro i σ ys H' _ ⟨o,zs,_,rfl,rfl,_,h,_⟩
    exact ⟨h,by rw [List.length_map]; exact Nat.le_refl _⟩
  · exact Nat.le_trans (show (1 + d2 * d3).toNat ≤ 8 by omega) (by decide)
  · rintro i σ ys H' hi ⟨o,zs,rfl,rfl,rfl,hz,hD',g'⟩
    refine ⟨_,rfl,_,rfl,_,rfl,p,n,rfl,g'.pot,n0,log,fun d H4 g4 a4 b4=>?_⟩
    obtain ⟨c,hc,cm⟩:=atS_mem (z:=letters) a4 (by rw [letters_len]; omega)
    refine ⟨letters,_,c,rfl,rfl,?_,hc,g4.keep D _ n2 hD',some (.int (0 + (zs.length:Nat))),zs ++ [c],rfl,?_,?_,?_,upd_same,?_⟩
    · exact Nat.le_trans (show letters.length ≤ 26 by decide +kernel) (by decide)
    · rw [List.map_append]; rfl
    · rw [List.length_append]; rfl
    · intro y hy
      rcases List.mem_append.mp hy with z | z
      · exact hz y z
      · have:y = c:=by simpa using z
        subst this
        exact letters_ok y cm
    · exact g3'.put hD n2 (g'.trans g4)
  · rintro σ ys H' ⟨o,zs,_,rfl,hl',hz,hD',g'⟩
    refine ⟨"", D,zs.map sgn,rfl,rfl,?_,?_,?_⟩
    · rw [List.map_map]; exact SqL.of hD'
    · rw [sgn_len,List.length_map]
      have:zs.length ≤ 8:=by omega
      have e:("" : Str).length = 0:=by decide +kernel
      rw [e]; omega
    · exact q _ _ g' (isW_of (join_signs zs) (by omega) (by omega) hz)
end My
namespace L2
open PySem PySem.Spec PyProof.Rows
section
variable {X:Cx}
theorem bools_at {bs:List Bool} {its:List Value} (r:Vals (bs.map V.bl) its) {i:Nat} {v:Value} (h:its.toArray[i]? = some v):∃ b,bs[i]? = some b∧v = .bool b:=by
  have h':its[i]? = some v:=by simpa using h
  have hi:=(List.getElem?_eq_some_iff.mp h').1
  have hb:i < bs.length:=by
    have:=r.length
    rw [List.length_map] at this
    omega
  obtain ⟨u,e,ru⟩:=r.get (i:=i) (x:=.bl bs[i]) (by rw [List.getElem?_map,List.getElem?_eq_getElem hb]; rfl)
  rw [h'] at e
  cases e
  exact ⟨bs[i],List.getElem?_eq_getElem hb,ru⟩
theorem range_any (bs:List Bool):(List.range bs.length).any (fun i=>bs.getD i true) = bs.any id:=by
  induction bs with
  | nil=>rfl
  | cons b r ih =>
    rw [List.length_cons,List.range_succ_eq_map,List.any_cons,List.any_map,List.any_cons]
    show (b || _) = (b || _)
    rw [← ih]
    rfl
theorem call_anyL (hc:X.calm = true):CallR X (.builtin "any") (fun xs H Q=>∃ (p:Addr) (bs:List Bool),xs = [.ref p]∧SqL X.K H p (bs.map V.bl)∧Q (.bl (bs.any id)) H):=by
  intro pins s σ H xs us Q I r h
  obtain ⟨p,bs,rfl,hS,q⟩:=h
  obtain ⟨u,rfl,ru⟩:=vals1 r
  cases ru
  obtain ⟨its,rv,pl,hz⟩:=I.list hS
  have hp:p < s.heap.objs.size:=by obtain ⟨o,e,_⟩:=pl.isList; exact Heap.lt_size e
  have hl:its.toArray.size = bs.length:=by have:=rv.length; rw [List.length_map] at this; simp [this]
  refine call_any_walk (wpAny_pyIter_list pl.isList ?_)
  refine ⟨s.heap.objs.size,_,_,_,_,_,fun i=>bs.getD i true,rfl,Walks.list (A:=X.A.in1) (I.ok.hd hc) _ p (Nat.ne_of_lt hp) its.toArray,⟨⟨_,Heap.get?_push_size _ rfl,rfl,rfl⟩,?_⟩,?_,fun h' tk hk=>?_⟩
  · obtain ⟨o,e,z⟩:=pl.isList
    exact ⟨o,Heap.get?_push_of_some _ e,z⟩
  · intro i v s' Q' E' hv hq
    obtain ⟨b,e,rfl⟩:=bools_at rv hv
    refine wpAny_truthy_bool ?_
    have:bs.getD i true = b:=by rw [List.getD_eq_getElem?_getD,e]; rfl
    rw [← this]
    exact hq
  · rw [hl,range_any]
    have I1:Inv X pins σ H { s with heap:=s.heap.push { cls:=.type "list_iterator", data:=.fields #[.ref p,.int 0 0] } }:=I.kept (t':=s.toks) fun b o e=>Heap.get?_push_of_some _ e
    have f:=I.fpOk (b:=s.heap.objs.size) (H':=H) (Nat.le_refl _) (I.hok.fresh (Nat.le_refl _))
    exact ⟨.bl _,H,I1.turned (fun b o hb e=>hk b o (by simpa using hb) e) f.1 f.2.1 f.2.2.2.1 f.2.2.2.2.1 f.2.2.2.2.2,rfl,q⟩
end
end L2
namespace My
open PySem L2 CS
abbrev sIsNumber:Stmt:=top 1
abbrev sInSpan:Stmt:=top 12
abbrev sHas:Stmt:=top 13
abbrev sIsNone:Stmt:=top 14
abbrev sGreaterLow:Stmt:=top 3
abbrev sLesserHigh:Stmt:=top 4
abbrev sCommonSpans:Stmt:=top 5
abbrev sGaps:Stmt:=top 6
abbrev sCommonWords:Stmt:=top 7
abbrev sRestOf:Stmt:=top 8
abbrev sCommon:Stmt:=top 9
abbrev sEither:Stmt:=top 10
abbrev sLess:Stmt:=top 11
abbrev sLiesIn:Stmt:=top 15
def okC:CSet→Prop
  | .num sps=>sps.length ≤ 1000000∧sps.Pairwise relS∧∀ s ∈ sps,∀ l h,s.1 = some l→s.2 = some h→l ≤ h
  | .wrd _ ws=>ws.length ≤ 120∧ws.Pairwise ltS∧∀ x ∈ ws,isW x
structure Blt2 (mg:Str→Option Value):Prop where
  str:mg "str" = none
  int:mg "int" = none
  bool:mg "bool" = none
  any:mg "any" = none
  min:mg "min" = none
  sorted:mg "sorted" = none
  set:mg "set" = none
structure Kit (K:PySem.W.Frag):Prop where
  ib:PySem.W.kitOne K (.type "int") (.type "bool") = some false
  si:PySem.W.kitOne K (.type "str") (.type "int") = some false
  is_:PySem.W.kitOne K (.type "int") (.type "str") = some false
theorem kit_same {K:PySem.W.Frag} {t:Value} (h:(t == t) = true):PySem.W.kitOne K t t = some true:=by
  unfold PySem.W.kitOne
  exact if_pos h
def isCl (v:V):Prop:=(∃ n,v = .int n)∨∃ x,v = .str x
def isI:V→Bool
  | .int _=>true
  | _=>false
theorem scIsNumber:FnScope ["cell"] ["cell"] (defScope sIsNumber):=fs
theorem scInSpan:FnScope ["span", "number", "low", "high"] ["span", "number"] (defScope sInSpan):=fs
theorem scHas:FnScope ["told", "cell"] ["told", "cell"] (defScope sHas):=fs
theorem scIsNone:FnScope ["told"] ["told"] (defScope sIsNone):=fs
def spIsNumber:Sp:=fun vs H Q _=>∃ v,vs = [v]∧isCl v∧Q (.bl (isI v)) H
def spInSpan:Sp:=fun vs H Q _=>∃ a s n,vs = [.ref a,.int n]∧H a = some (.tup [eV s.1,eV s.2])∧Q (.bl (inSp s n)) H
def spHas:Sp:=fun vs H Q _=>∃ a S v,vs = [.ref a,v]∧SetAt H a S∧okC S∧isCl v∧∀ H',Same H H'→Q (.bl (hasV S v)) H'
def spIsNone:Sp:=fun vs H Q _=>∃ a S,vs = [.ref a]∧SetAt H a S∧Q (.bl (noneB S)) H
theorem eV_non {o:Option Int}:decide (eV o = .non) = o.isNone:=by cases o <;> simp [eV]
variable {P:Program} {w:World} {K:PySem.W.Frag} {mg:Str→Option Value} {base:Heap}
theorem ok_isnumber (B:Blt mg) (B2:Blt2 mg) (Kt:Kit K) (F:FA K mg "is_number" sIsNumber) :
    Cal CX0 P w K mg base 1 "is_number" ["cell"] spIsNumber:=by
  refine F.ok scIsNumber fun f cdv A outer s H vs Q E hr h=>?_
  obtain ⟨x,rfl,hx,q⟩:=h
  refine ⟨_,pss_one (ps_ret (pe_and (pe_callB call_isinst rfl B.isinstance PyProof.Rows.boot_isinstance (pa_cons (pv 0) (pa_cons (pe_bty (n:="int") rfl B2.int PyProof.Rows.boot_int) pa_nil)))
    (pe_one (pe_not (pe_callB call_isinst rfl B.isinstance PyProof.Rows.boot_isinstance (pa_cons (pv 0) (pa_cons (pe_bty (n:="bool") rfl B2.bool (by decide +kernel)) pa_nil))))))),?_⟩
  rcases hx with ⟨n,rfl⟩ | ⟨y,rfl⟩
  · refine ⟨_,rfl,_,_,_,_,_,rfl,rfl,.inl (.int n),kit_same (by decide),true,rfl,?_⟩
    refine iteT ?_
    exact ⟨_,rfl,_,_,_,_,_,rfl,rfl,.inl (.int n),Kt.ib,false,rfl,q⟩
  · refine ⟨_,rfl,_,_,_,_,_,rfl,rfl,.inl (.str y),Kt.si,false,rfl,?_⟩
    exact iteF q
theorem ok_inspan (F:FA K mg "in_span" sInSpan) :
    Cal CX0 P w K mg base 1 "in_span" ["span", "number"] spInSpan:=by
  refine F.ok scInSpan fun f cdv A outer s H vs Q E hr h=>?_
  obtain ⟨a,⟨l,h⟩,n,rfl,ha,q⟩:=h
  refine ⟨_,pss_cons (ps_asg (pv 0) (pg_tup rfl (pgs_cons (pg_name (i:=2) scInSpan.nd rfl (Or.inl rfl)) (pgs_cons (pg_name (i:=3) scInSpan.nd rfl (Or.inl rfl)) pgs_nil))))
    (pss_one (ps_ret (pe_and (pe_or (pe_cmpR op_isN (pv 2) pe_non (nomark _)) (pe_one (pe_cmpR op_le (pv 2) (pv 1) (nomark _)))) (pe_one (pe_or (pe_cmpR op_isN (pv 3) pe_non (nomark _)) (pe_one (pe_cmpR op_le (pv 1) (pv 3) (nomark _)))))))),?_⟩
  refine ⟨_,rfl,a,_,rfl,SqT.of ha,rfl,_,_,rfl,_,_,rfl,rfl,?_⟩
  have second:∀ c:Bool,(c = true→inSp (l,h) n = h.all fun h=>decide (n ≤ h))→(c = false→inSp (l,h) n = false)→∃ c',V.bl c = .bl c'∧if c' = true then
      tOrV (tOp (fun x y H Q=>y = .non∧Q (.bl (decide (x = .non))) H) (tVar 3) (tC .non)) (tOp (rI0 fun i j=>.bl (decide (i ≤ j))) (tVar 1) (tVar 3)) [some (.ref a),some (.int n),some (eV l),some (eV h)] H Q else Q (.bl false) H:=fun c h1 h2=>by
    refine ⟨c,rfl,?_⟩
    cases c with
    | false=>rw [h2 rfl] at q; exact iteF q
    | true =>
      rw [h1 rfl] at q
      refine iteT ⟨_,rfl,rfl,_,rfl,?_⟩
      rw [eV_non]
      cases h with
      | none=>exact iteT q
      | some h=>exact iteF ⟨_,rfl,_,rfl,_,_,rfl,rfl,q⟩
  refine ⟨_,rfl,rfl,_,rfl,?_⟩
  have q':=q
  rw [eV_non]
  cases l with
  | none=>exact iteT (second true (fun _=>by simp [inSp]) (fun z=>by cases z))
  | some l=>exact iteF ⟨_,rfl,_,rfl,_,_,rfl,rfl,second _ (fun z=>by unfold inSp; simp only [Option.all_some,z,Bool.true_and]) (fun z=>by unfold inSp; simp only [Option.all_some,z,Bool.false_and])⟩
theorem ok_isnone (B:Blt mg) (F:FA K mg "is_none" sIsNone) :
    Cal CX0 P w K mg base 1 "is_none" ["told"] spIsNone:=by
  refine F.ok scIsNone fun f cdv A outer s H vs Q E hr h=>?_
  obtain ⟨a,S,rfl,ha,q⟩:=h
  refine ⟨_,pss_cons (ps_if (pt_cmpR op_eq (pe_ixt (pv 0) pe_int (fun _ _=>rfl)) pe_str (nomark _)) (pss_one (ps_ret (pe_cmpR op_eq (pe_callB call_len_seq rfl B.len PySem.boot_len (pa_cons (pe_ixt (pv 0) pe_int (fun _ _=>rfl)) pa_nil)) pe_int (nomark _)))) pss_nil)
    (pss_one (ps_ret (pe_and (pe_ixt (pv 0) pe_int (fun _ _=>rfl)) (pe_one (pe_cmpR op_eq (pe_callB call_len_seq rfl B.len PySem.boot_len (pa_cons (pe_ixt (pv 0) pe_int (fun _ _=>rfl)) pa_nil)) pe_int (nomark _)))))),?_⟩
  cases S with
  | num sps =>
    obtain ⟨t,as,h1,h2⟩:=ha
    refine ⟨_,rfl,a,_,_,_,rfl,rfl,SqT.of h1,rfl,rfl,_,rfl,?_⟩
    refine ite2 (fun _=>?_) (fun c=>absurd (decide_eq_true rfl) c)
    refine ⟨_,rfl,a,_,_,_,rfl,rfl,SqT.of h1,rfl,t,_,rfl,.inr (SqT.of h2.tup),rfl,?_⟩
    have e:decide (V.int ((as.map V.ref).length:Nat) = V.int 0) = noneB (.num sps):=by
      rw [List.length_map,h2.len]
      simp [noneB]
    show Q (.bl (decide (V.int ((as.map V.ref).length:Nat) = V.int 0))) H
    rw [e]
    exact q
  | wrd b ws =>
    obtain ⟨t,h1,h2⟩:=ha
    refine ⟨_,rfl,a,_,_,_,rfl,rfl,SqT.of h1,rfl,rfl,_,rfl,?_⟩
    refine ite2 (fun c=>absurd (of_decide_eq_true c) (by decide +kernel)) (fun _=>?_)
    refine ⟨_,rfl,a,_,_,_,rfl,rfl,SqT.of h1,rfl,b,rfl,?_⟩
    cases b with
    | false=>exact iteF q
    | true =>
      refine iteT ⟨_,rfl,a,_,_,_,rfl,rfl,SqT.of h1,rfl,t,_,rfl,.inr (SqT.of h2),rfl,?_⟩
      have e:decide (V.int ((ws.map V.str).length:Nat) = V.int 0) = noneB (.wrd true ws):=by
        rw [List.length_map]
        simp [noneB]
      show Q (.bl (decide (V.int ((ws.map V.str).length:Nat) = V.int 0))) H
      rw [e]
      exact q
theorem inV_str {x:Str} {ws:List Str}:inV (.str x) (ws.map V.str) = decide (x ∈ ws):=by
  unfold inV
  rw [List.any_map,Bool.eq_iff_iff,List.any_eq_true,decide_eq_true_eq]
  constructor
  · rintro ⟨y,hy,e⟩
    have:y = x:=by simpa [eqV] using e
    rw [← this]
    exact hy
  · exact fun h=>⟨x,h,by simp [eqV]⟩
theorem flat_str (ws:List Str):(ws.map V.str).all flatV = true:=by
  rw [List.all_eq_true]
  intro v hv
  obtain ⟨x,_,rfl⟩:=List.mem_map.mp hv
  rfl
theorem same_put {H H1:Hp} {D:Addr} {o:HO} (hD:H D = none) (s:Same H H1):Same H (upd H1 D o):=fun b u eb=>by
  by_cases hb:b = D
  · subst hb
    exact absurd eb (by rw [hD]; simp)
  · rw [upd_ne hb]; exact s _ _ eb
theorem take_snocG {α β:Type} {l:List α} {i:Nat} {c:α} (h:l[i]? = some c) (p:α→β):(l.take (i + 1)).map p = (l.take i).map p ++ [p c]:=by
  rw [List.take_add_one,h,List.map_append]
  rfl
theorem ok_has (B:Blt mg) (B2:Blt2 mg) (Kt:Kit K) (F:FA K mg "has" sHas) (G1:Cal CX0 P w K mg base 1 "is_number" ["cell"] spIsNumber) (G2:Cal CX0 P w K mg base 1 "in_span" ["span", "number"] spInSpan) :
    Cal CX0 P w K mg base 2 "has" ["told", "cell"] spHas:=by
  refine F.ok scHas fun f cdv A outer s H vs Q E hr h=>?_
  obtain ⟨a,S,v,rfl,ha,ho,hv,q⟩:=h
  refine ⟨_,pss_cons (ps_if (pt_cmpR op_eq (pe_ixt (pv 0) pe_int (fun _ _=>rfl)) pe_str (nomark _)) (pss_one (ps_ret (pe_and (pe_cl G1 hr rfl pass0 (pa_cons (pv 1) pa_nil))
      (pe_one (pe_callB (call_anyL rfl) rfl B2.any PyProof.Rows.boot_any (pa_cons (pe_lcomp (N':=["span", "cell"]) (src:=[none,some 1]) rfl (CompSc.ofB (by kernel_rfl)) (pi_tup (pe_ixt (pv 0) pe_int (fun _ _=>rfl))) (fun cl C s H fp=>pgl (i:=0)) (fun cl C s H fp=>pifs_nil)
        (fun cl C s H fp=>pe_cl G2 hr glc pass0 (pa_cons (pvl 0) (pa_cons (pvf 1) pa_nil)))) pa_nil)))))) pss_nil)
    (pss_one (ps_ret (pe_and (pe_callB call_isinst rfl B.isinstance PyProof.Rows.boot_isinstance (pa_cons (pv 1) (pa_cons (pe_bty (n:="str") rfl B2.str PyProof.Rows.boot_str) pa_nil)))
      (pe_one (pe_cmpR op_eq (pe_cmpR op_in_seq (pv 1) (pe_ixt (pv 0) pe_int (fun _ _=>rfl)) rfl) (pe_ixt (pv 0) pe_int (fun _ _=>rfl)) (nomark _)))))),?_⟩
  cases S with
  | num sps =>
    obtain ⟨t,as,h1,h2⟩:=ha
    refine ⟨_,rfl,a,_,_,_,rfl,rfl,SqT.of h1,rfl,rfl,_,rfl,?_⟩
    refine ite2 (fun _=>?_) (fun c=>absurd (decide_eq_true rfl) c)
    refine ⟨_,rfl,v,rfl,hv,_,rfl,?_⟩
    rcases hv with ⟨n,rfl⟩ | ⟨y,rfl⟩
    · refine iteT ⟨_,rfl,a,_,_,_,rfl,rfl,SqT.of h1,rfl,t,rfl,⟨_,SqT.of h2.tup⟩,fun D hD=>?_⟩
      have hl:(as.map V.ref).length = sps.length:=by rw [List.length_map,h2.len]
      refine comp_tup (xs:=as.map V.ref) (fun i σ ys H'=>(∃ o,σ = [o,some (.int n)])∧ys = ((sps.take i).map fun s=>inSp s n).map V.bl∧H' D = some (.lst ys)∧Same H H') ⟨⟨none,rfl⟩,rfl,upd_same,same_new hD _⟩ ?_ ?_ ?_ ?_ ?_
      · rintro i σ ys H' _ ⟨_,rfl,h,_⟩
        refine ⟨h,?_⟩
        rw [List.length_map,List.length_map,List.length_take]
        exact Nat.min_le_left _ _
      · rintro i σ ys H' _ ⟨_,_,_,sm⟩
        exact SqT.of (sm _ _ h2.tup)
      · rw [hl]; exact Nat.le_trans ho.1 (by decide)
      · rintro i x σ ys H' hx ⟨⟨o,rfl⟩,rfl,h,sm⟩
        rw [List.getElem?_map] at hx
        cases e:as[i]? with
        | none=>rw [e] at hx; cases hx
        | some b =>
          rw [e] at hx
          have hx':V.ref b = x:=Option.some.inj hx
          subst hx'
          have hi:i < sps.length:=by rw [← h2.len]; exact (List.getElem?_eq_some_iff.mp e).1
          have er:sps[i]? = some sps[i]:=List.getElem?_eq_getElem hi
          refine ⟨_,rfl,_,rfl,b,sps[i],n,rfl,sm _ _ (h2.at_ i b _ e er),h,⟨_,rfl⟩,?_,upd_same,same_put hD sm⟩
          rw [take_snocG er,List.map_append]
          rfl
      · rintro σ ys H' ⟨_,rfl,h,sm⟩
        refine ⟨D,_,rfl,SqL.of h,?_⟩
        have e:((sps.take (as.map V.ref).length).map fun s=>inSp s n).any id = hasV (.num sps) (.int n):=by
          rw [hl,List.take_of_length_le (Nat.le_refl _),List.any_map]
          rfl
        rw [e]
        exact q H' sm
    · exact iteF (q H (Same.refl H))
  | wrd b ws =>
    obtain ⟨t,h1,h2⟩:=ha
    refine ⟨_,rfl,a,_,_,_,rfl,rfl,SqT.of h1,rfl,rfl,_,rfl,?_⟩
    refine ite2 (fun c=>absurd (of_decide_eq_true c) (by decide +kernel)) (fun _=>?_)
    rcases hv with ⟨n,rfl⟩ | ⟨y,rfl⟩
    · refine ⟨_,rfl,_,_,_,_,_,rfl,rfl,.inl (.int n),Kt.is_,false,rfl,?_⟩
      exact iteF (q H (Same.refl H))
    · refine ⟨_,rfl,_,_,_,_,_,rfl,rfl,.inl (.str y),kit_same (by decide),true,rfl,?_⟩
      refine iteT ⟨_,rfl,_,rfl,a,_,_,_,rfl,rfl,SqT.of h1,rfl,t,_,rfl,.inr (SqT.of h2),rfl,flat_str ws,_,rfl,a,_,_,_,rfl,rfl,SqT.of h1,rfl,rfl,?_⟩
      show Q (.bl (decide (V.bl (inV (.str y) (ws.map V.str)) = V.bl b))) H
      have e:decide (V.bl (inV (.str y) (ws.map V.str)) = V.bl b) = hasV (.wrd b ws) (.str y):=by
        rw [dec_bl,inV_str]
        rfl
      rw [e]
      exact q H (Same.refl H)
end My
namespace CS
open PySem L2
def gl:Option Int→Option Int→Option Int
  | none,b=>b
  | a,none=>a
  | some a,some b=>some (if a < b then b else a)
def lh:Option Int→Option Int→Option Int
  | none,b=>b
  | a,none=>a
  | some a,some b=>some (if b < a then b else a)
def okB:Option Int→Option Int→Bool
  | some l,some h=>decide (l ≤ h)
  | _,_=>true
def meetS (s t:Spn):Option Spn:=if okB (gl s.1 t.1) (lh s.2 t.2) = true then some (gl s.1 t.1,lh s.2 t.2) else none
def cmnS (a b:List Spn):List Spn:=a.flatMap fun s=>b.filterMap fun t=>meetS s t
def CanS (a:List Spn):Prop:=a.Pairwise relS∧∀ s ∈ a,∀ l h,s.1 = some l→s.2 = some h→l ≤ h
def leL (o:Option Int) (n:Int):Prop:=∀ l,o = some l→l ≤ n
def leH (o:Option Int) (n:Int):Prop:=∀ h,o = some h→n ≤ h
theorem inSp_iff {s:Spn} {n:Int}:inSp s n = true ↔ leL s.1 n∧leH s.2 n:=by
  obtain ⟨a,b⟩:=s
  unfold inSp leL leH
  cases a <;> cases b <;> simp
theorem gl_le {a b:Option Int} {n:Int}:leL (gl a b) n ↔ leL a n∧leL b n:=by
  cases a with
  | none=>cases b <;> simp [gl,leL]
  | some a =>
    cases b with
    | none=>simp [gl,leL]
    | some b =>
      simp only [gl,leL,Option.some.injEq,forall_eq']
      split <;> omega
theorem lh_le {a b:Option Int} {n:Int}:leH (lh a b) n ↔ leH a n∧leH b n:=by
  cases a with
  | none=>cases b <;> simp [lh,leH]
  | some a =>
    cases b with
    | none=>simp [lh,leH]
    | some b =>
      simp only [lh,leH,Option.some.injEq,forall_eq']
      split <;> omega
def hasS (a:List Spn) (n:Int):Bool:=a.any fun s=>inSp s n
theorem meetS_in {s t:Spn} {n:Int}:(∃ u,meetS s t = some u∧inSp u n = true) ↔ inSp s n = true∧inSp t n = true:=by
  unfold meetS
  constructor
  · rintro ⟨u,e,h⟩
    split at e
    · cases e
      rw [inSp_iff] at h ⊢
      rw [inSp_iff]
      have h1:=gl_le.mp h.1
      have h2:=lh_le.mp h.2
      exact ⟨⟨h1.1,h2.1⟩,h1.2,h2.2⟩
    · cases e
  · rintro ⟨h1,h2⟩
    rw [inSp_iff] at h1 h2
    have a1:leL (gl s.1 t.1) n:=gl_le.mpr ⟨h1.1,h2.1⟩
    have a2:leH (lh s.2 t.2) n:=lh_le.mpr ⟨h1.2,h2.2⟩
    have ok:okB (gl s.1 t.1) (lh s.2 t.2) = true:=by
      cases e1:gl s.1 t.1 with
      | none=>rfl
      | some l=>cases e2:lh s.2 t.2 with
        | none=>rfl
        | some h =>
          have:=a1 l e1
          have:=a2 h e2
          simp [okB]; omega
    rw [if_pos ok]
    exact ⟨_,rfl,inSp_iff.mpr ⟨a1,a2⟩⟩
theorem hasS_cmn {a b:List Spn} {n:Int}:hasS (cmnS a b) n = (hasS a n && hasS b n):=by
  rw [Bool.eq_iff_iff,Bool.and_eq_true]
  unfold hasS cmnS
  simp only [List.any_eq_true,List.mem_flatMap,List.mem_filterMap]
  constructor
  · rintro ⟨u,⟨s,hs,t,ht,e⟩,hu⟩
    obtain ⟨h1,h2⟩:=meetS_in.mp ⟨u,e,hu⟩
    exact ⟨⟨s,hs,h1⟩,t,ht,h2⟩
  · rintro ⟨⟨s,hs,h1⟩,t,ht,h2⟩
    obtain ⟨u,e,hu⟩:=meetS_in.mpr ⟨h1,h2⟩
    exact ⟨u,⟨s,hs,t,ht,e⟩,hu⟩
theorem meetS_eq {s t u:Spn} (e:meetS s t = some u):u = (gl s.1 t.1,lh s.2 t.2):=by
  unfold meetS at e
  split at e
  · exact (Option.some.inj e).symm
  · cases e
theorem relS_meetR {s t t' u u':Spn} (h:relS t t') (e:meetS s t = some u) (e':meetS s t' = some u'):relS u u':=by
  obtain ⟨x,y,e1,e2,hl⟩:=h
  have:=meetS_eq e
  subst this
  have:=meetS_eq e'
  subst this
  have a1:∃ h,lh s.2 t.2 = some h∧h ≤ x:=by
    rw [e1]
    cases s.2 with
    | none=>exact ⟨x,rfl,Int.le_refl _⟩
    | some z=>exact ⟨_,rfl,by split <;> omega⟩
  have a2:∃ l,gl s.1 t'.1 = some l∧y ≤ l:=by
    rw [e2]
    cases s.1 with
    | none=>exact ⟨y,rfl,Int.le_refl _⟩
    | some z=>exact ⟨_,rfl,by split <;> omega⟩
  obtain ⟨h,q1,q2⟩:=a1
  obtain ⟨l,q3,q4⟩:=a2
  exact ⟨h,l,q1,q3,by omega⟩
theorem relS_meetL {s s' t t' u u':Spn} (h:relS s s') (e:meetS s t = some u) (e':meetS s' t' = some u'):relS u u':=by
  obtain ⟨x,y,e1,e2,hl⟩:=h
  have:=meetS_eq e
  subst this
  have:=meetS_eq e'
  subst this
  have a1:∃ h,lh s.2 t.2 = some h∧h ≤ x:=by
    rw [e1]
    cases t.2 with
    | none=>exact ⟨x,rfl,Int.le_refl _⟩
    | some z=>exact ⟨_,rfl,by split <;> omega⟩
  have a2:∃ l,gl s'.1 t'.1 = some l∧y ≤ l:=by
    rw [e2]
    cases t'.1 with
    | none=>exact ⟨y,rfl,Int.le_refl _⟩
    | some z=>exact ⟨_,rfl,by split <;> omega⟩
  obtain ⟨h,q1,q2⟩:=a1
  obtain ⟨l,q3,q4⟩:=a2
  exact ⟨h,l,q1,q3,by omega⟩
theorem meetS_ok {s t u:Spn} (e:meetS s t = some u):∀ l h,u.1 = some l→u.2 = some h→l ≤ h:=by
  unfold meetS at e
  split at e
  · rename_i ok
    cases e
    intro l h e1 e2
    dsimp only at e1 e2
    rw [e1,e2] at ok
    simpa [okB] using ok
  · cases e
theorem can_cmn {a b:List Spn} (ha:CanS a) (hb:CanS b):CanS (cmnS a b):=by
  refine ⟨?_,fun u hu=>?_⟩
  · unfold cmnS
    rw [List.pairwise_flatMap]
    refine ⟨fun s hs=>?_,?_⟩
    · rw [List.pairwise_filterMap]
      exact hb.1.imp fun h u hu u' hu'=>relS_meetR h hu hu'
    · refine ha.1.imp fun {s s'} h=>?_
      intro u hu u' hu'
      obtain ⟨t,_,e⟩:=List.mem_filterMap.mp hu
      obtain ⟨t',_,e'⟩:=List.mem_filterMap.mp hu'
      exact relS_meetL h e e'
  · obtain ⟨s,_,hu⟩:=List.mem_flatMap.mp hu
    obtain ⟨t,_,e⟩:=List.mem_filterMap.mp hu
    exact meetS_ok e
theorem cmn_len (a b:List Spn):(cmnS a b).length ≤ a.length * b.length:=by
  unfold cmnS
  induction a with
  | nil=>simp
  | cons s a ih =>
    rw [List.flatMap_cons,List.length_append,List.length_cons,Nat.add_mul,Nat.one_mul]
    have:=List.length_filterMap_le (fun t=>meetS s t) b
    omega
def gapsGo:List Spn→List Spn
  | []=>[]
  | [s]=>match s.2 with
    | some h=>[(some (h + 1),none)]
    | none=>[]
  | s :: t :: r=>(s.2.map (· + 1),t.1.map (· - 1)) :: gapsGo (t :: r)
def gapsS:List Spn→List Spn
  | []=>[(none,none)]
  | s :: r=>(match s.1 with
    | some l=>[(none,some (l - 1))]
    | none=>[]) ++ gapsGo (s :: r)
theorem CanS.tail {s:Spn} {r:List Spn} (h:CanS (s :: r)):CanS r:=⟨(List.pairwise_cons.mp h.1).2,fun t ht=>h.2 t (List.mem_cons_of_mem _ ht)⟩
theorem below_none {s:Spn} {r:List Spn} (h:CanS (s :: r)) {n x:Int} (hx:s.2 = some x) (hn:n ≤ x + 1):hasS r n = false:=by
  rw [Bool.eq_false_iff]
  intro hh
  obtain ⟨t,ht,hin⟩:=List.any_eq_true.mp hh
  obtain ⟨a,b,e1,e2,hl⟩:=(List.pairwise_cons.mp h.1).1 t ht
  have:=(inSp_iff.mp hin).1 b e2
  rw [e1] at hx
  cases hx
  omega
theorem hasS_cons {s:Spn} {r:List Spn} {n:Int}:hasS (s :: r) n = (inSp s n || hasS r n):=rfl
theorem gapsGo_has:∀ {a:List Spn},CanS a→a ≠ []→∀ {n:Int},(∀ s r,a = s :: r→leL s.1 n)→hasS (gapsGo a) n = !hasS a n
  | [],_,h0,_,_=>absurd rfl h0
  | [s],h,_,n,hl=>by
    have h1:=hl s [] rfl
    cases e:s.2 with
    | none =>
      have:inSp s n = true:=inSp_iff.mpr ⟨h1,fun x ex=>by rw [e] at ex; cases ex⟩
      simp [gapsGo,e,hasS,this]
    | some x =>
      by_cases c:n ≤ x
      · have:inSp s n = true:=inSp_iff.mpr ⟨h1,fun y ey=>by rw [e] at ey; cases ey; exact c⟩
        have h2:inSp (some (x + 1),none) n = false:=by
          rw [Bool.eq_false_iff]
          intro q
          have:=(inSp_iff.mp q).1 (x + 1) rfl
          omega
        simp [gapsGo,e,hasS,this,h2]
      · have:inSp s n = false:=by
          rw [Bool.eq_false_iff]
          intro q
          have:=(inSp_iff.mp q).2 x e
          omega
        have h2:inSp (some (x + 1),none) n = true:=inSp_iff.mpr ⟨fun l el=>by cases el; omega,fun y ey=>by cases ey⟩
        simp [gapsGo,e,hasS,this,h2]
  | s :: t :: r,h,_,n,hl=>by
    have h1:=hl s (t :: r) rfl
    obtain ⟨x,y,e1,e2,hxy⟩:=(List.pairwise_cons.mp h.1).1 t (List.mem_cons_self ..)
    have eg:gapsGo (s :: t :: r) = (some (x + 1),some (y - 1)) :: gapsGo (t :: r):=by
      show (s.2.map (· + 1),t.1.map (· - 1)) :: gapsGo (t :: r) = _
      rw [e1,e2]; rfl
    rw [eg,hasS_cons,hasS_cons]
    by_cases c:n ≤ x
    · have i1:inSp s n = true:=inSp_iff.mpr ⟨h1,fun z ez=>by rw [e1] at ez; cases ez; exact c⟩
      have i2:inSp (some (x + 1),some (y - 1)) n = false:=by
        rw [Bool.eq_false_iff]
        intro q
        have:=(inSp_iff.mp q).1 (x + 1) rfl
        omega
      have i3:hasS (gapsGo (t :: r)) n = false:=gapsGo_low h.tail (by simp) (fun s' r' e=>by cases e; exact ⟨y,e2,by omega⟩)
      rw [i1,i2,i3]; rfl
    · have i1:inSp s n = false:=by
        rw [Bool.eq_false_iff]
        intro q
        have:=(inSp_iff.mp q).2 x e1
        omega
      by_cases c2:n < y
      · have i2:inSp (some (x + 1),some (y - 1)) n = true:=inSp_iff.mpr ⟨fun l el=>by cases el; omega,fun z ez=>by cases ez; omega⟩
        have i3:hasS (t :: r) n = false:=by
          rw [Bool.eq_false_iff]
          intro q
          obtain ⟨u,hu,hin⟩:=List.any_eq_true.mp q
          rcases List.mem_cons.mp hu with rfl | hu
          · have:=(inSp_iff.mp hin).1 y e2
            omega
          · obtain ⟨a,b,q1,q2,hl2⟩:=(List.pairwise_cons.mp h.tail.1).1 u hu
            have:=(inSp_iff.mp hin).1 b q2
            have:=h.2 t (by simp) y a e2 q1
            omega
        rw [i1,i2,i3]; rfl
      · have i2:inSp (some (x + 1),some (y - 1)) n = false:=by
          rw [Bool.eq_false_iff]
          intro q
          have:=(inSp_iff.mp q).2 (y - 1) rfl
          omega
        rw [i1,i2,gapsGo_has h.tail (by simp) (fun s' r' e=>by cases e; intro l el; rw [e2] at el; cases el; omega)]
        simp
where
  gapsGo_low:∀ {a:List Spn},CanS a→a ≠ []→∀ {n:Int},(∀ s r,a = s :: r→∃ y,s.1 = some y∧n < y)→hasS (gapsGo a) n = false
  | [],_,h0,_,_=>absurd rfl h0
  | [s],h,_,n,hl=>by
    obtain ⟨y,ey,hn⟩:=hl s [] rfl
    cases e:s.2 with
    | none=>simp [gapsGo,e,hasS]
    | some x =>
      have:=h.2 s (by simp) y x ey e
      have h2:inSp (some (x + 1),none) n = false:=by
        rw [Bool.eq_false_iff]
        intro q
        have:=(inSp_iff.mp q).1 (x + 1) rfl
        omega
      simp [gapsGo,e,hasS,h2]
  | s :: t :: r,h,_,n,hl=>by
    obtain ⟨y,ey,hn⟩:=hl s (t :: r) rfl
    obtain ⟨x,z,e1,e2,hxz⟩:=(List.pairwise_cons.mp h.1).1 t (List.mem_cons_self ..)
    have:=h.2 s (by simp) y x ey e1
    have eg:gapsGo (s :: t :: r) = (some (x + 1),some (z - 1)) :: gapsGo (t :: r):=by
      show (s.2.map (· + 1),t.1.map (· - 1)) :: gapsGo (t :: r) = _
      rw [e1,e2]; rfl
    have i2:inSp (some (x + 1),some (z - 1)) n = false:=by
      rw [Bool.eq_false_iff]
      intro q
      have:=(inSp_iff.mp q).1 (x + 1) rfl
      omega
    rw [eg,hasS_cons,i2,gapsGo_low h.tail (by simp) (fun s' r' e=>by cases e; exact ⟨z,e2,by omega⟩)]
    rfl
theorem hasS_gaps {a:List Spn} (h:CanS a) {n:Int}:hasS (gapsS a) n = !hasS a n:=by
  cases a with
  | nil=>simp [gapsS,hasS,inSp]
  | cons s r =>
    cases e:s.1 with
    | none =>
      have:gapsS (s :: r) = gapsGo (s :: r):=by simp [gapsS,e]
      rw [this]
      exact gapsGo_has h (by simp) (fun s' r' q=>by cases q; intro l el; rw [e] at el; cases el)
    | some y =>
      have:gapsS (s :: r) = (none,some (y - 1)) :: gapsGo (s :: r):=by simp [gapsS,e]
      rw [this,hasS_cons]
      by_cases c:n < y
      · have i1:inSp (none,some (y - 1)) n = true:=inSp_iff.mpr ⟨fun l el=>(by cases el),fun z ez=>by cases ez; omega⟩
        have i2:hasS (s :: r) n = false:=by
          rw [Bool.eq_false_iff]
          intro q
          obtain ⟨u,hu,hin⟩:=List.any_eq_true.mp q
          rcases List.mem_cons.mp hu with rfl | hu
          · have:=(inSp_iff.mp hin).1 y e
            omega
          · obtain ⟨a,b,q1,q2,hl2⟩:=(List.pairwise_cons.mp h.1).1 u hu
            have:=(inSp_iff.mp hin).1 b q2
            have:=h.2 s (by simp) y a e q1
            omega
        rw [i1,i2]; rfl
      · have i1:inSp (none,some (y - 1)) n = false:=by
          rw [Bool.eq_false_iff]
          intro q
          have:=(inSp_iff.mp q).2 (y - 1) rfl
          omega
        rw [i1,gapsGo_has h (by simp) (fun s' r' q=>by cases q; intro l el; rw [e] at el; cases el; omega)]
        rfl
theorem gapsGo_can:∀ {a:List Spn},CanS a→CanS (gapsGo a)∧∀ s r,a = s :: r→∀ u ∈ gapsGo a,∃ x l,s.2 = some x∧u.1 = some l∧x + 1 ≤ l
  | [],_=>⟨⟨List.Pairwise.nil,by simp [gapsGo]⟩,by simp [gapsGo]⟩
  | [s],h=>by
    cases e:s.2 with
    | none=>simp [gapsGo,e,CanS]
    | some x =>
      have eg:gapsGo [s] = [(some (x + 1),none)]:=by simp [gapsGo,e]
      rw [eg]
      refine ⟨⟨List.pairwise_singleton ..,fun u hu l y e1 e2=>?_⟩,fun s' r q u hu=>?_⟩
      · rw [List.mem_singleton.mp hu] at e2; cases e2
      · cases q
        rw [List.mem_singleton.mp hu]
        exact ⟨x,x + 1,e,rfl,Int.le_refl _⟩
  | s :: t :: r,h=>by
    obtain ⟨x,y,e1,e2,hxy⟩:=(List.pairwise_cons.mp h.1).1 t (List.mem_cons_self ..)
    obtain ⟨c1,c2⟩:=gapsGo_can h.tail
    have eg:gapsGo (s :: t :: r) = (some (x + 1),some (y - 1)) :: gapsGo (t :: r):=by
      show (s.2.map (· + 1),t.1.map (· - 1)) :: gapsGo (t :: r) = _
      rw [e1,e2]; rfl
    rw [eg]
    have up:∀ u ∈ gapsGo (t :: r),∃ l,u.1 = some l∧y + 1 ≤ l:=fun u hu=>by
      obtain ⟨z,l,q1,q2,q3⟩:=c2 t r rfl u hu
      have:=h.2 t (by simp) y z e2 q1
      exact ⟨l,q2,by omega⟩
    refine ⟨⟨List.pairwise_cons.mpr ⟨fun u hu=>?_,c1.1⟩,fun u hu l z q1 q2=>?_⟩,fun s' r' q u hu=>?_⟩
    · obtain ⟨l,q1,q2⟩:=up u hu
      exact ⟨y - 1,l,rfl,q1,by omega⟩
    · rcases List.mem_cons.mp hu with rfl | hu
      · cases q1; cases q2; omega
      · exact c1.2 u hu l z q1 q2
    · cases q
      rcases List.mem_cons.mp hu with rfl | hu
      · exact ⟨x,x + 1,e1,rfl,Int.le_refl _⟩
      · obtain ⟨l,q1,q2⟩:=up u hu
        exact ⟨x,l,e1,q1,by omega⟩
theorem can_gaps {a:List Spn} (h:CanS a):CanS (gapsS a):=by
  cases a with
  | nil=>exact ⟨List.pairwise_singleton ..,fun u hu l z q1 q2=>by rw [List.mem_singleton.mp hu] at q1; cases q1⟩
  | cons s r =>
    obtain ⟨c1,c2⟩:=gapsGo_can h
    cases e:s.1 with
    | none =>
      have:gapsS (s :: r) = gapsGo (s :: r):=by simp [gapsS,e]
      rw [this]; exact c1
    | some y =>
      have:gapsS (s :: r) = (none,some (y - 1)) :: gapsGo (s :: r):=by simp [gapsS,e]
      rw [this]
      refine ⟨List.pairwise_cons.mpr ⟨fun u hu=>?_,c1.1⟩,fun u hu l z q1 q2=>?_⟩
      · obtain ⟨x,l,q1,q2,q3⟩:=c2 s r rfl u hu
        have:=h.2 s (by simp) y x e q1
        exact ⟨y - 1,l,rfl,q2,by omega⟩
      · rcases List.mem_cons.mp hu with rfl | hu
        · cases q1
        · exact c1.2 u hu l z q1 q2
theorem gapsGo_len:∀ (a:List Spn),(gapsGo a).length ≤ a.length
  | []=>by simp [gapsGo]
  | [s]=>by
    simp only [gapsGo]
    split <;> simp
  | s :: t :: r=>by
    have:=gapsGo_len (t :: r)
    simp only [gapsGo,List.length_cons] at this ⊢
    omega
theorem gaps_len (a:List Spn):(gapsS a).length ≤ a.length + 1:=by
  cases a with
  | nil=>simp [gapsS]
  | cons s r =>
    have:=gapsGo_len (s :: r)
    simp only [gapsS,List.length_append]
    split <;> simp only [List.length_cons,List.length_nil] at this ⊢ <;> omega
theorem first_low {s t:Spn} {r r':List Spn} (ha:CanS (s :: r)) (hb:CanS (t :: r')) (h:∀ n,hasS (s :: r) n = true→hasS (t :: r') n = true):∀ l,t.1 = some l→∃ l',s.1 = some l'∧l ≤ l':=by
  intro l e
  have low:∀ n,n < l→hasS (t :: r') n = false:=fun n hn=>by
    rw [Bool.eq_false_iff]
    intro q
    obtain ⟨u,hu,hin⟩:=List.any_eq_true.mp q
    rcases List.mem_cons.mp hu with rfl | hu
    · have:=(inSp_iff.mp hin).1 l e
      omega
    · obtain ⟨a,b,q1,q2,hl2⟩:=(List.pairwise_cons.mp hb.1).1 u hu
      have:=(inSp_iff.mp hin).1 b q2
      have:=hb.2 t (by simp) l a e q1
      omega
  cases e1:s.1 with
  | none =>
    have:∃ n,n < l∧inSp s n = true:=by
      cases e2:s.2 with
      | none=>exact ⟨l - 1,by omega,inSp_iff.mpr ⟨fun z ez=>(by rw [e1] at ez; cases ez),fun z ez=>by rw [e2] at ez; cases ez⟩⟩
      | some x =>
        refine ⟨min x (l - 1),by omega,inSp_iff.mpr ⟨fun z ez=>(by rw [e1] at ez; cases ez),fun z ez=>?_⟩⟩
        rw [e2] at ez; cases ez; omega
    obtain ⟨n,hn,hin⟩:=this
    have:=h n (by rw [hasS_cons,hin]; rfl)
    rw [low n hn] at this
    cases this
  | some l' =>
    refine ⟨l',rfl,?_⟩
    rcases Int.lt_or_le l' l with c | c
    · have hin:inSp s l' = true:=inSp_iff.mpr ⟨fun z ez=>by rw [e1] at ez; cases ez; exact Int.le_refl _,fun z ez=>ha.2 s (by simp) l' z e1 ez⟩
      have:=h l' (by rw [hasS_cons,hin]; rfl)
      rw [low l' c] at this
      cases this
    · exact c
theorem first_high {s t:Spn} {r r':List Spn} (ha:CanS (s :: r)) (hb:CanS (t :: r')) (el:s.1 = t.1) (h:∀ n,hasS (t :: r') n = true→hasS (s :: r) n = true):∀ x,s.2 = some x→∃ x',t.2 = some x'∧x' ≤ x:=by
  intro x e
  have out:hasS (s :: r) (x + 1) = false:=by
    rw [hasS_cons,below_none ha e (Int.le_refl _),Bool.or_false,Bool.eq_false_iff]
    intro q
    have:=(inSp_iff.mp q).2 x e
    omega
  have low:leL t.1 (x + 1):=fun l q=>by
    have:=ha.2 s (by simp) l x (el.trans q) e
    omega
  cases e2:t.2 with
  | none =>
    have:inSp t (x + 1) = true:=inSp_iff.mpr ⟨low,fun z ez=>by rw [e2] at ez; cases ez⟩
    have:=h (x + 1) (by rw [hasS_cons,this]; rfl)
    rw [out] at this; cases this
  | some x' =>
    refine ⟨x',rfl,?_⟩
    rcases Int.lt_or_le x x' with c | c
    · have:inSp t (x + 1) = true:=inSp_iff.mpr ⟨low,fun z ez=>by rw [e2] at ez; cases ez; omega⟩
      have:=h (x + 1) (by rw [hasS_cons,this]; rfl)
      rw [out] at this; cases this
    · exact c
theorem exists_in {s:Spn} (h:∀ l x,s.1 = some l→s.2 = some x→l ≤ x):∃ n,inSp s n = true:=by
  cases e1:s.1 with
  | some l=>exact ⟨l,inSp_iff.mpr ⟨fun z ez=>by rw [e1] at ez; cases ez; exact Int.le_refl _,fun z ez=>h l z e1 ez⟩⟩
  | none =>
    cases e2:s.2 with
    | some x=>exact ⟨x,inSp_iff.mpr ⟨fun z ez=>(by rw [e1] at ez; cases ez),fun z ez=>by rw [e2] at ez; cases ez; exact Int.le_refl _⟩⟩
    | none=>exact ⟨0,inSp_iff.mpr ⟨fun z ez=>(by rw [e1] at ez; cases ez),fun z ez=>by rw [e2] at ez; cases ez⟩⟩
theorem can_ext:∀ {a b:List Spn},CanS a→CanS b→(∀ n,hasS a n = hasS b n)→a = b
  | [],[],_,_,_=>rfl
  | [],t :: r',_,hb,h=>by
    obtain ⟨n,hn⟩:=exists_in (hb.2 t (by simp))
    have:=h n
    rw [hasS_cons,hn] at this
    cases this
  | s :: r,[],ha,_,h=>by
    obtain ⟨n,hn⟩:=exists_in (ha.2 s (by simp))
    have:=h n
    rw [hasS_cons,hn] at this
    cases this
  | s :: r,t :: r',ha,hb,h=>by
    have h1:=first_low ha hb fun n q=>by rw [← h n]; exact q
    have h2:=first_low hb ha fun n q=>by rw [h n]; exact q
    have el:s.1 = t.1:=by
      cases e1:s.1 with
      | none=>cases e2:t.1 with
        | none=>rfl
        | some l=>obtain ⟨l',q,_⟩:=h1 l e2; rw [e1] at q; cases q
      | some l=>cases e2:t.1 with
        | none=>obtain ⟨l',q,_⟩:=h2 l e1; rw [e2] at q; cases q
        | some l' =>
          obtain ⟨m,q1,q2⟩:=h1 l' e2
          obtain ⟨m',q3,q4⟩:=h2 l e1
          rw [e1] at q1; rw [e2] at q3
          cases q1; cases q3
          rw [show l = l' by omega]
    have h3:=first_high ha hb el fun n q=>by rw [h n]; exact q
    have h4:=first_high hb ha el.symm fun n q=>by rw [← h n]; exact q
    have eh:s.2 = t.2:=by
      cases e1:s.2 with
      | none=>cases e2:t.2 with
        | none=>rfl
        | some l=>obtain ⟨l',q,_⟩:=h4 l e2; rw [e1] at q; cases q
      | some l=>cases e2:t.2 with
        | none=>obtain ⟨l',q,_⟩:=h3 l e1; rw [e2] at q; cases q
        | some l' =>
          obtain ⟨m,q1,q2⟩:=h3 l e1
          obtain ⟨m',q3,q4⟩:=h4 l' e2
          rw [e2] at q1; rw [e1] at q3
          cases q1; cases q3
          rw [show l = l' by omega]
    have est:s = t:=Prod.ext el eh
    subst est
    have tails:∀ n,hasS r n = hasS r' n:=fun n=>by
      have q:=h n
      rw [hasS_cons,hasS_cons] at q
      cases hs:inSp s n with
      | false=>rw [hs] at q; simpa using q
      | true =>
        have no:∀ {r:List Spn},CanS (s :: r)→hasS r n = false:=fun {r} hc=>by
          rw [Bool.eq_false_iff]
          intro z
          obtain ⟨u,hu,hin⟩:=List.any_eq_true.mp z
          obtain ⟨a,b,q1,q2,hl2⟩:=(List.pairwise_cons.mp hc.1).1 u hu
          have:=(inSp_iff.mp hin).1 b q2
          have:=(inSp_iff.mp hs).2 a q1
          omega
        rw [no ha,no hb]
    rw [can_ext ha.tail hb.tail tails]
instance (x y:Str):Decidable (ltS x y):=inferInstanceAs (Decidable (x.cps.toList < y.cps.toList))
theorem ltS_trans {x y z:Str} (h1:ltS x y) (h2:ltS y z):ltS x z:=List.lt_trans h1 h2
theorem ltS_tri {x y:Str} (h:¬ ltS x y) (n:x ≠ y):ltS y x:=ltS_of h (Ne.symm n)
def insW (x:Str):List Str→List Str
  | []=>[x]
  | y :: r=>if x = y then y :: r else if ltS x y then x :: y :: r else y :: insW x r
theorem mem_ins {x z:Str}:∀ {ms:List Str},z ∈ insW x ms ↔ z = x∨z ∈ ms
  | []=>by simp [insW]
  | y :: r=>by
    unfold insW
    split
    · rename_i e
      subst e
      simp
    · split
      · simp
      · rw [List.mem_cons,mem_ins,List.mem_cons]
        constructor
        · rintro (h | h | h)
          · exact .inr (.inl h)
          · exact .inl h
          · exact .inr (.inr h)
        · rintro (h | h | h)
          · exact .inr (.inl h)
          · exact .inl h
          · exact .inr (.inr h)
theorem ins_pw {x:Str}:∀ {ms:List Str},ms.Pairwise ltS→(insW x ms).Pairwise ltS
  | [],_=>by simp [insW]
  | y :: r,h=>by
    unfold insW
    have h1:=List.pairwise_cons.mp h
    split
    · exact h
    · rename_i ne
      split
      · rename_i lt
        exact List.pairwise_cons.mpr ⟨fun z hz=>by
          rcases List.mem_cons.mp hz with rfl | hz
          · exact lt
          · exact ltS_trans lt (h1.1 z hz),h⟩
      · rename_i nl
        refine List.pairwise_cons.mpr ⟨fun z hz=>?_,ins_pw h1.2⟩
        rcases mem_ins.mp hz with rfl | hz
        · exact ltS_tri nl ne
        · exact h1.1 z hz
theorem ins_len (x:Str):∀ (ms:List Str),(insW x ms).length ≤ ms.length + 1
  | []=>by simp [insW]
  | y :: r=>by
    unfold insW
    have:=ins_len x r
    split
    · simp
    · split
      · simp
      · simp only [List.length_cons]; omega
def uni (ws vs:List Str):List Str:=vs.foldr insW ws
theorem mem_uni {ws:List Str} {z:Str}:∀ {vs:List Str},z ∈ uni ws vs ↔ z ∈ ws∨z ∈ vs
  | []=>by simp [uni]
  | v :: vs=>by
    show z ∈ insW v (uni ws vs) ↔ _
    rw [mem_ins,mem_uni,List.mem_cons]
    constructor
    · rintro (h | h | h)
      · exact .inr (.inl h)
      · exact .inl h
      · exact .inr (.inr h)
    · rintro (h | h | h)
      · exact .inr (.inl h)
      · exact .inl h
      · exact .inr (.inr h)
theorem uni_pw {ws:List Str} (h:ws.Pairwise ltS):∀ (vs:List Str),(uni ws vs).Pairwise ltS
  | []=>h
  | v :: vs=>ins_pw (uni_pw h vs)
theorem uni_len (ws:List Str):∀ (vs:List Str),(uni ws vs).length ≤ ws.length + vs.length
  | []=>by simp [uni]
  | v :: vs=>by
    have h1:=ins_len v (uni ws vs)
    have h2:=uni_len ws vs
    show (insW v (uni ws vs)).length ≤ _
    rw [List.length_cons]
    omega
theorem rise_ext:∀ {a b:List Str},a.Pairwise ltS→b.Pairwise ltS→(∀ x,x ∈ a ↔ x ∈ b)→a = b
  | [],[],_,_,_=>rfl
  | [],y :: b,_,_,h=>by have:=(h y).mpr (by simp); simp at this
  | x :: a,[],_,_,h=>by have:=(h x).mp (by simp); simp at this
  | x :: a,y :: b,ha,hb,h=>by
    have h1:=List.pairwise_cons.mp ha
    have h2:=List.pairwise_cons.mp hb
    have e:x = y:=by
      rcases List.mem_cons.mp ((h x).mp (by simp)) with e | hx
      · exact e
      · rcases List.mem_cons.mp ((h y).mpr (by simp)) with e | hy
        · exact e.symm
        · exact absurd (ltS_trans (h1.1 y hy) (h2.1 x hx)) (fun z=>ltS_irrefl z)
    subst e
    rw [rise_ext h1.2 h2.2 fun z=>?_]
    constructor
    · intro hz
      rcases List.mem_cons.mp ((h z).mp (List.mem_cons_of_mem _ hz)) with e | q
      · subst e; exact absurd (h1.1 z hz) (fun q=>ltS_irrefl q)
      · exact q
    · intro hz
      rcases List.mem_cons.mp ((h z).mpr (List.mem_cons_of_mem _ hz)) with e | q
      · subst e; exact absurd (h2.1 z hz) (fun q=>ltS_irrefl q)
      · exact q
theorem other_word (l:List Str):∃ x:Str,x ∉ l:=by
  refine ⟨⟨(List.replicate ((l.map fun x=>x.cps.size).sum + 1) 97).toArray⟩,fun h=>?_⟩
  have key:∀ (l:List Str) (x:Str),x ∈ l→x.cps.size ≤ (l.map fun x=>x.cps.size).sum:=fun l=>by
    induction l with
    | nil=>intro x hx; simp at hx
    | cons y l ih =>
      intro x hx
      rw [List.map_cons,List.sum_cons]
      rcases List.mem_cons.mp hx with rfl | hx
      · omega
      · have:=ih x hx; omega
  have:=key l _ h
  simp at this
  omega
def isNum:CSet→Bool
  | .num _=>true
  | .wrd _ _=>false
def cmn:CSet→CSet→CSet
  | .num a,.num b=>.num (cmnS a b)
  | .wrd true ws,S=>.wrd true (ws.filter fun x=>hasV S (.str x))
  | .wrd false ws,.wrd true vs=>.wrd true (vs.filter fun x=>hasV (.wrd false ws) (.str x))
  | .wrd false ws,.wrd false vs=>.wrd false (uni ws vs)
  | S,_=>S
def rst:CSet→CSet
  | .num a=>.num (gapsS a)
  | .wrd b ws=>.wrd (!b) ws
def ei (A B:CSet):CSet:=rst (cmn (rst A) (rst B))
def lss (A B:CSet):CSet:=cmn A (rst B)
def Can:CSet→Prop
  | .num a=>CanS a
  | .wrd _ ws=>ws.Pairwise ltS∧∀ x ∈ ws,isW x
def cellS:Bool→V→Prop
  | true,v=>∃ n,v = .int n
  | false,v=>∃ x,v = .str x
def lenOk (m k:Nat):CSet→Prop
  | .num a=>a.length ≤ m
  | .wrd _ ws=>ws.length ≤ k
theorem num_cmn {A B:CSet} (h:isNum A = isNum B):isNum (cmn A B) = isNum A:=by
  cases A with
  | num a=>cases B with
    | num b=>rfl
    | wrd c vs=>cases h
  | wrd b ws=>cases B with
    | num b=>cases h
    | wrd c vs=>cases b <;> cases c <;> rfl
theorem num_rst {A:CSet}:isNum (rst A) = isNum A:=by cases A <;> rfl
theorem has_rst {A:CSet} (c:Can A) {v:V} (hv:cellS (isNum A) v):hasV (rst A) v = !hasV A v:=by
  cases A with
  | num a =>
    obtain ⟨n,rfl⟩:=hv
    exact hasS_gaps c
  | wrd b ws =>
    obtain ⟨x,rfl⟩:=hv
    show (decide (x ∈ ws) == !b) = !(decide (x ∈ ws) == b)
    cases decide (x ∈ ws) <;> cases b <;> rfl
theorem has_cmn {A B:CSet} (h:isNum A = isNum B) {v:V} (hv:cellS (isNum A) v):hasV (cmn A B) v = (hasV A v && hasV B v):=by
  cases A with
  | num a=>cases B with
    | num b=>obtain ⟨n,rfl⟩:=hv; exact hasS_cmn
    | wrd c vs=>cases h
  | wrd b ws=>cases B with
    | num b=>cases h
    | wrd c vs =>
      obtain ⟨x,rfl⟩:=hv
      cases b with
      | true =>
        show (decide (x ∈ ws.filter fun x=>hasV (.wrd c vs) (.str x)) == true) = ((decide (x ∈ ws) == true) && hasV (.wrd c vs) (.str x))
        by_cases h1:x ∈ ws <;> cases h2:hasV (.wrd c vs) (.str x) <;> simp [List.mem_filter,h1,h2]
      | false =>
        cases c with
        | true =>
          show (decide (x ∈ vs.filter fun x=>hasV (.wrd false ws) (.str x)) == true) = (hasV (.wrd false ws) (.str x) && (decide (x ∈ vs) == true))
          by_cases h1:x ∈ vs <;> cases h2:hasV (.wrd false ws) (.str x) <;> simp [List.mem_filter,h1,h2]
        | false =>
          show (decide (x ∈ uni ws vs) == false) = ((decide (x ∈ ws) == false) && (decide (x ∈ vs) == false))
          by_cases h1:x ∈ ws <;> by_cases h2:x ∈ vs <;> simp [mem_uni,h1,h2]
theorem can_rst {A:CSet} (c:Can A):Can (rst A):=by
  cases A with
  | num a=>exact can_gaps c
  | wrd b ws=>exact c
theorem can_cmn' {A B:CSet} (h:isNum A = isNum B) (ca:Can A) (cb:Can B):Can (cmn A B):=by
  cases A with
  | num a=>cases B with
    | num b=>exact can_cmn ca cb
    | wrd c vs=>cases h
  | wrd b ws=>cases B with
    | num b=>cases h
    | wrd c vs =>
      cases b with
      | true=>exact ⟨ca.1.filter _,fun x hx=>ca.2 x (List.mem_filter.mp hx).1⟩
      | false =>
        cases c with
        | true=>exact ⟨cb.1.filter _,fun x hx=>cb.2 x (List.mem_filter.mp hx).1⟩
        | false=>exact ⟨uni_pw ca.1 vs,fun x hx=>(mem_uni.mp hx).elim (ca.2 x) (cb.2 x)⟩
theorem set_ext {A B:CSet} (h:isNum A = isNum B) (ca:Can A) (cb:Can B) (e:∀ v,cellS (isNum A) v→hasV A v = hasV B v):A = B:=by
  cases A with
  | num a=>cases B with
    | num b=>rw [can_ext ca cb fun n=>e (.int n) ⟨n,rfl⟩]
    | wrd c vs=>cases h
  | wrd b ws=>cases B with
    | num b=>cases h
    | wrd c vs =>
      have e':∀ x,(decide (x ∈ ws) == b) = (decide (x ∈ vs) == c):=fun x=>e (.str x) ⟨x,rfl⟩
      by_cases hb:b = c
      · subst hb
        rw [rise_ext ca.1 cb.1 fun x=>?_]
        have:=e' x
        by_cases h1:x ∈ ws <;> by_cases h2:x ∈ vs <;> cases b <;> simp [h1,h2] at this ⊢
      · obtain ⟨x,hx⟩:=other_word (ws ++ vs)
        have h1:x ∉ ws:=fun z=>hx (List.mem_append_left _ z)
        have h2:x ∉ vs:=fun z=>hx (List.mem_append_right _ z)
        have:=e' x
        cases b <;> cases c <;> simp [h1,h2] at this hb
theorem len_cmn {A B:CSet} {m1 k1 m2 k2:Nat} (h:isNum A = isNum B) (la:lenOk m1 k1 A) (lb:lenOk m2 k2 B):lenOk (m1 * m2) (k1 + k2) (cmn A B):=by
  cases A with
  | num a=>cases B with
    | num b=>exact Nat.le_trans (cmn_len a b) (Nat.mul_le_mul la lb)
    | wrd c vs=>cases h
  | wrd b ws=>cases B with
    | num b=>cases h
    | wrd c vs =>
      have la':ws.length ≤ k1:=la
      have lb':vs.length ≤ k2:=lb
      cases b with
      | true =>
        have:=List.length_filter_le (fun x=>hasV (.wrd c vs) (.str x)) ws
        show (ws.filter fun x=>hasV (.wrd c vs) (.str x)).length ≤ k1 + k2
        omega
      | false =>
        cases c with
        | true =>
          have:=List.length_filter_le (fun x=>hasV (.wrd false ws) (.str x)) vs
          show (vs.filter fun x=>hasV (.wrd false ws) (.str x)).length ≤ k1 + k2
          omega
        | false =>
          have:=uni_len ws vs
          show (uni ws vs).length ≤ k1 + k2
          omega
theorem len_rst {A:CSet} {m k:Nat} (la:lenOk m k A):lenOk (m + 1) k (rst A):=by
  cases A with
  | num a=>exact Nat.le_trans (gaps_len a) (Nat.add_le_add_right la 1)
  | wrd b ws=>exact la
section
variable {A B C:CSet}
theorem sort_ei (h:isNum A = isNum B):isNum (ei A B) = isNum A:=by
  unfold ei
  rw [num_rst,num_cmn (by rw [num_rst,num_rst]; exact h),num_rst]
theorem sort_lss (h:isNum A = isNum B):isNum (lss A B) = isNum A:=num_cmn (by rw [num_rst]; exact h)
theorem can_ei (h:isNum A = isNum B) (a:Can A) (b:Can B):Can (ei A B):=can_rst (can_cmn' (by rw [num_rst,num_rst]; exact h) (can_rst a) (can_rst b))
theorem can_lss (h:isNum A = isNum B) (a:Can A) (b:Can B):Can (lss A B):=can_cmn' (by rw [num_rst]; exact h) a (can_rst b)
theorem has_ei (h:isNum A = isNum B) (a:Can A) (b:Can B) {v:V} (hv:cellS (isNum A) v):hasV (ei A B) v = (hasV A v || hasV B v):=by
  have e:isNum (rst A) = isNum (rst B):=by rw [num_rst,num_rst]; exact h
  unfold ei
  rw [has_rst (can_cmn' e (can_rst a) (can_rst b)) (by rw [num_cmn e,num_rst]; exact hv),has_cmn e (by rw [num_rst]; exact hv),has_rst a hv,has_rst b (h ▸ hv)]
  cases hasV A v <;> cases hasV B v <;> rfl
theorem has_lss (h:isNum A = isNum B) (b:Can B) {v:V} (hv:cellS (isNum A) v):hasV (lss A B) v = (hasV A v && !hasV B v):=by
  unfold lss
  rw [has_cmn (by rw [num_rst]; exact h) hv,has_rst b (h ▸ hv)]
variable (hab:isNum A = isNum B) (hac:isNum A = isNum C) (a:Can A) (b:Can B) (c:Can C)
include hab hac a b c
end
end CS
namespace L2
open PySem PySem.Spec PyProof.Rows
def orbL (m:Nat):Nat→Nat→List Nat
  | 0,_=>[]
  | n + 1,i=>i :: orbL m n ((i * 5 + 1) % m)
def stp (m:Nat):Nat→Nat→Nat
  | 0,i=>i
  | n + 1,i=>stp m n ((i * 5 + 1) % m)
def cyc (m:Nat):Bool:=(List.range m).all (fun j=>(orbL m m 0).any fun x=>Nat.beq x j) && Nat.beq (stp m m 0) 0
theorem cyc_8:cyc 8 = true:=by decide +kernel
theorem cyc_16:cyc 16 = true:=by decide +kernel
theorem cyc_32:cyc 32 = true:=by decide +kernel
theorem cyc_64:cyc 64 = true:=by decide +kernel
theorem cyc_128:cyc 128 = true:=by decide +kernel
theorem cyc_256:cyc 256 = true:=by decide +kernel
theorem stp_add (m:Nat):∀ (a b i:Nat),stp m (a + b) i = stp m b (stp m a i)
  | 0,b,i=>by rw [Nat.zero_add]; rfl
  | a + 1,b,i=>by rw [Nat.add_right_comm]; exact stp_add m a b _
theorem orbL_mem {m:Nat}:∀ {n i x:Nat},x ∈ orbL m n i→∃ s,s < n∧stp m s i = x
  | 0,i,x,h=>by simp [orbL] at h
  | n + 1,i,x,h=>by
    rw [orbL] at h
    rcases List.mem_cons.mp h with rfl | h
    · exact ⟨0,by omega,rfl⟩
    · obtain ⟨s,hs,e⟩:=orbL_mem h
      exact ⟨s + 1,by omega,e⟩
theorem cyc_from {m:Nat} (h:cyc m = true) {j:Nat} (hj:j < m):∃ s,s < m∧stp m s 0 = j:=by
  unfold cyc at h
  rw [Bool.and_eq_true] at h
  have h1:=List.all_eq_true.mp h.1 j (List.mem_range.mpr hj)
  obtain ⟨x,hx,e⟩:=List.any_eq_true.mp h1
  have e':x = j:=Nat.eq_of_beq_eq_true e
  subst e'
  exact orbL_mem hx
theorem cyc_any {m:Nat} (h:cyc m = true) {i j:Nat} (hi:i < m) (hj:j < m):∃ s,s < m∧stp m s i = j:=by
  obtain ⟨a,ha,ea⟩:=cyc_from h hi
  obtain ⟨b,hb,eb⟩:=cyc_from h hj
  have e0:stp m m 0 = 0:=by
    unfold cyc at h
    rw [Bool.and_eq_true] at h
    exact Nat.eq_of_beq_eq_true h.2
  by_cases hab:a ≤ b
  · refine ⟨b - a,by omega,?_⟩
    rw [← ea,← stp_add,show a + (b - a) = b by omega,eb]
  · refine ⟨m + b - a,by omega,?_⟩
    rw [← ea,← stp_add,show a + (m + b - a) = m + b by omega,stp_add,e0,eb]
def walkI (mask:Nat):Nat→Nat→Nat→Nat×Nat
  | 0,i,p=>(i,p)
  | n + 1,i,p=>walkI mask n (SetTable.leap mask i p).1 (SetTable.leap mask i p).2
theorem walkI_p (mask:Nat):∀ (n i p:Nat),(walkI mask n i p).2 = p / 32 ^ n
  | 0,i,p=>by simp [walkI]
  | n + 1,i,p=>by
    rw [walkI,walkI_p mask n]
    show p / 32 / 32 ^ n = _
    rw [Nat.div_div_eq_div_mul,Nat.pow_succ,Nat.mul_comm]
theorem walkI_0 (mask:Nat):∀ (n i:Nat),(walkI mask n i 0).1 = stp (mask + 1) n i
  | 0,i=>rfl
  | n + 1,i=>by
    rw [walkI,stp]
    show (walkI mask n ((i * 5 + 1 + 0 / 32) % (mask + 1)) (0 / 32)).1 = _
    rw [Nat.zero_div,Nat.add_zero]
    exact walkI_0 mask n _
theorem walkI_add (mask:Nat):∀ (a b i p:Nat),walkI mask (a + b) i p = walkI mask b (walkI mask a i p).1 (walkI mask a i p).2
  | 0,b,i,p=>by rw [Nat.zero_add]; rfl
  | a + 1,b,i,p=>by rw [Nat.add_right_comm,walkI,walkI_add mask a b]; rfl
theorem walkI_lt (mask:Nat):∀ (n i p:Nat),i < mask + 1→(walkI mask n i p).1 < mask + 1
  | 0,i,p,h=>h
  | n + 1,i,p,h=>walkI_lt mask n _ _ (Nat.mod_lt _ (by omega))
theorem free_none {mask:Nat} {owner:Array (Option Nat)}:∀ (fuel i p:Nat),SetTable.layClean.free mask owner fuel i p = none→∀ t,t < fuel→(owner.getD (walkI mask t i p).1 (some 0)).isNone = false
  | 0,i,p,h,t,ht=>by omega
  | fuel + 1,i,p,h,t,ht=>by
    unfold SetTable.layClean.free at h
    split at h
    · cases h
    · rename_i hf
      cases t with
      | zero =>
        have hr:i ≤ SetTable.runEnd mask i:=by unfold SetTable.runEnd; split <;> omega
        have:=List.find?_eq_none.mp hf 0 (List.mem_range.mpr (by omega))
        exact Bool.not_eq_true _ ▸ this
      | succ t =>
        exact free_none fuel _ _ h t (by omega)
theorem free_some {mask:Nat} {owner:Array (Option Nat)}:∀ (fuel i p:Nat) {j:Nat},SetTable.layClean.free mask owner fuel i p = some j→(owner.getD j (some 0)).isNone = true
  | 0,i,p,j,h=>by unfold SetTable.layClean.free at h; cases h
  | fuel + 1,i,p,j,h=>by
    unfold SetTable.layClean.free at h
    split at h
    · rename_i k hf
      cases h
      exact List.find?_some (p:=fun k=>(owner.getD (i + k) (some 0)).isNone) hf
    · exact free_some fuel _ _ h
theorem free_ok {mask:Nat} (hc:cyc (mask + 1) = true) {owner:Array (Option Nat)} {i p j:Nat} (hi:i < mask + 1) (hp:p < 2 ^ 64) (hj:j < mask + 1) (he:(owner.getD j (some 0)).isNone = true) :
    ∃ k,SetTable.layClean.free mask owner (SetTable.turns mask) i p = some k:=by
  cases e:SetTable.layClean.free mask owner (SetTable.turns mask) i p with
  | some k=>exact ⟨k,rfl⟩
  | none =>
    have hn:=free_none _ _ _ e
    obtain ⟨s,hs,es⟩:=cyc_any hc (walkI_lt mask 13 i p hi) hj
    have:=hn (13 + s) (by unfold SetTable.turns; omega)
    have hp0:(walkI mask 13 i p).2 = 0:=by
      rw [walkI_p]
      exact Nat.div_eq_of_lt (Nat.lt_of_lt_of_le hp (by decide))
    rw [walkI_add,hp0,walkI_0,es,he] at this
    cases this
theorem set_perm {k:Nat}:∀ {xs:List (Option Nat)} {j:Nat},xs[j]? = some none→((xs.set j (some k)).filterMap id).Perm (k :: xs.filterMap id)
  | [],j,h=>by simp at h
  | x :: xs,0,h=>by
    have:x = none:=by simpa using h
    subst this
    simp
  | x :: xs,j + 1,h=>by
    have ih:=set_perm (k:=k) (xs:=xs) (j:=j) (by simpa using h)
    cases x with
    | none=>simpa using ih
    | some y =>
      simp only [List.set_cons_succ,List.filterMap_cons,id]
      exact (ih.cons y).trans (List.Perm.swap ..)
theorem exists_none:∀ {xs:List (Option Nat)},(xs.filterMap id).length < xs.length→∃ j,j < xs.length∧xs[j]? = some none
  | [],h=>by simp at h
  | none :: xs,h=>⟨0,by simp,rfl⟩
  | some y :: xs,h=>by
    obtain ⟨j,h1,h2⟩:=exists_none (xs:=xs) (by simpa using h)
    exact ⟨j + 1,by simpa using h1,by simpa using h2⟩
def layStep (mask:Nat) (acc:Option (Array (Option Nat)×Nat)) (h:Int):Option (Array (Option Nat)×Nat):=do
  let (owner,k) ← acc
  let j ← SetTable.layClean.free mask owner (SetTable.turns mask) (SetTable.bits h % (mask + 1)) (SetTable.bits h)
  pure (owner.setIfInBounds j (some k),k + 1)
theorem bits_lt (h:Int):SetTable.bits h < 2 ^ 64:=by
  unfold SetTable.bits
  have h1:=Int.emod_nonneg h (b:=(2 ^ 64:Int)) (by decide)
  have h2:=Int.emod_lt_of_pos h (b:=(2 ^ 64:Int)) (by decide)
  have:(((h % (2 ^ 64:Int)).toNat:Nat):Int) < ((2 ^ 64:Nat):Int):=by rw [Int.toNat_of_nonneg h1]; exact h2
  exact Int.ofNat_lt.mp this
theorem lay_ok {mask:Nat} (hc:cyc (mask + 1) = true):∀ (hs:List Int) (owner:Array (Option Nat)) (k:Nat),owner.size = mask + 1→(owner.toList.filterMap id).Perm (List.range k)→k + hs.length < mask + 1 →
    ∃ o',hs.foldl (layStep mask) (some (owner,k)) = some (o',k + hs.length)∧o'.size = mask + 1∧(o'.toList.filterMap id).Perm (List.range (k + hs.length))
  | [],owner,k,h1,h2,h3=>⟨owner,rfl,h1,h2⟩
  | h :: hs,owner,k,h1,h2,h3=>by
    rw [List.length_cons] at h3
    obtain ⟨j,j1,j2⟩:=exists_none (xs:=owner.toList) (by rw [h2.length_eq,List.length_range,Array.length_toList,h1]; omega)
    rw [Array.length_toList,h1] at j1
    have he:(owner.getD j (some 0)).isNone = true:=by
      have:owner[j]? = some none:=by rw [← Array.getElem?_toList]; exact j2
      rw [Array.getD_eq_getD_getElem?,this]; rfl
    obtain ⟨s,es⟩:=free_ok hc (Nat.mod_lt (SetTable.bits h) (by omega)) (bits_lt h) j1 he
    have hs':=free_some _ _ _ es
    have hsn:owner.toList[s]? = some none:=by
      rw [Array.getElem?_toList]
      rw [Array.getD_eq_getD_getElem?] at hs'
      cases q:owner[s]? with
      | none=>rw [q] at hs'; cases hs'
      | some z=>rw [q] at hs'; cases z with
        | none=>rfl
        | some y=>cases hs'
    have e1:layStep mask (some (owner,k)) h = some (owner.setIfInBounds s (some k),k + 1):=by
      unfold layStep
      show (SetTable.layClean.free mask owner (SetTable.turns mask) (SetTable.bits h % (mask + 1)) (SetTable.bits h)).bind _ = _
      rw [es]; rfl
    rw [List.foldl_cons,e1,List.length_cons,show k + (hs.length + 1) = (k + 1) + hs.length by omega]
    refine lay_ok hc hs _ _ (by rw [Array.size_setIfInBounds]; exact h1) ?_ (by omega)
    rw [Array.toList_setIfInBounds]
    refine (set_perm hsn).trans ?_
    rw [List.range_succ]
    exact (h2.cons k).trans (List.perm_append_singleton k _).symm
theorem layClean_ok {mask:Nat} (hc:cyc (mask + 1) = true) (hs:Array Int) (hn:hs.size < mask + 1):∃ o',SetTable.layClean mask hs = some o'∧o'.size = mask + 1∧(o'.toList.filterMap id).Perm (List.range hs.size):=by
  obtain ⟨o',h1,h2,h3⟩:=lay_ok hc hs.toList (Array.replicate (mask + 1) none) 0 (by simp) (by simp) (by simpa using hn)
  refine ⟨o',?_,h2,by simpa using h3⟩
  unfold SetTable.layClean
  rw [← Array.foldl_toList]
  show Option.map _ (hs.toList.foldl (layStep mask) _) = _
  rw [h1]; rfl
theorem range_get {α:Type} (xs:Array (Option α)):(List.range xs.size).filterMap (fun j=>xs.getD j none) = xs.toList.filterMap id:=by
  have e:xs.toList = (List.range xs.size).map fun j=>xs.getD j none:=by
    apply List.ext_getElem?
    intro i
    rw [List.getElem?_map,Array.getElem?_toList]
    by_cases h:i < xs.size
    · rw [List.getElem?_range h,Array.getElem?_eq_getElem h]
      simp [Array.getD,h]
    · rw [Array.getElem?_eq_none (by omega),List.getElem?_eq_none (by simp; omega)]; rfl
  conv=>rhs; rw [e]
  rw [List.filterMap_map]; rfl
theorem laid_ok {mask:Nat} (hc:cyc (mask + 1) = true) (fi mo:Nat) (led plain:Bool) (hs:Array Int) (hn:hs.size < mask + 1) :
    ∃ t order,SetTable.laid mask fi mo led plain hs = some (t,order)∧Ris t.place∧t.dummies = #[]∧t.led = led∧t.mask = mask∧t.fits hs.size = true∧order.toList.Perm (List.range hs.size):=by
  obtain ⟨o',h1,h2,h3⟩:=layClean_ok hc hs hn
  have el:(((List.range (mask + 1)).filterMap fun j=>(o'.getD j none).map (j,·)).map (·.2)) = o'.toList.filterMap id:=by
    rw [List.map_filterMap,← h2,← range_get]
    congr 1
    funext j
    cases o'.getD j none <;> rfl
  have hlen:((List.range (mask + 1)).filterMap fun j=>(o'.getD j none).map (j,·)).length = hs.size:=by
    have:=congrArg List.length el
    rw [List.length_map,h3.length_eq,List.length_range] at this
    exact this
  refine ⟨_,_,by unfold SetTable.laid; rw [h1]; rfl,(show Ris (((List.range (mask + 1)).filterMap fun j=>(o'.getD j none).map (j,·)).map (·.1)).toArray from ris_filterMap _ _),rfl,rfl,rfl,?_,?_⟩
  · unfold SetTable.fits SetTable.fill
    simp only [List.size_toArray,List.length_map,hlen]
    simp
    omega
  · show ((((List.range (mask + 1)).filterMap fun j=>(o'.getD j none).map (j,·)).map (·.2)).toArray.toList).Perm _
    rw [List.toList_toArray,el]
    exact h3
theorem reorder_perm {α:Type} {es:Array α} {order:Array Nat} (h:order.toList.Perm (List.range es.size)):(order.filterMap (es[·]?)).toList.Perm es.toList:=by
  rw [Array.toList_filterMap]
  refine (h.filterMap _).trans ?_
  have:(List.range es.size).filterMap (fun i=>es[i]?) = es.toList:=by
    have:=range_get (es.map some)
    rw [Array.size_map] at this
    have e1:(fun j=>(es.map some).getD j none) = fun i=>es[i]?:=by
      funext j
      rw [Array.getD_eq_getD_getElem?,Array.getElem?_map]
      cases es[j]? <;> rfl
    rw [e1] at this
    rw [this,Array.toList_map,List.filterMap_map]
    simp
  rw [this]
section
variable {prog:Program} {w:World} {A:Around} {E:Value→Shared→Prop} {s:Shared}
theorem forL_wp {α β:Type} {b:β} {f:α→β→Sem (ForInStep β)} {Q:β→Shared→Prop}:∀ {xs:List α} {s:Shared} (I:Nat→Shared→Prop),I 0 s →
    (∀ i x s,xs[i]? = some x→I i s→wpAny (model prog w) A (f x b) (fun r s'=>r = .yield b∧I (i + 1) s') E s)→(∀ s,I xs.length s→Q b s)→wpAny (model prog w) A (forIn xs b f) Q E s
  | [],s,I,h0,hs,hd=>by rw [List.forIn_nil]; exact wpAny_pure (hd s h0)
  | x :: xs,s,I,h0,hs,hd=>by
    rw [List.forIn_cons]
    refine wpAny_bind (thn (hs 0 x s rfl h0) fun r s' ⟨e,h1⟩=>?_)
    subst e
    exact forL_wp (xs:=xs) (fun i=>I (i + 1)) h1 (fun i y s hy hi=>hs (i + 1) y s hy hi) hd
theorem forA_wp {α β:Type} {b:β} {f:α→β→Sem (ForInStep β)} {Q:β→Shared→Prop} {xs:Array α} (I:Nat→Shared→Prop) (h0:I 0 s)
    (hs:∀ i x s,xs.toList[i]? = some x→I i s→wpAny (model prog w) A (f x b) (fun r s'=>r = .yield b∧I (i + 1) s') E s) (hd:∀ s,I xs.toList.length s→Q b s):wpAny (model prog w) A (forIn xs b f) Q E s:=by
  rw [← Array.forIn_toList]
  exact forL_wp I h0 hs hd
theorem sizeAbove_ok:∀ n,n < 255→(SetTable.sizeAbove n = 8∨SetTable.sizeAbove n = 16∨SetTable.sizeAbove n = 32∨SetTable.sizeAbove n = 64∨SetTable.sizeAbove n = 128∨SetTable.sizeAbove n = 256)∧n < SetTable.sizeAbove n:=by
  have h:∀ n ∈ List.range 255,(SetTable.sizeAbove n = 8∨SetTable.sizeAbove n = 16∨SetTable.sizeAbove n = 32∨SetTable.sizeAbove n = 64∨SetTable.sizeAbove n = 128∨SetTable.sizeAbove n = 256)∧n < SetTable.sizeAbove n:=by decide +kernel
  exact fun n hn=>h n (List.mem_range.mpr hn)
theorem cyc_above {n:Nat} (h:n < 255):cyc (SetTable.sizeAbove n - 1 + 1) = true∧SetTable.sizeAbove n ≤ sizeLine∧n < SetTable.sizeAbove n - 1 + 1:=by
  obtain ⟨h1,h2⟩:=sizeAbove_ok n h
  rcases h1 with e | e | e | e | e | e <;> rw [e] at h2 ⊢
  · exact ⟨cyc_8,by decide,h2⟩
  · exact ⟨cyc_16,by decide,h2⟩
  · exact ⟨cyc_32,by decide,h2⟩
  · exact ⟨cyc_64,by decide,h2⟩
  · exact ⟨cyc_128,by decide,h2⟩
  · exact ⟨cyc_256,by decide,h2⟩
theorem SetR.size {h:Heap} {a:Addr} {ks:List Key} {es:Array (Int×Value)} {ep:Nat} {t:SetTable} (r:SetR prog w h a ks es ep t):es.size = ks.length:=by
  rw [← r.keys.length_eq,List.length_map,Array.length_toList]
theorem SetR.psize {h:Heap} {a:Addr} {ks:List Key} {es:Array (Int×Value)} {ep:Nat} {t:SetTable} (r:SetR prog w h a ks es ep t):t.place.size = es.size:=by
  have:=r.fits
  unfold SetTable.fits at this
  rw [Bool.and_eq_true] at this
  exact eq_of_beq this.1
theorem SetR.fill {h:Heap} {a:Addr} {ks:List Key} {es:Array (Int×Value)} {ep:Nat} {t:SetTable} (r:SetR prog w h a ks es ep t):t.fill = es.size:=by
  unfold SetTable.fill
  rw [r.tab.dum,r.psize]; rfl
theorem relay_ok {a:Addr} {ks:List Key} {es:Array (Int×Value)} {ep wanted:Nat} {t:SetTable} {Q:Unit→Shared→Prop} (hS:SetR prog w s.heap a ks es ep t) (hw:wanted < 255) (hn:es.size ≤ wanted)
    (h:∀ h' es' ep' t',Heap.SameBut a s.heap h'→SetR prog w h' a ks es' ep' t'→t'.mask = SetTable.sizeAbove wanted - 1→Q () { s with heap:=h' }):wpAny (model prog w) A (setRelay a wanted) Q E s:=by
  obtain ⟨hc,hz,hlt⟩:=cyc_above hw
  obtain ⟨t',order,e,r1,r2,r3,r4,r5,r6⟩:=laid_ok hc t.finger (t.movedTo (SetTable.sizeAbove wanted - 1)) t.led t.plain (es.map (·.1)) (by rw [Array.size_map]; omega)
  rw [Array.size_map] at r5 r6
  have hp:=reorder_perm (es:=es) r6
  have hsz:(order.filterMap (es[·]?)).size = es.size:=by rw [← Array.length_toList,hp.length_eq,Array.length_toList]
  unfold setRelay
  refine wpAny_bind (wpAny_setState_of hS.obj rfl hS.fits ?_)
  dsimp only
  rw [if_neg (by omega)]
  have er:t.relaid (es.map (·.1)) wanted = some (t',order):=e
  rw [er]
  refine wpAny_bind ?_
  refine wpAny_of_eq (a:=(order.filterMap (es[·]?),t')) ?_ ?_
  · show (ite (((order.filterMap (es[·]?)).size != es.size) = true) (_:Sem (Array (Int×Value)×SetTable)) _) = _
    rw [if_neg (by rw [hsz]; simp)]
  dsimp only
  have hb2:(order.filterMap (es[·]?)).size < scanBound:=by rw [hsz]; exact hS.few
  refine wpAny_storeSet_of hS.obj rfl ?_ (fits_of_scanBound hb2)
  exact h _ (order.filterMap (es[·]?)) _ t' (Heap.SameBut.update s.heap a _) ⟨store_r hS.obj _ t',hS.els.perm hp,hb2,by rw [hsz]; exact r5,⟨r1,r2,r3.trans hS.tab.led⟩,hS.nod,(hp.map _).trans hS.keys⟩ r4
theorem room_ok {a:Addr} {ks:List Key} {es:Array (Int×Value)} {ep more:Nat} {t:SetTable} {Q:Unit→Shared→Prop} (hS:SetR prog w s.heap a ks es ep t) (hw:es.size + more < 127)
    (h1:(es.size + more) * 5 < t.mask * 3→Q () s)
    (h2:∀ h' es' ep' t',Heap.SameBut a s.heap h'→SetR prog w h' a ks es' ep' t'→cyc (t'.mask + 1) = true→(es.size + more) * 2 < t'.mask + 1→Q () { s with heap:=h' }):wpAny (model prog w) A (setRoomFor a more) Q E s:=by
  unfold setRoomFor
  refine wpAny_bind (wpAny_setState_of hS.obj rfl hS.fits ?_)
  dsimp only
  unfold SetTable.roomFor
  rw [hS.fill,hS.psize]
  by_cases hr:(es.size + more) * 5 ≥ t.mask * 3
  · rw [if_pos hr]
    refine relay_ok hS (by omega) (by omega) fun h' es' ep' t' sb r em=>?_
    obtain ⟨c1,c2,c3⟩:=cyc_above (n:=(es.size + more) * 2) (by omega)
    exact h2 h' es' ep' t' sb r (by rw [em]; exact c1) (by rw [em]; exact c3)
  · rw [if_neg hr]
    exact wpAny_pure (h1 (by omega))
theorem noref {e:Int×Value} {es:Array (Int×Value)} (h:ElemsOf (mixKind prog w) es.toList) (he:e ∈ es.toList):∀ a,e.2 ≠ .ref a:=fun a z=>by
  have:=(h e he).2
  rw [z] at this
  cases this
theorem quiet_ok {o r:Addr} {ko kr:List Key} {eo er:Array (Int×Value)} {po pr:Nat} {to tr:SetTable} {Q:Bool→Shared→Prop} (hO:SetR prog w s.heap o ko eo po to) (hR:SetR prog w s.heap r kr er pr tr) (h:Q true s) :
    wpAny (model prog w) A (setsQuiet [o,r]) Q E s:=by
  have one:∀ {β:Type} {a:Addr} {k:List Key} {es:Array (Int×Value)} {p:Nat} {t:SetTable},SetR prog w s.heap a k es p t→∀ (b:β) (Q':β→Shared→Prop) (f:Int×Value→β→Sem (ForInStep β)),
      (∀ x,(∀ a,x.2 ≠ .ref a)→f x b = pure (.yield b))→Q' b s→wpAny (model prog w) A (forIn es b f) Q' E s:=fun {β a k es p t} hS b Q' f hf q =>
    forA_wp (fun _ s'=>s' = s) rfl (fun i x s' hx e=>by subst e; rw [hf x (noref hS.els (List.mem_of_getElem? hx))]; exact wpAny_pure ⟨rfl,rfl⟩) fun s' e=>by subst e; exact q
  unfold setsQuiet
  simp only [List.forIn_cons,List.forIn_nil]
  refine wpAny_bind (wpAny_bind (wpAny_bind (wpAny_setEntries_of hO.obj rfl hO.fits ?_)))
  refine wpAny_bind (one hO _ _ _ ?_ ?_)
  · rintro ⟨hh,x⟩ hx
    cases x with
    | ref a=>exact absurd rfl (hx a)
    | _=>rfl
  refine wpAny_pure ?_
  dsimp only
  refine wpAny_bind (wpAny_bind (wpAny_setEntries_of hR.obj rfl hR.fits ?_))
  refine wpAny_bind (one hR _ _ _ ?_ ?_)
  · rintro ⟨hh,x⟩ hx
    cases x with
    | ref a=>exact absurd rfl (hx a)
    | _=>rfl
  refine wpAny_pure ?_
  exact wpAny_pure (wpAny_pure h)
theorem setWalk_ok {o:Addr} {ko:List Key} {eo:Array (Int×Value)} {po:Nat} {to:SetTable} {Q:Array (Int×Value)→Shared→Prop} (hO:SetR prog w s.heap o ko eo po to) (h:∀ xs d,xs.toList.Perm eo.toList→Q xs { s with drawn:=d }) :
    wpAny (model prog w) A (setWalk o) Q E s:=by
  unfold setWalk setsByText
  refine wpAny_bind (wpAny_setState_of hO.obj rfl hO.fits ?_)
  dsimp only
  refine wpAny_bind (wpAny_bind (wpAny_askSetting (wpAny_pure ?_)))
  show wpAny _ _ (if byTextW w = true then _ else _) _ _ _
  cases hb:byTextW w
  · rw [if_neg Bool.false_ne_true]
    show wpAny _ _ (if drawnB eo to = true then _ else _) _ _ _
    cases hd:drawnB eo to
    · rw [if_neg Bool.false_ne_true]
      have hl:to.led = true:=by rw [hO.tab.led,hb]; rfl
      refine wpAny_bind (m:=_) (wpAny_of_eq (a:=()) ?_ ?_)
      · show (ite ((!to.led && decide (eo.size > 1)) = true) (_:Sem Unit) _) = _
        rw [hl]
        rfl
      · exact wpAny_pure (h eo s.drawn (List.Perm.refl _))
    · rw [if_pos rfl]
      refine wpAny_bind (drawOrder_ok eo.size eo.toList s (by simp) fun ys d hp=>?_)
      exact wpAny_pure (h ys.toArray d (by simpa using hp))
  · rw [if_pos rfl]
    refine wpAny_bind (wpAny_askSetting (wpAny_pure ?_))
    exact h _ s.drawn (pick_perm _ _)
theorem walkUnseen_ok {o r:Addr} {ko kr:List Key} {eo er:Array (Int×Value)} {po pr:Nat} {to tr:SetTable} {Q:Array (Int×Value)→Shared→Prop} (hO:SetR prog w s.heap o ko eo po to) (hR:SetR prog w s.heap r kr er pr tr)
    (h:∀ xs d h' er' pr' tr',xs.toList.Perm eo.toList→Heap.SameBut r s.heap h'→SetR prog w h' r kr er' pr' tr'→Q xs { s with heap:=h',drawn:=d }) :
    wpAny (model prog w) A (setWalkUnseen o [r] (some r)) Q E s:=by
  have plain:wpAny (model prog w) A (setWalk o) Q E s:=setWalk_ok hO fun xs d hp=>h xs d s.heap er pr tr hp (Heap.SameBut.refl _ _) hR
  unfold setWalkUnseen
  refine wpAny_bind (wpAny_setState_of hO.obj rfl hO.fits ?_)
  dsimp only
  unfold setsByText
  refine wpAny_bind (wpAny_bind (wpAny_askSetting (wpAny_pure ?_)))
  split
  · exact plain
  · refine wpAny_bind (quiet_ok hO hR ?_)
    rw [if_neg (show ¬ ((!true) = true) from Bool.false_ne_true)]
    refine wpAny_bind (wpAny_rule ?_)
    refine wpAny_bind (wpAny_setState_of hR.obj rfl hR.fits ?_)
    dsimp only
    split
    · have hb2:=hR.few
      refine wpAny_bind (wpAny_storeSet_of hR.obj rfl ?_ (fits_of_scanBound hb2))
      refine wpAny_pure (h eo s.drawn _ er _ _ (List.Perm.refl _) (Heap.SameBut.update s.heap r _) ⟨store_r hR.obj _ _,hR.els,hb2,hR.fits,⟨hR.tab.ris,hR.tab.dum,?_⟩,hR.nod,hR.keys⟩)
      show (tr.led && to.led) = _
      rw [hR.tab.led,hO.tab.led,Bool.and_self]
    · exact wpAny_pure (h eo s.drawn s.heap er pr tr (List.Perm.refl _) (Heap.SameBut.refl _ _) hR)
theorem merge_ok {o r:Addr} {ko kr:List Key} {eo er:Array (Int×Value)} {po pr:Nat} {to tr:SetTable} {each:Sem Unit} {Q:Unit→Shared→Prop} (hne:r ≠ o) (hO:SetR prog w s.heap o ko eo po to) (hR:SetR prog w s.heap r kr er pr tr) (hm:er.size = 0→tr.mask = 7)
    (hw:kr.length + ko.length < 127) (he:∀ (s':Shared) (Q':Unit→Shared→Prop),SetR prog w s'.heap o ko eo po to→Q' () s'→wpAny (model prog w) A each Q' E s')
    (h:∀ ks d h' er' pr' tr',Heap.SameBut r s.heap h'→SetR prog w h' r ks er' pr' tr'→(∀ k,k ∈ ks ↔ k ∈ kr∨k ∈ ko)→(er'.size = 0→tr'.mask = 7)→Q () { s with heap:=h',drawn:=d }) :
    wpAny (model prog w) A (setMerge r o each) Q E s:=by
  unfold setMerge
  rw [if_neg (by simpa using hne)]
  refine wpAny_bind (wpAny_setState_of hO.obj rfl hO.fits ?_)
  dsimp only
  by_cases hemp:eo.isEmpty = true
  · rw [if_pos hemp]
    have h0:eo.size = 0:=by simpa using hemp
    have hko:ko = []:=List.eq_nil_of_length_eq_zero (by rw [← hO.size]; exact h0)
    exact wpAny_pure (h kr s.drawn s.heap er pr tr (Heap.SameBut.refl _ _) hR (fun k=>by rw [hko]; simp) hm)
  · rw [if_neg hemp]
    have h0:eo.size ≠ 0:=by simpa using hemp
    have so:=hO.size
    have sr:=hR.size
    have rest:∀ (h1:Heap) (er1:Array (Int×Value)) (pr1:Nat) (tr1:SetTable),Heap.SameBut r s.heap h1→SetR prog w h1 r kr er1 pr1 tr1→(er1.size = 0→cyc (tr1.mask + 1) = true∧eo.size < tr1.mask + 1) →
        wpAny (model prog w) A (do
          let (_,_,ts) ← setState r
          match ts.road to with
          | .slotForSlot=>storeSet r eo { to with finger:=ts.finger,led:=ts.led && to.led,moves:=ts.moves,plain:=ts.plain && to.plain }
          | .clean =>
            let (es,t) ← (do
              let some (t,order):=(SetTable.laid ts.mask ts.finger ts.moves (led:=ts.led && to.led) (plain:=ts.plain && to.plain) (eo.map (·.1))) | unsupported "internal:set-table-without-room"
              let es':=order.filterMap (eo[·]?)
              if es'.size != eo.size then unsupported "internal:set-table-lost-an-element"
              pure (es',t))
            storeSet r es t
          | .oneByOne =>
            for (h,x) in ← setWalkUnseen o [r] (some r) do
              let _ ← holding [x] (setAddHashed r x h)
              each
              if (← setState o).2.1 != po then unsupported "set.changed-during-merge") Q E { s with heap:=h1 }:=by
      intro h1 er1 pr1 tr1 sb hR1 hm1
      have hO1:SetR prog w h1 o ko eo po to:=hO.keep fun ob e=>(sb.2 o hne.symm).trans e
      have sr1:=hR1.size
      refine wpAny_bind (wpAny_setState_of (s:={ s with heap:=h1 }) hR1.obj rfl hR1.fits ?_)
      dsimp only
      unfold SetTable.road
      rw [hR1.fill]
      by_cases hz:er1.size = 0
      · rw [if_neg (by simpa using hz)]
        have hkr:kr = []:=List.eq_nil_of_length_eq_zero (by omega)
        have mem:∀ k,k ∈ ko ↔ k ∈ kr∨k ∈ ko:=fun k=>by rw [hkr]; simp
        split
        · rename_i hr
          refine wpAny_storeSet_of (s:={ s with heap:=h1 }) hR1.obj rfl ?_ (fits_of_scanBound hO.few)
          refine h ko s.drawn _ eo _ _ (sb.trans (Heap.SameBut.update h1 r _)) ⟨store_r hR1.obj _ _,hO.els,hO.few,hO.fits,⟨hO.tab.ris,hO.tab.dum,?_⟩,hO.nod,hO.keys⟩ mem fun z=>absurd z h0
          show (tr1.led && to.led) = _
          rw [hR1.tab.led,hO.tab.led,Bool.and_self]
        · rename_i hr
          obtain ⟨c1,c2⟩:=hm1 hz
          obtain ⟨t',order,e,r1,r2,r3,r4,r5,r6⟩:=laid_ok c1 tr1.finger tr1.moves (tr1.led && to.led) (tr1.plain && to.plain) (eo.map (·.1)) (by rw [Array.size_map]; exact c2)
          rw [Array.size_map] at r5 r6
          have hp:=reorder_perm (es:=eo) r6
          have hsz:(order.filterMap (eo[·]?)).size = eo.size:=by rw [← Array.length_toList,hp.length_eq,Array.length_toList]
          rw [e]
          refine wpAny_bind (wpAny_of_eq (a:=(order.filterMap (eo[·]?),t')) ?_ ?_)
          · show (ite (((order.filterMap (eo[·]?)).size != eo.size) = true) (_:Sem (Array (Int×Value)×SetTable)) _) = _
            rw [if_neg (by rw [hsz]; simp)]
          dsimp only
          have hb2:(order.filterMap (eo[·]?)).size < scanBound:=by rw [hsz]; exact hO.few
          refine wpAny_storeSet_of (s:={ s with heap:=h1 }) hR1.obj rfl ?_ (fits_of_scanBound hb2)
          refine h ko s.drawn _ (order.filterMap (eo[·]?)) _ t' (sb.trans (Heap.SameBut.update h1 r _)) ⟨store_r hR1.obj _ t',hO.els.perm hp,hb2,by rw [hsz]; exact r5,⟨r1,r2,?_⟩,hO.nod,(hp.map _).trans hO.keys⟩ mem fun z=>absurd (hsz ▸ z) h0
          rw [r3,hR1.tab.led,hO.tab.led,Bool.and_self]
        · rename_i hr
          split at hr <;> cases hr
      · rw [if_pos (by simpa using hz)]
        dsimp only
        refine wpAny_bind (walkUnseen_ok (s:={ s with heap:=h1 }) hO1 hR1 fun xs d h2 er2 pr2 tr2 hp sb2 hR2=>?_)
        have hO2:SetR prog w h2 o ko eo po to:=hO1.keep fun ob e=>(sb2.2 o hne.symm).trans e
        have hlen:xs.toList.length = ko.length:=by rw [hp.length_eq,Array.length_toList,so]
        refine wpAny_bind (forA_wp (fun i s'=>∃ (h3:Heap) (er3:Array (Int×Value)) (pr3:Nat) (tr3:SetTable) (ks3:List Key),s' = { s with heap:=h3,drawn:=d }∧Heap.SameBut r s.heap h3∧SetR prog w h3 r ks3 er3 pr3 tr3∧(∀ k,k ∈ ks3 ↔ k ∈ kr∨k ∈ (xs.toList.take i).map fun e=>kOf e.2)∧ks3.length ≤ kr.length + i)
          ⟨h2,er2,pr2,tr2,kr,rfl,sb.trans sb2,hR2,fun k=>by simp,by omega⟩ ?_ ?_)
        · rintro i x s' hx ⟨h3,er3,pr3,tr3,ks3,rfl,sb3,hR3,hk3,hl3⟩
          have mx:x ∈ eo.toList:=hp.mem_iff.mp (List.mem_of_getElem? hx)
          obtain ⟨⟨k,hk,hh⟩,hsc⟩:=hO.els x mx
          have hi:i < ko.length:=by rw [← hlen]; exact (List.getElem?_eq_some_iff.mp hx).1
          rw [hh]
          refine wpAny_bind (wpAny_holding (add_hashed (s:={ s with heap:=h3,drawn:=d }) hk hsc hR3 (Nat.lt_trans (show ks3.length + 1 < 128 by omega) (by decide)) fun b h4 er4 pr4 tr4 sb4 hR4=>?_))
          have hO4:SetR prog w h4 o ko eo po to:=hO.keep fun ob e=>(sb4.2 o hne.symm).trans ((sb3.2 o hne.symm).trans e)
          refine wpAny_bind (he { s with heap:=h4,drawn:=d } _ hO4 ?_)
          refine wpAny_bind (wpAny_setState_of (s:={ s with heap:=h4,drawn:=d }) hO4.obj rfl hO4.fits ?_)
          rw [if_neg (by simp)]
          refine wpAny_pure ⟨rfl,h4,er4,pr4,tr4,_,rfl,sb3.trans sb4,hR4,fun k'=>?_,?_⟩
          · rw [mem_addK,hk3,List.take_add_one,hx]
            have ek:kOf x.2 = k:=kOf_is hk
            simp only [Option.toList_some,List.map_append,List.map_cons,List.map_nil,List.mem_append,List.mem_singleton,ek]
            exact or_assoc
          · have:=addK_len ks3 k
            omega
        · rintro s' ⟨h3,er3,pr3,tr3,ks3,rfl,sb3,hR3,hk3,hl3⟩
          refine wpAny_pure (h ks3 d h3 er3 pr3 tr3 sb3 hR3 (fun k=>?_) fun z=>?_)
          · rw [hk3,List.take_length]
            exact or_congr Iff.rfl ((hp.map _).trans hO.keys).mem_iff
          · have e3:=hR3.size
            have:kr ≠ []:=fun q=>hz (by rw [sr1,q]; rfl)
            obtain ⟨k,hk⟩:=List.exists_mem_of_ne_nil _ this
            have:=List.length_pos_of_mem ((hk3 k).mpr (.inl hk))
            omega
    refine wpAny_bind (room_ok hR (by omega) (fun hc=>rest s.heap er pr tr (Heap.SameBut.refl _ _) hR fun z=>?_) fun h' es' ep' t' sb r1 c1 c2=>rest h' es' ep' t' sb r1 fun _=>⟨c1,by omega⟩)
    rw [hm z] at hc ⊢
    exact ⟨cyc_8,by omega⟩
end
section
variable {prog:Program} {w:World} {A:Around} {E:Value→Shared→Prop} {s:Shared}
theorem entry_set_or':entryFor table "set.__or__" = some Builtin.«frozenset.__or__» :=
  entryFor_alias (id':="frozenset.__or__") (by kernel_rfl) rfl (by decide +kernel) (by kernel_rfl)
theorem anySet_ok {v:Addr} {Q:Bool→Shared→Prop} (hT:s.TypeIs (.ref v) "set") (h:Q true s):wpAny (model prog w) A (Builtin.Frozenset.isAnySet (.ref v)) Q E s:=by
  unfold Builtin.Frozenset.isAnySet
  refine wpAny_bind (wpAny_isInstance hT sub_set_self ?_)
  exact wpAny_pure h
theorem base_ok {v:Addr} {Q:Value→Shared→Prop} (hT:s.TypeIs (.ref v) "set") (h:Q (.type "set") s):wpAny (model prog w) A (Builtin.Frozenset.baseOf v) Q E s:=by
  unfold Builtin.Frozenset.baseOf
  refine wpAny_bind (wpAny_isInstance hT sub_set_self ?_)
  exact wpAny_pure h
theorem fresh_r {h:Heap}:SetR prog w (h.push { cls:=.type "set", dict:=none,data:=.set #[] 0 (.fresh 0 0 (!byTextW w)) }) h.objs.size [] #[] 0 (.fresh 0 0 (!byTextW w)) where
  obj:=Heap.get?_push_size _ rfl
  els:=fun e he=>by simp at he
  few:=by decide
  fits:=by rfl
  tab:=⟨by unfold Ris; simp [SetTable.fresh],rfl,rfl⟩
  nod:=List.nodup_nil
  keys:=List.Perm.refl _
theorem newSet_ok {Q:Value→Shared→Prop} (h:Q (.ref s.heap.objs.size) { s with heap:=s.heap.push { cls:=.type "set", dict:=none,data:=.set #[] 0 (.fresh 0 0 (!byTextW w)) } }):wpAny (model prog w) A (newSet (.type "set")) Q E s:=by
  unfold newSet setsByText
  refine wpAny_bind (wpAny_bind (wpAny_askSetting (wpAny_pure ?_)))
  dsimp only
  simp only [newObj]
  exact wpAny_bind (wpAny_alloc (wpAny_pure h))
theorem or_sets {a b:Addr} {ka kb:List Key} {ea eb:Array (Int×Value)} {pa pb:Nat} {ta tb:SetTable} {Q:Value→Shared→Prop} (hne:a ≠ b) (hA:SetR prog w s.heap a ka ea pa ta) (hB:SetR prog w s.heap b kb eb pb tb) (hw:ka.length + kb.length < 127)
    (h:∀ ks d h' es ep t,(∀ c o,s.heap.get? c = some o→h'.get? c = some o)→SetR prog w h' s.heap.objs.size ks es ep t→(∀ k,k ∈ ks ↔ k ∈ ka∨k ∈ kb)→Q (.ref s.heap.objs.size) { s with heap:=h',drawn:=d }) :
    wpAny (model prog w) A (binaryOp .BitOr (.ref a) (.ref b)) Q E s:=by
  have hTa:s.TypeIs (.ref a) "set":=⟨_,hA.obj,rfl⟩
  have hTb:s.TypeIs (.ref b) "set":=⟨_,hB.obj,rfl⟩
  refine wpAny_binaryOp_same hTa hTb F.fills_set_or F.slot_set_or (wpAny_call_entry F.slot_set_or hTa entry_set_or' ?_ (F.args_set_or_2 _ _))
  show wpAny _ _ (Builtin.Frozenset.slot1 "__or__" ⟨[.ref a,.ref b],[]⟩ >>= _) _ _ _
  refine wpAny_bind (wpAny_of_eq (a:=(Value.ref a,Value.ref b)) rfl ?_)
  dsimp only
  rw [if_neg Bool.false_ne_true]
  dsimp only
  refine wpAny_bind ?_
  show wpAny _ _ (Builtin.Frozenset.isAnySet (.ref a) >>= _) _ _ _
  refine wpAny_bind (anySet_ok hTa (anySet_ok hTb ?_))
  rw [if_neg (show ¬ ((!true) = true) from Bool.false_ne_true)]
  refine wpAny_bind (wpAny_pure (wpAny_bind ?_))
  show wpAny _ _ (Builtin.Frozenset.copyOf a >>= _) _ _ _
  refine wpAny_bind ?_
  unfold Builtin.Frozenset.copyOf
  refine wpAny_bind (base_ok hTa (wpAny_bind (newSet_ok (wpAny_bind (wpAny_pure (wpAny_bind ?_))))))
  have k1:∀ c o,s.heap.get? c = some o→(s.heap.push { cls:=.type "set", dict:=none,data:=.set #[] 0 (.fresh 0 0 (!byTextW w)) }).get? c = some o:=fun c o e=>Heap.get?_push_of_some _ e
  have la:=Heap.lt_size hA.obj
  have lb:=Heap.lt_size hB.obj
  refine merge_ok (s:={ s with heap:=s.heap.push { cls:=.type "set", dict:=none,data:=.set #[] 0 (.fresh 0 0 (!byTextW w)) } }) (Nat.ne_of_gt la) (hA.keep fun o e=>k1 _ _ e) fresh_r (fun _=>rfl) (by simp; omega) (fun s' Q' _ q=>wpAny_pure q) fun k2 d2 h2 e2 p2 t2 sb2 r2 m2 z2=>?_
  have hB2:SetR prog w h2 b kb eb pb tb:=hB.keep fun o e=>(sb2.2 b (Nat.ne_of_lt lb)).trans (k1 _ _ e)
  have l2:k2.length ≤ ka.length:=by
    have:k2.Perm ka:=(List.perm_ext_iff_of_nodup r2.nod hA.nod).mpr fun k=>by rw [m2]; simp
    rw [this.length_eq]; exact Nat.le_refl _
  refine wpAny_pure ?_
  have hnb:(Value.ref b != Value.ref a) = true:=by
    rw [bne_iff_ne]
    exact fun z=>hne (Value.ref.inj z).symm
  dsimp only
  rw [if_pos hnb]
  refine wpAny_bind (wpAny_pure (wpAny_bind (wpAny_holding ?_)))
  unfold Builtin.Frozenset.updateFrom
  refine wpAny_bind (anySet_ok (s:={ s with heap:=h2,drawn:=d2 }) ⟨_,hB2.obj,rfl⟩ ?_)
  rw [if_pos rfl]
  refine wpAny_bind (wpAny_pure ?_)
  unfold Builtin.Frozenset.merge
  refine wpAny_bind (wpAny_setEpoch_of (s:={ s with heap:=h2,drawn:=d2 }) hB2.obj rfl hB2.fits ?_)
  refine merge_ok (s:={ s with heap:=h2,drawn:=d2 }) (Nat.ne_of_gt lb) hB2 r2 z2 (by omega) (fun s' Q' hb q=>?_) fun k3 d3 h3 e3 p3 t3 sb3 r3 m3 z3=>?_
  · unfold Builtin.Frozenset.unchanged
    refine wpAny_bind (wpAny_setEpoch_of hb.obj rfl hb.fits ?_)
    rw [if_neg (by simp)]
    exact wpAny_pure q
  · refine wpAny_pure (wpAny_pure ⟨_,rfl,fun z=>(by cases z),h k3 d3 h3 e3 p3 t3 (fun c o e=>?_) r3 fun k=>by rw [m3,m2]; simp⟩)
    have hc:c ≠ s.heap.objs.size:=Nat.ne_of_lt (Heap.lt_size e)
    exact (sb3.2 c hc).trans ((sb2.2 c hc).trans (k1 c o e))
end
theorem addK_nodup {ks:List Key} {k:Key} (h:ks.Nodup):(addK ks k).Nodup:=by
  unfold addK
  split
  · exact h
  · rename_i hk
    rw [List.nodup_append]
    refine ⟨h,by simp,fun x hx y hy e=>?_⟩
    rw [List.mem_singleton] at hy
    subst hy
    subst e
    exact hk hx
theorem metK_nodup (key:Nat→Key):∀ i,(metK key i).Nodup
  | 0=>by unfold metK; exact List.nodup_nil
  | i + 1=>by unfold metK; exact addK_nodup (metK_nodup key i)
theorem SetR.perm {prog:Program} {w:World} {h:Heap} {a:Addr} {ks ks':List Key} {es:Array (Int×Value)} {ep:Nat} {t:SetTable} (r:SetR prog w h a ks es ep t) (p:ks.Perm ks'):SetR prog w h a ks' es ep t :=
  ⟨r.obj,r.els,r.few,r.fits,r.tab,p.nodup_iff.mp r.nod,r.keys.trans p⟩
section
variable {X:Cx} {e e':Expr} {te te':TE} {p1 p2 p3 pos pos2 pos3 pos4:Pos}
def isCls (xs:List V):Prop:=(∃ ns:List Int,xs = ns.map V.int)∨∃ ss:List Str,xs = ss.map V.str
theorem isCls.mem {xs:List V} (hx:isCls xs):∀ x ∈ xs,(∃ n,x = .int n)∨∃ y,x = .str y:=fun x hxm=>by
  rcases hx with ⟨ns,rfl⟩ | ⟨ss,rfl⟩
  · obtain ⟨n,_,rfl⟩:=List.mem_map.mp hxm; exact .inl ⟨n,rfl⟩
  · obtain ⟨n,_,rfl⟩:=List.mem_map.mp hxm; exact .inr ⟨n,rfl⟩
theorem set_of_seq {pins:List (Addr×Obj)} {σ:St} {H:Hp} {s:Shared} {Q:Value→Shared→Prop} {a:Addr} {xs:List V} (hc:X.calm = true) (I:Inv X pins σ H s) (hsq:SqL X.K H a xs∨SqT X.K H a xs) (h64:xs.length < 1000) (hx:∀ x ∈ xs,(∃ n,x = .int n)∨∃ y,x = .str y)
    (h:∀ h' tk es ep t,SetR X.prog X.w h' s.heap.objs.size (metK (keyAt xs) xs.length) es ep t→(∀ b o,s.heap.get? b = some o→h'.get? b = some o)→Q (.ref s.heap.objs.size) { s with heap:=h',toks:=tk }) :
    wpAny (model X.prog X.w) X.A (call (.type "set") [.ref a]) Q X.xe s:=by
  have go:∀ {T:String} {its:List Value} {o:Obj},SetSrc X.prog X.w T a its.toArray→Vals xs its→s.heap.get? a = some o→o.cls = .type T→(∃ n,o.data = .seq its.toArray n)→wpAny (model X.prog X.w) X.A (call (.type "set") [.ref a]) Q X.xe s:=fun {T its o} src r ho hcl hd=>by
    have hl:=r.length
    have esz:its.toArray.size = xs.length:=by rw [List.size_toArray,hl]
    refine call_set_of (key:=keyAt xs) src (I.ok.hd hc) ho hcl hd (keyAt_is r hx) (by simp [scanBound]; omega) fun h' tk es ep t hS hk=>?_
    rw [esz] at hS
    exact h h' tk es ep t hS hk
  rcases hsq with hsq | hsq
  · obtain ⟨its,r,pl,_⟩:=I.list hsq
    obtain ⟨o,ho,hcl,hd⟩:=pl.isList
    exact go src_list r ho hcl hd
  · obtain ⟨its,r,pl,_⟩:=I.tuple hsq
    obtain ⟨o,ho,hcl,hd⟩:=pl
    exact go src_tup r ho hcl hd
def tSortOr (K:PySem.W.Frag) (te te':TE):TE:=fun σ H Q=>te σ H fun x H1=>∃ a xs,x = .ref a∧(SqL K H1 a xs∨SqT K H1 a xs)∧xs.length < 124∧(∀ x ∈ xs,(∃ n,x = .int n)∨∃ y,x = .str y) ∧
  te' σ H1 fun y H2=>∃ b ys,y = .ref b∧(SqL K H2 b ys∨SqT K H2 b ys)∧xs.length + ys.length < 124∧isCls (xs ++ ys)∧∀ p zs,H2 p = none→SortedOf (xs ++ ys) zs→Q (.ref p) (upd H2 p (.lst zs))
theorem pe_sortor (hc:X.calm = true) (hg1:Gl X "sorted") (hm1:X.mg "sorted" = none) (hg2:Gl X "set") (hm2:X.mg "set" = none) (he:PE X e te) (he':PE X e' te') (hs1:starEach [e] X.env = [(false,eval e X.env)]:=by rfl) (hs2:starEach [e'] X.env = [(false,eval e' X.env)]:=by rfl)
    (hs3:starEach [Expr.BinOp (.Call (.Name "set" p2) [e] [] pos2) .BitOr (.Call (.Name "set" p3) [e'] [] pos3) pos4] X.env = [(false,eval (.BinOp (.Call (.Name "set" p2) [e] [] pos2) .BitOr (.Call (.Name "set" p3) [e'] [] pos3) pos4) X.env)]:=by rfl) :
    PE X (.Call (.Name "sorted" p1) [.BinOp (.Call (.Name "set" p2) [e] [] pos2) .BitOr (.Call (.Name "set" p3) [e'] [] pos3) pos4] [] pos) (tSortOr X.K te te'):=by
  intro pins s σ H Q I h
  refine wpAny_Call_Name_kw (ld_blt I hg1 hm1 boot_sorted ?_ (by decide) (by decide))
  refine PyProof.Rows.callWith_builtin1 ?_ hs3 rfl
  rw [hs3]
  refine Calls.spliced_cons ?_
  refine wpAny_BinOp ?_
  refine wpAny_Call_Name_kw (ld_blt I hg2 hm2 boot_set' ?_ (by decide) (by decide))
  refine PyProof.Rows.callWith_type1 ?_ hs1 rfl
  rw [hs1]
  refine Calls.spliced_cons (thn (he pins s σ H _ I h) fun u s1 ⟨x,H1,I1,r1,a,xs,ex,hsq,h64,hx,h⟩=>?_)
  refine Calls.spliced_nil ?_
  subst ex
  cases r1
  refine set_of_seq hc I1 hsq (by omega) hx fun h1 tk1 es1 ep1 t1 hS1 hk1=>?_
  have J1:Inv X pins σ H1 { s1 with heap:=h1,toks:=tk1 }:=I1.kept (t':=tk1) hk1
  have hf:∀ b ∈ [s1.heap.objs.size],FpOk X pins H1 b:=fun b hb=>by
    rw [List.mem_singleton.mp hb]
    exact I1.fpOk (Nat.le_refl _) (I1.hok.fresh (Nat.le_refl _))
  have J1':=J1.pinned hf fun b hb=>by
    rw [List.mem_singleton.mp hb]
    exact ⟨_,hS1.obj,fun v z=>by cases z⟩
  refine wpAny_Call_Name_kw (ld_blt J1' hg2 hm2 boot_set' ?_ (by decide) (by decide))
  refine PyProof.Rows.callWith_type1 ?_ hs2 rfl
  rw [hs2]
  refine Calls.spliced_cons (thn (he' _ _ σ H1 _ J1' h) fun u s2 ⟨y,H2,I2,r2,b,ys,ey,hsq2,hlen,hcl,q⟩=>?_)
  refine Calls.spliced_nil ?_
  subst ey
  cases r2
  have hS1':SetR X.prog X.w s2.heap s1.heap.objs.size (metK (keyAt xs) xs.length) es1 ep1 t1:=hS1.keep fun o eo=>by
    have:=(I2.pin (s1.heap.objs.size,o) (List.mem_append_right _ (List.mem_append_right _ (mem_pinsAt (by simp) eo)))).1
    exact this
  refine set_of_seq hc I2 hsq2 (by omega) (fun x hxm=>hcl.mem x (List.mem_append_right _ hxm)) fun h2 tk2 es2 ep2 t2 hS2 hk2=>?_
  have J2:Inv X pins σ H2 { s2 with heap:=h2,toks:=tk2 }:=(I2.unpinned).kept (t':=tk2) hk2
  have lne:s1.heap.objs.size ≠ s2.heap.objs.size:=Nat.ne_of_lt (Heap.lt_size hS1'.obj)
  have l1:=metK_len (keyAt xs) xs.length
  have l2:=metK_len (keyAt ys) ys.length
  refine or_sets (s:={ s2 with heap:=h2,toks:=tk2 }) lne (hS1'.keep fun o eo=>hk2 _ _ eo) hS2 (by omega) fun ks d h3 es3 ep3 t3 hk3 hS3 mem=>?_
  refine Calls.spliced_nil ?_
  have J3:Inv X pins σ H2 { s2 with heap:=h3,toks:=tk2,drawn:=d }:=J2.call' (s':={ s2 with heap:=h3,toks:=tk2,drawn:=d }) (ch:=[]) rfl (Un.kept hk3) (J2.hok.kept hk3) J2.bare fun b hb=>absurd hb (by simp)
  have hperm:ks.Perm (metK (keyAt (xs ++ ys)) (xs ++ ys).length):=(List.perm_ext_iff_of_nodup hS3.nod (metK_nodup _ _)).mpr fun k=>by
    rw [mem,mem_keyAt,mem_keyAt,mem_keyAt]
    constructor
    · rintro (⟨x,hx,e⟩ | ⟨x,hx,e⟩)
      · exact ⟨x,List.mem_append_left _ hx,e⟩
      · exact ⟨x,List.mem_append_right _ hx,e⟩
    · rintro ⟨x,hx,e⟩
      rcases List.mem_append.mp hx with z | z
      · exact .inl ⟨x,z,e⟩
      · exact .inr ⟨x,z,e⟩
  exact sortset_run hc J3 (hS3.perm hperm) (by rw [List.length_append]; omega) hcl q
end
inductive D where
  | int (i:Int) | str (x:Str) | non | bl (b:Bool) | tup (ds:List D) | lst (ds:List D)
deriving Inhabited
mutual
def DAt (K:PySem.W.Frag) (H:Hp):D→V→Prop
  | .int i,v=>v = .int i
  | .str x,v=>v = .str x
  | .non,v=>v = .non
  | .bl b,v=>v = .bl b
  | .tup ds,v=>∃ a vs,v = .ref a∧SqT K H a vs∧DsAt K H ds vs
  | .lst ds,v=>∃ a vs,v = .ref a∧H a = some (.lst vs)∧DsAt K H ds vs
def DsAt (K:PySem.W.Frag) (H:Hp):List D→List V→Prop
  | [],vs=>vs = []
  | d :: ds,vs=>∃ v r,vs = v :: r∧DAt K H d v∧DsAt K H ds r
end
mutual
def D.depth:D→Nat
  | .tup ds=>1 + depths ds
  | .lst ds=>1 + depths ds
  | _=>0
def depths:List D→Nat
  | []=>0
  | d :: ds=>max d.depth (depths ds)
end
def bI (b:Bool):Int:=if b then 1 else 0
mutual
def eqD:D→D→Bool
  | .int i,.int j=>i == j
  | .int i,.bl b=>i == bI b
  | .bl b,.int j=>bI b == j
  | .bl b,.bl c=>b == c
  | .str x,.str y=>x == y
  | .non,.non=>true
  | .tup ds,.tup es=>eqDs ds es
  | .lst ds,.lst es=>eqDs ds es
  | _,_=>false
def eqDs:List D→List D→Bool
  | [],[]=>true
  | d :: ds,e :: es=>eqD d e && eqDs ds es
  | _,_=>false
end
mutual
theorem eqD_self:∀ d:D,eqD d d = true
  | .int i=>by simp [eqD]
  | .str x=>by simp [eqD]
  | .non=>by simp [eqD]
  | .bl b=>by simp [eqD]
  | .tup ds=>by rw [eqD]; exact eqDs_self ds
  | .lst ds=>by rw [eqD]; exact eqDs_self ds
theorem eqDs_self:∀ ds:List D,eqDs ds ds = true
  | []=>by simp [eqDs]
  | d :: ds=>by rw [eqDs,eqD_self d,eqDs_self ds]; rfl
end
section
variable {K:PySem.W.Frag} {H:Hp}
theorem DsAt.length:∀ {ds:List D} {vs:List V},DsAt K H ds vs→ds.length = vs.length
  | [],vs,h=>by rw [DsAt] at h; rw [h]; rfl
  | d :: ds,vs,h=>by
    rw [DsAt] at h
    obtain ⟨v,r,rfl,_,h⟩:=h
    rw [List.length_cons,List.length_cons,DsAt.length h]
theorem DsAt.get:∀ {ds:List D} {vs:List V} {i:Nat} {v:V},DsAt K H ds vs→vs[i]? = some v→∃ d,ds[i]? = some d∧DAt K H d v
  | [],vs,i,v,h,e=>by rw [DsAt] at h; rw [h] at e; cases e
  | d :: ds,vs,i,v,h,e=>by
    rw [DsAt] at h
    obtain ⟨u,r,rfl,h1,h2⟩:=h
    cases i with
    | zero=>cases e; exact ⟨d,rfl,h1⟩
    | succ i=>obtain ⟨d',e1,e2⟩:=DsAt.get (i:=i) h2 e; exact ⟨d',e1,e2⟩
theorem DsAt.of:∀ {ds:List D} {vs:List V},ds.length = vs.length→(∀ (i:Nat) d v,ds[i]? = some d→vs[i]? = some v→DAt K H d v)→DsAt K H ds vs
  | [],[],_,_=>by rw [DsAt]
  | [],v :: vs,h,_=>by cases h
  | d :: ds,[],h,_=>by cases h
  | d :: ds,v :: vs,h,k=>by
    rw [DsAt]
    exact ⟨v,vs,rfl,k 0 d v rfl rfl,DsAt.of (by simpa using h) fun i d v e1 e2=>k (i + 1) d v e1 e2⟩
theorem DsAt.cons {d:D} {v:V} {ds:List D} {vs:List V} (h1:DAt K H d v) (h2:DsAt K H ds vs):DsAt K H (d :: ds) (v :: vs):=by rw [DsAt]; exact ⟨v,vs,rfl,h1,h2⟩
theorem DsAt.nil:DsAt K H [] []:=by rw [DsAt]
end
theorem eqDs_len:∀ {ds es:List D},ds.length ≠ es.length→eqDs ds es = false
  | [],[],h=>absurd rfl h
  | [],_ :: _,_=>by rw [eqDs]; all_goals simp
  | _ :: _,[],_=>by rw [eqDs]; all_goals simp
  | d :: ds,e :: es,h=>by rw [eqDs,eqDs_len (by simpa using h),Bool.and_false]
theorem eqDs_all:∀ {ds es:List D},ds.length = es.length→(List.range ds.length).all (fun j=>eqD (ds.getD j .non) (es.getD j .non)) = eqDs ds es
  | [],[],_=>by rw [eqDs]; rfl
  | d :: ds,e :: es,h=>by
    rw [eqDs,List.length_cons,List.range_succ_eq_map,List.all_cons,List.all_map,← eqDs_all (by simpa using h)]
    rfl
  | [],_ :: _,h=>by cases h
  | _ :: _,[],h=>by cases h
theorem eqDs_min {ds es:List D}:((List.range (min ds.length es.length)).all (fun j=>eqD (ds.getD j .non) (es.getD j .non)) && ds.length == es.length) = eqDs ds es:=by
  by_cases h:ds.length = es.length
  · rw [← eqDs_all h,h,Nat.min_self]; simp
  · rw [eqDs_len h,beq_eq_false_iff_ne.mpr h,Bool.and_false]
theorem depths_mem:∀ {ds:List D} {i:Nat} {d:D},ds[i]? = some d→d.depth ≤ depths ds
  | [],i,d,e=>by cases e
  | d' :: ds,0,d,e=>by cases e; rw [depths]; exact Nat.le_max_left _ _
  | d' :: ds,i + 1,d,e=>by rw [depths]; exact Nat.le_trans (depths_mem (i:=i) (by simpa using e)) (Nat.le_max_right _ _)
section
variable {X:Cx} {pins:List (Addr×Obj)} {σ:St} {H:Hp} {s:Shared}
theorem getD_of {ds:List D} {j:Nat} {d:D} (h:ds[j]? = some d):ds.getD j .non = d:=by rw [List.getD_eq_getElem?_getD,h]; rfl
def both (A:Around) (s:Shared) (u v:Value) (b:Bool):Prop:=SeqAt.EqAt A s u v b∧SeqAt.RcAt A s u v b∧SeqAt.RcNeAt A s u v (!b)
def seqs:D→D→Bool
  | .tup _,.tup _=>true
  | .lst _,.lst _=>true
  | _,_=>false
theorem both_mixed (I:Inv X pins σ H s) {A:Around} (hu:A.units < cLine):∀ {d e:D} {x y:V} {u v:Value},seqs d e = false→DAt X.K H d x→DAt X.K H e y→RelV x u→RelV y v→both A s u v (eqD d e)
  | .int i,.int j,x,y,u,v,hs,h1,h2,r1,r2=>by
    rw [DAt] at h1; subst h1; obtain ⟨t,rfl⟩:=r1
    rw [DAt] at h2; subst h2; obtain ⟨w,rfl⟩:=r2
    rw [eqD]
    exact ⟨.int_int i t j w,.int_int i t j w,.int_int i t j w⟩
  | .int i,.str j,x,y,u,v,hs,h1,h2,r1,r2=>by
    rw [DAt] at h1; subst h1; obtain ⟨t,rfl⟩:=r1
    rw [DAt] at h2; subst h2; obtain ⟨w,rfl⟩:=r2
    rw [show eqD (.int i) (.str j) = false by simp [eqD]]
    exact ⟨.int_str i t j w,.int_str i t j w,.int_str i t j w⟩
  | .int i,.non,x,y,u,v,hs,h1,h2,r1,r2=>by
    rw [DAt] at h1; subst h1; obtain ⟨t,rfl⟩:=r1
    rw [DAt] at h2; subst h2; cases r2
    rw [show eqD (.int i) (.non) = false by simp [eqD]]
    exact ⟨.int_none i t , .int_none i t , .int_none i t ⟩
  | .int i,.bl j,x,y,u,v,hs,h1,h2,r1,r2=>by
    rw [DAt] at h1; subst h1; obtain ⟨t,rfl⟩:=r1
    rw [DAt] at h2; subst h2; cases r2
    rw [eqD]
    exact ⟨.int_bool i t j,.int_bool i t j,.int_bool i t j⟩
  | .int i,.tup j,x,y,u,v,hs,h1,h2,r1,r2=>by
    rw [DAt] at h1; subst h1; obtain ⟨t,rfl⟩:=r1
    rw [DAt] at h2; obtain ⟨aw,vsw,rfl,q2,_⟩:=h2; cases r2; obtain ⟨itsw,rrw,pw,_⟩:=I.tuple q2
    rw [show eqD (.int i) (.tup j) = false by simp [eqD]]
    exact ⟨.int_tuple i t pw hu,.int_tuple i t pw hu,.int_tuple i t pw hu⟩
  | .int i,.lst j,x,y,u,v,hs,h1,h2,r1,r2=>by
    rw [DAt] at h1; subst h1; obtain ⟨t,rfl⟩:=r1
    rw [DAt] at h2; obtain ⟨aw,vsw,rfl,q2,_⟩:=h2; cases r2; obtain ⟨itsw,rrw,ppw,_⟩:=I.list (SqL.of q2); have pw:=ppw.isList
    rw [show eqD (.int i) (.lst j) = false by simp [eqD]]
    exact ⟨.int_list i t pw hu,.int_list i t pw hu,.int_list i t pw hu⟩
  | .str i,.int j,x,y,u,v,hs,h1,h2,r1,r2=>by
    rw [DAt] at h1; subst h1; obtain ⟨t,rfl⟩:=r1
    rw [DAt] at h2; subst h2; obtain ⟨w,rfl⟩:=r2
    rw [show eqD (.str i) (.int j) = false by simp [eqD]]
    exact ⟨.str_int i t j w,.str_int i t j w,.str_int i t j w⟩
  | .str i,.str j,x,y,u,v,hs,h1,h2,r1,r2=>by
    rw [DAt] at h1; subst h1; obtain ⟨t,rfl⟩:=r1
    rw [DAt] at h2; subst h2; obtain ⟨w,rfl⟩:=r2
    rw [eqD]
    exact ⟨.str_str i t j w,.str_str i t j w,.str_str i t j w⟩
  | .str i,.non,x,y,u,v,hs,h1,h2,r1,r2=>by
    rw [DAt] at h1; subst h1; obtain ⟨t,rfl⟩:=r1
    rw [DAt] at h2; subst h2; cases r2
    rw [show eqD (.str i) (.non) = false by simp [eqD]]
    exact ⟨.str_none i t , .str_none i t , .str_none i t ⟩
  | .str i,.bl j,x,y,u,v,hs,h1,h2,r1,r2=>by
    rw [DAt] at h1; subst h1; obtain ⟨t,rfl⟩:=r1
    rw [DAt] at h2; subst h2; cases r2
    rw [show eqD (.str i) (.bl j) = false by simp [eqD]]
    exact ⟨.str_bool i t j,.str_bool i t j,.str_bool i t j⟩
  | .str i,.tup j,x,y,u,v,hs,h1,h2,r1,r2=>by
    rw [DAt] at h1; subst h1; obtain ⟨t,rfl⟩:=r1
    rw [DAt] at h2; obtain ⟨aw,vsw,rfl,q2,_⟩:=h2; cases r2; obtain ⟨itsw,rrw,pw,_⟩:=I.tuple q2
    rw [show eqD (.str i) (.tup j) = false by simp [eqD]]
    exact ⟨.str_tuple i t pw hu,.str_tuple i t pw hu,.str_tuple i t pw hu⟩
  | .str i,.lst j,x,y,u,v,hs,h1,h2,r1,r2=>by
    rw [DAt] at h1; subst h1; obtain ⟨t,rfl⟩:=r1
    rw [DAt] at h2; obtain ⟨aw,vsw,rfl,q2,_⟩:=h2; cases r2; obtain ⟨itsw,rrw,ppw,_⟩:=I.list (SqL.of q2); have pw:=ppw.isList
    rw [show eqD (.str i) (.lst j) = false by simp [eqD]]
    exact ⟨.str_list i t pw hu,.str_list i t pw hu,.str_list i t pw hu⟩
  | .non,.int j,x,y,u,v,hs,h1,h2,r1,r2=>by
    rw [DAt] at h1; subst h1; cases r1
    rw [DAt] at h2; subst h2; obtain ⟨w,rfl⟩:=r2
    rw [show eqD (.non) (.int j) = false by simp [eqD]]
    exact ⟨.none_int  j w,.none_int  j w,.none_int  j w⟩
  | .non,.str j,x,y,u,v,hs,h1,h2,r1,r2=>by
    rw [DAt] at h1; subst h1; cases r1
    rw [DAt] at h2; subst h2; obtain ⟨w,rfl⟩:=r2
    rw [show eqD (.non) (.str j) = false by simp [eqD]]
    exact ⟨.none_str  j w,.none_str  j w,.none_str  j w⟩
  | .non,.non,x,y,u,v,hs,h1,h2,r1,r2=>by
    rw [DAt] at h1; subst h1; cases r1
    rw [DAt] at h2; subst h2; cases r2
    rw [eqD]
    exact ⟨.same _,.none_none,.none_none⟩
  | .non,.bl j,x,y,u,v,hs,h1,h2,r1,r2=>by
    rw [DAt] at h1; subst h1; cases r1
    rw [DAt] at h2; subst h2; cases r2
    rw [show eqD (.non) (.bl j) = false by simp [eqD]]
    exact ⟨.none_bool  j,.none_bool  j,.none_bool  j⟩
  | .non,.tup j,x,y,u,v,hs,h1,h2,r1,r2=>by
    rw [DAt] at h1; subst h1; cases r1
    rw [DAt] at h2; obtain ⟨aw,vsw,rfl,q2,_⟩:=h2; cases r2; obtain ⟨itsw,rrw,pw,_⟩:=I.tuple q2
    rw [show eqD (.non) (.tup j) = false by simp [eqD]]
    exact ⟨.none_tuple  pw hu,.none_tuple  pw hu,.none_tuple  pw hu⟩
  | .non,.lst j,x,y,u,v,hs,h1,h2,r1,r2=>by
    rw [DAt] at h1; subst h1; cases r1
    rw [DAt] at h2; obtain ⟨aw,vsw,rfl,q2,_⟩:=h2; cases r2; obtain ⟨itsw,rrw,ppw,_⟩:=I.list (SqL.of q2); have pw:=ppw.isList
    rw [show eqD (.non) (.lst j) = false by simp [eqD]]
    exact ⟨.none_list  pw hu,.none_list  pw hu,.none_list  pw hu⟩
  | .bl i,.int j,x,y,u,v,hs,h1,h2,r1,r2=>by
    rw [DAt] at h1; subst h1; cases r1
    rw [DAt] at h2; subst h2; obtain ⟨w,rfl⟩:=r2
    rw [eqD]
    exact ⟨.bool_int i j w,.bool_int i j w,.bool_int i j w⟩
  | .bl i,.str j,x,y,u,v,hs,h1,h2,r1,r2=>by
    rw [DAt] at h1; subst h1; cases r1
    rw [DAt] at h2; subst h2; obtain ⟨w,rfl⟩:=r2
    rw [show eqD (.bl i) (.str j) = false by simp [eqD]]
    exact ⟨.bool_str i j w,.bool_str i j w,.bool_str i j w⟩
  | .bl i,.non,x,y,u,v,hs,h1,h2,r1,r2=>by
    rw [DAt] at h1; subst h1; cases r1
    rw [DAt] at h2; subst h2; cases r2
    rw [show eqD (.bl i) (.non) = false by simp [eqD]]
    exact ⟨.bool_none i , .bool_none i , .bool_none i ⟩
  | .bl i,.bl j,x,y,u,v,hs,h1,h2,r1,r2=>by
    rw [DAt] at h1; subst h1; cases r1
    rw [DAt] at h2; subst h2; cases r2
    rw [eqD]
    exact ⟨.bool_bool i j,.bool_bool i j,.bool_bool i j⟩
  | .bl i,.tup j,x,y,u,v,hs,h1,h2,r1,r2=>by
    rw [DAt] at h1; subst h1; cases r1
    rw [DAt] at h2; obtain ⟨aw,vsw,rfl,q2,_⟩:=h2; cases r2; obtain ⟨itsw,rrw,pw,_⟩:=I.tuple q2
    rw [show eqD (.bl i) (.tup j) = false by simp [eqD]]
    exact ⟨.bool_tuple i pw hu,.bool_tuple i pw hu,.bool_tuple i pw hu⟩
  | .bl i,.lst j,x,y,u,v,hs,h1,h2,r1,r2=>by
    rw [DAt] at h1; subst h1; cases r1
    rw [DAt] at h2; obtain ⟨aw,vsw,rfl,q2,_⟩:=h2; cases r2; obtain ⟨itsw,rrw,ppw,_⟩:=I.list (SqL.of q2); have pw:=ppw.isList
    rw [show eqD (.bl i) (.lst j) = false by simp [eqD]]
    exact ⟨.bool_list i pw hu,.bool_list i pw hu,.bool_list i pw hu⟩
  | .tup i,.int j,x,y,u,v,hs,h1,h2,r1,r2=>by
    rw [DAt] at h1; obtain ⟨a_t,vst,rfl,q1,_⟩:=h1; cases r1; obtain ⟨itst,rrt,pt,_⟩:=I.tuple q1
    rw [DAt] at h2; subst h2; obtain ⟨w,rfl⟩:=r2
    rw [show eqD (.tup i) (.int j) = false by simp [eqD]]
    exact ⟨.tuple_int j w pt hu,.tuple_int j w pt hu,.tuple_int j w pt hu⟩
  | .tup i,.str j,x,y,u,v,hs,h1,h2,r1,r2=>by
    rw [DAt] at h1; obtain ⟨a_t,vst,rfl,q1,_⟩:=h1; cases r1; obtain ⟨itst,rrt,pt,_⟩:=I.tuple q1
    rw [DAt] at h2; subst h2; obtain ⟨w,rfl⟩:=r2
    rw [show eqD (.tup i) (.str j) = false by simp [eqD]]
    exact ⟨.tuple_str j w pt hu,.tuple_str j w pt hu,.tuple_str j w pt hu⟩
  | .tup i,.non,x,y,u,v,hs,h1,h2,r1,r2=>by
    rw [DAt] at h1; obtain ⟨a_t,vst,rfl,q1,_⟩:=h1; cases r1; obtain ⟨itst,rrt,pt,_⟩:=I.tuple q1
    rw [DAt] at h2; subst h2; cases r2
    rw [show eqD (.tup i) (.non) = false by simp [eqD]]
    exact ⟨.tuple_none  pt hu,.tuple_none  pt hu,.tuple_none  pt hu⟩
  | .tup i,.bl j,x,y,u,v,hs,h1,h2,r1,r2=>by
    rw [DAt] at h1; obtain ⟨a_t,vst,rfl,q1,_⟩:=h1; cases r1; obtain ⟨itst,rrt,pt,_⟩:=I.tuple q1
    rw [DAt] at h2; subst h2; cases r2
    rw [show eqD (.tup i) (.bl j) = false by simp [eqD]]
    exact ⟨.tuple_bool j pt hu,.tuple_bool j pt hu,.tuple_bool j pt hu⟩
  | .tup ds,.tup es,x,y,u,v,hs,h1,h2,r1,r2=>by cases hs
  | .tup i,.lst j,x,y,u,v,hs,h1,h2,r1,r2=>by
    rw [DAt] at h1; obtain ⟨a_t,vst,rfl,q1,_⟩:=h1; cases r1; obtain ⟨itst,rrt,pt,_⟩:=I.tuple q1
    rw [DAt] at h2; obtain ⟨aw,vsw,rfl,q2,_⟩:=h2; cases r2; obtain ⟨itsw,rrw,ppw,_⟩:=I.list (SqL.of q2); have pw:=ppw.isList
    rw [show eqD (.tup i) (.lst j) = false by simp [eqD]]
    exact ⟨.tuple_list pt pw hu,.tuple_list pt pw hu,.tuple_list pt pw hu⟩
  | .lst i,.int j,x,y,u,v,hs,h1,h2,r1,r2=>by
    rw [DAt] at h1; obtain ⟨a_t,vst,rfl,q1,_⟩:=h1; cases r1; obtain ⟨itst,rrt,ppt,_⟩:=I.list (SqL.of q1); have pt:=ppt.isList
    rw [DAt] at h2; subst h2; obtain ⟨w,rfl⟩:=r2
    rw [show eqD (.lst i) (.int j) = false by simp [eqD]]
    exact ⟨.list_int j w pt hu,.list_int j w pt hu,.list_int j w pt hu⟩
  | .lst i,.str j,x,y,u,v,hs,h1,h2,r1,r2=>by
    rw [DAt] at h1; obtain ⟨a_t,vst,rfl,q1,_⟩:=h1; cases r1; obtain ⟨itst,rrt,ppt,_⟩:=I.list (SqL.of q1); have pt:=ppt.isList
    rw [DAt] at h2; subst h2; obtain ⟨w,rfl⟩:=r2
    rw [show eqD (.lst i) (.str j) = false by simp [eqD]]
    exact ⟨.list_str j w pt hu,.list_str j w pt hu,.list_str j w pt hu⟩
  | .lst i,.non,x,y,u,v,hs,h1,h2,r1,r2=>by
    rw [DAt] at h1; obtain ⟨a_t,vst,rfl,q1,_⟩:=h1; cases r1; obtain ⟨itst,rrt,ppt,_⟩:=I.list (SqL.of q1); have pt:=ppt.isList
    rw [DAt] at h2; subst h2; cases r2
    rw [show eqD (.lst i) (.non) = false by simp [eqD]]
    exact ⟨.list_none  pt hu,.list_none  pt hu,.list_none  pt hu⟩
  | .lst i,.bl j,x,y,u,v,hs,h1,h2,r1,r2=>by
    rw [DAt] at h1; obtain ⟨a_t,vst,rfl,q1,_⟩:=h1; cases r1; obtain ⟨itst,rrt,ppt,_⟩:=I.list (SqL.of q1); have pt:=ppt.isList
    rw [DAt] at h2; subst h2; cases r2
    rw [show eqD (.lst i) (.bl j) = false by simp [eqD]]
    exact ⟨.list_bool j pt hu,.list_bool j pt hu,.list_bool j pt hu⟩
  | .lst i,.tup j,x,y,u,v,hs,h1,h2,r1,r2=>by
    rw [DAt] at h1; obtain ⟨a_t,vst,rfl,q1,_⟩:=h1; cases r1; obtain ⟨itst,rrt,ppt,_⟩:=I.list (SqL.of q1); have pt:=ppt.isList
    rw [DAt] at h2; obtain ⟨aw,vsw,rfl,q2,_⟩:=h2; cases r2; obtain ⟨itsw,rrw,pw,_⟩:=I.tuple q2
    rw [show eqD (.lst i) (.tup j) = false by simp [eqD]]
    exact ⟨.list_tuple pt pw hu,.list_tuple pt pw hu,.list_tuple pt pw hu⟩
  | .lst ds,.lst es,x,y,u,v,hs,h1,h2,r1,r2=>by cases hs
theorem list_tup_ne (I:Inv X pins σ H s) {a:Addr} {xs ys:List V} (h:SqL X.K H a xs) (h':SqT X.K H a ys):False:=by
  obtain ⟨_,_,p,_⟩:=I.list h
  obtain ⟨_,_,p',_⟩:=I.tuple h'
  exact SeqAt.ne_of_list_tuple p.isList p' rfl
mutual
theorem DAt.inj (I:Inv X pins σ H s):∀ {d e:D} {v:V},DAt X.K H d v→DAt X.K H e v→d = e
  | .int i,.int j,v,h1,h2=>by
    rw [DAt] at h1; rw [DAt] at h2
    subst h1
    injection h2 with h2
    rw [h2]
  | .int i,.str j,v,h1,h2=>by
    rw [DAt] at h1; rw [DAt] at h2
    subst h1
    cases h2
  | .int i,.non,v,h1,h2=>by
    rw [DAt] at h1; rw [DAt] at h2
    subst h1
    cases h2
  | .int i,.bl j,v,h1,h2=>by
    rw [DAt] at h1; rw [DAt] at h2
    subst h1
    cases h2
  | .int i,.tup j,v,h1,h2=>by
    rw [DAt] at h1; rw [DAt] at h2
    obtain ⟨a,vs,rfl,q,g⟩:=h2
    cases h1
  | .int i,.lst j,v,h1,h2=>by
    rw [DAt] at h1; rw [DAt] at h2
    obtain ⟨a,vs,rfl,q,g⟩:=h2
    cases h1
  | .str i,.int j,v,h1,h2=>by
    rw [DAt] at h1; rw [DAt] at h2
    subst h1
    cases h2
  | .str i,.str j,v,h1,h2=>by
    rw [DAt] at h1; rw [DAt] at h2
    subst h1
    injection h2 with h2
    rw [h2]
  | .str i,.non,v,h1,h2=>by
    rw [DAt] at h1; rw [DAt] at h2
    subst h1
    cases h2
  | .str i,.bl j,v,h1,h2=>by
    rw [DAt] at h1; rw [DAt] at h2
    subst h1
    cases h2
  | .str i,.tup j,v,h1,h2=>by
    rw [DAt] at h1; rw [DAt] at h2
    obtain ⟨a,vs,rfl,q,g⟩:=h2
    cases h1
  | .str i,.lst j,v,h1,h2=>by
    rw [DAt] at h1; rw [DAt] at h2
    obtain ⟨a,vs,rfl,q,g⟩:=h2
    cases h1
  | .non,.int j,v,h1,h2=>by
    rw [DAt] at h1; rw [DAt] at h2
    subst h1
    cases h2
  | .non,.str j,v,h1,h2=>by
    rw [DAt] at h1; rw [DAt] at h2
    subst h1
    cases h2
  | .non,.non,v,h1,h2=>rfl
  | .non,.bl j,v,h1,h2=>by
    rw [DAt] at h1; rw [DAt] at h2
    subst h1
    cases h2
  | .non,.tup j,v,h1,h2=>by
    rw [DAt] at h1; rw [DAt] at h2
    obtain ⟨a,vs,rfl,q,g⟩:=h2
    cases h1
  | .non,.lst j,v,h1,h2=>by
    rw [DAt] at h1; rw [DAt] at h2
    obtain ⟨a,vs,rfl,q,g⟩:=h2
    cases h1
  | .bl i,.int j,v,h1,h2=>by
    rw [DAt] at h1; rw [DAt] at h2
    subst h1
    cases h2
  | .bl i,.str j,v,h1,h2=>by
    rw [DAt] at h1; rw [DAt] at h2
    subst h1
    cases h2
  | .bl i,.non,v,h1,h2=>by
    rw [DAt] at h1; rw [DAt] at h2
    subst h1
    cases h2
  | .bl i,.bl j,v,h1,h2=>by
    rw [DAt] at h1; rw [DAt] at h2
    subst h1
    injection h2 with h2
    rw [h2]
  | .bl i,.tup j,v,h1,h2=>by
    rw [DAt] at h1; rw [DAt] at h2
    obtain ⟨a,vs,rfl,q,g⟩:=h2
    cases h1
  | .bl i,.lst j,v,h1,h2=>by
    rw [DAt] at h1; rw [DAt] at h2
    obtain ⟨a,vs,rfl,q,g⟩:=h2
    cases h1
  | .tup i,.int j,v,h1,h2=>by
    rw [DAt] at h1; rw [DAt] at h2
    obtain ⟨a,vs,rfl,q,g⟩:=h1
    cases h2
  | .tup i,.str j,v,h1,h2=>by
    rw [DAt] at h1; rw [DAt] at h2
    obtain ⟨a,vs,rfl,q,g⟩:=h1
    cases h2
  | .tup i,.non,v,h1,h2=>by
    rw [DAt] at h1; rw [DAt] at h2
    obtain ⟨a,vs,rfl,q,g⟩:=h1
    cases h2
  | .tup i,.bl j,v,h1,h2=>by
    rw [DAt] at h1; rw [DAt] at h2
    obtain ⟨a,vs,rfl,q,g⟩:=h1
    cases h2
  | .tup i,.tup j,v,h1,h2=>by
    rw [DAt] at h1; rw [DAt] at h2
    obtain ⟨a,vs,rfl,q,g⟩:=h1
    obtain ⟨b,ws,e,q',g'⟩:=h2
    cases e
    rw [I.tuple_inj q' q] at g'
    rw [DsAt.inj I g g']
  | .tup i,.lst j,v,h1,h2=>by
    rw [DAt] at h1; rw [DAt] at h2
    obtain ⟨a,vs,rfl,q,g⟩:=h1
    obtain ⟨b,ws,e,q',g'⟩:=h2
    cases e
    exact (list_tup_ne I (SqL.of q') q).elim
  | .lst i,.int j,v,h1,h2=>by
    rw [DAt] at h1; rw [DAt] at h2
    obtain ⟨a,vs,rfl,q,g⟩:=h1
    cases h2
  | .lst i,.str j,v,h1,h2=>by
    rw [DAt] at h1; rw [DAt] at h2
    obtain ⟨a,vs,rfl,q,g⟩:=h1
    cases h2
  | .lst i,.non,v,h1,h2=>by
    rw [DAt] at h1; rw [DAt] at h2
    obtain ⟨a,vs,rfl,q,g⟩:=h1
    cases h2
  | .lst i,.bl j,v,h1,h2=>by
    rw [DAt] at h1; rw [DAt] at h2
    obtain ⟨a,vs,rfl,q,g⟩:=h1
    cases h2
  | .lst i,.tup j,v,h1,h2=>by
    rw [DAt] at h1; rw [DAt] at h2
    obtain ⟨a,vs,rfl,q,g⟩:=h1
    obtain ⟨b,ws,e,q',g'⟩:=h2
    cases e
    exact (list_tup_ne I (SqL.of q) q').elim
  | .lst i,.lst j,v,h1,h2=>by
    rw [DAt] at h1; rw [DAt] at h2
    obtain ⟨a,vs,rfl,q,g⟩:=h1
    obtain ⟨b,ws,e,q',g'⟩:=h2
    cases e
    rw [q] at q'
    cases q'
    rw [DsAt.inj I g g']
theorem DsAt.inj (I:Inv X pins σ H s):∀ {ds es:List D} {vs:List V},DsAt X.K H ds vs→DsAt X.K H es vs→ds = es
  | [],[],vs,h1,h2=>rfl
  | [],e :: es,vs,h1,h2=>by
    rw [DsAt] at h1; rw [DsAt] at h2
    obtain ⟨v,r,rfl,_⟩:=h2
    cases h1
  | d :: ds,[],vs,h1,h2=>by
    rw [DsAt] at h1; rw [DsAt] at h2
    obtain ⟨v,r,rfl,_⟩:=h1
    cases h2
  | d :: ds,e :: es,vs,h1,h2=>by
    rw [DsAt] at h1; rw [DsAt] at h2
    obtain ⟨v,r,rfl,a1,a2⟩:=h1
    obtain ⟨v',r',z,b1,b2⟩:=h2
    injection z with z1 z2
    rw [← z1] at b1
    rw [← z2] at b2
    rw [DAt.inj I a1 b1,DsAt.inj I a2 b2]
end
theorem both_D (I:Inv X pins σ H s):∀ (n:Nat) {A:Around} {d e:D} {x y:V} {u v:Value},d.depth ≤ n→A.units + n < cLine→DAt X.K H d x→DAt X.K H e y→RelV x u→RelV y v→both A s u v (eqD d e):=by
  intro n
  induction n with
  | zero =>
    intro A d e x y u v hd hu h1 h2 r1 r2
    refine both_mixed I (by omega) ?_ h1 h2 r1 r2
    cases d <;> cases e <;> first | rfl | (rw [D.depth] at hd; omega)
  | succ n ih =>
    intro A d e x y u v hd hu h1 h2 r1 r2
    cases hs:seqs d e with
    | false=>exact both_mixed I (by omega) hs h1 h2 r1 r2
    | true =>
      have items:∀ {ds es:List D} {vs ws:List V} {its its':List Value},1 + depths ds ≤ n + 1→DsAt X.K H ds vs→DsAt X.K H es ws→Vals vs its→Vals ws its'→∀ j (h1:j < its.toArray.size) (h2:j < its'.toArray.size),SeqAt.EqAt A.in1 s its.toArray[j] its'.toArray[j] (eqD (ds.getD j .non) (es.getD j .non)):=by
        intro ds es vs ws its its' hdd g g' rv rw' j j1 j2
        obtain ⟨x,e1,rx⟩:=vals_at rv j1
        obtain ⟨y,e2,ry⟩:=vals_at rw' j2
        obtain ⟨d,ed,gd⟩:=g.get e1
        obtain ⟨e,ee,ge⟩:=g'.get e2
        rw [getD_of ed,getD_of ee]
        have:=depths_mem ed
        exact (ih (by omega) (by show A.units + 1 + n < cLine; omega) gd ge rx ry).1
      cases d <;> cases e <;> first | cases hs | skip
      · rename_i ds es
        rw [D.depth] at hd
        have g1:=h1
        have g2:=h2
        rw [DAt] at h1; rw [DAt] at h2
        obtain ⟨a,vs,rfl,q,g⟩:=h1
        obtain ⟨b,ws,rfl,q',g'⟩:=h2
        cases r1; cases r2
        obtain ⟨its,rv,p,_⟩:=I.tuple q
        obtain ⟨its',rw',p',_⟩:=I.tuple q'
        have l1:its.toArray.size = ds.length:=by simp [← rv.length,g.length]
        have l2:its'.toArray.size = es.length:=by simp [← rw'.length,g'.length]
        have z1:=SeqAt.RcAt.tuples p p' (by omega) (items hd g g' rv rw')
        have z2:=SeqAt.RcNeAt.tuples p p' (by omega) (items hd g g' rv rw')
        rw [l1,l2,eqDs_min] at z1 z2
        rw [eqD]
        refine ⟨?_,z1,z2⟩
        by_cases hab:a = b
        · subst hab
          have e:=DAt.inj I g1 g2
          injection e with e
          rw [e,eqDs_self]
          exact .same _
        · exact .of_refs hab z1
      · rename_i ds es
        rw [D.depth] at hd
        have g1:=h1
        have g2:=h2
        rw [DAt] at h1; rw [DAt] at h2
        obtain ⟨a,vs,rfl,q,g⟩:=h1
        obtain ⟨b,ws,rfl,q',g'⟩:=h2
        cases r1; cases r2
        obtain ⟨its,rv,p,_⟩:=I.list (SqL.of q)
        obtain ⟨its',rw',p',_⟩:=I.list (SqL.of q')
        have l1:its.toArray.size = ds.length:=by simp [← rv.length,g.length]
        have l2:its'.toArray.size = es.length:=by simp [← rw'.length,g'.length]
        have zz:SeqAt.RcAt A s (.ref a) (.ref b) (eqDs ds es)∧SeqAt.RcNeAt A s (.ref a) (.ref b) (!eqDs ds es):=by
          by_cases hl:ds.length = es.length
          · have z1:=SeqAt.RcAt.lists p.isList p'.isList (by rw [l1,l2,hl]) (by omega) (items hd g g' rv rw')
            have z2:=SeqAt.RcNeAt.lists p.isList p'.isList (by rw [l1,l2,hl]) (by omega) (items hd g g' rv rw')
            rw [l1,eqDs_all hl] at z1 z2
            exact ⟨z1,z2⟩
          · rw [eqDs_len hl]
            exact ⟨SeqAt.RcAt.lists_lengths p.isList p'.isList (by rw [l1,l2]; simpa using hl) (by omega),SeqAt.RcNeAt.lists_lengths p.isList p'.isList (by rw [l1,l2]; simpa using hl) (by omega)⟩
        rw [eqD]
        refine ⟨?_,zz.1,zz.2⟩
        by_cases hab:a = b
        · subst hab
          have e:=DAt.inj I g1 g2
          injection e with e
          rw [e,eqDs_self]
          exact .same _
        · exact .of_refs hab zz.1
def rNeD (K:PySem.W.Frag) (A:Around):R2:=fun x y H Q=>∃ d e,DAt K H d x∧DAt K H e y∧A.units + d.depth < cLine∧Q (.bl (!eqD d e)) H
theorem op_neD:OpR X (compareOp .NotEq) (rNeD X.K X.A):=by
  intro pins s σ H x y v u Q I rx ry h
  obtain ⟨d,e,h1,h2,hu,q⟩:=h
  exact (both_D I d.depth (Nat.le_refl _) hu h1 h2 rx ry).2.2 _ _ _ _ ⟨.bl _,H,I,rfl,q⟩
def inDs (d:D) (es:List D):Bool:=es.any fun e=>eqD e d
def rInD (K:PySem.W.Frag) (A:Around) (neg:Bool):R2:=fun x y H Q=>∃ d es p xs,y = .ref p∧(SqL K H p xs∨SqT K H p xs)∧DAt K H d x∧DsAt K H es xs∧A.units + 1 + depths es < cLine∧Q (.bl (if neg then !inDs d es else inDs d es)) H
theorem any_ix {α:Type} {f:α→Bool}:∀ {l:List α},l.any f = (List.range l.length).any fun j=>(l[j]?.map f).getD false
  | []=>rfl
  | a :: l=>by
    rw [List.any_cons,List.length_cons,List.range_succ_eq_map,List.any_cons,List.any_map,@any_ix _ f l]
    rfl
open Classical in
noncomputable def eAt (its:List Value) (es:List D) (d:D) (y:Value):Bool:=decide (∃ j,its[j]? = some y∧eqD (es.getD j .non) d = true)
theorem eAt_of (I:Inv X pins σ H s) {its:List Value} {es:List D} {xs:List V} {d:D} (g:DsAt X.K H es xs) (r:Vals xs its) {j:Nat} {y:Value} (h:its[j]? = some y):eAt its es d y = eqD (es.getD j .non) d:=by
  have at':∀ {j:Nat},its[j]? = some y→∃ e v,es.getD j .non = e∧RelV v y∧DAt X.K H e v:=fun {j} h=>by
    have hj:j < its.toArray.size:=by
      have:=(List.getElem?_eq_some_iff.mp h).1
      simpa using this
    obtain ⟨v,e1,rv⟩:=vals_at r hj
    obtain ⟨e,ee,ge⟩:=g.get e1
    have:its.toArray[j] = y:=by
      have:=(List.getElem?_eq_some_iff.mp h).2
      simpa using this
    rw [this] at rv
    exact ⟨e,v,getD_of ee,rv,ge⟩
  obtain ⟨e,v,q1,q2,q3⟩:=at' h
  unfold eAt
  cases q:eqD (es.getD j .non) d with
  | true=>exact @decide_eq_true _ (Classical.propDecidable _) ⟨j,h,q⟩
  | false =>
    refine @decide_eq_false _ (Classical.propDecidable _) ?_
    rintro ⟨j',h',z⟩
    obtain ⟨e',v',p1,p2,p3⟩:=at' h'
    have:=RelV.inj p2 q2
    subst this
    have:=DAt.inj I p3 q3
    rw [p1,this,← q1,q] at z
    cases z
theorem eAt_any (I:Inv X pins σ H s) {its:List Value} {es:List D} {xs:List V} {d:D} (g:DsAt X.K H es xs) (r:Vals xs its):its.any (eAt its es d) = inDs d es:=by
  have hl:its.length = es.length:=by rw [← r.length,g.length]
  unfold inDs
  rw [@any_ix _ (eAt its es d),@any_ix _ (fun e=>eqD e d),hl]
  have key:∀ j ∈ List.range es.length,((its[j]?.map (eAt its es d)).getD false) = ((es[j]?.map fun e=>eqD e d).getD false):=fun j hj=>by
    have hj':=List.mem_range.mp hj
    have e1:its[j]? = some its[j]:=List.getElem?_eq_getElem (by omega)
    have e2:es[j]? = some es[j]:=List.getElem?_eq_getElem hj'
    rw [e1,e2]
    show eAt its es d its[j] = eqD es[j] d
    rw [eAt_of I g r e1,getD_of e2]
  generalize List.range es.length = l at key
  induction l with
  | nil=>rfl
  | cons a l ih=>rw [List.any_cons,List.any_cons,key a (List.mem_cons_self ..),ih fun j hj=>key j (List.mem_cons_of_mem _ hj)]
theorem in_items (I:Inv X pins σ H s) {A:Around} {its:List Value} {es:List D} {xs:List V} {d:D} {x:V} {u:Value} (g:DsAt X.K H es xs) (r:Vals xs its) (h:DAt X.K H d x) (rx:RelV x u) (hu:A.units + 1 + depths es < cLine):∀ y ∈ its.toArray,SeqAt.EqAt A.in1 s y u (eAt its es d y):=fun y hy=>by
  have hy':y ∈ its:=by simpa using hy
  obtain ⟨j,hj,e⟩:=List.getElem_of_mem hy'
  have e1:its[j]? = some y:=by rw [List.getElem?_eq_getElem hj,e]
  rw [eAt_of I g r e1]
  obtain ⟨v,e2,rv⟩:=vals_at r (j:=j) (by simpa using hj)
  obtain ⟨e',e3,ge⟩:=g.get e2
  have:its.toArray[j]'(by simpa using hj) = y:=by simpa using e
  rw [this] at rv
  rw [getD_of e3]
  have:=depths_mem e3
  exact (both_D I e'.depth (Nat.le_refl _) (by show A.units + 1 + e'.depth < cLine; omega) ge h rv rx).1
theorem op_inD:OpR X (compareOp .In) (rInD X.K X.A false):=by
  intro pins s σ H x y v u Q I rx ry h
  obtain ⟨d,es,p,xs,rfl,hq,h1,g,hu,q⟩:=h
  cases ry
  rcases hq with hq | hq
  · obtain ⟨its,r,pl,hz⟩:=I.list hq
    refine SeqAt.in_listAt (eAt its es d) pl.isList (in_items I g r h1 rx hu) ⟨.bl _,H,I,rfl,?_⟩
    rw [show its.toArray.any (eAt its es d) = its.any (eAt its es d) by simp,eAt_any I g r]
    exact q
  · obtain ⟨its,r,pl,hz⟩:=I.tuple hq
    refine SeqAt.in_tupleAt (eAt its es d) pl (in_items I g r h1 rx hu) ⟨.bl _,H,I,rfl,?_⟩
    rw [show its.toArray.any (eAt its es d) = its.any (eAt its es d) by simp,eAt_any I g r]
    exact q
end
section
variable {K:PySem.W.Frag} {H H':Hp} {a:Addr}
theorem dat_str (x:Str):DAt K H (.str x) (.str x):=by rw [DAt]
theorem dat_bl (x:Bool):DAt K H (.bl x) (.bl x):=by rw [DAt]
theorem dat_tup {vs:List V} {ds:List D} (h:H a = some (.tup vs)) (g:DsAt K H ds vs):DAt K H (.tup ds) (.ref a):=by rw [DAt]; exact ⟨a,vs,rfl,SqT.of h,g⟩
theorem dat_lst {vs:List V} {ds:List D} (h:H a = some (.lst vs)) (g:DsAt K H ds vs):DAt K H (.lst ds) (.ref a):=by rw [DAt]; exact ⟨a,vs,rfl,h,g⟩
end
end L2
namespace My
open PySem L2 CS
theorem gName_go {i:Nat} {v:V} {σ:St} {H:Hp} {k:St→Hp→Prop} (h:k (σ.set i (some v)) H):gName i v σ H k:=h
theorem scGreaterLow:FnScope ["one", "other"] ["one", "other"] (defScope sGreaterLow):=fs
theorem scLesserHigh:FnScope ["one", "other"] ["one", "other"] (defScope sLesserHigh):=fs
theorem scCommonSpans:FnScope ["ones", "others", "found", "one", "other", "low", "high"] ["ones", "others"] (defScope sCommonSpans):=fs
def spGL:Sp:=fun vs H Q _=>∃ a b,vs = [eV a,eV b]∧Q (eV (gl a b)) H
def spLH:Sp:=fun vs H Q _=>∃ a b,vs = [eV a,eV b]∧Q (eV (lh a b)) H
def spCS:Sp:=fun vs H Q _=>∃ t as a t' as' b,vs = [.ref t,.ref t']∧SpansAt H t as a∧SpansAt H t' as' b∧a.length * b.length ≤ 1000000∧∀ u us H',Same H H'→SpansAt H' u us (cmnS a b)→Q (.ref u) H'
theorem spans_at {H:Hp} {t:Addr} {as:List Addr} {sps:List Spn} (h:SpansAt H t as sps) {i:Nat} {x:V} (hx:(as.map V.ref)[i]? = some x):∃ (b:Addr) (s:Spn),x = .ref b∧sps[i]? = some s∧H b = some (.tup [eV s.1,eV s.2]):=by
  rw [List.getElem?_map] at hx
  cases e:as[i]? with
  | none=>rw [e] at hx; cases hx
  | some b =>
    rw [e] at hx
    have hx':V.ref b = x:=Option.some.inj hx
    subst hx'
    have hi:i < sps.length:=by rw [← h.len]; exact (List.getElem?_eq_some_iff.mp e).1
    have er:sps[i]? = some sps[i]:=List.getElem?_eq_getElem hi
    exact ⟨b,sps[i],rfl,er,h.at_ i b _ e er⟩
theorem sam_put {H H':Hp} {F:Addr} {o:HO} (s:Same H H') (hF:H F = none):Same H (upd H' F o):=fun b u e=>by
  rw [upd_ne (ne_of_none e hF)]; exact s _ _ e
theorem take_one {α:Type} {ws:List α} {i:Nat} {w:α} (h:ws[i]? = some w):ws.take (i + 1) = ws.take i ++ [w]:=by
  rw [List.take_add_one,h]; rfl
section
variable {P:Program} {w:World} {K:PySem.W.Frag} {mg:Str→Option Value} {base:Heap} {f g1 g2:Addr} {fd d1 d2:FuncData} {L:Nat}
theorem ok_gl (B:Blt mg) (F:FA K mg "greater_low" sGreaterLow) :
    Cal CX0 P w K mg base 1 "greater_low" ["one", "other"] spGL:=by
  refine F.ok scGreaterLow fun f cdv A outer s H vs Q E hr h=>?_
  obtain ⟨a,b,rfl,q⟩:=h
  refine ⟨_,pss_cons (ps_if (PW.pt (pw_or (pt_cmpR op_isN (pv 0) pe_non (nomark _)) (pw_or1 (pt_cmpR op_isN (pv 1) pe_non (nomark _))))) (pss_one (ps_ret (pe_ifExp (pt_cmpR op_isN (pv 0) pe_non (nomark _)) (pv 1) (pv 0)))) pss_nil)
    (pss_one (ps_ret (pe_callB (call_max2 rfl) rfl B.max PyProof.Rows.boot_max (pa_cons (pv 0) (pa_cons (pv 1) pa_nil))))),?_⟩
  have nn:∀ n:Int,decide (eV (some n) = V.non) = false:=fun n=>by simp [eV]
  have n0:decide (eV none = V.non) = true:=by simp [eV]
  refine ⟨_,rfl,rfl,_,rfl,?_⟩
  cases a with
  | none =>
    rw [n0]
    refine ⟨_,rfl,rfl,_,rfl,?_⟩
    rw [n0]
    exact ⟨_,rfl,q⟩
  | some a =>
    rw [nn]
    refine ⟨_,rfl,rfl,_,rfl,?_⟩
    cases b with
    | none =>
      rw [n0]
      refine ⟨_,rfl,rfl,_,rfl,?_⟩
      rw [nn]
      exact ⟨_,rfl,q⟩
    | some b =>
      rw [nn]
      exact ⟨_,rfl,_,rfl,_,_,rfl,q⟩
theorem ok_lh (B2:Blt2 mg) (F:FA K mg "lesser_high" sLesserHigh) :
    Cal CX0 P w K mg base 1 "lesser_high" ["one", "other"] spLH:=by
  refine F.ok scLesserHigh fun f cdv A outer s H vs Q E hr h=>?_
  obtain ⟨a,b,rfl,q⟩:=h
  refine ⟨_,pss_cons (ps_if (PW.pt (pw_or (pt_cmpR op_isN (pv 0) pe_non (nomark _)) (pw_or1 (pt_cmpR op_isN (pv 1) pe_non (nomark _))))) (pss_one (ps_ret (pe_ifExp (pt_cmpR op_isN (pv 0) pe_non (nomark _)) (pv 1) (pv 0)))) pss_nil)
    (pss_one (ps_ret (pe_callB (call_min2 rfl) rfl B2.min PyProof.Rows.boot_min (pa_cons (pv 0) (pa_cons (pv 1) pa_nil))))),?_⟩
  have nn:∀ n:Int,decide (eV (some n) = V.non) = false:=fun n=>by simp [eV]
  have n0:decide (eV none = V.non) = true:=by simp [eV]
  refine ⟨_,rfl,rfl,_,rfl,?_⟩
  cases a with
  | none =>
    rw [n0]
    refine ⟨_,rfl,rfl,_,rfl,?_⟩
    rw [n0]
    exact ⟨_,rfl,q⟩
  | some a =>
    rw [nn]
    refine ⟨_,rfl,rfl,_,rfl,?_⟩
    cases b with
    | none =>
      rw [n0]
      refine ⟨_,rfl,rfl,_,rfl,?_⟩
      rw [nn]
      exact ⟨_,rfl,q⟩
    | some b =>
      rw [nn]
      exact ⟨_,rfl,_,rfl,_,_,rfl,q⟩
theorem meetS_pos {s t:Spn} (h:okB (gl s.1 t.1) (lh s.2 t.2) = true):meetS s t = some (gl s.1 t.1,lh s.2 t.2):=if_pos h
theorem meetS_neg {s t:Spn} (h:okB (gl s.1 t.1) (lh s.2 t.2) = false):meetS s t = none:=if_neg (by rw [h]; exact Bool.false_ne_true)
theorem rd_ok {l h:Option Int} {σ:St} {H:Hp} {Q:Bool→Hp→Prop} {i j:Nat} (e1:σ[i]? = some (some (eV l))) (e2:σ[j]? = some (some (eV h))) (q:Q (okB l h) H) :
    tOr (tTest (tOp (fun x y H Q=>y = V.non∧Q (V.bl (decide (x = V.non))) H) (tVar i) (tC V.non))) (tOr (tTest (tOp (fun x y H Q=>y = V.non∧Q (V.bl (decide (x = V.non))) H) (tVar j) (tC V.non))) (tTest (tOp (rI0 fun i j=>.bl (decide (i ≤ j))) (tVar i) (tVar j)))) σ H Q:=by
  have nn:∀ n:Int,decide (eV (some n) = V.non) = false:=fun n=>by simp [eV]
  have n0:decide (eV none = V.non) = true:=by simp [eV]
  refine ⟨_,e1,rfl,_,rfl,?_⟩
  cases l with
  | none=>rw [n0]; exact q
  | some l =>
    rw [nn]
    refine ⟨_,e2,rfl,_,rfl,?_⟩
    cases h with
    | none=>rw [n0]; exact q
    | some h=>rw [nn]; exact ⟨_,e1,_,e2,_,_,rfl,rfl,_,rfl,q⟩
theorem ok_cs (B:Blt mg) (F:FA K mg "common_spans" sCommonSpans) (G1:Cal CX0 P w K mg base 1 "greater_low" ["one", "other"] spGL) (G2:Cal CX0 P w K mg base 1 "lesser_high" ["one", "other"] spLH) :
    Cal CX0 P w K mg base 2 "common_spans" ["ones", "others"] spCS:=by
  refine F.ok scCommonSpans fun f cdv A outer s H vs Q E hr h=>?_
  obtain ⟨t,as,a,t',as',b,rfl,ha,hb,hz,q⟩:=h
  refine ⟨_,pss_cons (ps_set (i:=2) scCommonSpans.nd rfl (Or.inl rfl) (pe_lst pa_nil))
    (pss_cons (ps_for PassesOwn.never rfl (pi_tup (pv 0)) (pg_name (i:=3) scCommonSpans.nd rfl (Or.inl rfl))
      (pss_one (ps_for PassesOwn.never rfl (pi_tup (pv 1)) (pg_name (i:=4) scCommonSpans.nd rfl (Or.inl rfl))
        (pss_cons (ps_set (i:=5) scCommonSpans.nd rfl (Or.inl rfl) (pe_cl G1 hr rfl pass0 (pa_cons (pe_ix (r:=rIxT K) ix_tup (pv 3) pe_int (fun _ _=>rfl)) (pa_cons (pe_ix (r:=rIxT K) ix_tup (pv 4) pe_int (fun _ _=>rfl)) pa_nil))))
        (pss_cons (ps_set (i:=6) scCommonSpans.nd rfl (Or.inl rfl) (pe_cl G2 hr rfl pass0 (pa_cons (pe_ix (r:=rIxT K) ix_tup (pv 3) pe_int (fun _ _=>rfl)) (pa_cons (pe_ix (r:=rIxT K) ix_tup (pv 4) pe_int (fun _ _=>rfl)) pa_nil))))
        (pss_one (ps_if (PW.pt (pw_or (pt_cmpR op_isN (pv 5) pe_non (nomark _)) (pw_or (pt_cmpR op_isN (pv 6) pe_non (nomark _)) (pw_or1 (pt_cmpR op_le (pv 5) (pv 6) (nomark _))))))
          (pss_one (ps_expr (pe_bm PySem.F.plainAttrs_list PySem.F.slot_list_append PySem.F.type_list_append mt_append (pv 2) (pa_cons (pe_tup (pa_cons (pv 5) (pa_cons (pv 6) pa_nil))) pa_nil)))) pss_nil)))))))
    (pss_one (ps_ret (pe_callTy call_tuple_of rfl B.tuple PyProof.Rows.boot_tuple (pa_cons (pv 2) pa_nil))))),?_⟩
  refine ⟨Nat.zero_le _,fun F hF=>?_⟩
  refine gName_go ?_
  dsimp only
  have s0:=same_new hF (.lst [])
  refine ⟨_,rfl,t,rfl,⟨_,SqT.of (s0 _ _ ha.tup)⟩,?_⟩
  refine for_tup (xs:=as.map V.ref) (fun i σ H'=>∃ us,(∃ o1 o2 o3 o4,σ = [some (.ref t),some (.ref t'),some (.ref F),o1,o2,o3,o4])∧SpL H' F us (cmnS (a.take i) b)∧Same H H')
    ⟨[],⟨none,none,none,none,rfl⟩,⟨upd_same,rfl,fun i a s e=>by cases e⟩,s0⟩ ?_ ?_ ?_
  · rintro i σ H' _ ⟨_,_,_,sm⟩
    exact SqT.of (sm _ _ ha.tup)
  · rintro i x σ H' hx ⟨us,⟨o1,o2,o3,o4,rfl⟩,hL,sm⟩
    obtain ⟨x1,s1,rfl,es1,hx1⟩:=spans_at ha hx
    have st:cmnS (a.take (i + 1)) b = cmnS (a.take i) b ++ b.filterMap fun t=>meetS s1 t:=by
      unfold cmnS
      rw [take_one es1,List.flatMap_append]; simp
    refine gName_go ?_
    dsimp only
    refine ⟨_,rfl,t',rfl,⟨_,SqT.of (sm _ _ hb.tup)⟩,?_⟩
    refine for_tup (xs:=as'.map V.ref) (fun j σ H'=>∃ us,(∃ o2 o3 o4,σ = [some (.ref t),some (.ref t'),some (.ref F),some (.ref x1),o2,o3,o4])∧SpL H' F us (cmnS (a.take i) b ++ (b.take j).filterMap fun t=>meetS s1 t)∧Same H H')
      ⟨us,⟨_,_,_,rfl⟩,by simpa using hL,sm⟩ ?_ ?_ ?_
    · rintro j σ H' _ ⟨_,_,_,sm⟩
      exact SqT.of (sm _ _ hb.tup)
    · rintro j y σ H' hy ⟨us,⟨o2,o3,o4,rfl⟩,hL,sm⟩
      obtain ⟨x2,s2,rfl,es2,hx2⟩:=spans_at hb hy
      have h1:=SqT.of (K:=K) (sm _ _ hx1)
      have h2:=SqT.of (K:=K) (sm _ _ hx2)
      refine gName_go ?_
      dsimp only
      refine ⟨_,rfl,x1,_,0,_,rfl,rfl,h1,rfl,_,rfl,x2,_,0,_,rfl,rfl,h2,rfl,s1.1,s2.1,rfl,?_⟩
      refine gName_go ?_
      dsimp only
      refine ⟨_,rfl,x1,_,1,_,rfl,rfl,h1,rfl,_,rfl,x2,_,1,_,rfl,rfl,h2,rfl,s1.2,s2.2,rfl,?_⟩
      refine gName_go ?_
      refine rd_ok (l:=gl s1.1 s2.1) (h:=lh s1.2 s2.2) rfl rfl ?_
      have st2:(b.take (j + 1)).filterMap (fun t=>meetS s1 t) = (b.take j).filterMap (fun t=>meetS s1 t) ++ (meetS s1 s2).toList:=by
        rw [take_one es2,List.filterMap_append]
        cases e:meetS s1 s2 <;> simp [List.filterMap_cons,e]
      cases ok:okB (gl s1.1 s2.1) (lh s1.2 s2.2) with
      | true =>
        rw [meetS_pos ok] at st2
        refine ⟨_,rfl,.inl ⟨rfl,_,SqL.of hL.lst⟩,_,rfl,_,rfl,(by show 2 ≤ sizeLine; decide),fun u hu=>?_⟩
        have su:=same_new hu (.tup [eV (gl s1.1 s2.1),eV (lh s1.2 s2.2)])
        have hlen:us.length ≤ 1000000:=by
          rw [hL.len]
          have q1:(cmnS (a.take i) b ++ (b.take j).filterMap fun t=>meetS s1 t).length ≤ (cmnS (a.take (i + 1)) b).length:=by
            rw [st,List.length_append,List.length_append]
            have:((b.take j).filterMap fun t=>meetS s1 t).length ≤ (b.filterMap fun t=>meetS s1 t).length:=((List.take_sublist j b).filterMap _).length_le
            omega
          have q2:=cmn_len (a.take (i + 1)) b
          have q3:(a.take (i + 1)).length * b.length ≤ a.length * b.length:=Nat.mul_le_mul_right _ (by rw [List.length_take]; omega)
          omega
        refine ⟨F,_,_,rfl,rfl,su _ _ hL.lst,Nat.lt_of_le_of_lt (show (us.map V.ref).length ≤ 1000000 by rw [List.length_map]; exact hlen) (by decide),?_⟩
        refine ⟨us ++ [u],⟨_,_,_,rfl⟩,?_,sam_put (sm.trans su) hF⟩
        rw [show us.map V.ref ++ [V.ref u] = (us ++ [u]).map V.ref by rw [List.map_append]; rfl,st2,← List.append_assoc]
        exact SpL.put (as:=us) (sps:=cmnS (a.take i) b ++ (b.take j).filterMap fun t=>meetS s1 t) (su _ _ hL.lst) (by rw [List.length_append,List.length_append,hL.len]; rfl) (pair_snoc hL.len (fun k c s e1 e2=>su _ _ (hL.at_ k c s e1 e2)) upd_same)
      | false =>
        rw [meetS_neg ok] at st2
        refine ⟨us,⟨_,_,_,rfl⟩,?_,sm⟩
        rw [st2]
        simpa using hL
    · rintro σ H' ⟨us,⟨o2,o3,o4,rfl⟩,hL,sm⟩
      refine ⟨us,⟨_,_,_,_,rfl⟩,?_,sm⟩
      rw [st]
      rw [List.length_map,hb.len,List.take_length] at hL
      exact hL
  · rintro σ H' ⟨us,⟨o1,o2,o3,o4,rfl⟩,hL,sm⟩
    rw [List.length_map,ha.len,List.take_length] at hL
    refine ⟨_,rfl,F,_,rfl,.inl ⟨SqL.of hL.lst,fun u hu=>?_⟩⟩
    have su:=same_new hu (.tup (us.map V.ref))
    exact q u us _ (sm.trans su) ⟨upd_same,hL.len,fun k c s e1 e2=>su _ _ (hL.at_ k c s e1 e2)⟩
end
end My
namespace CS
open PySem L2
def mids:List Spn→List Spn
  | s :: t :: r=>(s.2.map (· + 1),t.1.map (· - 1)) :: mids (t :: r)
  | _=>[]
def firstG:List Spn→List Spn
  | s :: _=>match s.1 with
    | some l=>[(none,some (l - 1))]
    | none=>[]
  | []=>[]
def lastG (a:List Spn):List Spn:=match a.getLast? with
  | some s=>match s.2 with
    | some h=>[(some (h + 1),none)]
    | none=>[]
  | none=>[]
theorem gapsGo_eq:∀ (a:List Spn),gapsGo a = mids a ++ lastG a
  | []=>rfl
  | [s]=>by
    obtain ⟨l,h⟩:=s
    cases h <;> rfl
  | s :: t :: r=>by
    have ih:=gapsGo_eq (t :: r)
    show (s.2.map (· + 1),t.1.map (· - 1)) :: gapsGo (t :: r) = ((s.2.map (· + 1),t.1.map (· - 1)) :: mids (t :: r)) ++ lastG (s :: t :: r)
    rw [ih,List.cons_append]
    rfl
theorem gapsS_eq {a:List Spn} (h:a ≠ []):gapsS a = firstG a ++ mids a ++ lastG a:=by
  cases a with
  | nil=>exact absurd rfl h
  | cons s r =>
    rw [List.append_assoc,← gapsGo_eq]
    rfl
theorem mids_len:∀ (a:List Spn),(mids a).length = a.length - 1
  | []=>rfl
  | [s]=>rfl
  | s :: t :: r=>by
    have:=mids_len (t :: r)
    simp only [mids,List.length_cons] at this ⊢
    omega
theorem mids_get:∀ {a:List Spn} {k:Nat} {s t:Spn},a[k]? = some s→a[k + 1]? = some t→(mids a)[k]? = some (s.2.map (· + 1),t.1.map (· - 1))
  | [],k,s,t,h,_=>by simp at h
  | [x],k,s,t,h,h'=>by simp at h'
  | x :: y :: r,0,s,t,h,h'=>by
    have e1:x = s:=by simpa using h
    have e2:y = t:=by simpa using h'
    subst e1; subst e2
    rfl
  | x :: y :: r,k + 1,s,t,h,h'=>by
    show (mids (y :: r))[k]? = _
    exact mids_get (by simpa using h) (by simpa using h')
theorem can_next {a:List Spn} (h:CanS a) {k:Nat} {s t:Spn} (e1:a[k]? = some s) (e2:a[k + 1]? = some t):∃ x y,s.2 = some x∧t.1 = some y∧x + 1 < y:=by
  obtain ⟨h1,r1⟩:=List.getElem?_eq_some_iff.mp e1
  obtain ⟨h2,r2⟩:=List.getElem?_eq_some_iff.mp e2
  have:=List.pairwise_iff_getElem.mp h.1 k (k + 1) h1 h2 (Nat.lt_succ_self k)
  rw [r1,r2] at this
  exact this
theorem atI_last {xs:List V} {n:Nat} {v:V} (h:xs.length = n + 1) (e:atI xs (n:Int) = some v):atI xs (-1) = some v:=by
  have e1:ixN xs.length (n:Int) = some n:=by
    unfold ixN
    rw [if_pos (by omega),if_pos (by omega)]; simp
  have e2:ixN xs.length (-1) = some n:=by
    unfold ixN
    rw [if_neg (by decide),if_pos (by omega)]
    congr 1
    omega
  unfold atI at e ⊢
  rw [e1] at e
  rw [e2]
  exact e
end CS
namespace My
open PySem L2 CS
theorem seq_mid {t1 t2:TS} {D:Ends} {σ:St} {H:Hp} (Pm:St→Hp→Prop) (h:∀ T:St→Hp→Prop,(∀ σ' H',Pm σ' H'→T σ' H')→t1 { D with nx:=T } σ H) (t:∀ σ' H',Pm σ' H'→t2 D σ' H'):tSeq t1 t2 D σ H:=h _ t
theorem scGaps:FnScope ["spans", "found", "at"] ["spans"] (defScope sGaps):=fs
def spGaps:Sp:=fun vs H Q _=>∃ t as a,vs = [.ref t]∧SpansAt H t as a∧CanS a∧a.length ≤ 1000000∧∀ u us H',Same H H'→SpansAt H' u us (gapsS a)→Q (.ref u) H'
theorem span_ix {H:Hp} {K:PySem.W.Frag} {t:Addr} {as:List Addr} {a:List Spn} (h:SpansAt H t as a) {k:Nat} {s:Spn} (e:a[k]? = some s):∃ c,atI (as.map V.ref) (k:Int) = some (.ref c)∧SqT K H c [eV s.1,eV s.2]:=by
  have hk:k < as.length:=by rw [h.len]; exact (List.getElem?_eq_some_iff.mp e).1
  have ea:as[k]? = some as[k]:=List.getElem?_eq_getElem hk
  exact ⟨as[k],atI_nat (by rw [List.getElem?_map,ea]; rfl),SqT.of (h.at_ k _ s ea e)⟩
section
variable {P:Program} {w:World} {K:PySem.W.Frag} {mg:Str→Option Value} {base:Heap} {f g1 g2:Addr} {fd d1 d2:FuncData} {L:Nat}
theorem ok_gaps (B:Blt mg) (F:FA K mg "gaps" sGaps) :
    Cal CX0 P w K mg base 1 "gaps" ["spans"] spGaps:=by
  refine F.ok scGaps fun f cdv A outer s H vs Q E hr h=>?_
  obtain ⟨t,as,a,rfl,ha,hc,hz,q⟩:=h
  refine ⟨_,pss_cons (ps_if (pt_cmpR op_eq (pe_callB call_len_seq rfl B.len PySem.boot_len (pa_cons (pv 0) pa_nil)) pe_int (nomark _)) (pss_one (ps_ret (pe_tup (pa_cons (pe_tup (pa_cons pe_non (pa_cons pe_non pa_nil))) pa_nil)))) pss_nil)
    (pss_cons (ps_set (i:=1) scGaps.nd rfl (Or.inl rfl) (pe_lst pa_nil))
    (pss_cons (ps_if (pt_cmpR op_notN (pe_ix (r:=rIxT K) ix_tup (pe_ix (r:=rIxT K) ix_tup (pv 0) pe_int (fun _ _=>rfl)) pe_int (fun _ _=>rfl)) pe_non (nomark _))
      (pss_one (ps_expr (pe_bm PySem.F.plainAttrs_list PySem.F.slot_list_append PySem.F.type_list_append mt_append (pv 1) (pa_cons (pe_tup (pa_cons pe_non (pa_cons (pe_op op_sub (pe_ix (r:=rIxT K) ix_tup (pe_ix (r:=rIxT K) ix_tup (pv 0) pe_int (fun _ _=>rfl)) pe_int (fun _ _=>rfl)) pe_int) pa_nil))) pa_nil)))) pss_nil)
    (pss_cons (ps_for PassesOwn.never rfl (pi_range2 rfl B.range (pa_cons pe_int (pa_cons (pe_callB call_len_seq rfl B.len PySem.boot_len (pa_cons (pv 0) pa_nil)) pa_nil))) (pg_name (i:=2) scGaps.nd rfl (Or.inl rfl))
      (pss_one (ps_expr (pe_bm PySem.F.plainAttrs_list PySem.F.slot_list_append PySem.F.type_list_append mt_append (pv 1) (pa_cons (pe_tup (pa_cons (pe_op op_add (pe_ix (r:=rIxT K) ix_tup (pe_ix (r:=rIxT K) ix_tup (pv 0) (pe_op op_sub (pv 2) pe_int) (fun _ _=>rfl)) pe_int (fun _ _=>rfl)) pe_int)
        (pa_cons (pe_op op_sub (pe_ix (r:=rIxT K) ix_tup (pe_ix (r:=rIxT K) ix_tup (pv 0) (pv 2) (fun _ _=>rfl)) pe_int (fun _ _=>rfl)) pe_int) pa_nil))) pa_nil)))))
    (pss_cons (ps_if (pt_cmpR op_notN (pe_ix (r:=rIxT K) ix_tup (pe_ix (r:=rIxT K) ix_tup (pv 0) (pe_un un_neg pe_int) (fun _ _=>rfl)) pe_int (fun _ _=>rfl)) pe_non (nomark _))
      (pss_one (ps_expr (pe_bm PySem.F.plainAttrs_list PySem.F.slot_list_append PySem.F.type_list_append mt_append (pv 1) (pa_cons (pe_tup (pa_cons (pe_op op_add (pe_ix (r:=rIxT K) ix_tup (pe_ix (r:=rIxT K) ix_tup (pv 0) (pe_un un_neg pe_int) (fun _ _=>rfl)) pe_int (fun _ _=>rfl)) pe_int) (pa_cons pe_non pa_nil))) pa_nil)))) pss_nil)
    (pss_one (ps_ret (pe_callTy call_tuple_of rfl B.tuple PyProof.Rows.boot_tuple (pa_cons (pv 1) pa_nil)))))))),?_⟩
  have hlen:(as.map V.ref).length = a.length:=by rw [List.length_map,ha.len]
  refine ⟨_,rfl,t,_,rfl,.inr (SqT.of ha.tup),rfl,_,rfl,?_⟩
  refine ite2 (fun c=>?_) (fun c=>?_)
  · have h0:a = []:=by
      have:(((as.map V.ref).length:Nat):Int) = 0:=by simpa using c
      exact List.eq_nil_of_length_eq_zero (by omega)
    subst h0
    refine ⟨(by show 2 ≤ sizeLine; decide),fun x hx=>⟨(by show 1 ≤ sizeLine; decide),fun u hu=>?_⟩⟩
    have s1:=same_new hx (.tup [V.non,V.non])
    have s2:=same_new hu (.tup [V.ref x])
    refine q u [x] _ (s1.trans s2) ⟨upd_same,rfl,fun k c s e1 e2=>?_⟩
    have ek:k = 0:=by
      have:=(List.getElem?_eq_some_iff.mp e1).1
      simp at this
      exact this
    subst ek
    cases e1
    have:s = (none,none):=by
      have:([(none,none)]:List Spn)[0]? = some s:=e2
      simpa using this.symm
    subst this
    exact s2 _ _ upd_same
  have hne:a ≠ []:=fun z=>c (by subst z; simp [hlen])
  obtain ⟨s0,r0,rfl⟩:=List.exists_cons_of_ne_nil hne
  refine ⟨Nat.zero_le _,fun F hF=>?_⟩
  refine gName_go ?_
  have n0:=same_new hF (.lst [])
  have nn:∀ n:Int,(!decide (eV (some n) = V.non)) = true:=fun n=>by simp [eV]
  have n1:(!decide (eV none = V.non)) = false:=by simp [eV]
  have hml:(mids (s0 :: r0)).length = r0.length:=by rw [mids_len]; rfl
  have hfl:(firstG (s0 :: r0)).length ≤ 1:=by
    show (match s0.1 with | some l=>[(none,some (l - 1))] | none=>[]).length ≤ 1
    cases s0.1 <;> simp
  have hz':r0.length + 1 ≤ 1000000:=hz
  dsimp only
  refine seq_mid (t1:=tIfS _ _ _) (σ:=[some (.ref t),some (.ref F),none]) (fun σ H'=>∃ us,σ = [some (.ref t),some (.ref F),none]∧SpL H' F us (firstG (s0 :: r0))∧Same H H') (fun T hT=>?_) ?_
  · obtain ⟨c0,i0,t0⟩:=span_ix (K:=K) (ha.same n0) (k:=0) (s:=s0) rfl
    refine ⟨_,rfl,t,_,0,_,rfl,rfl,SqT.of (n0 _ _ ha.tup),i0,c0,_,0,_,rfl,rfl,t0,rfl,rfl,_,rfl,?_⟩
    obtain ⟨l,h⟩:=s0
    cases l with
    | none =>
      rw [n1]
      exact hT _ _ ⟨[],rfl,⟨upd_same,rfl,fun i a s e=>by cases e⟩,n0⟩
    | some l =>
      rw [nn]
      refine ⟨_,rfl,.inl ⟨rfl,_,SqL.of upd_same⟩,_,rfl,t,_,0,_,rfl,rfl,SqT.of (n0 _ _ ha.tup),i0,c0,_,0,_,rfl,rfl,t0,rfl,_,_,rfl,rfl,(by show 2 ≤ sizeLine; decide),fun u hu=>?_⟩
      have su:=same_new hu (.tup [V.non,V.int (l - 1)])
      refine ⟨F,_,_,rfl,rfl,su _ _ upd_same,(by decide),?_⟩
      refine hT _ _ ⟨[u],rfl,?_,sam_put (n0.trans su) hF⟩
      exact SpL.put (as:=[]) (sps:=[]) (as2:=[u]) (su _ _ upd_same) rfl (pair_snoc (as:=[]) (sps:=[]) rfl (fun k c s e=>by cases e) upd_same)
  rintro σ H1 ⟨us,rfl,hL,sm⟩
  refine seq_mid (σ:=[some (.ref t),some (.ref F),none]) (fun σ H'=>∃ us,(∃ o,σ = [some (.ref t),some (.ref F),o])∧SpL H' F us (firstG (s0 :: r0) ++ mids (s0 :: r0))∧Same H H') (fun T hT=>?_) ?_
  · refine ⟨_,rfl,t,_,rfl,.inr (SqT.of (sm _ _ ha.tup)),1,_,rfl,⟨by decide,by decide,(by rw [hlen]; simp only [List.length_cons]; omega),(by rw [hlen]; simp only [List.length_cons]; omega)⟩,?_⟩
    have en:((((as.map V.ref).length:Nat):Int) - 1).toNat = r0.length:=by rw [hlen]; simp only [List.length_cons]; omega
    rw [en]
    refine for_range (fun i σ H'=>∃ us,(∃ o,σ = [some (.ref t),some (.ref F),o])∧SpL H' F us (firstG (s0 :: r0) ++ (mids (s0 :: r0)).take i)∧Same H H')
      ⟨us,⟨_,rfl⟩,by simpa using hL,sm⟩ ?_ ?_
    · rintro i σ H' hi ⟨us,⟨o,rfl⟩,hL,sm⟩
      have h1:i < (s0 :: r0).length:=by simp only [List.length_cons]; omega
      have h2:i + 1 < (s0 :: r0).length:=by simp only [List.length_cons]; omega
      have e1:(s0 :: r0)[i]? = some (s0 :: r0)[i]:=List.getElem?_eq_getElem h1
      have e2:(s0 :: r0)[i + 1]? = some (s0 :: r0)[i + 1]:=List.getElem?_eq_getElem h2
      generalize (s0 :: r0)[i] = s1 at e1
      generalize (s0 :: r0)[i + 1] = s2 at e2
      have em:=mids_get e1 e2
      obtain ⟨x,y,ex,ey,_⟩:=can_next hc e1 e2
      obtain ⟨c1,j1,t1⟩:=span_ix (K:=K) (ha.same sm) e1
      obtain ⟨c2,j2,t2⟩:=span_ix (K:=K) (ha.same sm) e2
      obtain ⟨l1,h1'⟩:=s1
      obtain ⟨l2,h2'⟩:=s2
      cases ex; cases ey
      have ei:(1:Int) + (i:Int) - 1 = (i:Int):=by omega
      have ei':(1:Int) + (i:Int) = ((i + 1:Nat):Int):=by omega
      refine gName_go ?_
      dsimp only
      refine ⟨_,rfl,.inl ⟨rfl,_,SqL.of hL.lst⟩,_,rfl,_,rfl,_,_,rfl,rfl,t,_,_,_,rfl,rfl,SqT.of (sm _ _ ha.tup),(by rw [ei]; exact j1),c1,_,1,_,rfl,rfl,t1,rfl,_,_,rfl,rfl,
        _,rfl,_,rfl,t,_,_,_,rfl,rfl,SqT.of (sm _ _ ha.tup),(by rw [ei']; exact j2),c2,_,0,_,rfl,rfl,t2,rfl,_,_,rfl,rfl,(by show 2 ≤ sizeLine; decide),fun u hu=>?_⟩
      have su:=same_new hu (.tup [V.int (x + 1),V.int (y - 1)])
      have hlen2:us.length ≤ 1000000:=by
        rw [hL.len,List.length_append,List.length_take,hml]
        omega
      refine ⟨F,_,_,rfl,rfl,su _ _ hL.lst,Nat.lt_of_le_of_lt (show (us.map V.ref).length ≤ 1000000 by rw [List.length_map]; exact hlen2) (by decide),?_⟩
      refine ⟨us ++ [u],⟨_,rfl⟩,?_,sam_put (sm.trans su) hF⟩
      rw [show us.map V.ref ++ [V.ref u] = (us ++ [u]).map V.ref by rw [List.map_append]; rfl,take_one em,← List.append_assoc]
      exact SpL.put (as:=us) (sps:=[]) (su _ _ hL.lst) (by rw [List.length_append,List.length_append,hL.len]; rfl) (pair_snoc hL.len (fun k c s e1 e2=>su _ _ (hL.at_ k c s e1 e2)) upd_same)
    · rintro σ H' ⟨us,⟨o,rfl⟩,hL,sm⟩
      refine hT _ _ ⟨us,⟨_,rfl⟩,?_,sm⟩
      rw [List.take_of_length_le (by omega)] at hL
      exact hL
  rintro σ H2 ⟨us,⟨o,rfl⟩,hL,sm⟩
  refine seq_mid (σ:=[some (.ref t),some (.ref F),o]) (fun σ H'=>∃ us,(∃ o,σ = [some (.ref t),some (.ref F),o])∧SpL H' F us (gapsS (s0 :: r0))∧Same H H') (fun T hT=>?_) ?_
  · rw [gapsS_eq hne] at *
    have el:(s0 :: r0)[r0.length]? = some ((s0 :: r0)[r0.length]'(by simp)):=List.getElem?_eq_getElem _
    generalize ((s0 :: r0)[r0.length]'(by simp)) = sl at el
    have eg:lastG (s0 :: r0) = match sl.2 with | some h=>[(some (h + 1),none)] | none=>[]:=by
      have:(s0 :: r0).getLast? = some sl:=by rw [List.getLast?_eq_getElem?]; exact el
      unfold lastG
      rw [this]
    obtain ⟨c0,i0,t0⟩:=span_ix (K:=K) (ha.same sm) el
    have i1:atI (as.map V.ref) (-1) = some (.ref c0):=by
      refine atI_last ?_ i0
      rw [hlen]; rfl
    refine ⟨_,rfl,_,rfl,t,_,_,_,rfl,rfl,SqT.of (sm _ _ ha.tup),i1,c0,_,1,_,rfl,rfl,t0,rfl,rfl,_,rfl,?_⟩
    obtain ⟨l,h⟩:=sl
    cases h with
    | none =>
      rw [n1]
      rw [eg] at hT
      exact hT _ _ ⟨us,⟨_,rfl⟩,by simpa using hL,sm⟩
    | some h =>
      rw [nn]
      rw [eg] at hT
      refine ⟨_,rfl,.inl ⟨rfl,_,SqL.of hL.lst⟩,_,rfl,_,rfl,t,_,_,_,rfl,rfl,SqT.of (sm _ _ ha.tup),i1,c0,_,1,_,rfl,rfl,t0,rfl,_,_,rfl,rfl,(by show 2 ≤ sizeLine; decide),fun u hu=>?_⟩
      have su:=same_new hu (.tup [V.int (h + 1),V.non])
      have hlen2:us.length ≤ 1000000:=by
        rw [hL.len,List.length_append,hml]
        omega
      refine ⟨F,_,_,rfl,rfl,su _ _ hL.lst,Nat.lt_of_le_of_lt (show (us.map V.ref).length ≤ 1000000 by rw [List.length_map]; exact hlen2) (by decide),?_⟩
      refine hT _ _ ⟨us ++ [u],⟨_,rfl⟩,?_,sam_put (sm.trans su) hF⟩
      rw [show us.map V.ref ++ [V.ref u] = (us ++ [u]).map V.ref by rw [List.map_append]; rfl]
      exact SpL.put (as:=us) (sps:=[]) (su _ _ hL.lst) (by rw [List.length_append,List.length_append (as:=firstG (s0 :: r0) ++ mids (s0 :: r0)),hL.len]; rfl) (pair_snoc hL.len (fun k c s e1 e2=>su _ _ (hL.at_ k c s e1 e2)) upd_same)
  rintro σ H2 ⟨us,⟨o,rfl⟩,hL,sm⟩
  refine ⟨_,rfl,F,_,rfl,.inl ⟨SqL.of hL.lst,fun u hu=>?_⟩⟩
  have su:=same_new hu (.tup (us.map V.ref))
  exact q u us _ (sm.trans su) ⟨upd_same,hL.len,fun k c s e1 e2=>su _ _ (hL.at_ k c s e1 e2)⟩
end
theorem scCommonWords:FnScope ["one", "other"] ["one", "other"] (defScope sCommonWords):=fs
theorem okC_of {b:Bool} {ws:List Str} (c:Can (.wrd b ws)) (h:ws.length ≤ 120):okC (.wrd b ws):=⟨h,c⟩
theorem wrd_ft {ws vs:List Str}:cmn (.wrd false ws) (.wrd true vs) = .wrd true (vs.filter fun x=>hasV (.wrd false ws) (.str x)):=rfl
theorem wrd_t {ws:List Str} {S:CSet}:cmn (.wrd true ws) S = .wrd true (ws.filter fun x=>hasV S (.str x)):=by cases S <;> rfl
theorem wrd_ff {ws vs:List Str}:cmn (.wrd false ws) (.wrd false vs) = .wrd false (uni ws vs):=rfl
def spCW:Sp:=fun vs H Q _=>∃ (a:Addr) (b:Bool) (ws:List Str) (a':Addr) (b':Bool) (ws':List Str),vs = [.ref a,.ref a']∧SetAt H a (.wrd b ws)∧SetAt H a' (.wrd b' ws')∧Can (.wrd b ws)∧Can (.wrd b' ws')∧ws.length + ws'.length ≤ 120∧∀ u H',Same H H'→SetAt H' u (cmn (.wrd b ws) (.wrd b' ws'))→Q (.ref u) H'
theorem comp_has {K:PySem.W.Frag} {H:Hp} {Q:VK} {t o D:Addr} {ws:List Str} {S:CSet} (ht:H t = some (.tup (ws.map V.str))) (hs:SetAt H o S) (ok:okC S) (hl:ws.length ≤ 120) (hD:H D = none)
    (q:∀ H',Same H H'→H' D = some (.lst ((ws.filter fun x=>hasV S (.str x)).map V.str))→Q (.ref D) H') :
    ∃ W:Nat→Nat→St→List V→Hp→Prop,(∃ m,W 0 m [none,some (.ref o)] [] (upd H D (.lst [])))∧compW (Itt K t) (gName 0) (tB (tCall spHas [] E0 (tCons (tVar 1) (tCons (tVar 0) tNil)))) (tVar 0) D Q W:=by
  refine comp_tup (xs:=ws.map V.str) (fun i σ ys H'=>(∃ x,σ = [x,some (.ref o)])∧ys = ((ws.take i).filter fun x=>hasV S (.str x)).map V.str∧H' D = some (.lst ys)∧Same H H') ⟨⟨none,rfl⟩,rfl,upd_same,same_new hD _⟩ ?_ ?_ ?_ ?_ ?_
  · rintro i σ ys H' _ ⟨_,rfl,h,_⟩
    refine ⟨h,?_⟩
    rw [List.length_map]
    exact Nat.le_trans (List.length_filter_le _ _) (by rw [List.length_take]; exact Nat.min_le_left _ _)
  · rintro i σ ys H' _ ⟨_,_,_,sm⟩
    exact SqT.of (sm _ _ ht)
  · rw [List.length_map]
    exact Nat.le_trans hl (by decide)
  · rintro i x σ ys H' hx ⟨⟨z,rfl⟩,rfl,h,sm⟩
    rw [List.getElem?_map] at hx
    cases e:ws[i]? with
    | none=>rw [e] at hx; cases hx
    | some y =>
      rw [e] at hx
      have hx':V.str y = x:=Option.some.inj hx
      subst hx'
      have et:(ws.take (i + 1)).filter (fun x=>hasV S (.str x)) = (ws.take i).filter (fun x=>hasV S (.str x)) ++ (if hasV S (.str y) = true then [y] else []):=by
        rw [List.take_add_one,e,List.filter_append]
        congr 1
        show List.filter _ [y] = _
        rw [List.filter_cons]
        split <;> rfl
      refine ⟨_,rfl,_,rfl,o,S,_,rfl,hs.same sm,ok,.inr ⟨y,rfl⟩,fun H2 s2=>⟨_,rfl,?_⟩⟩
      refine ite2 (fun c=>?_) (fun c=>?_)
      · rw [if_pos c] at et
        refine ⟨_,rfl,s2 _ _ h,⟨_,rfl⟩,?_,upd_same,same_put hD (sm.trans s2)⟩
        rw [et,List.map_append]
        rfl
      · rw [if_neg c,List.append_nil] at et
        exact ⟨⟨_,rfl⟩,by rw [et],s2 _ _ h,sm.trans s2⟩
  · rintro σ ys H' ⟨_,rfl,h,sm⟩
    rw [List.length_map,List.take_length] at h
    exact q H' sm h
section
variable {P:Program} {w:World} {K:PySem.W.Frag} {mg:Str→Option Value} {base:Heap} {f g1 g2:Addr} {fd d1 d2:FuncData} {L:Nat}
theorem sorted_uni {ws vs:List Str} {zs:List V} (hw:ws.Pairwise ltS) (h:SortedOf (ws.map V.str ++ vs.map V.str) zs):zs = (uni ws vs).map V.str:=by
  rcases h with ⟨ns,ms,e1,e2,_,e4⟩ | ⟨ns,ms,e1,e2,e3,e4⟩
  · have h0:ws = []∧vs = []:=by
      cases ws with
      | nil =>
        cases vs with
        | nil=>exact ⟨rfl,rfl⟩
        | cons v r =>
          cases ns with
          | nil=>cases e1
          | cons n r=>cases e1
      | cons v r =>
        cases ns with
        | nil=>cases e1
        | cons n r=>cases e1
    obtain ⟨rfl,rfl⟩:=h0
    cases ns with
    | nil =>
      cases ms with
      | nil=>rw [e2]; rfl
      | cons m r=>exact absurd ((e4 m).mp List.mem_cons_self) (by simp)
    | cons n r=>cases e1
  · rw [e2]
    congr 1
    refine rise_ext e3 (uni_pw hw vs) fun x=>?_
    rw [e4,mem_uni]
    have:V.str x ∈ ns.map V.str ↔ V.str x ∈ ws.map V.str ++ vs.map V.str:=by rw [e1]
    simpa using this
theorem ok_cw (B:Blt mg) (B2:Blt2 mg) (F:FA K mg "common_words" sCommonWords) (G1:Cal CX0 P w K mg base 2 "has" ["told", "cell"] spHas) :
    Cal CX0 P w K mg base 3 "common_words" ["one", "other"] spCW:=by
  refine F.ok scCommonWords fun f cdv A outer s H vs Q E hr h=>?_
  obtain ⟨a,b,ws,a',b',ws',rfl,ha,ha',c,c',hz,q⟩:=h
  refine ⟨_,pss_cons (ps_if (pt_val (pe_ixt (pv 0) pe_int (fun _ _=>rfl))) (pss_one (ps_ret (pe_tup (pa_cons pe_str (pa_cons pe_bl (pa_cons
      (pe_callTy call_tuple_of rfl B.tuple PyProof.Rows.boot_tuple (pa_cons (pe_lcomp (N':=["word", "other"]) (src:=[none,some 1]) rfl (CompSc.ofB (by kernel_rfl)) (pi_tup (pe_ixt (pv 0) pe_int (fun _ _=>rfl))) (fun cl C s H fp=>pgl (i:=0))
        (tc:=tB (tCall spHas [] E0 (tCons (tVar 1) (tCons (tVar 0) tNil)))) (fun cl C s H fp=>pifs_one (pt_val (pe_cl G1 hr glc pass0 (pa_cons (pvf 1) (pa_cons (pvl 0) pa_nil))))) (fun cl C s H fp=>pvl 0)) pa_nil)) pa_nil)))))) pss_nil)
    (pss_cons (ps_if (pt_val (pe_ixt (pv 1) pe_int (fun _ _=>rfl))) (pss_one (ps_ret (pe_tup (pa_cons pe_str (pa_cons pe_bl (pa_cons
      (pe_callTy call_tuple_of rfl B.tuple PyProof.Rows.boot_tuple (pa_cons (pe_lcomp (N':=["word", "one"]) (src:=[none,some 0]) rfl (CompSc.ofB (by kernel_rfl)) (pi_tup (pe_ixt (pv 1) pe_int (fun _ _=>rfl))) (fun cl C s H fp=>pgl (i:=0))
        (tc:=tB (tCall spHas [] E0 (tCons (tVar 1) (tCons (tVar 0) tNil)))) (fun cl C s H fp=>pifs_one (pt_val (pe_cl G1 hr glc pass0 (pa_cons (pvf 1) (pa_cons (pvl 0) pa_nil))))) (fun cl C s H fp=>pvl 0)) pa_nil)) pa_nil)))))) pss_nil)
    (pss_one (ps_ret (pe_tup (pa_cons pe_str (pa_cons pe_bl (pa_cons
      (pe_callTy call_tuple_of rfl B.tuple PyProof.Rows.boot_tuple (pa_cons (pe_sortor rfl rfl B2.sorted rfl B2.set (pe_ixt (pv 0) pe_int (fun _ _=>rfl)) (pe_ixt (pv 1) pe_int (fun _ _=>rfl))) pa_nil)) pa_nil))))))),?_⟩
  obtain ⟨t,h1,h2⟩:=ha
  obtain ⟨t',h1',h2'⟩:=ha'
  have fin:∀ (bb:Bool) (us:List Str) (H1:Hp) (D:Addr),cmn (.wrd b ws) (.wrd b' ws') = .wrd bb us→Same H H1→H1 D = some (.lst (us.map V.str))→∀ u v:Addr,H1 u = none→upd H1 u (.tup (us.map V.str)) v = none→Q (.ref v) (upd (upd H1 u (.tup (us.map V.str))) v (.tup [.str "w", .bl bb,.ref u])):=fun bb us H1 D e sm hd u v hu hv=>by
    have s1:=same_new hu (.tup (us.map V.str))
    have s2:=same_new hv (.tup [.str "w", .bl bb,.ref u])
    refine q v _ (sm.trans (s1.trans s2)) ?_
    rw [e]
    exact ⟨u,upd_same,s2 _ _ upd_same⟩
  refine ⟨_,rfl,a,_,1,_,rfl,rfl,SqT.of h1,rfl,_,rfl,?_⟩
  cases b with
  | true =>
    refine iteT ⟨_,rfl,a,_,2,_,rfl,rfl,SqT.of h1,rfl,t,rfl,⟨_,SqT.of h2⟩,fun D hD=>?_⟩
    refine comp_has h2 (o:=a') (S:=.wrd b' ws') ⟨t',h1',h2'⟩ (okC_of c' (by omega)) (by omega) hD fun H1 sm hd=>?_
    refine ⟨D,_,rfl,.inl ⟨SqL.of hd,fun u hu=>⟨(by show 3 ≤ sizeLine; decide),fun v hv=>?_⟩⟩⟩
    exact fin true _ H1 D wrd_t sm hd u v hu hv
  | false =>
    refine iteF ⟨_,rfl,a',_,1,_,rfl,rfl,SqT.of h1',rfl,_,rfl,?_⟩
    cases b' with
    | true =>
      refine iteT ⟨_,rfl,a',_,2,_,rfl,rfl,SqT.of h1',rfl,t',rfl,⟨_,SqT.of h2'⟩,fun D hD=>?_⟩
      refine comp_has h2' (o:=a) (S:=.wrd false ws) ⟨t,h1,h2⟩ (okC_of c (by omega)) (by omega) hD fun H1 sm hd=>?_
      refine ⟨D,_,rfl,.inl ⟨SqL.of hd,fun u hu=>⟨(by show 3 ≤ sizeLine; decide),fun v hv=>?_⟩⟩⟩
      exact fin true _ H1 D wrd_ft sm hd u v hu hv
    | false =>
      refine iteF ⟨_,rfl,a,_,2,_,rfl,rfl,SqT.of h1,rfl,t,_,rfl,.inr (SqT.of h2),(by rw [List.length_map]; omega),(fun x hx=>?_),_,rfl,a',_,2,_,rfl,rfl,SqT.of h1',rfl,t',_,rfl,.inr (SqT.of h2'),(by rw [List.length_map,List.length_map]; omega),.inr ⟨ws ++ ws',by rw [List.map_append]⟩,fun D zs hD hz=>?_⟩
      · obtain ⟨y,_,rfl⟩:=List.mem_map.mp hx
        exact .inr ⟨y,rfl⟩
      · have ez:=sorted_uni c.1 hz
        subst ez
        refine ⟨D,_,rfl,.inl ⟨SqL.of upd_same,fun u hu=>⟨(by show 3 ≤ sizeLine; decide),fun v hv=>?_⟩⟩⟩
        exact fin false _ _ D wrd_ff (same_new hD _) upd_same u v hu hv
end
theorem scRestOf:FnScope ["told"] ["told"] (defScope sRestOf):=fs
theorem scCommon:FnScope ["one", "other"] ["one", "other"] (defScope sCommon):=fs
theorem scEither:FnScope ["one", "other"] ["one", "other"] (defScope sEither):=fs
theorem scLess:FnScope ["one", "other"] ["one", "other"] (defScope sLess):=fs
theorem scLiesIn:FnScope ["one", "other"] ["one", "other"] (defScope sLiesIn):=fs
structure CAt (H:Hp) (a:Addr) (A:CSet) (m k:Nat):Prop where
  at_:SetAt H a A
  can:Can A
  len:lenOk m k A
theorem CAt.same {H H':Hp} {a:Addr} {A:CSet} {m k:Nat} (s:Same H H') (h:CAt H a A m k):CAt H' a A m k:=⟨h.at_.same s,h.can,h.len⟩
def spRst:Sp:=fun vs H Q _=>∃ a A m k,vs = [.ref a]∧CAt H a A m k∧m ≤ 1000000∧∀ u H',Same H H'→CAt H' u (rst A) (m + 1) k→Q (.ref u) H'
def spCmn:Sp:=fun vs H Q _=>∃ a A m k a' A' m' k',vs = [.ref a,.ref a']∧CAt H a A m k∧CAt H a' A' m' k'∧isNum A = isNum A'∧m * m' ≤ 1000000∧k + k' ≤ 120∧∀ u H',Same H H'→CAt H' u (cmn A A') (m * m') (k + k')→Q (.ref u) H'
def spEi:Sp:=fun vs H Q _=>∃ a A m k a' A' m' k',vs = [.ref a,.ref a']∧CAt H a A m k∧CAt H a' A' m' k'∧isNum A = isNum A'∧m ≤ 1000000∧m' ≤ 1000000∧(m + 1) * (m' + 1) ≤ 1000000∧k + k' ≤ 120∧∀ u H',Same H H'→CAt H' u (ei A A') ((m + 1) * (m' + 1) + 1) (k + k')→Q (.ref u) H'
def spLss:Sp:=fun vs H Q _=>∃ a A m k a' A' m' k',vs = [.ref a,.ref a']∧CAt H a A m k∧CAt H a' A' m' k'∧isNum A = isNum A'∧m' ≤ 1000000∧m * (m' + 1) ≤ 1000000∧k + k' ≤ 120∧∀ u H',Same H H'→CAt H' u (lss A A') (m * (m' + 1)) (k + k')→Q (.ref u) H'
def spLies:Sp:=fun vs H Q _=>∃ a A m k a' A' m' k',vs = [.ref a,.ref a']∧CAt H a A m k∧CAt H a' A' m' k'∧isNum A = isNum A'∧m' ≤ 1000000∧m * (m' + 1) ≤ 1000000∧k + k' ≤ 120∧∀ H',Same H H'→Q (.bl (noneB (lss A A'))) H'
section
variable {P:Program} {w:World} {K:PySem.W.Frag} {mg:Str→Option Value} {base:Heap} {f g1 g2:Addr} {fd d1 d2:FuncData} {L:Nat}
theorem ok_rst (F:FA K mg "rest_of" sRestOf) (G1:Cal CX0 P w K mg base 1 "gaps" ["spans"] spGaps) :
    Cal CX0 P w K mg base 2 "rest_of" ["told"] spRst:=by
  refine F.ok scRestOf fun f cdv A outer s H vs Q E hr h=>?_
  obtain ⟨a,A,m,k,rfl,hA,hm,q⟩:=h
  refine ⟨_,pss_cons (ps_if (pt_cmpR op_eq (pe_ixt (pv 0) pe_int (fun _ _=>rfl)) pe_str (nomark _)) (pss_one (ps_ret (pe_tup (pa_cons pe_str (pa_cons (pe_cl G1 hr rfl pass0 (pa_cons (pe_ixt (pv 0) pe_int (fun _ _=>rfl)) pa_nil)) pa_nil))))) pss_nil)
    (pss_one (ps_ret (pe_tup (pa_cons pe_str (pa_cons (pe_not (pe_ixt (pv 0) pe_int (fun _ _=>rfl))) (pa_cons (pe_ixt (pv 0) pe_int (fun _ _=>rfl)) pa_nil)))))),?_⟩
  have hc:=can_rst hA.can
  have hl:=len_rst hA.len
  cases A with
  | num x =>
    obtain ⟨t,as,h1,h2⟩:=hA.at_
    refine ⟨_,rfl,a,_,0,_,rfl,rfl,SqT.of h1,rfl,rfl,_,rfl,?_⟩
    refine ite2 (fun _=>?_) (fun c=>absurd (decide_eq_true rfl) c)
    refine ⟨_,rfl,a,_,1,_,rfl,rfl,SqT.of h1,rfl,t,as,x,rfl,h2,hA.can,Nat.le_trans hA.len hm,fun u us H1 s1 hu=>⟨(by show 2 ≤ sizeLine; decide),fun v hv=>?_⟩⟩
    have s2:=same_new hv (.tup [.str "n", .ref u])
    exact q v _ (s1.trans s2) ⟨⟨u,us,upd_same,hu.same s2⟩,hc,hl⟩
  | wrd b ws =>
    obtain ⟨t,h1,h2⟩:=hA.at_
    refine ⟨_,rfl,a,_,0,_,rfl,rfl,SqT.of h1,rfl,rfl,_,rfl,?_⟩
    refine ite2 (fun c=>absurd c (by decide)) (fun c=>?_)
    refine ⟨_,rfl,a,_,1,_,rfl,rfl,SqT.of h1,rfl,_,rfl,_,rfl,a,_,2,_,rfl,rfl,SqT.of h1,rfl,(by show 3 ≤ sizeLine; decide),fun v hv=>?_⟩
    have s2:=same_new hv (.tup [.str "w", .bl (!b),.ref t])
    exact q v _ s2 ⟨⟨t,upd_same,s2 _ _ h2⟩,hc,hl⟩
theorem ok_cmn (F:FA K mg "common" sCommon) (G1:Cal CX0 P w K mg base 2 "common_spans" ["ones", "others"] spCS) (G2:Cal CX0 P w K mg base 3 "common_words" ["one", "other"] spCW) :
    Cal CX0 P w K mg base 4 "common" ["one", "other"] spCmn:=by
  refine F.ok scCommon fun f cdv A outer s H vs Q E hr h=>?_
  obtain ⟨a,A,m,k,a',A',m',k',rfl,hA,hA',hs,hm,hk,q⟩:=h
  refine ⟨_,pss_cons (ps_if (pt_cmpR op_eq (pe_ixt (pv 0) pe_int (fun _ _=>rfl)) pe_str (nomark _)) (pss_one (ps_ret (pe_tup (pa_cons pe_str (pa_cons (pe_cl G1 hr rfl pass0 (pa_cons (pe_ixt (pv 0) pe_int (fun _ _=>rfl)) (pa_cons (pe_ixt (pv 1) pe_int (fun _ _=>rfl)) pa_nil))) pa_nil))))) pss_nil)
    (pss_one (ps_ret (pe_cl G2 hr rfl pass0 (pa_cons (pv 0) (pa_cons (pv 1) pa_nil))))),?_⟩
  have hc:=can_cmn' hs hA.can hA'.can
  have hl:=len_cmn hs hA.len hA'.len
  cases A with
  | num x =>
    cases A' with
    | wrd b y=>cases hs
    | num y =>
      obtain ⟨t,as,h1,h2⟩:=hA.at_
      obtain ⟨t',as',h1',h2'⟩:=hA'.at_
      refine ⟨_,rfl,a,_,0,_,rfl,rfl,SqT.of h1,rfl,rfl,_,rfl,?_⟩
      refine ite2 (fun _=>?_) (fun c=>absurd (decide_eq_true rfl) c)
      refine ⟨_,rfl,a,_,1,_,rfl,rfl,SqT.of h1,rfl,_,rfl,a',_,1,_,rfl,rfl,SqT.of h1',rfl,t,as,x,t',as',y,rfl,h2,h2',Nat.le_trans (Nat.mul_le_mul hA.len hA'.len) hm,fun u us H1 s1 hu=>⟨(by show 2 ≤ sizeLine; decide),fun v hv=>?_⟩⟩
      have s2:=same_new hv (.tup [.str "n", .ref u])
      exact q v _ (s1.trans s2) ⟨⟨u,us,upd_same,hu.same s2⟩,hc,hl⟩
  | wrd b x =>
    cases A' with
    | num y=>cases hs
    | wrd b' y =>
      obtain ⟨t,h1,h2⟩:=hA.at_
      refine ⟨_,rfl,a,_,0,_,rfl,rfl,SqT.of h1,rfl,rfl,_,rfl,?_⟩
      refine ite2 (fun c=>absurd c (by decide)) (fun c=>?_)
      exact ⟨_,rfl,_,rfl,a,b,x,a',b',y,rfl,hA.at_,hA'.at_,hA.can,hA'.can,Nat.le_trans (Nat.add_le_add hA.len hA'.len) hk,fun u H1 s1 hu=>q u H1 s1 ⟨hu,hc,hl⟩⟩
theorem ok_ei (F:FA K mg "either" sEither) (G1:Cal CX0 P w K mg base 2 "rest_of" ["told"] spRst) (G2:Cal CX0 P w K mg base 4 "common" ["one", "other"] spCmn) :
    Cal CX0 P w K mg base 5 "either" ["one", "other"] spEi:=by
  refine F.ok scEither fun f cdv A outer s H vs Q E hr h=>?_
  obtain ⟨a,A,m,k,a',A',m',k',rfl,hA,hA',hs,hm1,hm2,hm,hk,q⟩:=h
  refine ⟨_,pss_one (ps_ret (pe_cl G1 hr rfl pass0 (pa_cons (pe_cl G2 hr rfl pass0 (pa_cons (pe_cl G1 hr rfl pass0 (pa_cons (pv 0) pa_nil)) (pa_cons (pe_cl G1 hr rfl pass0 (pa_cons (pv 1) pa_nil)) pa_nil))) pa_nil))),?_⟩
  refine ⟨_,rfl,a,A,m,k,rfl,hA,hm1,fun u1 H1 s1 c1=>⟨_,rfl,a',A',m',k',rfl,hA'.same s1,hm2,fun u2 H2 s2 c2=>?_⟩⟩
  refine ⟨u1,rst A,_,_,u2,rst A',_,_,rfl,c1.same s2,c2,by rw [num_rst,num_rst]; exact hs,hm,hk,fun u3 H3 s3 c3=>?_⟩
  exact ⟨u3,_,_,_,rfl,c3,hm,fun u4 H4 s4 c4=>q u4 H4 (s1.trans (s2.trans (s3.trans s4))) c4⟩
theorem ok_lss (F:FA K mg "less" sLess) (G1:Cal CX0 P w K mg base 2 "rest_of" ["told"] spRst) (G2:Cal CX0 P w K mg base 4 "common" ["one", "other"] spCmn) :
    Cal CX0 P w K mg base 5 "less" ["one", "other"] spLss:=by
  refine F.ok scLess fun f cdv A outer s H vs Q E hr h=>?_
  obtain ⟨a,A,m,k,a',A',m',k',rfl,hA,hA',hs,hm2,hm,hk,q⟩:=h
  refine ⟨_,pss_one (ps_ret (pe_cl G2 hr rfl pass0 (pa_cons (pv 0) (pa_cons (pe_cl G1 hr rfl pass0 (pa_cons (pv 1) pa_nil)) pa_nil)))),?_⟩
  refine ⟨_,rfl,_,rfl,a',A',m',k',rfl,hA',hm2,fun u2 H2 s2 c2=>?_⟩
  exact ⟨a,A,_,_,u2,rst A',_,_,rfl,hA.same s2,c2,by rw [num_rst]; exact hs,hm,hk,fun u3 H3 s3 c3=>q u3 H3 (s2.trans s3) c3⟩
theorem ok_lies (F:FA K mg "lies_in" sLiesIn) (G1:Cal CX0 P w K mg base 1 "is_none" ["told"] spIsNone) (G2:Cal CX0 P w K mg base 5 "less" ["one", "other"] spLss) :
    Cal CX0 P w K mg base 6 "lies_in" ["one", "other"] spLies:=by
  refine F.ok scLiesIn fun f cdv A outer s H vs Q E hr h=>?_
  obtain ⟨a,A,m,k,a',A',m',k',rfl,hA,hA',hs,hm2,hm,hk,q⟩:=h
  refine ⟨_,pss_one (ps_ret (pe_cl G1 hr rfl pass0 (pa_cons (pe_cl G2 hr rfl pass0 (pa_cons (pv 0) (pa_cons (pv 1) pa_nil))) pa_nil))),?_⟩
  refine ⟨_,rfl,_,rfl,a,A,_,_,a',A',_,_,rfl,hA,hA',hs,hm2,hm,hk,fun u H1 s1 c1=>?_⟩
  exact ⟨u,_,rfl,c1.at_,q H1 s1⟩
end
end My
namespace L2
open PySem
def rNil (neg:Bool):R2:=fun x y H Q=>∃ a b xs,x = .ref a∧y = .ref b∧H a = some (.lst xs)∧H b = some (.lst [])∧Q (.bl (if neg then !xs.isEmpty else xs.isEmpty)) H
theorem op_neNil {X:Cx} (hu:X.A.units + 8 < cLine):OpR X (compareOp .NotEq) (rNil true):=by
  intro pins s σ H x y v u Q I rx ry h
  obtain ⟨a,b,xs,rfl,rfl,ha,hb,q⟩:=h
  cases xs with
  | nil =>
    refine op_neD pins s σ H _ _ v u Q I rx ry ⟨.lst [],.lst [],dat_lst ha DsAt.nil,dat_lst hb DsAt.nil,?_,?_⟩
    · have:(D.lst []).depth ≤ 8:=by simp [D.depth,depths]
      omega
    · have e:eqD (.lst []) (.lst []) = true:=eqD_self _
      rw [e]; exact q
  | cons z zs=>exact op_neLen (by omega) pins s σ H _ _ v u Q I rx ry ⟨a,b,_,_,rfl,rfl,SqL.of ha,SqL.of hb,by simp,q⟩
def rCatH:R2:=fun x y H Q=>∃ a b xs ys,x = .ref a∧y = .ref b∧H a = some (.tup xs)∧H b = some (.tup ys)∧xs.length + ys.length ≤ sizeLine∧∀ t H',Same H H'→H' t = some (.tup (xs ++ ys))→Q (.ref t) H'
theorem op_catH {X:Cx}:OpR X (binaryOp .Add) rCatH:=by
  intro pins s σ H x y v u Q I rx ry h
  obtain ⟨a,b,xs,ys,rfl,rfl,ha,hb,hz,q⟩:=h
  by_cases hx:xs = []
  · subst hx
    exact op_catT0 pins s σ H _ _ v u Q I rx ry ⟨a,b,ys,rfl,rfl,SqT.of ha,SqT.of hb,q b H (Same.refl _) hb⟩
  · exact op_catT pins s σ H _ _ v u Q I rx ry ⟨a,b,xs,ys,rfl,rfl,SqT.of ha,SqT.of hb,hx,hz,fun z=>q a H (Same.refl _) (by rw [z,List.append_nil]; exact ha),fun _ p hp=>q p _ (fun b' u' e=>by rw [upd_ne (ne_of_none e hp)]; exact e) upd_same⟩
end L2
namespace My
open PySem L2 CS
def tru (n:Int) (a b:Bool):Bool:=if n = 0 then a && b else if n = 1 then a || b else a && !b
theorem andV {σ:St} {H:Hp} {Q:VK} {i j:Nat} {a b:Bool} (e1:σ[i]? = some (some (.bl a))) (e2:σ[j]? = some (some (.bl b))) (q:Q (.bl (a && b)) H):tAndV (tVar i) (tVar j) σ H Q:=by
  refine ⟨_,e1,a,rfl,?_⟩
  cases a
  · exact iteF q
  · exact iteT ⟨_,e2,q⟩
theorem orV {σ:St} {H:Hp} {Q:VK} {i j:Nat} {a b:Bool} (e1:σ[i]? = some (some (.bl a))) (e2:σ[j]? = some (some (.bl b))) (q:Q (.bl (a || b)) H):tOrV (tVar i) (tVar j) σ H Q:=by
  refine ⟨_,e1,a,rfl,?_⟩
  cases a
  · exact iteF ⟨_,e2,q⟩
  · exact iteT q
theorem andN {σ:St} {H:Hp} {Q:VK} {i j:Nat} {a b:Bool} (e1:σ[i]? = some (some (.bl a))) (e2:σ[j]? = some (some (.bl b))) (q:Q (.bl (a && !b)) H):tAndV (tVar i) (tNotV (tVar j)) σ H Q:=by
  refine ⟨_,e1,a,rfl,?_⟩
  cases a
  · exact iteF q
  · exact iteT ⟨_,e2,b,rfl,q⟩
def spTruth:Sp:=fun vs H Q _=>∃ (n:Int) (a b:Bool),vs = [.int n,.bl a,.bl b]∧0 ≤ n∧n < 3∧∀ H',Same H H'→Q (.bl (tru n a b)) H'
abbrev s__law_truth:Stmt:=top 28
theorem sc__law_truth:FnScope ["_law_way", "_law_here", "_law_there"] ["_law_way", "_law_here", "_law_there"] (defScope s__law_truth):=fs
variable {P:Program} {w:World} {K:PySem.W.Frag} {mg:Str→Option Value} {base:Heap}
theorem ok_truth (F:FA K mg "_law_truth" s__law_truth)  :
    Cal CX0 P w K mg base 1 "_law_truth" ["_law_way", "_law_here", "_law_there"] spTruth:=by
  refine F.ok sc__law_truth fun f cdv A outer s H vs Q E hr h=>?_
  obtain ⟨n,a,b,rfl,h0,h1,q⟩:=h
  refine ⟨_,(pss_ret (pe_xL K (pe_lst (pa_cons (pe_and (pv 1) (pe_one (pv 2))) (pa_cons (pe_or (pv 1) (pe_one (pv 2))) (pa_cons (pe_and (pv 1) (pe_one (pe_not (pv 2)))) pa_nil)))) (pv 0))),?_⟩
  have fin:atI [V.bl (a && b),V.bl (a || b),V.bl (a && !b)] n = some (.bl (tru n a b)):=by
    have:n = 0∨n = 1∨n = 2:=by omega
    rcases this with rfl | rfl | rfl <;> rfl
  refine andV rfl rfl (orV rfl rfl (andN rfl rfl ⟨szl3,fun l hl=>⟨_,rfl,l,_,_,_,rfl,rfl,SqL.of upd_same,fin,q _ (same_new hl _)⟩⟩))
theorem rd_le {σ:St} {H:Hp} {Q:Bool→Hp→Prop} {i k:Nat} {l:Option Int} {n:Int} (e1:σ[i]? = some (some (eV l))) (e2:σ[k]? = some (some (.int n))) (q:Q (l.all fun l=>decide (l ≤ n)) H) :
    tOr (tTest (tOp (fun x y H Q=>y = V.non∧Q (V.bl (decide (x = V.non))) H) (tVar i) (tC V.non))) (tTest (tOp (rI0 fun i j=>V.bl (decide (i ≤ j))) (tVar i) (tVar k))) σ H Q:=by
  refine ⟨_,e1,rfl,_,rfl,?_⟩
  cases l with
  | none=>exact iteT q
  | some l=>exact iteF ⟨_,e1,_,e2,_,_,rfl,rfl,_,rfl,q⟩
theorem rd_ge {σ:St} {H:Hp} {Q:Bool→Hp→Prop} {i k:Nat} {l:Option Int} {n:Int} (e1:σ[i]? = some (some (eV l))) (e2:σ[k]? = some (some (.int n))) (q:Q (l.all fun l=>decide (n ≤ l)) H) :
    tOr (tTest (tOp (fun x y H Q=>y = V.non∧Q (V.bl (decide (x = V.non))) H) (tVar i) (tC V.non))) (tTest (tOp (rI0 fun i j=>V.bl (decide (i ≤ j))) (tVar k) (tVar i))) σ H Q:=by
  refine ⟨_,e1,rfl,_,rfl,?_⟩
  cases l with
  | none=>exact iteT q
  | some l=>exact iteF ⟨_,e2,_,e1,_,_,rfl,rfl,_,rfl,q⟩
def spIn:Sp:=fun vs H Q _=>∃ (a:Addr) (sps:List Spn) (n:Int),vs = [.ref a,.int n]∧SetAt H a (.num sps)∧Q (.bl (hasS sps n)) H
abbrev s__law_in:Stmt:=top 27
theorem sc__law_in:FnScope ["_law_tale", "_law_number_here", "_law_low", "_law_high"] ["_law_tale", "_law_number_here"] (defScope s__law_in):=fs
theorem ok_in (F:FA K mg "_law_in" s__law_in)  :
    Cal CX0 P w K mg base 1 "_law_in" ["_law_tale", "_law_number_here"] spIn:=by
  refine F.ok sc__law_in fun f cdv A outer s H vs Q E hr h=>?_
  obtain ⟨a,sps,n,rfl,ha,q⟩:=h
  refine ⟨_,(pss_cons (ps_for PassesOwn.never rfl (pi_tup (pe_xT K (pv 0) pe_int)) (pg_tup rfl (pgs_cons (pg_name (i:=2) sc__law_in.nd rfl (Or.inl rfl)) (pgs_cons (pg_name (i:=3) sc__law_in.nd rfl (Or.inl rfl)) pgs_nil)))
        (pss_one (ps_if (PW.pt (pw_and (PW.pt (pw_or (pt_cC op_isN (pv 2) pe_non) (pw_or1 (pt_cC op_le (pv 2) (pv 1))))) (pw_and1 (PW.pt (pw_or (pt_cC op_isN (pv 3) pe_non) (pw_or1 (pt_cC op_le (pv 1) (pv 3))))))))
            (pss_ret pe_bl)
            pss_nil)))
      (pss_ret pe_bl)),?_⟩
  obtain ⟨t,as,h1,h2⟩:=ha
  refine ⟨_,rfl,a,_,1,_,rfl,rfl,SqT.of h1,rfl,t,rfl,⟨_,SqT.of h2.tup⟩,?_⟩
  refine for_tup (xs:=as.map V.ref) (fun i σ H'=>(∃ o1 o2,σ = [some (.ref a),some (.int n),o1,o2])∧H' = H∧∀ s ∈ sps.take i,inSp s n = false) ⟨⟨none,none,rfl⟩,rfl,by simp⟩ ?_ ?_ ?_
  · rintro i σ H' _ ⟨_,rfl,_⟩
    exact SqT.of h2.tup
  · rintro i x σ H' hx ⟨⟨o1,o2,rfl⟩,rfl,hall⟩
    obtain ⟨b,sp,rfl,es,hb⟩:=spans_at h2 hx
    refine ⟨b,_,rfl,SqT.of hb,rfl,_,_,rfl,_,_,rfl,rfl,?_⟩
    refine rd_le (l:=sp.1) (n:=n) rfl rfl ?_
    have ein:inSp sp n = ((sp.1.all fun l=>decide (l ≤ n)) && sp.2.all fun h=>decide (n ≤ h)):=rfl
    have yes:inSp sp n = true→Q (.bl true) H':=fun e=>by
      have:hasS sps n = true:=List.any_eq_true.mpr ⟨sp,List.mem_of_getElem? es,e⟩
      rw [← this]; exact q
    have no:inSp sp n = false→∀ s ∈ sps.take (i + 1),inSp s n = false:=fun e s hs=>by
      rw [take_one es] at hs
      rcases List.mem_append.mp hs with z | z
      · exact hall s z
      · rw [List.mem_singleton.mp z]; exact e
    cases e1:sp.1.all fun l=>decide (l ≤ n) with
    | false =>
      rw [e1,Bool.false_and] at ein
      exact iteF (iteF ⟨⟨_,_,rfl⟩,rfl,no ein⟩)
    | true =>
      refine iteT (rd_ge (l:=sp.2) (n:=n) rfl rfl ?_)
      rw [e1,Bool.true_and] at ein
      cases e2:sp.2.all fun h=>decide (n ≤ h) with
      | false=>exact iteF ⟨⟨_,_,rfl⟩,rfl,no (ein.trans e2)⟩
      | true=>exact iteT (yes (ein.trans e2))
  · rintro σ H' ⟨_,rfl,hall⟩
    have:hasS sps n = false:=by
      rw [List.length_map,h2.len,List.take_length] at hall
      refine Bool.eq_false_iff.mpr fun e=>?_
      obtain ⟨s,hs,e2⟩:=List.any_eq_true.mp e
      rw [hall s hs] at e2
      cases e2
    rw [this] at q
    exact q
def endsS (sps:List Spn):List Int:=sps.flatMap fun s=>s.1.toList ++ s.2.toList
def spEnds:Sp:=fun vs H Q _=>∃ (a:Addr) (sps:List Spn),vs = [.ref a]∧SetAt H a (.num sps)∧sps.length ≤ 40∧∀ (l:Addr) H',Same H H'→H l = none→H' l = some (.lst ((endsS sps).map V.int))→Q (.ref l) H'
theorem ends_len (sps:List Spn):(endsS sps).length ≤ 2 * sps.length:=by
  induction sps with
  | nil=>exact Nat.le_refl _
  | cons s r ih =>
    obtain ⟨a,b⟩:=s
    have e:endsS ((a,b) :: r) = (a.toList ++ b.toList) ++ endsS r:=rfl
    rw [e,List.length_append,List.length_append,List.length_cons]
    cases a <;> cases b <;> simp only [Option.toList_none,Option.toList_some,List.length_nil,List.length_cons] <;> omega
theorem ends_snoc {sps:List Spn} {i:Nat} {s:Spn} (e:sps[i]? = some s):endsS (sps.take (i + 1)) = endsS (sps.take i) ++ (s.1.toList ++ s.2.toList):=by
  unfold endsS
  rw [take_one e,List.flatMap_append]; simp
def notN:V→Bool
  | .non=>false
  | _=>true
theorem filt_ends (s:Spn):[eV s.1,eV s.2].filter notN = (s.1.toList ++ s.2.toList).map V.int:=by
  obtain ⟨a,b⟩:=s
  cases a <;> cases b <;> rfl
abbrev s__law_ends:Stmt:=top 25
theorem sc__law_ends:FnScope ["_law_tale", "_law_found", "_law_span"] ["_law_tale"] (defScope s__law_ends):=fs
theorem ok_ends (F:FA K mg "_law_ends" s__law_ends)  :
    Cal CX0 P w K mg base 1 "_law_ends" ["_law_tale"] spEnds:=by
  refine F.ok sc__law_ends fun f cdv A outer s H vs Q E hr h=>?_
  obtain ⟨a,sps,rfl,ha,hn,q⟩:=h
  refine ⟨_,(pss_cons (ps_set (i:=1) sc__law_ends.nd rfl (Or.inl rfl) (pe_lst pa_nil))
      (pss_cons (ps_for PassesOwn.never rfl (pi_tup (pe_xT K (pv 0) pe_int)) (pg_name (i:=2) sc__law_ends.nd rfl (Or.inl rfl))
        (pss_one (ps_set (i:=1) sc__law_ends.nd rfl (Or.inl rfl) (pe_op op_cat (pv 1) (pe_lcomp (N':=["_law_end"]) (src:=[none]) rfl (CompSc.ofB (by kernel_rfl)) (pi_tup (pv 2)) (fun cl C s H fp=>(pgl (i:=0))) (tc:=(tTest (tOp (fun x y H Q=>y = .non∧Q (.bl (!decide (x = .non))) H) (tVar 0) (tC .non)))) (fun cl C s H fp=>pifs_one (pt_cC op_notN (pvl 0) pe_non)) (te:=(tVar 0)) (fun cl C s H fp=>(pvl 0)))))))
      (pss_ret (pv 1)))),?_⟩
  obtain ⟨t,as,h1,h2⟩:=ha
  refine ⟨szl0,fun F hF=>?_⟩
  refine gName_go ?_
  dsimp only
  have s0:=same_new hF (.lst [])
  refine ⟨_,rfl,a,_,1,_,rfl,rfl,SqT.of (s0 _ _ h1),rfl,t,rfl,⟨_,SqT.of (s0 _ _ h2.tup)⟩,?_⟩
  refine for_tup (xs:=as.map V.ref) (fun i σ H'=>∃ l,(∃ o1,σ = [some (.ref a),some (.ref l),o1])∧H l = none∧H' l = some (.lst ((endsS (sps.take i)).map V.int))∧Same H H') ⟨F,⟨none,rfl⟩,hF,upd_same,s0⟩ ?_ ?_ ?_
  · rintro i σ H' _ ⟨_,_,_,_,sm⟩
    exact SqT.of (sm _ _ h2.tup)
  · rintro i x σ H' hx ⟨l,⟨o1,rfl⟩,hl0,hl,sm⟩
    obtain ⟨b,sp,rfl,es,hb⟩:=spans_at h2 hx
    refine gName_go ?_
    dsimp only
    have hb':=sm _ _ hb
    refine ⟨_,rfl,_,rfl,b,rfl,⟨_,SqT.of hb'⟩,fun D hD=>?_⟩
    have sD:=same_new hD (.lst [])
    refine comp_tup (xs:=[eV sp.1,eV sp.2]) (fun i σ ys H2=>(∃ o,σ = [o])∧ys = ([eV sp.1,eV sp.2].take i).filter notN∧H2 D = some (.lst ys)∧Same H' H2) ⟨⟨none,rfl⟩,rfl,upd_same,sD⟩ ?_ ?_ ?_ ?_ ?_
    · rintro i σ ys H2 _ ⟨_,rfl,h,_⟩
      exact ⟨h,Nat.le_trans (List.length_filter_le _ _) (by rw [List.length_take]; exact Nat.min_le_left _ _)⟩
    · rintro i σ ys H2 _ ⟨_,_,_,sm2⟩
      exact SqT.of (sm2 _ _ hb')
    · exact szl2
    · rintro i x σ ys H2 hx ⟨⟨o,rfl⟩,rfl,h,sm2⟩
      refine gName_go ⟨_,rfl,rfl,_,rfl,?_⟩
      have en:(!decide (x = V.non)) = notN x:=by cases x <;> simp [notN]
      rw [en]
      have et:([eV sp.1,eV sp.2].take (i + 1)).filter notN = ([eV sp.1,eV sp.2].take i).filter notN ++ if notN x = true then [x] else []:=by
        rw [take_one hx,List.filter_append,List.filter_cons]; rfl
      refine ite2 (fun c=>?_) fun c=>?_
      · rw [if_pos c] at et
        exact ⟨_,rfl,h,⟨_,rfl⟩,et.symm,upd_same,sam_put sm2 hD⟩
      · rw [if_neg c,List.append_nil] at et
        exact ⟨⟨_,rfl⟩,et.symm,h,sm2⟩
    · rintro σ ys H2 ⟨_,rfl,h,sm2⟩
      rw [List.take_of_length_le (Nat.le_refl _),filt_ends] at h
      have hl2:=sm2 _ _ hl
      refine ⟨l,D,_,_,rfl,rfl,hl2,h,?_,fun p hp=>?_⟩
      · rw [List.length_map,List.length_map]
        have q1:=ends_len (sps.take i)
        have q2:(sp.1.toList ++ sp.2.toList).length ≤ 2:=by
          rw [List.length_append]
          have z:∀ o:Option Int,o.toList.length ≤ 1:=fun o=>by cases o <;> simp
          have:=z sp.1
          have:=z sp.2
          omega
        rw [List.length_take] at q1
        exact Nat.le_trans (show _ ≤ 1000 by omega) (by decide)
      · refine gName_go ⟨p,⟨_,rfl⟩,sm.free (sm2.free hp),?_,(sm.trans sm2).trans (same_new hp _)⟩
        rw [upd_same,ends_snoc es,List.map_append (l₁:=endsS _)]
  · rintro σ H' ⟨l,⟨o1,rfl⟩,hl0,hl,sm⟩
    rw [List.length_map,h2.len,List.take_length] at hl
    exact ⟨_,rfl,q l H' sm hl0 hl⟩
def spBeside:Sp:=fun vs H Q _=>∃ (p l:Addr) (ns:List Int),vs = [.ref p,.ref l]∧PotAt H p∧l ≠ p∧H l = some (.lst (ns.map V.int))∧ns ≠ []∧ns.length ≤ 900∧∀ (n:Int) H',Grow p H H'→-(10 ^ 60) < n→n < 10 ^ 60→Q (.int n) H'
theorem log_small {m:Int} (h0:0 < m) (h1:m ≤ 1000):m.natAbs.log2 < 9000:=Nat.lt_of_le_of_lt (Nat.log2_le_self _) (by omega)
abbrev s__law_beside:Stmt:=top 22
theorem sc__law_beside:FnScope ["_law_pot_here", "_law_near", "_law_number_here"] ["_law_pot_here", "_law_near"] (defScope s__law_beside):=fs
theorem ok_beside (B:Blt mg) (B2:Blt2 mg) (F:FA K mg "_law_beside" s__law_beside) 
    (G__law_draw:Cal CX0 P w K mg base 1 "_law_draw" ["_law_pot_here", "_law_many"] spDraw) :
    Cal CX0 P w K mg base 2 "_law_beside" ["_law_pot_here", "_law_near"] spBeside:=by
  refine F.ok sc__law_beside fun f cdv A outer s H vs Q E hr h=>?_
  obtain ⟨p,l,ns,rfl,hP,nl,hl,ne,hn,q⟩:=h
  refine ⟨_,(pss_cons (ps_set (i:=2) sc__law_beside.nd rfl (Or.inl rfl) (pe_op op_sub (pe_op op_add (pe_xL K (pv 1) (pe_c0 G__law_draw hr (pa_cons (pv 0) (pa_cons (pe_callB call_len_seq rfl B.len PySem.boot_len (pa_cons (pv 1) pa_nil)) pa_nil)))) (pe_c0 G__law_draw hr (pa_cons (pv 0) (pa_cons pe_int pa_nil)))) pe_int))
      (pss_ret (pe_callB (call_max2 rfl) rfl B.max PyProof.Rows.boot_max (pa_cons (pe_op op_sub pe_int (pe_op op_pow pe_int pe_int)) (pa_cons (pe_callB (call_min2 rfl) rfl B2.min PyProof.Rows.boot_min (pa_cons (pe_op op_sub (pe_op op_pow pe_int pe_int) pe_int) (pa_cons (pv 2) pa_nil))) pa_nil))))),?_⟩
  have hl1:0 < ns.length:=List.length_pos_iff.mpr ne
  have hlm:(ns.map V.int).length = ns.length:=List.length_map _
  have e60:((10:Int) ^ (60:Nat)) = 1000000000000000000000000000000000000000000000000000000000000:=by decide
  have e60':((10:Int) ^ ((60:Int).toNat)) = 1000000000000000000000000000000000000000000000000000000000000:=by decide
  refine ⟨_,rfl,_,rfl,_,rfl,l,_,rfl,.inl (SqL.of hl),p,_,rfl,hP,by rw [hlm]; omega,log_small (by rw [hlm]; omega) (by rw [hlm]; omega),fun d H1 g1 a1 b1=>?_⟩
  obtain ⟨v,hv,hm⟩:=atI_mem (xs:=ns.map V.int) a1 (by exact b1)
  obtain ⟨n,_,rfl⟩:=List.mem_map.mp hm
  refine ⟨l,_,_,_,rfl,rfl,SqL.of (g1.keep _ _ nl hl),hv,_,rfl,p,_,rfl,g1.pot,by decide,by decide,fun d2 H2 g2 a2 b2=>⟨_,_,rfl,rfl,_,_,rfl,rfl,?_⟩⟩
  refine gName_go ?_
  dsimp only
  refine ⟨_,_,rfl,rfl,⟨by decide,by decide,by decide⟩,_,_,rfl,rfl,_,_,rfl,rfl,⟨by decide,by decide,by decide⟩,_,_,rfl,rfl,_,rfl,_,_,rfl,_,_,rfl,?_⟩
  refine q _ _ (g1.trans g2) ?_ ?_
  · rw [e60]
    simp only [e60']
    (repeat' split) <;> omega
  · rw [e60]
    simp only [e60']
    (repeat' split) <;> omega
theorem rd_nn {σ:St} {H:Hp} {Q:Bool→Hp→Prop} {i:Nat} {l:Addr} {xs:List V} (e:σ[i]? = some (some (.ref l))) (h:H l = some (.lst xs)) (q:∀ z,H z = none→Q (!xs.isEmpty) (upd H z (.lst []))):tTest (tOp (rNil true) (tVar i) (tLst tNil)) σ H Q :=
  ⟨_,e,szl0,fun z hz=>⟨l,z,xs,rfl,rfl,same_new hz _ _ _ h,upd_same,_,rfl,q z hz⟩⟩
theorem p62a {j:Int} (h:0 ≤ j) (h1:j ≤ 1000):-(2 ^ 62) ≤ j∧j < 2 ^ 62:=by
  have e:((2:Int) ^ 62) = 4611686018427387904:=by decide
  rw [e]; omega
theorem gfree {p a:Addr} {H H':Hp} (g:Grow p H H') (e:H' a = none):H a = none:=by
  cases h:H a with
  | none=>rfl
  | some o=>rw [g.keep a o (g.ne e) h] at e; cases e
theorem emp_ref {as:List Addr} {sps:List Spn} (h:as.length = sps.length):(as.map V.ref).isEmpty = sps.isEmpty:=by
  cases as with
  | nil=>cases sps with
    | nil=>rfl
    | cons _ _=>cases h
  | cons _ _=>cases sps with
    | nil=>cases h
    | cons _ _=>rfl
theorem pick2 {a b:Int} {n:Int} (h:n = 0∨n = 1):∃ c,atI [V.int a,V.int b] n = some (.int c)∧(c = a∨c = b):=by
  rcases h with rfl | rfl
  · exact ⟨a,rfl,.inl rfl⟩
  · exact ⟨b,rfl,.inr rfl⟩
def spSpans:Sp:=fun vs H Q _=>∃ (p l:Addr) (ns:List Int),vs = [.ref p,.ref l]∧PotAt H p∧l ≠ p∧H l = some (.lst (ns.map V.int))∧ns.length ≤ 900∧∀ a sps H',Grow p H H'→SetAt H' a (.num sps)→okS (.num sps)→Q (.ref a) H'
structure SpG (p:Addr) (H H':Hp) (L:Addr) (as:List Addr) (sps:List Spn):Prop where
  sp:SpL H' L as sps
  len:sps.length ≤ 40
  ok:OkL sps
  ne:L ≠ p
  fr:H L = none
  g:Grow p H H'
abbrev s__law_spans:Stmt:=top 23
theorem sc__law_spans:FnScope ["_law_pot_here", "_law_near", "_law_some", "_law_k", "_law_spans_here", "_law_low"] ["_law_pot_here", "_law_near"] (defScope s__law_spans):=fs
theorem ok_spans (B:Blt mg) (B2:Blt2 mg) (F:FA K mg "_law_spans" s__law_spans) 
    (G__law_draw:Cal CX0 P w K mg base 1 "_law_draw" ["_law_pot_here", "_law_many"] spDraw)
    (G__law_beside:Cal CX0 P w K mg base 2 "_law_beside" ["_law_pot_here", "_law_near"] spBeside)
    (G__law_number:Cal CX0 P w K mg base 2 "_law_number" ["_law_pot_here"] spNumber) :
    Cal CX0 P w K mg base 3 "_law_spans" ["_law_pot_here", "_law_near"] spSpans:=by
  refine F.ok sc__law_spans fun f cdv A outer s H vs Q E hr h=>?_
  have hu:=hu8 hr
  obtain ⟨p,l,ns,rfl,hP,nl,hl,hn,q⟩:=h
  refine ⟨_,(pss_cons (ps_set (i:=2) sc__law_spans.nd rfl (Or.inl rfl) (pe_lst pa_nil))
      (pss_cons (ps_for PassesOwn.never rfl (pi_range1 rfl B.range (pa_cons (pe_xL K (pe_lst (pa_cons (pe_c0 G__law_draw hr (pa_cons (pv 0) (pa_cons pe_int pa_nil))) (pa_cons (pe_c0 G__law_draw hr (pa_cons (pv 0) (pa_cons pe_int pa_nil))) pa_nil))) (pe_callTy call_int1 rfl B2.int PyProof.Rows.boot_int (pa_cons (pe_cC op_eq (pe_c0 G__law_draw hr (pa_cons (pv 0) (pa_cons pe_int pa_nil))) pe_int) pa_nil))) pa_nil)) (pg_name (i:=3) sc__law_spans.nd rfl (Or.inl rfl))
        (pss_one (ps_if (PW.pt (pw_and (pt_cC (op_neNil hu) (pv 1) (pe_lst pa_nil)) (pw_and1 (pt_cC op_eq (pe_c0 G__law_draw hr (pa_cons (pv 0) (pa_cons pe_int pa_nil))) pe_int))))
            (pss_one (ps_expr (pe_bm PySem.F.plainAttrs_list PySem.F.slot_list_append PySem.F.type_list_append mt_append (pv 2) (pa_cons (pe_c0 G__law_beside hr (pa_cons (pv 0) (pa_cons (pv 1) pa_nil))) pa_nil))))
            (pss_one (ps_expr (pe_bm PySem.F.plainAttrs_list PySem.F.slot_list_append PySem.F.type_list_append mt_append (pv 2) (pa_cons (pe_c0 G__law_number hr (pa_cons (pv 0) pa_nil)) pa_nil)))))))
      (pss_cons (ps_set (i:=4) sc__law_spans.nd rfl (Or.inl rfl) (pe_lst pa_nil))
      (pss_cons (ps_for PassesOwn.never rfl (pi_list (pe_sortset rfl rfl B2.sorted rfl B2.set (pv 2))) (pg_name (i:=5) sc__law_spans.nd rfl (Or.inl rfl))
        (pss_one (ps_if (PW.pt (pw_and (pt_cC (op_neNil hu) (pv 4) (pe_lst pa_nil)) (pw_and1 (PW.pt (pw_or (pt_cC op_eq (pe_c0 G__law_draw hr (pa_cons (pv 0) (pa_cons pe_int pa_nil))) pe_int) (pw_or1 (pt_cC op_lt (pv 5) (pe_op op_add (pe_xT K (pe_xL K (pv 4) (pe_un un_neg pe_int)) pe_int) pe_int))))))))
            (pss_one (ps_asg (pe_tup (pa_cons (pe_xT K (pe_xL K (pv 4) (pe_un un_neg pe_int)) pe_int) (pa_cons (pv 5) pa_nil))) (pg_sub (pv 4) (pe_un un_neg pe_int) set_list)))
            (pss_one (ps_expr (pe_bm PySem.F.plainAttrs_list PySem.F.slot_list_append PySem.F.type_list_append mt_append (pv 4) (pa_cons (pe_tup (pa_cons (pv 5) (pa_cons (pv 5) pa_nil))) pa_nil)))))))
      (pss_cons (ps_if (PW.pt (pw_and (pt_cC (op_neNil hu) (pv 4) (pe_lst pa_nil)) (pw_and1 (pt_cC op_eq (pe_c0 G__law_draw hr (pa_cons (pv 0) (pa_cons pe_int pa_nil))) pe_int))))
        (pss_one (ps_asg (pe_tup (pa_cons pe_non (pa_cons (pe_xT K (pe_xL K (pv 4) pe_int) pe_int) pa_nil))) (pg_sub (pv 4) pe_int set_list)))
        pss_nil)
      (pss_cons (ps_if (PW.pt (pw_and (pt_cC (op_neNil hu) (pv 4) (pe_lst pa_nil)) (pw_and1 (pt_cC op_eq (pe_c0 G__law_draw hr (pa_cons (pv 0) (pa_cons pe_int pa_nil))) pe_int))))
        (pss_one (ps_asg (pe_tup (pa_cons (pe_xT K (pe_xL K (pv 4) (pe_un un_neg pe_int)) pe_int) (pa_cons pe_non pa_nil))) (pg_sub (pv 4) (pe_un un_neg pe_int) set_list)))
        pss_nil)
      (pss_ret (pe_tup (pa_cons pe_str (pa_cons (pe_callTy call_tuple_of rfl B.tuple PyProof.Rows.boot_tuple (pa_cons (pv 4) pa_nil)) pa_nil)))))))))),?_⟩
  refine ⟨szl0,fun D hD=>?_⟩
  refine gName_go ?_
  dsimp only
  have G0:=(Grow.refl hP).new (o:=.lst []) hD
  have nD:D ≠ p:=(Grow.refl hP).ne hD
  refine seq_mid (fun σ H'=>∃ (o:Option V) (ms:List Int),σ = [some (.ref p),some (.ref l),some (.ref D),o,none,none]∧H' D = some (.lst (ms.map V.int))∧ms.length ≤ 40∧(∀ n ∈ ms,-(10 ^ 60) < n∧n < 10 ^ 60)∧Grow p H H') (fun T hT=>?_) ?_
  · refine ⟨_,rfl,p,_,rfl,G0.pot,by decide,by decide,fun j1 H1 g1 a1 b1=>⟨_,rfl,p,_,rfl,g1.pot,by decide,by decide,fun j2 H2 g2 a2 b2=>⟨szl2,fun u hu=>?_⟩⟩⟩
    have gu:=((G0.trans g1).trans g2).new (o:=.lst [.int j1,.int j2]) hu
    refine ⟨_,rfl,p,_,rfl,gu.pot,by decide,by decide,fun j3 H3 g3 a3 b3=>⟨rfl,.inr ⟨_,rfl,?_⟩⟩⟩
    have hu3:=g3.keep u _ ((G0.trans g1).trans g2 |>.ne hu) upd_same
    have G3:=gu.trans g3
    obtain ⟨c,hc,hcc⟩:=pick2 (a:=j1) (b:=j2) (n:=if decide (V.int j3 = V.int 7) then 1 else 0) (by split <;> simp)
    have c0:0 ≤ c:=by omega
    have c40:c ≤ 40:=by omega
    refine ⟨u,_,_,_,rfl,rfl,SqL.of hu3,hc,_,rfl,(p62a c0 (by omega)).1,(p62a c0 (by omega)).2,?_⟩
    have hD3:H3 D = some (.lst ([]:List V)):=by
      refine g3.keep D _ nD ?_
      rw [upd_ne (ne_of_none (g2.keep D _ nD (g1.keep D _ nD upd_same)) hu)]
      exact g2.keep D _ nD (g1.keep D _ nD upd_same)
    refine for_range (n:=c.toNat) (fun i σ H'=>∃ (o:Option V) (ms:List Int),σ = [some (.ref p),some (.ref l),some (.ref D),o,none,none]∧H' D = some (.lst (ms.map V.int))∧ms.length ≤ i∧(∀ n ∈ ms,-(10 ^ 60) < n∧n < 10 ^ 60)∧Grow p H H') ⟨none,[],rfl,hD3,Nat.le_refl _,by simp,G3⟩ ?_ ?_
    · rintro i σ H' hi ⟨o,ms,rfl,hD',hm,hb,g'⟩
      refine gName_go ?_
      have put:∀ {H5:Hp} (n:Int),-(10 ^ 60) < n→n < 10 ^ 60→Grow p H H5→∃ (o:Option V) (ms':List Int),[some (V.ref p),some (.ref l),some (.ref D),some (.int (0 + (i:Nat))),none,none] = [some (.ref p),some (.ref l),some (.ref D),o,none,none]∧upd H5 D (.lst (ms.map V.int ++ [.int n])) D = some (.lst (ms'.map V.int))∧ms'.length ≤ i + 1∧(∀ n ∈ ms',-(10 ^ 60) < n∧n < 10 ^ 60)∧Grow p H (upd H5 D (.lst (ms.map V.int ++ [.int n]))):=fun {H5} n n1 n2 g5=>by
        refine ⟨_,ms ++ [n],rfl,by rw [upd_same,List.map_append]; rfl,by rw [List.length_append]; exact Nat.add_le_add_right hm 1,fun y hy=>?_,(Grow.refl hP).put hD nD g5⟩
        rcases List.mem_append.mp hy with z | z
        · exact hb y z
        · rw [List.mem_singleton.mp z]; exact ⟨n1,n2⟩
      have big:(ms.map V.int).length < sizeLine:=Nat.lt_of_le_of_lt (show (ms.map V.int).length ≤ 40 by rw [List.length_map]; omega) (by decide)
      have num:∀ {H5:Hp},H5 D = some (.lst (ms.map V.int))→Grow p H H5→∀ D':Ends,D'.nx = (fun σ H'=>∃ (o:Option V) (ms:List Int),σ = [some (.ref p),some (.ref l),some (.ref D),o,none,none]∧H' D = some (.lst (ms.map V.int))∧ms.length ≤ i + 1∧(∀ n ∈ ms,-(10 ^ 60) < n∧n < 10 ^ 60)∧Grow p H H') →
          tDrop (tBM K "list" rAppend (tVar 2) (tCons (tCall spNumber [] E0 (tCons (tVar 0) tNil)) tNil)) D' [some (.ref p),some (.ref l),some (.ref D),some (.int (0 + (i:Nat))),none,none] H5:=fun {H5} h5 g5 D' eD=>by
        refine ⟨_,rfl,.inl ⟨rfl,_,SqL.of h5⟩,_,rfl,p,rfl,g5.pot,fun n H6 g6 n1 n2=>⟨D,_,_,rfl,rfl,g6.keep D _ nD h5,big,?_⟩⟩
        rw [eD]
        exact put n n1 n2 (g5.trans g6)
      refine rd_nn rfl (g'.keep l _ nl hl) fun z hz=>?_
      have gz:=g'.new (o:=.lst []) hz
      have hDz:=same_new hz (.lst []) _ _ hD'
      have hlz:=same_new hz (.lst []) _ _ (g'.keep l _ nl hl)
      cases ns with
      | nil=>exact iteF (iteF (num hDz gz _ rfl))
      | cons n0 nr =>
        refine iteT ⟨_,rfl,p,_,rfl,gz.pot,by decide,by decide,fun d H5 g5 a5 b5=>⟨rfl,_,rfl,?_⟩⟩
        have hD5:=g5.keep D _ nD hDz
        refine ite2 (fun _=>?_) fun _=>num hD5 (gz.trans g5) _ rfl
        refine ⟨_,rfl,.inl ⟨rfl,_,SqL.of hD5⟩,_,rfl,_,rfl,p,l,n0 :: nr,rfl,g5.pot,nl,g5.keep l _ nl hlz,by simp,hn,fun n H6 g6 n1 n2=>⟨D,_,_,rfl,rfl,g6.keep D _ nD hD5,big,?_⟩⟩
        exact put n n1 n2 ((gz.trans g5).trans g6)
    · rintro σ H' ⟨o,ms,rfl,hD',hm,hb,g'⟩
      exact hT _ _ ⟨o,ms,rfl,hD',by omega,hb,g'⟩
  rintro σ H1 ⟨o,ms0,rfl,hD1,hm1,hb1,G1⟩
  refine ⟨szl0,fun L hL=>?_⟩
  refine gName_go ?_
  dsimp only
  have nL:L ≠ p:=G1.ne hL
  have fL:H L = none:=gfree G1 hL
  have ng:∀ {H':Hp} {o:HO},Grow p H H'→Grow p H (upd H' L o):=fun {H' o} g'=>(Grow.refl hP).put fL nL g'
  refine seq_mid (fun σ H'=>∃ (o':Option V) (as:List Addr) (sps:List Spn),σ = [some (.ref p),some (.ref l),some (.ref D),o,some (.ref L),o']∧SpG p H H' L as sps) (fun T hT=>?_) ?_
  · have hD2:=same_new hL (.lst []) _ _ hD1
    refine ⟨_,rfl,D,_,rfl,.inl (SqL.of hD2),by rw [List.length_map]; omega,.inl ⟨ms0,rfl⟩,fun SA ys hSA hso=>?_⟩
    obtain ⟨ms,rfl,hms,hsub,hml⟩:=sorted_ints hso
    have s4:=same_new hSA (.lst (ms.map V.int))
    have g3:=G1.new (o:=.lst []) hL
    have nSA:SA ≠ p:=g3.ne hSA
    have nLS:L ≠ SA:=fun z=>by rw [← z,upd_same] at hSA; cases hSA
    have g4:=g3.new (o:=.lst (ms.map V.int)) hSA
    refine ⟨SA,rfl,⟨_,SqL.of upd_same⟩,?_⟩
    refine for_list (xs:=ms.map V.int) (fun i σ H'=>∃ (o':Option V) (as:List Addr) (sps:List Spn),σ = [some (.ref p),some (.ref l),some (.ref D),o,some (.ref L),o']∧SpL H' L as sps∧sps.length ≤ i∧GoodL (ms.drop i) sps∧Grow p H H'∧H' SA = some (.lst (ms.map V.int)))
      ⟨none,[],[],rfl,⟨s4 _ _ upd_same,rfl,fun i a s e=>by cases e⟩,Nat.zero_le _,GoodL.nil _,g4,upd_same⟩ ?_ ?_ ?_
    · rintro i σ H' _ ⟨_,_,_,_,_,_,_,_,h⟩
      exact SqL.of h
    · rintro i v σ H' hv ⟨o1,as,sps,rfl,hS,hlen,hgood,g',hSA'⟩
      rw [List.getElem?_map] at hv
      cases ex:ms[i]? with
      | none=>rw [ex] at hv; cases hv
      | some x =>
        rw [ex] at hv
        have hv':V.int x = v:=Option.some.inj hv
        subst hv'
        refine gName_go ?_
        have hi:=(List.getElem?_eq_some_iff.mp ex).1
        have ed:ms.drop i = x :: ms.drop (i + 1):=by rw [List.drop_eq_getElem_cons hi,(List.getElem?_eq_some_iff.mp ex).2]
        rw [ed] at hgood
        have hxm:∀ m ∈ ms.drop (i + 1),x < m:=fun m hm=>by
          have pw:=hms.drop (i:=i)
          rw [ed] at pw
          exact List.rel_of_pairwise_cons pw hm
        have hxb:=hb1 x (hsub x (List.mem_of_getElem? ex))
        have big40:∀ n:Nat,n ≤ 45→n < sizeLine:=fun n hn=>Nat.lt_of_le_of_lt (Nat.le_trans hn (by decide:45 ≤ 1000)) (by decide)
        have app:∀ {H5:Hp},SpL H5 L as sps→Grow p H H5→H5 SA = some (.lst (ms.map V.int))→(∀ sps' l h,sps = sps' ++ [(some l,some h)]→h + 1 < x)→∀ D':Ends,D'.nx = (fun σ H'=>∃ (o':Option V) (as:List Addr) (sps:List Spn),σ = [some (.ref p),some (.ref l),some (.ref D),o,some (.ref L),o']∧SpL H' L as sps∧sps.length ≤ i + 1∧GoodL (ms.drop (i + 1)) sps∧Grow p H H'∧H' SA = some (.lst (ms.map V.int))) →
            tDrop (tBM K "list" rAppend (tVar 4) (tCons (tTup (tCons (tVar 5) (tCons (tVar 5) tNil))) tNil)) D' [some (.ref p),some (.ref l),some (.ref D),o,some (.ref L),some (.int x)] H5:=fun {H5} hS5 g5 hSA5 hlast D' eD=>by
          refine ⟨_,rfl,.inl ⟨rfl,_,SqL.of hS5.lst⟩,_,rfl,_,rfl,szl2,fun t ht=>?_⟩
          have s5:=same_new ht (.tup [.int x,.int x])
          have hS6:=hS5.same s5
          refine ⟨L,_,_,rfl,rfl,hS6.lst,?_,?_⟩
          · rw [List.length_map,hS5.len]; exact big40 _ (by omega)
          rw [eD]
          refine ⟨some (.int x),as ++ [t],sps ++ [(some x,some x)],rfl,?_,?_,hgood.snoc hxm hxb hlast,ng (g5.new ht),?_⟩
          · have:=SpL.put (as:=as) (sps:=sps) (as2:=as ++ [t]) (sps2:=sps ++ [(some x,some x)]) hS6.lst (by rw [List.length_append,List.length_append,hS5.len]; rfl) (pair_snoc hS6.len (R:=fun a s=>_ = some (HO.tup [eV s.1,eV s.2])) hS6.at_ upd_same)
            rw [List.map_append] at this
            exact this
          · rw [List.length_append]; exact Nat.add_le_add_right hlen 1
          · rw [upd_ne (Ne.symm nLS)]; exact s5 _ _ hSA5
        have mer:∀ {H5:Hp},SpL H5 L as sps→Grow p H H5→H5 SA = some (.lst (ms.map V.int))→sps ≠ []→∀ D':Ends,D'.nx = (fun σ H'=>∃ (o':Option V) (as:List Addr) (sps:List Spn),σ = [some (.ref p),some (.ref l),some (.ref D),o,some (.ref L),o']∧SpL H' L as sps∧sps.length ≤ i + 1∧GoodL (ms.drop (i + 1)) sps∧Grow p H H'∧H' SA = some (.lst (ms.map V.int))) →
            tAsg (tTup (tCons (tOp (rIxT K) (tOp (rIxL K) (tVar 4) (tUn (rU fun i=>.int (-i)) (tC (.int 1)))) (tC (.int 0))) (tCons (tVar 5) tNil))) (gSub (tVar 4) (tUn (rU fun i=>.int (-i)) (tC (.int 1))) rSetL) D' [some (.ref p),some (.ref l),some (.ref D),o,some (.ref L),some (.int x)] H5:=fun {H5} hS5 g5 hSA5 ne D' eD=>by
          obtain ⟨as',a,sps',sp,rfl,rfl,hl',hat',ha⟩:=hS5.unsnoc ne
          obtain ⟨l1,h1,rfl,_⟩:=hgood.bd sp (List.mem_append_right _ (List.mem_singleton.mpr rfl))
          have em:(as' ++ [a]).map V.ref = as'.map V.ref ++ [.ref a]:=by rw [List.map_append]; rfl
          have hlst:H5 L = some (.lst (as'.map V.ref ++ [.ref a])):=by rw [← em]; exact hS5.lst
          refine ⟨_,rfl,_,rfl,L,_,_,.ref a,rfl,rfl,SqL.of hlst,L2.atI_last _ _,a,_,_,_,rfl,rfl,SqT.of ha,rfl,_,rfl,szl2,fun t ht=>?_⟩
          have s5:=same_new ht (.tup [eV (some l1),.int x])
          refine ⟨_,rfl,_,rfl,L,_,_,as'.length,rfl,rfl,s5 _ _ hlst,?_,?_⟩
          · have:=ixN_last (as'.map V.ref) (V.ref a)
            rw [List.length_map] at this
            exact this
          have es:(as'.map V.ref ++ [V.ref a]).set as'.length (.ref t) = (as' ++ [t]).map V.ref:=by
            have:=set_last (as'.map V.ref) (V.ref a) (V.ref t)
            rw [List.length_map] at this
            rw [this,List.map_append]
            rfl
          rw [es,eD]
          refine ⟨some (.int x),as' ++ [t],sps' ++ [(some l1,some x)],rfl,?_,?_,hgood.merge hxm hxb,ng (g5.new ht),?_⟩
          · exact SpL.put (as:=as') (sps:=sps') (s5 _ _ hlst) (by rw [List.length_append,List.length_append,hl']; rfl) (pair_snoc hl' (R:=fun a s=>_ = some (HO.tup [eV s.1,eV s.2])) (fun i a s e1 e2=>s5 _ _ (hat' i a s e1 e2)) upd_same)
          · rw [List.length_append] at hlen ⊢
            exact Nat.le_succ_of_le hlen
          · rw [upd_ne (Ne.symm nLS)]; exact s5 _ _ hSA5
        refine rd_nn rfl hS.lst fun z hz=>?_
        have sz:=same_new hz (.lst [])
        have gz:=g'.new (o:=.lst []) hz
        have hSz:=hS.same sz
        have hSAz:=sz _ _ hSA'
        rw [emp_ref hS.len]
        by_cases ne:sps = []
        · subst ne
          exact iteF (iteF (app hSz gz hSAz (fun sps' l h e=>absurd e (by simp)) _ rfl))
        · have e1:sps.isEmpty = false:=by simpa using ne
          rw [e1]
          refine iteT ⟨_,rfl,p,_,rfl,gz.pot,by decide,by decide,fun d H5 g5 a5 b5=>⟨rfl,_,rfl,?_⟩⟩
          have hS5:=hSz.grow gz.pot nL g5
          have G5:=gz.trans g5
          have hSA5:=g5.keep _ _ nSA hSAz
          refine ite2 (fun c=>?_) (fun c=>?_)
          · exact iteT (mer hS5 G5 hSA5 ne _ rfl)
          · obtain ⟨as',a,sps',sp,ea,esp,hl',hat',ha⟩:=hS5.unsnoc ne
            obtain ⟨l1,h1,rfl,_⟩:=hgood.bd sp (by rw [esp]; exact List.mem_append_right _ (List.mem_singleton.mpr rfl))
            have hlst:H5 L = some (.lst (as'.map V.ref ++ [.ref a])):=by
              have:=hS5.lst
              rw [ea,List.map_append] at this
              exact this
            refine ⟨_,rfl,_,rfl,_,rfl,L,_,_,.ref a,rfl,rfl,SqL.of hlst,L2.atI_last _ _,a,_,_,_,rfl,rfl,SqT.of ha,rfl,_,_,rfl,rfl,_,_,rfl,rfl,_,rfl,?_⟩
            refine ite2 (fun c=>?_) (fun c=>?_)
            · exact mer hS5 G5 hSA5 ne _ rfl
            · have c':¬ x < h1 + 2:=fun z=>c (decide_eq_true z)
              refine app hS5 G5 hSA5 (fun sps2 l2 h2 e=>?_) _ rfl
              rw [esp] at e
              have:=List.append_inj_right' e rfl
              cases this
              omega
    · rintro σ H5 ⟨o',as,sps,rfl,hS,hlen,hgood,g5,_⟩
      rw [List.length_map] at hlen
      exact hT _ _ ⟨o',as,sps,rfl,hS,by omega,hgood.ok,nL,fL,g5⟩
  rintro σ H2 ⟨o',as,sps,rfl,W⟩
  refine seq_mid (fun σ H'=>∃ (as:List Addr) (sps:List Spn),σ = [some (.ref p),some (.ref l),some (.ref D),o,some (.ref L),o']∧SpG p H H' L as sps) (fun T hT=>?_) ?_
  · refine rd_nn rfl W.sp.lst fun z hz=>?_
    have gz:=W.g.new (o:=.lst []) hz
    have hSz:=W.sp.same (same_new hz (.lst []))
    rw [emp_ref W.sp.len]
    by_cases ne:sps = []
    · subst ne
      exact iteF (iteF (hT _ _ ⟨as,[],rfl,hSz,W.len,W.ok,nL,fL,gz⟩))
    · have e1:sps.isEmpty = false:=by simpa using ne
      rw [e1]
      refine iteT ⟨_,rfl,p,_,rfl,gz.pot,by decide,by decide,fun d H6 g6 a6 b6=>⟨rfl,_,rfl,?_⟩⟩
      have hS6:=hSz.grow gz.pot nL g6
      have G6:=gz.trans g6
      refine ite2 (fun c=>?_) (fun c=>?_)
      · obtain ⟨a,as',sp,sps',rfl,rfl⟩ : ∃ a as' sp sps',as = a :: as'∧sps = sp :: sps':=by
          have hl:=hS6.len
          cases sps with
          | nil=>exact absurd rfl ne
          | cons sp sps'=>cases as with
            | nil=>cases hl
            | cons a as'=>exact ⟨a,as',sp,sps',rfl,rfl⟩
        have ha:=hS6.at_ 0 a sp rfl rfl
        have h0:atI ((a :: as').map V.ref) 0 = some (.ref a):=atI_nat (j:=0) rfl
        refine ⟨_,rfl,L,_,_,_,rfl,rfl,SqL.of hS6.lst,h0,a,_,_,_,rfl,rfl,SqT.of ha,rfl,szl2,fun t ht=>?_⟩
        have s5:=same_new ht (.tup [.non,eV sp.2])
        refine ⟨_,rfl,L,_,_,0,rfl,rfl,s5 _ _ hS6.lst,?_,?_⟩
        · unfold ixN
          rw [if_pos (by decide),if_pos (by simp)]
          rfl
        refine hT _ _ ⟨t :: as',(none,sp.2) :: sps',rfl,?_,W.len,W.ok.first,nL,fL,ng (G6.new ht)⟩
        refine SpL.put (as:=as') (sps:=sps') (as2:=t :: as') (s5 _ _ hS6.lst) (by simpa using hS6.len) fun i b s' e1 e2=>?_
        cases i with
        | zero=>cases e1; cases e2; exact upd_same
        | succ i=>exact s5 _ _ (hS6.at_ (i + 1) b s' (by simpa using e1) (by simpa using e2))
      · exact hT _ _ ⟨as,sps,rfl,hS6,W.len,W.ok,nL,fL,G6⟩
  rintro σ H2 ⟨as,sps,rfl,W⟩
  refine seq_mid (fun σ H'=>∃ (as:List Addr) (sps:List Spn),σ = [some (.ref p),some (.ref l),some (.ref D),o,some (.ref L),o']∧SpG p H H' L as sps) (fun T hT=>?_) ?_
  · refine rd_nn rfl W.sp.lst fun z hz=>?_
    have gz:=W.g.new (o:=.lst []) hz
    have hSz:=W.sp.same (same_new hz (.lst []))
    rw [emp_ref W.sp.len]
    by_cases ne:sps = []
    · subst ne
      exact iteF (iteF (hT _ _ ⟨as,[],rfl,hSz,W.len,W.ok,nL,fL,gz⟩))
    · have e1:sps.isEmpty = false:=by simpa using ne
      rw [e1]
      refine iteT ⟨_,rfl,p,_,rfl,gz.pot,by decide,by decide,fun d H6 g6 a6 b6=>⟨rfl,_,rfl,?_⟩⟩
      have hS6:=hSz.grow gz.pot nL g6
      have G6:=gz.trans g6
      refine ite2 (fun c=>?_) (fun c=>?_)
      · obtain ⟨as',a,sps',sp,rfl,rfl,hl',hat',ha⟩:=hS6.unsnoc ne
        have em:(as' ++ [a]).map V.ref = as'.map V.ref ++ [.ref a]:=by rw [List.map_append]; rfl
        have hlst:H6 L = some (.lst (as'.map V.ref ++ [.ref a])):=by rw [← em]; exact hS6.lst
        refine ⟨_,rfl,_,rfl,L,_,_,.ref a,rfl,rfl,SqL.of hlst,L2.atI_last _ _,a,_,_,_,rfl,rfl,SqT.of ha,rfl,szl2,fun t ht=>?_⟩
        have s5:=same_new ht (.tup [eV sp.1,.non])
        refine ⟨_,rfl,_,rfl,L,_,_,as'.length,rfl,rfl,s5 _ _ hlst,?_,?_⟩
        · have:=ixN_last (as'.map V.ref) (V.ref a)
          rw [List.length_map] at this
          exact this
        have es:(as'.map V.ref ++ [V.ref a]).set as'.length (.ref t) = (as' ++ [t]).map V.ref:=by
          have:=set_last (as'.map V.ref) (V.ref a) (V.ref t)
          rw [List.length_map] at this
          rw [this,List.map_append]
          rfl
        rw [es]
        refine hT _ _ ⟨as' ++ [t],sps' ++ [(sp.1,none)],rfl,?_,by have:=W.len; rw [List.length_append] at this ⊢; exact this,W.ok.last,nL,fL,ng (G6.new ht)⟩
        exact SpL.put (as:=as') (sps:=sps') (s5 _ _ hlst) (by rw [List.length_append,List.length_append,hl']; rfl) (pair_snoc hl' (R:=fun a s=>_ = some (HO.tup [eV s.1,eV s.2])) (fun i a s e1 e2=>s5 _ _ (hat' i a s e1 e2)) upd_same)
      · exact hT _ _ ⟨as,sps,rfl,hS6,W.len,W.ok,nL,fL,G6⟩
  rintro σ H2 ⟨as,sps,rfl,W⟩
  refine ⟨_,rfl,L,_,rfl,.inl ⟨SqL.of W.sp.lst,fun t ht=>⟨szl2,fun a ha=>?_⟩⟩⟩
  have s1:=same_new ht (.tup (as.map V.ref))
  have s2:=same_new ha (.tup [.str "n", .ref t])
  exact q a sps _ ((W.g.new ht).new ha) ⟨t,as,upd_same,s2 _ _ upd_same,W.sp.len,fun i b sp e1 e2=>s2 _ _ (s1 _ _ (W.sp.at_ i b sp e1 e2))⟩ ⟨W.len,W.ok.pw,W.ok.ok⟩
def spWords:Sp:=fun vs H Q _=>∃ (p l:Addr) (ws:List Str),vs = [.ref p,.ref l]∧PotAt H p∧l ≠ p∧H l = some (.lst (ws.map V.str))∧ws.length ≤ 900∧(∀ x ∈ ws,isW x)∧∀ a b us H',Grow p H H'→SetAt H' a (.wrd b us)→okS (.wrd b us)→Q (.ref a) H'
abbrev s__law_words:Stmt:=top 24
theorem sc__law_words:FnScope ["_law_pot_here", "_law_near", "_law_some", "_law_k"] ["_law_pot_here", "_law_near"] (defScope s__law_words):=fs
theorem ok_words (B:Blt mg) (B2:Blt2 mg) (F:FA K mg "_law_words" s__law_words) 
    (G__law_draw:Cal CX0 P w K mg base 1 "_law_draw" ["_law_pot_here", "_law_many"] spDraw)
    (G__law_word:Cal CX0 P w K mg base 2 "_law_word" ["_law_pot_here"] spWord) :
    Cal CX0 P w K mg base 3 "_law_words" ["_law_pot_here", "_law_near"] spWords:=by
  refine F.ok sc__law_words fun f cdv A outer s H vs Q E hr h=>?_
  have hu:=hu8 hr
  obtain ⟨p,l,ws,rfl,hP,nl,hl,hn,hw,q⟩:=h
  refine ⟨_,(pss_cons (ps_set (i:=2) sc__law_words.nd rfl (Or.inl rfl) (pe_lst pa_nil))
      (pss_cons (ps_for PassesOwn.never rfl (pi_range1 rfl B.range (pa_cons (pe_xL K (pe_lst (pa_cons (pe_c0 G__law_draw hr (pa_cons (pv 0) (pa_cons pe_int pa_nil))) (pa_cons (pe_c0 G__law_draw hr (pa_cons (pv 0) (pa_cons pe_int pa_nil))) pa_nil))) (pe_callTy call_int1 rfl B2.int PyProof.Rows.boot_int (pa_cons (pe_cC op_eq (pe_c0 G__law_draw hr (pa_cons (pv 0) (pa_cons pe_int pa_nil))) pe_int) pa_nil))) pa_nil)) (pg_name (i:=3) sc__law_words.nd rfl (Or.inl rfl))
        (pss_one (ps_if (PW.pt (pw_and (pt_cC (op_neNil hu) (pv 1) (pe_lst pa_nil)) (pw_and1 (pt_cC op_eq (pe_c0 G__law_draw hr (pa_cons (pv 0) (pa_cons pe_int pa_nil))) pe_int))))
            (pss_one (ps_expr (pe_bm PySem.F.plainAttrs_list PySem.F.slot_list_append PySem.F.type_list_append mt_append (pv 2) (pa_cons (pe_xL K (pv 1) (pe_c0 G__law_draw hr (pa_cons (pv 0) (pa_cons (pe_callB call_len_seq rfl B.len PySem.boot_len (pa_cons (pv 1) pa_nil)) pa_nil)))) pa_nil))))
            (pss_one (ps_expr (pe_bm PySem.F.plainAttrs_list PySem.F.slot_list_append PySem.F.type_list_append mt_append (pv 2) (pa_cons (pe_c0 G__law_word hr (pa_cons (pv 0) pa_nil)) pa_nil)))))))
      (pss_ret (pe_tup (pa_cons pe_str (pa_cons (pe_cC op_eq (pe_c0 G__law_draw hr (pa_cons (pv 0) (pa_cons pe_int pa_nil))) pe_int) (pa_cons (pe_callTy call_tuple_of rfl B.tuple PyProof.Rows.boot_tuple (pa_cons (pe_sortset rfl rfl B2.sorted rfl B2.set (pv 2)) pa_nil)) pa_nil))))))),?_⟩
  refine ⟨szl0,fun D hD=>?_⟩
  refine gName_go ?_
  dsimp only
  have G0:=(Grow.refl hP).new (o:=.lst []) hD
  have nD:D ≠ p:=(Grow.refl hP).ne hD
  refine seq_mid (fun σ H'=>∃ (o:Option V) (ms:List Str),σ = [some (.ref p),some (.ref l),some (.ref D),o]∧H' D = some (.lst (ms.map V.str))∧ms.length ≤ 40∧(∀ n ∈ ms,isW n)∧Grow p H H') (fun T hT=>?_) ?_
  · refine ⟨_,rfl,p,_,rfl,G0.pot,by decide,by decide,fun j1 H1 g1 a1 b1=>⟨_,rfl,p,_,rfl,g1.pot,by decide,by decide,fun j2 H2 g2 a2 b2=>⟨szl2,fun u hu=>?_⟩⟩⟩
    have gu:=((G0.trans g1).trans g2).new (o:=.lst [.int j1,.int j2]) hu
    refine ⟨_,rfl,p,_,rfl,gu.pot,by decide,by decide,fun j3 H3 g3 a3 b3=>⟨rfl,.inr ⟨_,rfl,?_⟩⟩⟩
    have hu3:=g3.keep u _ ((G0.trans g1).trans g2 |>.ne hu) upd_same
    have G3:=gu.trans g3
    obtain ⟨c,hc,hcc⟩:=pick2 (a:=j1) (b:=j2) (n:=if decide (V.int j3 = V.int 7) then 1 else 0) (by split <;> simp)
    have c0:0 ≤ c:=by omega
    have c40:c ≤ 40:=by omega
    refine ⟨u,_,_,_,rfl,rfl,SqL.of hu3,hc,_,rfl,(p62a c0 (by omega)).1,(p62a c0 (by omega)).2,?_⟩
    have hD3:H3 D = some (.lst ([]:List V)):=by
      refine g3.keep D _ nD ?_
      rw [upd_ne (ne_of_none (g2.keep D _ nD (g1.keep D _ nD upd_same)) hu)]
      exact g2.keep D _ nD (g1.keep D _ nD upd_same)
    refine for_range (n:=c.toNat) (fun i σ H'=>∃ (o:Option V) (ms:List Str),σ = [some (.ref p),some (.ref l),some (.ref D),o]∧H' D = some (.lst (ms.map V.str))∧ms.length ≤ i∧(∀ n ∈ ms,isW n)∧Grow p H H') ⟨none,[],rfl,hD3,Nat.le_refl _,by simp,G3⟩ ?_ ?_
    · rintro i σ H' hi ⟨o,ms,rfl,hD',hm,hb,g'⟩
      refine gName_go ?_
      have put:∀ {H5:Hp} (n:Str),isW n→Grow p H H5→∃ (o:Option V) (ms':List Str),[some (V.ref p),some (.ref l),some (.ref D),some (.int (0 + (i:Nat)))] = [some (.ref p),some (.ref l),some (.ref D),o]∧upd H5 D (.lst (ms.map V.str ++ [.str n])) D = some (.lst (ms'.map V.str))∧ms'.length ≤ i + 1∧(∀ n ∈ ms',isW n)∧Grow p H (upd H5 D (.lst (ms.map V.str ++ [.str n]))):=fun {H5} n n1 g5=>by
        refine ⟨_,ms ++ [n],rfl,by rw [upd_same,List.map_append]; rfl,by rw [List.length_append]; exact Nat.add_le_add_right hm 1,fun y hy=>?_,(Grow.refl hP).put hD nD g5⟩
        rcases List.mem_append.mp hy with z | z
        · exact hb y z
        · rw [List.mem_singleton.mp z]; exact n1
      have big:(ms.map V.str).length < sizeLine:=Nat.lt_of_le_of_lt (show (ms.map V.str).length ≤ 40 by rw [List.length_map]; omega) (by decide)
      have num:∀ {H5:Hp},H5 D = some (.lst (ms.map V.str))→Grow p H H5→∀ D':Ends,D'.nx = (fun σ H'=>∃ (o:Option V) (ms:List Str),σ = [some (.ref p),some (.ref l),some (.ref D),o]∧H' D = some (.lst (ms.map V.str))∧ms.length ≤ i + 1∧(∀ n ∈ ms,isW n)∧Grow p H H') →
          tDrop (tBM K "list" rAppend (tVar 2) (tCons (tCall spWord [] E0 (tCons (tVar 0) tNil)) tNil)) D' [some (.ref p),some (.ref l),some (.ref D),some (.int (0 + (i:Nat)))] H5:=fun {H5} h5 g5 D' eD=>by
        refine ⟨_,rfl,.inl ⟨rfl,_,SqL.of h5⟩,_,rfl,p,rfl,g5.pot,fun n H6 g6 n1=>⟨D,_,_,rfl,rfl,g6.keep D _ nD h5,big,?_⟩⟩
        rw [eD]
        exact put n n1 (g5.trans g6)
      refine rd_nn rfl (g'.keep l _ nl hl) fun z hz=>?_
      have gz:=g'.new (o:=.lst []) hz
      have hDz:=same_new hz (.lst []) _ _ hD'
      have hlz:=same_new hz (.lst []) _ _ (g'.keep l _ nl hl)
      by_cases ne:ws = []
      · subst ne
        exact iteF (iteF (num hDz gz _ rfl))
      have e1:(ws.map V.str).isEmpty = false:=by simpa using ne
      have hlm:(ws.map V.str).length = ws.length:=List.length_map _
      have hl1:0 < ws.length:=List.length_pos_iff.mpr ne
      rw [e1]
      refine iteT ⟨_,rfl,p,_,rfl,gz.pot,by decide,by decide,fun d H5 g5 a5 b5=>⟨rfl,_,rfl,?_⟩⟩
      have hD5:=g5.keep D _ nD hDz
      have hl5:=g5.keep l _ nl hlz
      refine ite2 (fun _=>?_) fun _=>num hD5 (gz.trans g5) _ rfl
      refine ⟨_,rfl,.inl ⟨rfl,_,SqL.of hD5⟩,_,rfl,_,rfl,_,rfl,l,_,rfl,.inl (SqL.of hl5),p,_,rfl,g5.pot,by rw [hlm]; omega,log_small (by rw [hlm]; omega) (by rw [hlm]; omega),fun d2 H6 g6 a6 b6=>?_⟩
      obtain ⟨v,hv,hm6⟩:=atI_mem (xs:=ws.map V.str) a6 (by exact b6)
      obtain ⟨n,hnw,rfl⟩:=List.mem_map.mp hm6
      refine ⟨l,_,_,_,rfl,rfl,SqL.of (g6.keep _ _ nl hl5),hv,D,_,_,rfl,rfl,g6.keep D _ nD hD5,big,?_⟩
      exact put n (hw n hnw) ((gz.trans g5).trans g6)
    · rintro σ H' ⟨o,ms,rfl,hD',hm,hb,g'⟩
      exact hT _ _ ⟨o,ms,rfl,hD',by omega,hb,g'⟩
  rintro σ H1 ⟨o,ms0,rfl,hD1,hm1,hb1,G1⟩
  refine ⟨_,rfl,p,_,rfl,G1.pot,by decide,by decide,fun d H5 g5 a5 b5=>⟨rfl,_,rfl,D,_,rfl,.inl (SqL.of (g5.keep _ _ nD hD1)),by rw [List.length_map]; omega,.inr ⟨ms0,rfl⟩,fun SA ys hSA hso=>?_⟩⟩
  obtain ⟨ms,rfl,hms,hsub,hml⟩:=sorted_strs hso
  refine ⟨SA,_,rfl,.inl ⟨SqL.of upd_same,fun t ht=>⟨szl3,fun a ha=>?_⟩⟩⟩
  exact q a _ ms _ (((((G1.trans g5).new hSA).new ht)).new ha) ⟨t,upd_same,same_new ha _ _ _ upd_same⟩ ⟨by omega,hms,fun x hx=>hb1 x (hsub x hx)⟩
theorem can_okS {A:CSet} (h:okS A):Can A:=by
  cases A with
  | num sps=>exact ⟨h.2.1,fun s hs=>(h.2.2 s hs).1⟩
  | wrd b ws=>exact h.2
theorem len_okS {A:CSet} (h:okS A):lenOk 40 40 A:=by
  cases A with
  | num sps=>exact h.1
  | wrd b ws=>exact h.1
theorem grow_same {p:Addr} {H H1 H':Hp} (hp:H p = none) (s:Same H H1) (g:Grow p H1 H'):Same H H':=fun b u e=>g.keep b u (fun z=>by rw [z,hp] at e; cases e) (s _ _ e)
theorem ends_bd {sps:List Spn} (h:okS (.num sps)):(endsS sps).length ≤ 900:=by
  have:=ends_len sps
  have:=h.1
  omega
def spTwo (K:PySem.W.Frag):Sp:=fun vs H Q _=>∃ (a:Addr) (ns:List Int) (k:Int),vs = [.ref a,.int k]∧SqL K H a (ns.map V.int)∧0 ≤ k∧k ≤ 1000∧∀ t u v A B H',Same H H'→H' t = some (.tup [.ref u,.ref v])→CAt H' u A 40 40→CAt H' v B 40 40→isNum A = isNum B→Q (.ref t) H'
abbrev s__law_two:Stmt:=top 26
theorem sc__law_two:FnScope ["_law_script", "_law_k", "_law_pot_here", "_law_way", "_law_one"] ["_law_script", "_law_k"] (defScope s__law_two):=fs
theorem ok_two (B:Blt mg) (F:FA K mg "_law_two" s__law_two) 
    (G__law_pot:Cal CX0 P w K mg base 2 "_law_pot" ["_law_script", "_law_k"] (spPot K))
    (G__law_draw:Cal CX0 P w K mg base 1 "_law_draw" ["_law_pot_here", "_law_many"] spDraw)
    (G__law_spans:Cal CX0 P w K mg base 3 "_law_spans" ["_law_pot_here", "_law_near"] spSpans)
    (G__law_ends:Cal CX0 P w K mg base 1 "_law_ends" ["_law_tale"] spEnds)
    (G__law_words:Cal CX0 P w K mg base 3 "_law_words" ["_law_pot_here", "_law_near"] spWords) :
    Cal CX0 P w K mg base 4 "_law_two" ["_law_script", "_law_k"] (spTwo K):=by
  refine F.ok sc__law_two fun f cdv A outer s H vs Q E hr h=>?_
  have hu:=hu8 hr
  have hu1:=hu_of hr
  obtain ⟨a,ns,k,rfl,hS,h0,h1,q⟩:=h
  refine ⟨_,(pss_cons (ps_set (i:=2) sc__law_two.nd rfl (Or.inl rfl) (pe_c0 G__law_pot hr (pa_cons (pv 0) (pa_cons (pv 1) pa_nil))))
      (pss_cons (ps_set (i:=3) sc__law_two.nd rfl (Or.inl rfl) (pe_c0 G__law_draw hr (pa_cons (pv 2) (pa_cons pe_int pa_nil))))
      (pss_cons (ps_if (pt_cC op_eq (pe_op op_fdiv (pv 3) pe_int) pe_int)
        (pss_cons (ps_set (i:=4) sc__law_two.nd rfl (Or.inl rfl) (pe_c0 G__law_spans hr (pa_cons (pv 2) (pa_cons (pe_lst pa_nil) pa_nil))))
          (pss_ret (pe_tup (pa_cons (pv 4) (pa_cons (pe_c0 G__law_spans hr (pa_cons (pv 2) (pa_cons (pe_xL K (pe_lst (pa_cons (pe_lst pa_nil) (pa_cons (pe_c0 G__law_ends hr (pa_cons (pv 4) pa_nil)) pa_nil))) (pe_op op_mod (pv 3) pe_int)) pa_nil))) pa_nil)))))
        pss_nil)
      (pss_cons (ps_set (i:=4) sc__law_two.nd rfl (Or.inl rfl) (pe_c0 G__law_words hr (pa_cons (pv 2) (pa_cons (pe_lst pa_nil) pa_nil))))
      (pss_ret (pe_tup (pa_cons (pv 4) (pa_cons (pe_c0 G__law_words hr (pa_cons (pv 2) (pa_cons (pe_xL K (pe_lst (pa_cons (pe_lst pa_nil) (pa_cons (pe_callTy call_list_of rfl B.list PyProof.Rows.boot_list (pa_cons (pe_xT K (pv 4) pe_int) pa_nil)) pa_nil))) (pe_op op_mod (pv 3) pe_int)) pa_nil))) pa_nil)))))))),?_⟩
  refine ⟨_,rfl,_,rfl,a,ns,k,rfl,hS,h0,h1,fun p H1 hp s1 hP=>?_⟩
  refine gName_go ?_
  dsimp only
  refine ⟨_,rfl,p,_,rfl,hP,by decide,by decide,fun d H2 g2 a2 b2=>?_⟩
  refine gName_go ?_
  dsimp only
  refine ⟨_,rfl,_,_,rfl,rfl,⟨by decide,by decide⟩,rfl,_,rfl,?_⟩
  have im:d % 2 = 0∨d % 2 = 1:=by omega
  refine ite2 (fun _=>?_) fun _=>?_
  · refine ⟨_,rfl,szl0,fun z hz=>⟨p,z,[],rfl,(g2.new hz).pot,g2.ne hz,upd_same,by simp,fun u sps H3 g3 hu oku=>?_⟩⟩
    refine gName_go ?_
    dsimp only
    have G3:=(g2.new hz).trans g3
    refine ⟨_,rfl,_,rfl,szl0,fun z2 hz2=>⟨_,rfl,u,sps,rfl,hu.same (same_new hz2 _),oku.1,fun l H4 s4 hl0 hl4=>⟨szl2,fun o ho=>?_⟩⟩⟩
    have gz2:=G3.new (o:=.lst []) hz2
    have g4:=gz2.trans (Grow.same gz2.pot s4)
    have g5:=g4.new (o:=.lst [.ref z2,.ref l]) ho
    have so:=same_new ho (.lst [.ref z2,.ref l])
    have nz2:z2 ≠ p:=G3.ne hz2
    have nl:l ≠ p:=gz2.ne hl0
    have hz5:=so _ _ (s4 _ _ (upd_same (H:=H3) (a:=z2) (o:=.lst [])))
    have hl5:=so _ _ hl4
    refine ⟨_,rfl,_,_,rfl,rfl,(by show (0:Int) < 2; decide),?_⟩
    have key:∀ (c:Addr) (ks:List Int),c ≠ p→(upd H4 o (.lst [.ref z2,.ref l])) c = some (.lst (ks.map V.int))→ks.length ≤ 900→spSpans [.ref p,.ref c] (upd H4 o (.lst [.ref z2,.ref l])) (fun x H6=>tNil [some (.ref a),some (.int k),some (.ref p),some (.int d),some (.ref u)] H6 fun xs H7=>(V.ref u :: x :: xs).length ≤ sizeLine∧∀ t,H7 t = none→Q (.ref t) (upd H7 t (.tup (V.ref u :: x :: xs)))) (fun _ _ _=>True):=fun c ks nc hc hk=>by
      refine ⟨p,c,ks,rfl,g5.pot,nc,hc,hk,fun v tps H6 g6 hv okv=>⟨szl2,fun t ht=>?_⟩⟩
      have st:=same_new ht (.tup [.ref u,.ref v])
      have hu6:=((hu.same ((same_new hz2 (.lst [])).trans (s4.trans so))).grow g5.pot g6).same st
      exact q t u v _ _ _ (grow_same hp s1 ((g5.trans g6).new ht)) upd_same ⟨hu6,can_okS oku,len_okS oku⟩ ⟨hv.same st,can_okS okv,len_okS okv⟩ rfl
    rcases im with e | e
    · have e':atI [V.ref z2,V.ref l] (d % 2) = some (.ref z2):=by rw [e]; rfl
      exact ⟨o,_,_,_,rfl,rfl,SqL.of upd_same,e',key z2 [] nz2 hz5 (by simp)⟩
    · have e':atI [V.ref z2,V.ref l] (d % 2) = some (.ref l):=by rw [e]; rfl
      exact ⟨o,_,_,_,rfl,rfl,SqL.of upd_same,e',key l _ nl hl5 (ends_bd oku)⟩
  · refine ⟨_,rfl,szl0,fun z hz=>⟨p,z,[],rfl,(g2.new hz).pot,g2.ne hz,upd_same,by simp,by simp,fun u b us H3 g3 hu oku=>?_⟩⟩
    refine gName_go ?_
    dsimp only
    have G3:=(g2.new hz).trans g3
    obtain ⟨tt,hu1,hu2⟩:=hu
    refine ⟨_,rfl,_,rfl,szl0,fun z2 hz2=>?_⟩
    have sz2:=same_new hz2 (.lst [])
    refine ⟨_,rfl,u,_,2,_,rfl,rfl,SqT.of (sz2 _ _ hu1),rfl,tt,_,rfl,.inr (SqT.of (sz2 _ _ hu2)),fun l hl=>⟨szl2,fun o ho=>?_⟩⟩
    have gz2:=G3.new (o:=.lst []) hz2
    have s4:=same_new hl (.lst (us.map V.str))
    have g4:=gz2.new (o:=.lst (us.map V.str)) hl
    have g5:=g4.new (o:=.lst [.ref z2,.ref l]) ho
    have so:=same_new ho (.lst [.ref z2,.ref l])
    have nz2:z2 ≠ p:=G3.ne hz2
    have nl:l ≠ p:=gz2.ne hl
    have hz5:=so _ _ (s4 _ _ (upd_same (H:=H3) (a:=z2) (o:=.lst [])))
    have hl5:=so _ _ (upd_same (H:=upd H3 z2 (.lst [])) (a:=l) (o:=.lst (us.map V.str)))
    refine ⟨_,rfl,_,_,rfl,rfl,(by show (0:Int) < 2; decide),?_⟩
    have key:∀ (c:Addr) (ks:List Str),c ≠ p→(upd (upd (upd H3 z2 (.lst [])) l (.lst (us.map V.str))) o (.lst [.ref z2,.ref l])) c = some (.lst (ks.map V.str))→ks.length ≤ 900→(∀ x ∈ ks,isW x)→spWords [.ref p,.ref c] (upd (upd (upd H3 z2 (.lst [])) l (.lst (us.map V.str))) o (.lst [.ref z2,.ref l])) (fun x H6=>tNil [some (.ref a),some (.int k),some (.ref p),some (.int d),some (.ref u)] H6 fun xs H7=>(V.ref u :: x :: xs).length ≤ sizeLine∧∀ t,H7 t = none→Q (.ref t) (upd H7 t (.tup (V.ref u :: x :: xs)))) (fun _ _ _=>True):=fun c ks nc hc hk hw=>by
      refine ⟨p,c,ks,rfl,g5.pot,nc,hc,hk,hw,fun v b' vs H6 g6 hv okv=>⟨szl2,fun t ht=>?_⟩⟩
      have st:=same_new ht (.tup [.ref u,.ref v])
      have hu0:SetAt H3 u (.wrd b us):=⟨tt,hu1,hu2⟩
      have hu6:=((hu0.same (sz2.trans (s4.trans so))).grow g5.pot g6).same st
      exact q t u v _ _ _ (grow_same hp s1 ((g5.trans g6).new ht)) upd_same ⟨hu6,can_okS oku,len_okS oku⟩ ⟨hv.same st,can_okS okv,len_okS okv⟩ rfl
    rcases im with e | e
    · have e':atI [V.ref z2,V.ref l] (d % 2) = some (.ref z2):=by rw [e]; rfl
      exact ⟨o,_,_,_,rfl,rfl,SqL.of upd_same,e',key z2 [] nz2 hz5 (by simp) (by simp)⟩
    · have e':atI [V.ref z2,V.ref l] (d % 2) = some (.ref l):=by rw [e]; rfl
      exact ⟨o,_,_,_,rfl,rfl,SqL.of upd_same,e',key l _ nl hl5 (by have:=oku.1; omega) oku.2.2⟩
end My
namespace CS
open PySem L2
def bordS (sps:List Spn):List Int:=sps.flatMap fun s=>s.1.toList ++ (s.2.map (· + 1)).toList
theorem mem_bord {sps:List Spn} {s:Spn} (h:s ∈ sps) {b:Int} (hb:s.1 = some b∨s.2 = some (b - 1)):b ∈ bordS sps:=by
  refine List.mem_flatMap.mpr ⟨s,h,List.mem_append.mpr ?_⟩
  rcases hb with e | e
  · exact .inl (by rw [e]; simp)
  · exact .inr (by rw [e]; simp)
theorem same_side {sps:List Spn} {n n':Int} (hle:n ≤ n') (h:∀ b ∈ bordS sps,¬ (n < b∧b ≤ n')):hasS sps n = hasS sps n':=by
  have one:∀ s ∈ sps,inSp s n = inSp s n':=fun s hs=>by
    obtain ⟨l,x⟩:=s
    rw [Bool.eq_iff_iff,inSp_iff,inSp_iff]
    have hl:leL l n ↔ leL l n':=by
      cases l with
      | none=>exact ⟨fun _ l e=>(by cases e),fun _ l e=>(by cases e)⟩
      | some l =>
        have:=h l (mem_bord hs (.inl rfl))
        constructor
        · intro q k e
          have:=q k e
          omega
        · intro q k e
          have e2:=q k e
          cases e
          omega
    have hx:leH x n ↔ leH x n':=by
      cases x with
      | none=>exact ⟨fun _ l e=>(by cases e),fun _ l e=>(by cases e)⟩
      | some x =>
        have:=h (x + 1) (mem_bord hs (.inr (by simp)))
        constructor
        · intro q k e
          have e2:=q k e
          cases e
          omega
        · intro q k e
          have:=q k e
          omega
    rw [hl,hx]
  unfold hasS
  rw [Bool.eq_iff_iff,List.any_eq_true,List.any_eq_true]
  constructor
  · rintro ⟨s,hs,e⟩
    exact ⟨s,hs,by rw [← one s hs]; exact e⟩
  · rintro ⟨s,hs,e⟩
    exact ⟨s,hs,by rw [one s hs]; exact e⟩
def cov (ms:List Int) (i:Nat) (n:Int):Prop:=0 < i∧∀ b,ms[i - 1]? = some b→n < b
def lowB (ms:List Int) (i:Nat):Option Int:=if i = 0 then none else ms[i - 1]?
def highB (ms:List Int) (i:Nat):Option Int:=(ms[i]?).map (· - 1)
structure BInv (T:Int→Bool) (ms:List Int) (i:Nat) (acc:List Spn):Prop where
  can:CanS acc
  yes:∀ n,cov ms i n→hasS acc n = T n
  no:∀ n,¬ cov ms i n→hasS acc n = false
  hi:i ≤ ms.length→∀ s ∈ acc,∃ h,s.2 = some h∧cov ms i h
theorem pw_lt {ms:List Int} (hp:ms.Pairwise (· < ·)) {i j:Nat} {x y:Int} (hx:ms[i]? = some x) (hy:ms[j]? = some y) (h:i < j):x < y:=by
  obtain ⟨h1,rfl⟩:=List.getElem?_eq_some_iff.mp hx
  obtain ⟨h2,rfl⟩:=List.getElem?_eq_some_iff.mp hy
  exact List.pairwise_iff_getElem.mp hp i j h1 h2 h
theorem cov_mono {ms:List Int} (hp:ms.Pairwise (· < ·)) {i:Nat} {n:Int} (h:cov ms i n):cov ms (i + 1) n:=by
  refine ⟨Nat.succ_pos _,fun b hb=>?_⟩
  have hi:i < ms.length:=(List.getElem?_eq_some_iff.mp (by simpa using hb)).1
  have h1:=h.2 ms[i - 1] (List.getElem?_eq_getElem (by omega))
  have h2:=pw_lt hp (List.getElem?_eq_getElem (show i - 1 < ms.length by omega)) (show ms[i]? = some b by simpa using hb) (by have:=h.1; omega)
  omega
theorem stretch {ms:List Int} (hp:ms.Pairwise (· < ·)) {sps:List Spn} (hb:∀ n ∈ bordS sps,n ∈ ms) {i:Nat} {n n':Int} (h1:¬ cov ms i n) (h2:cov ms (i + 1) n) (h1':¬ cov ms i n') (h2':cov ms (i + 1) n'):hasS sps n = hasS sps n':=by
  have key:∀ n n',¬ cov ms i n→cov ms (i + 1) n'→∀ b ∈ bordS sps,¬ (n < b∧b ≤ n'):=fun n n' c1 c2 b hbb hh=>by
    obtain ⟨j,hj,rfl⟩:=List.mem_iff_getElem.mp (hb b hbb)
    have ej:ms[j]? = some ms[j]:=List.getElem?_eq_getElem hj
    have j1:i ≤ j:=by
      refine Nat.not_lt.mp fun hlt=>c1 ⟨by omega,fun b hb=>?_⟩
      have:ms[j] ≤ b:=by
        by_cases e:j = i - 1
        · subst e
          rw [ej] at hb
          cases hb
          exact Int.le_refl _
        · have:=pw_lt hp ej hb (by omega)
          omega
      omega
    have hi:i < ms.length:=by omega
    have:=c2.2 ms[i] (by simpa using List.getElem?_eq_getElem hi)
    have le:ms[i] ≤ ms[j]:=by
      by_cases e:i = j
      · subst e; exact Int.le_refl _
      · have:=pw_lt hp (List.getElem?_eq_getElem hi) ej (by omega)
        omega
    omega
  by_cases hle:n ≤ n'
  · exact same_side hle (key n n' h1 h2')
  · exact (same_side (by omega) (key n' n h1' h2)).symm
theorem BInv.skip {T:Int→Bool} {ms:List Int} {i:Nat} {acc:List Spn} (hp:ms.Pairwise (· < ·)) (h:BInv T ms i acc) (hT:∀ n,¬ cov ms i n→cov ms (i + 1) n→T n = false):BInv T ms (i + 1) acc:=by
  refine ⟨h.can,fun n hn=>?_,fun n hn=>h.no n fun z=>hn (cov_mono hp z),fun hl s hs=>?_⟩
  · by_cases c:cov ms i n
    · exact h.yes n c
    · rw [h.no n c,hT n c hn]
  · obtain ⟨x,e,c⟩:=h.hi (by omega) s hs
    exact ⟨x,e,cov_mono hp c⟩
theorem low_le {ms:List Int} {i:Nat} (hi:i ≤ ms.length) {n:Int}:leL (lowB ms i) n ↔ ¬ cov ms i n:=by
  unfold lowB
  by_cases e:i = 0
  · subst e
    rw [if_pos rfl]
    exact ⟨fun _ z=>absurd z.1 (Nat.lt_irrefl _),fun _ l e=>by cases e⟩
  · rw [if_neg e]
    have eb:ms[i - 1]? = some ms[i - 1]:=List.getElem?_eq_getElem (by omega)
    constructor
    · intro h z
      have a:=h _ eb
      have b:=z.2 _ eb
      omega
    · intro h l el
      refine Int.not_lt.mp fun hlt=>h ⟨by omega,fun b hb=>?_⟩
      rw [el] at hb
      cases hb
      exact hlt
theorem high_le {ms:List Int} {i:Nat} {n:Int}:leH (highB ms i) n ↔ cov ms (i + 1) n:=by
  unfold highB
  have e0:ms[i + 1 - 1]? = ms[i]?:=by simp
  unfold cov
  rw [e0]
  constructor
  · intro h
    refine ⟨Nat.succ_pos _,fun b hb=>?_⟩
    rw [hb] at h
    have:=h (b - 1) rfl
    omega
  · rintro ⟨_,h⟩ x hx
    cases hb:ms[i]? with
    | none=>rw [hb] at hx; cases hx
    | some b =>
      rw [hb] at hx
      have e:b - 1 = x:=Option.some.inj hx
      have:=h b hb
      omega
theorem hi_cov {ms:List Int} {i:Nat} {x:Int} (h:highB ms i = some x):cov ms (i + 1) x:=high_le.mp fun y e=>by rw [h] at e; cases e; exact Int.le_refl _
theorem bnd_ok {ms:List Int} (hp:ms.Pairwise (· < ·)) {i:Nat} {l x:Int} (h1:lowB ms i = some l) (h2:highB ms i = some x):l ≤ x:=by
  unfold lowB highB at *
  by_cases e:i = 0
  · subst e; rw [if_pos rfl] at h1; cases h1
  · rw [if_neg e] at h1
    cases hb:ms[i]? with
    | none=>rw [hb] at h2; cases h2
    | some b =>
      rw [hb] at h2
      have e2:b - 1 = x:=Option.some.inj h2
      have:=pw_lt hp h1 hb (by omega)
      omega
theorem hasS_app {a b:List Spn} {n:Int}:hasS (a ++ b) n = (hasS a n || hasS b n):=by unfold hasS; rw [List.any_append]
theorem hasS_one {s:Spn} {n:Int}:hasS [s] n = inSp s n:=by unfold hasS; simp
theorem BInv.app {T:Int→Bool} {ms:List Int} {i:Nat} {acc:List Spn} (hp:ms.Pairwise (· < ·)) (hil:i ≤ ms.length) (h:BInv T ms i acc) (hT:∀ n,¬ cov ms i n→cov ms (i + 1) n→T n = true)
    (hg:∀ s ∈ acc,∃ x l,s.2 = some x∧lowB ms i = some l∧x + 1 < l):BInv T ms (i + 1) (acc ++ [(lowB ms i,highB ms i)]):=by
  have inn:∀ n,inSp (lowB ms i,highB ms i) n = true ↔ ¬ cov ms i n∧cov ms (i + 1) n:=fun n=>by rw [inSp_iff,low_le hil,high_le]
  refine ⟨⟨?_,?_⟩,fun n hn=>?_,fun n hn=>?_,fun hl s hs=>?_⟩
  · refine List.pairwise_append.mpr ⟨h.can.1,List.pairwise_singleton _ _,fun s hs t ht=>?_⟩
    rw [List.mem_singleton.mp ht]
    exact hg s hs
  · intro s hs l x e1 e2
    rcases List.mem_append.mp hs with z | z
    · exact h.can.2 s z l x e1 e2
    · rw [List.mem_singleton.mp z] at e1 e2
      exact bnd_ok hp e1 e2
  · rw [hasS_app,hasS_one]
    by_cases c:cov ms i n
    · rw [h.yes n c]
      have:inSp (lowB ms i,highB ms i) n = false:=Bool.eq_false_iff.mpr fun e=>((inn n).mp e).1 c
      rw [this,Bool.or_false]
    · rw [(inn n).mpr ⟨c,hn⟩,Bool.or_true,hT n c hn]
  · have c:¬ cov ms i n:=fun z=>hn (cov_mono hp z)
    rw [hasS_app,hasS_one,h.no n c,Bool.false_or]
    exact Bool.eq_false_iff.mpr fun e=>hn ((inn n).mp e).2
  · rcases List.mem_append.mp hs with z | z
    · obtain ⟨x,e,c⟩:=h.hi hil s z
      exact ⟨x,e,cov_mono hp c⟩
    · rw [List.mem_singleton.mp z]
      have hi:i < ms.length:=by omega
      have e:highB ms i = some (ms[i] - 1):=by unfold highB; rw [List.getElem?_eq_getElem hi]; rfl
      exact ⟨_,e,hi_cov e⟩
theorem BInv.mer {T:Int→Bool} {ms:List Int} {i:Nat} {acc:List Spn} {l:Option Int} {x:Int} (hp:ms.Pairwise (· < ·)) (hil:i ≤ ms.length) (h:BInv T ms i (acc ++ [(l,some x)])) (hT:∀ n,¬ cov ms i n→cov ms (i + 1) n→T n = true)
    (hx:lowB ms i = some (x + 1)):BInv T ms (i + 1) (acc ++ [(l,highB ms i)]):=by
  classical
  have hpw:=List.pairwise_append.mp h.can.1
  have cx:∀ n,cov ms i n ↔ n ≤ x:=fun n=>by
    have:=low_le hil (n:=n)
    rw [hx] at this
    constructor
    · intro c
      refine Int.not_lt.mp fun hlt=>(this.mp fun k e=>?_) c
      cases e
      omega
    · intro hle
      refine Classical.byContradiction fun c=>?_
      have:=(this.mpr c) (x + 1) rfl
      omega
  have inn:∀ n,inSp (l,highB ms i) n = (inSp (l,some x) n || decide (¬ cov ms i n∧cov ms (i + 1) n)):=fun n=>by
    have hlx:∀ k,l = some k→k ≤ x:=fun k e=>h.can.2 (l,some x) (by simp) k x e rfl
    rw [Bool.eq_iff_iff,Bool.or_eq_true,inSp_iff,inSp_iff,decide_eq_true_eq,high_le]
    constructor
    · rintro ⟨a,b⟩
      by_cases c:cov ms i n
      · exact .inl ⟨a,fun k e=>by cases e; exact (cx n).mp c⟩
      · exact .inr ⟨c,b⟩
    · rintro (⟨a,b⟩ | ⟨a,b⟩)
      · exact ⟨a,cov_mono hp ((cx n).mpr (b x rfl))⟩
      · refine ⟨fun k e=>?_,b⟩
        have h1:=hlx k e
        have h2:¬ n ≤ x:=fun z=>a ((cx n).mpr z)
        omega
  have hh:∀ n,hasS (acc ++ [(l,highB ms i)]) n = (hasS (acc ++ [(l,some x)]) n || decide (¬ cov ms i n∧cov ms (i + 1) n)):=fun n=>by
    rw [hasS_app,hasS_app,hasS_one,hasS_one,inn,Bool.or_assoc]
  refine ⟨⟨?_,?_⟩,fun n hn=>?_,fun n hn=>?_,fun hl s hs=>?_⟩
  · refine List.pairwise_append.mpr ⟨hpw.1,List.pairwise_singleton _ _,fun s hs t ht=>?_⟩
    rw [List.mem_singleton.mp ht]
    exact hpw.2.2 s hs (l,some x) (by simp)
  · intro s hs k y e1 e2
    rcases List.mem_append.mp hs with z | z
    · exact h.can.2 s (List.mem_append_left _ z) k y e1 e2
    · rw [List.mem_singleton.mp z] at e1 e2
      have h1:=h.can.2 (l,some x) (by simp) k x e1 rfl
      have h2:=bnd_ok hp hx e2
      omega
  · rw [hh]
    by_cases c:cov ms i n
    · rw [h.yes n c,decide_eq_false (fun z=>z.1 c),Bool.or_false]
    · rw [decide_eq_true ⟨c,hn⟩,Bool.or_true,hT n c hn]
  · have c:¬ cov ms i n:=fun z=>hn (cov_mono hp z)
    rw [hh,h.no n c,decide_eq_false (fun z=>hn z.2)]
    rfl
  · rcases List.mem_append.mp hs with z | z
    · obtain ⟨y,e,c⟩:=h.hi hil s (List.mem_append_left _ z)
      exact ⟨y,e,cov_mono hp c⟩
    · rw [List.mem_singleton.mp z]
      have hi:i < ms.length:=by omega
      have e:highB ms i = some (ms[i] - 1):=by unfold highB; rw [List.getElem?_eq_getElem hi]; rfl
      exact ⟨_,e,hi_cov e⟩
theorem BInv.nil {T:Int→Bool} {ms:List Int}:BInv T ms 0 [] :=
  ⟨⟨.nil,by simp⟩,fun n h=>absurd h.1 (Nat.lt_irrefl _),fun _ _=>rfl,by simp⟩
theorem BInv.fin {T:Int→Bool} {ms:List Int} {acc:List Spn} (h:BInv T ms (ms.length + 1) acc) (n:Int):hasS acc n = T n :=
  h.yes n ⟨Nat.succ_pos _,fun b hb=>by
    rw [Nat.add_sub_cancel,List.getElem?_eq_none (Nat.le_refl _)] at hb
    cases hb⟩
def probe (l h:Option Int):Int:=l.getD (h.getD 0)
theorem probe_in {ms:List Int} (hp:ms.Pairwise (· < ·)) {i:Nat} (hil:i ≤ ms.length):¬ cov ms i (probe (lowB ms i) (highB ms i))∧cov ms (i + 1) (probe (lowB ms i) (highB ms i)):=by
  rw [← low_le hil,← high_le]
  unfold probe
  cases e1:lowB ms i with
  | some l =>
    refine ⟨fun k e=>by cases e; exact Int.le_refl _,fun k e=>?_⟩
    exact bnd_ok hp e1 e
  | none =>
    cases e2:highB ms i with
    | some x=>exact ⟨fun k e=>(by cases e),fun k e=>by cases e; exact Int.le_refl _⟩
    | none=>exact ⟨fun k e=>(by cases e),fun k e=>(by cases e)⟩
end CS
namespace My
open PySem L2 CS
theorem map_int_inj:∀ {a b:List Int},a.map V.int = b.map V.int→a = b
  | [],[],_=>rfl
  | [],_ :: _,h=>by cases h
  | _ :: _,[],h=>by cases h
  | x :: a,y :: b,h=>by
    rw [List.map_cons,List.map_cons] at h
    injection h with h1 h2
    injection h1 with h1
    rw [h1,map_int_inj h2]
theorem map_str_inj:∀ {a b:List Str},a.map V.str = b.map V.str→a = b
  | [],[],_=>rfl
  | [],_ :: _,h=>by cases h
  | _ :: _,[],h=>by cases h
  | x :: a,y :: b,h=>by
    rw [List.map_cons,List.map_cons] at h
    injection h with h1 h2
    injection h1 with h1
    rw [h1,map_str_inj h2]
theorem sorted_ints2 {ns:List Int} {ys:List V} (h:SortedOf (ns.map V.int) ys):∃ ms:List Int,ys = ms.map V.int∧ms.Pairwise (· < ·)∧∀ n,n ∈ ms ↔ n ∈ ns:=by
  rcases h with ⟨ns',ms,e1,e2,e3,e4⟩ | ⟨ns',ms,e1,e2,e3,e4⟩
  · cases map_int_inj e1
    exact ⟨ms,e2,e3,e4⟩
  · cases ns with
    | nil =>
      cases ns' with
      | cons _ _=>cases e1
      | nil =>
        cases ms with
        | nil=>exact ⟨[],e2,.nil,fun n=>Iff.rfl⟩
        | cons m _=>exact absurd ((e4 m).mp List.mem_cons_self) (by simp)
    | cons n _=>cases ns' <;> cases e1
theorem sorted_strs2 {ns:List Str} {ys:List V} (h:SortedOf (ns.map V.str) ys):∃ ms:List Str,ys = ms.map V.str∧ms.Pairwise ltS∧∀ n,n ∈ ms ↔ n ∈ ns:=by
  rcases h with ⟨ns',ms,e1,e2,e3,e4⟩ | ⟨ns',ms,e1,e2,e3,e4⟩
  · cases ns with
    | nil =>
      cases ns' with
      | cons _ _=>cases e1
      | nil =>
        cases ms with
        | nil=>exact ⟨[],e2,.nil,fun n=>Iff.rfl⟩
        | cons m _=>exact absurd ((e4 m).mp List.mem_cons_self) (by simp)
    | cons n _=>cases ns' <;> cases e1
  · cases map_str_inj e1
    exact ⟨ms,e2,e3,e4⟩
theorem spans_cat {H H':Hp} {t t' u:Addr} {as bs:List Addr} {sps tps:List Spn} (s:Same H H') (h1:SpansAt H t as sps) (h2:SpansAt H t' bs tps) (hu:H' u = some (.tup (as.map V.ref ++ bs.map V.ref))):SpansAt H' u (as ++ bs) (sps ++ tps):=by
  refine ⟨by rw [hu,List.map_append],by rw [List.length_append,List.length_append,h1.len,h2.len],fun i a sp e1 e2=>?_⟩
  have hl:=h1.len
  by_cases hi:i < as.length
  · rw [List.getElem?_append_left hi] at e1
    rw [List.getElem?_append_left (by omega)] at e2
    exact s _ _ (h1.at_ i a sp e1 e2)
  · rw [List.getElem?_append_right (by omega)] at e1
    rw [List.getElem?_append_right (by omega),← hl] at e2
    exact s _ _ (h2.at_ _ a sp e1 e2)
def spBorders:Sp:=fun vs H Q _=>∃ (a b:Addr) (sps tps:List Spn),vs = [.ref a,.ref b]∧SetAt H a (.num sps)∧SetAt H b (.num tps)∧sps.length ≤ 40∧tps.length ≤ 40 ∧
  ∀ (l:Addr) (ms:List Int) H',Same H H'→H' l = some (.lst (ms.map V.int))→ms.Pairwise (· < ·)→(∀ n,n ∈ ms ↔ n ∈ bordS (sps ++ tps))→ms.length ≤ 400→Q (.ref l) H'
theorem bord_len (sps:List Spn):(bordS sps).length ≤ 2 * sps.length:=by
  induction sps with
  | nil=>exact Nat.le_refl _
  | cons s r ih =>
    obtain ⟨a,b⟩:=s
    have e:bordS ((a,b) :: r) = (a.toList ++ (b.map (· + 1)).toList) ++ bordS r:=rfl
    rw [e,List.length_append,List.length_append,List.length_cons]
    cases a <;> cases b <;> simp only [Option.map_none,Option.map_some,Option.toList_none,Option.toList_some,List.length_nil,List.length_cons] <;> omega
theorem bord_snoc {sps:List Spn} {i:Nat} {s:Spn} (e:sps[i]? = some s):bordS (sps.take (i + 1)) = bordS (sps.take i) ++ (s.1.toList ++ (s.2.map (· + 1)).toList):=by
  unfold bordS
  rw [take_one e,List.flatMap_append]; simp
abbrev s__law_borders:Stmt:=top 29
theorem sc__law_borders:FnScope ["_law_one", "_law_other", "_law_found", "_law_low", "_law_high"] ["_law_one", "_law_other"] (defScope s__law_borders):=fs
variable {P:Program} {w:World} {K:PySem.W.Frag} {mg:Str→Option Value} {base:Heap}
theorem ok_borders (B:Blt mg) (B2:Blt2 mg) (F:FA K mg "_law_borders" s__law_borders)  :
    Cal CX0 P w K mg base 1 "_law_borders" ["_law_one", "_law_other"] spBorders:=by
  refine F.ok sc__law_borders fun f cdv A outer s H vs Q E hr h=>?_
  have hu:=hu8 hr
  obtain ⟨a,b,sps,tps,rfl,ha,hb,hl1,hl2,q⟩:=h
  refine ⟨_,(pss_cons (ps_set (i:=2) sc__law_borders.nd rfl (Or.inl rfl) (pe_lst pa_nil))
      (pss_cons (ps_for PassesOwn.never rfl (pi_tup (pe_op op_catH (pe_xT K (pv 0) pe_int) (pe_xT K (pv 1) pe_int))) (pg_tup rfl (pgs_cons (pg_name (i:=3) sc__law_borders.nd rfl (Or.inl rfl)) (pgs_cons (pg_name (i:=4) sc__law_borders.nd rfl (Or.inl rfl)) pgs_nil)))
        (pss_cons (ps_if (pt_cC op_notN (pv 3) pe_non)
            (pss_one (ps_expr (pe_bm PySem.F.plainAttrs_list PySem.F.slot_list_append PySem.F.type_list_append mt_append (pv 2) (pa_cons (pv 3) pa_nil))))
            pss_nil)
          (pss_one (ps_if (pt_cC op_notN (pv 4) pe_non)
            (pss_one (ps_expr (pe_bm PySem.F.plainAttrs_list PySem.F.slot_list_append PySem.F.type_list_append mt_append (pv 2) (pa_cons (pe_op op_add (pv 4) pe_int) pa_nil))))
            pss_nil))))
      (pss_ret (pe_sortset rfl rfl B2.sorted rfl B2.set (pv 2))))),?_⟩
  obtain ⟨t,as,h1,h2⟩:=ha
  obtain ⟨t',bs,h1',h2'⟩:=hb
  refine ⟨szl0,fun F hF=>?_⟩
  refine gName_go ?_
  dsimp only
  have s0:=same_new hF (.lst [])
  refine seq_mid (fun σ H'=>(∃ o1 o2,σ = [some (.ref a),some (.ref b),some (.ref F),o1,o2])∧H' F = some (.lst ((bordS (sps ++ tps)).map V.int))∧Same H H') (fun T hT=>?_) ?_
  · refine ⟨_,rfl,a,_,1,_,rfl,rfl,SqT.of (s0 _ _ h1),rfl,_,rfl,b,_,1,_,rfl,rfl,SqT.of (s0 _ _ h1'),rfl,t,t',_,_,rfl,rfl,s0 _ _ h2.tup,s0 _ _ h2'.tup,?_,fun u H1 s1 hu=>?_⟩
    · rw [List.length_map,List.length_map,h2.len,h2'.len]
      exact Nat.le_trans (show _ ≤ 100 by omega) (by decide)
    have W:=spans_cat s1 (h2.same s0) (h2'.same s0) hu
    refine ⟨u,rfl,⟨_,SqT.of W.tup⟩,?_⟩
    refine for_tup (xs:=(as ++ bs).map V.ref) (fun i σ H'=>(∃ o1 o2,σ = [some (.ref a),some (.ref b),some (.ref F),o1,o2])∧H' F = some (.lst ((bordS ((sps ++ tps).take i)).map V.int))∧(∀ c o,c ≠ F→H1 c = some o→H' c = some o)) ⟨⟨none,none,rfl⟩,s1 _ _ upd_same,fun _ _ _ e=>e⟩ ?_ ?_ ?_
    · rintro i σ H' _ ⟨_,_,sm⟩
      exact SqT.of (sm _ _ (fun z=>by have:=W.tup; rw [z,s1 _ _ upd_same] at this; cases this) W.tup)
    · rintro i x σ H' hx ⟨⟨o1,o2,rfl⟩,hF',sm⟩
      obtain ⟨c,sp,rfl,es,hc⟩:=spans_at W hx
      have hc':=sm _ _ (fun z=>by rw [z,s1 _ _ upd_same] at hc; cases hc) hc
      have hsz:∀ k,k ≤ 2→((bordS ((sps ++ tps).take i)).map V.int).length + k ≤ 1000:=fun k hk=>by
        rw [List.length_map]
        have:=bord_len ((sps ++ tps).take i)
        rw [List.length_take,List.length_append] at this
        omega
      have big:∀ n:Nat,n ≤ 1000→n < sizeLine:=fun n hn=>Nat.lt_of_le_of_lt hn (by decide)
      refine ⟨c,_,rfl,SqT.of hc',rfl,_,_,rfl,_,_,rfl,rfl,?_⟩
      refine seq_mid (fun σ H2=>σ = [some (.ref a),some (.ref b),some (.ref F),some (eV sp.1),some (eV sp.2)]∧H2 F = some (.lst ((bordS ((sps ++ tps).take i) ++ sp.1.toList).map V.int))∧(∀ c o,c ≠ F→H1 c = some o→H2 c = some o)) (fun T hT=>?_) ?_
      · refine ⟨_,rfl,rfl,_,rfl,?_⟩
        cases e1:sp.1 with
        | none =>
          rw [e1] at hT
          refine iteF (hT _ _ ⟨rfl,by rw [hF']; simp,sm⟩)
        | some l =>
          rw [e1] at hT
          refine iteT ⟨_,rfl,.inl ⟨rfl,_,SqL.of hF'⟩,_,rfl,F,_,_,rfl,rfl,hF',big _ (by have:=hsz 0 (by omega); omega),hT _ _ ⟨rfl,by rw [upd_same,List.map_append]; rfl,fun c o nc e=>by rw [upd_ne nc]; exact sm c o nc e⟩⟩
      rintro σ H2 ⟨rfl,hx,sm2⟩
      have ex:=bord_snoc es
      rw [← List.append_assoc] at ex
      refine ⟨_,rfl,rfl,_,rfl,?_⟩
      cases e2:sp.2 with
      | none =>
        rw [e2] at ex
        refine iteF ⟨⟨_,_,rfl⟩,by rw [hx,ex]; simp,sm2⟩
      | some h =>
        rw [e2] at ex
        have hz1:=hsz 1 (by omega)
        rw [List.length_map] at hz1
        have hz2:sp.1.toList.length ≤ 1:=by cases sp.1 <;> simp
        refine iteT ⟨_,rfl,.inl ⟨rfl,_,SqL.of hx⟩,_,rfl,_,_,rfl,rfl,F,_,_,rfl,rfl,hx,by rw [List.length_map,List.length_append]; exact big _ (by omega),?_⟩
        exact ⟨⟨_,_,rfl⟩,by rw [upd_same,ex,List.map_append (l₁:=bordS _ ++ _)]; rfl,fun c o nc e=>by rw [upd_ne nc]; exact sm2 c o nc e⟩
    · rintro σ H' ⟨e,hF',sm⟩
      rw [List.length_map,List.length_append,h2.len,h2'.len,← List.length_append,List.take_length] at hF'
      refine hT _ _ ⟨e,hF',fun c o e=>sm c o (ne_of_none e hF) (s1 _ _ (s0 _ _ e))⟩
  rintro σ H' ⟨⟨o1,o2,rfl⟩,hF',sm⟩
  have hbl:=bord_len (sps ++ tps)
  rw [List.length_append] at hbl
  refine ⟨_,rfl,F,_,rfl,.inl (SqL.of hF'),by rw [List.length_map]; omega,.inl ⟨_,rfl⟩,fun SA ys hSA hso=>?_⟩
  obtain ⟨ms,rfl,hms,hmem⟩:=sorted_ints2 hso
  refine q SA ms _ (sm.trans (same_new hSA _)) upd_same hms hmem ?_
  have:=nodup_le (hms.imp fun h e=>by omega) fun m hm=>(hmem m).mp hm
  omega
def due (n:Int) (A B:CSet):CSet:=if n = 0 then cmn A B else if n = 1 then ei A B else lss A B
theorem num_due {n:Int} {A B:CSet} (h:isNum A = isNum B):isNum (due n A B) = isNum A:=by
  unfold due
  split
  · exact num_cmn h
  · split
    · exact sort_ei h
    · exact sort_lss h
theorem can_due {n:Int} {A B:CSet} (h:isNum A = isNum B) (a:Can A) (b:Can B):Can (due n A B):=by
  unfold due
  split
  · exact can_cmn' h a b
  · split
    · exact can_ei h a b
    · exact can_lss h a b
theorem has_due {n:Int} {A B:CSet} (h:isNum A = isNum B) (a:Can A) (b:Can B) {v:V} (hv:cellS (isNum A) v):hasV (due n A B) v = tru n (hasV A v) (hasV B v):=by
  unfold due tru
  split
  · exact has_cmn h hv
  · split
    · exact has_ei h a b hv
    · exact has_lss h b hv
theorem due_eq {n:Int} {A B D:CSet} (h:isNum A = isNum B) (a:Can A) (b:Can B) (hD:isNum D = isNum A) (cD:Can D) (e:∀ v,cellS (isNum A) v→hasV D v = tru n (hasV A v) (hasV B v)):D = due n A B :=
  set_ext (by rw [num_due h,hD]) cD (can_due h a b) fun v hv=>by rw [hD] at hv; rw [e v hv,has_due h a b hv]
theorem low_at {ms:List Int} {k:Nat} (h:k ≤ ms.length):atI ([V.non] ++ ms.map V.int) (0 + (k:Nat)) = some (eV (lowB ms k)):=by
  rw [Int.zero_add]
  refine atI_nat ?_
  unfold lowB
  cases k with
  | zero=>rfl
  | succ k =>
    rw [if_neg (Nat.succ_ne_zero k)]
    have hk:k < ms.length:=h
    simp only [List.singleton_append,List.getElem?_cons_succ,List.getElem?_map,Nat.add_sub_cancel,List.getElem?_eq_getElem hk]
    rfl
def spND:Sp:=fun vs H Q _=>∃ (n:Int) (a b:Addr) (sps tps:List Spn),vs = [.int n,.ref a,.ref b]∧0 ≤ n∧n < 3∧SetAt H a (.num sps)∧SetAt H b (.num tps)∧CanS sps∧CanS tps∧sps.length ≤ 40∧tps.length ≤ 40∧∀ u H',Same H H'→SetAt H' u (due n (.num sps) (.num tps))→Q (.ref u) H'
abbrev s__law_numbers_due:Stmt:=top 30
theorem sc__law_numbers_due:FnScope ["_law_way", "_law_one", "_law_other", "_law_borders_here", "_law_spans_here", "_law_k", "_law_low", "_law_high", "_law_probe"] ["_law_way", "_law_one", "_law_other"] (defScope s__law_numbers_due):=fs
theorem ok_nd (B:Blt mg) (B2:Blt2 mg) (F:FA K mg "_law_numbers_due" s__law_numbers_due) 
    (G__law_borders:Cal CX0 P w K mg base 1 "_law_borders" ["_law_one", "_law_other"] spBorders)
    (G__law_truth:Cal CX0 P w K mg base 1 "_law_truth" ["_law_way", "_law_here", "_law_there"] spTruth)
    (G__law_in:Cal CX0 P w K mg base 1 "_law_in" ["_law_tale", "_law_number_here"] spIn) :
    Cal CX0 P w K mg base 2 "_law_numbers_due" ["_law_way", "_law_one", "_law_other"] spND:=by
  refine F.ok sc__law_numbers_due fun f cdv A outer s H vs Q E hr h=>?_
  have hu:=hu8 hr
  obtain ⟨n,a,b,sps,tps,rfl,n0,n3,ha,hb,ca,cb,la,lb,q⟩:=h
  refine ⟨_,(pss_cons (ps_set (i:=3) sc__law_numbers_due.nd rfl (Or.inl rfl) (pe_c0 G__law_borders hr (pa_cons (pv 1) (pa_cons (pv 2) pa_nil))))
      (pss_cons (ps_set (i:=4) sc__law_numbers_due.nd rfl (Or.inl rfl) (pe_lst pa_nil))
      (pss_cons (ps_for PassesOwn.never rfl (pi_range1 rfl B.range (pa_cons (pe_op op_add (pe_callB call_len_seq rfl B.len PySem.boot_len (pa_cons (pv 3) pa_nil)) pe_int) pa_nil)) (pg_name (i:=5) sc__law_numbers_due.nd rfl (Or.inl rfl))
        (pss_cons (ps_set (i:=6) sc__law_numbers_due.nd rfl (Or.inl rfl) (pe_xL K (pe_op op_cat (pe_lst (pa_cons pe_non pa_nil)) (pv 3)) (pv 5)))
          (pss_cons (ps_set (i:=7) sc__law_numbers_due.nd rfl (Or.inl rfl) (pe_ifExp (pt_cC op_eq (pv 5) (pe_callB call_len_seq rfl B.len PySem.boot_len (pa_cons (pv 3) pa_nil))) pe_non (pe_op op_sub (pe_xL K (pv 3) (pv 5)) pe_int)))
          (pss_cons (ps_set (i:=8) sc__law_numbers_due.nd rfl (Or.inl rfl) (pe_xL K (pe_lst (pa_cons (pe_ifExp (pt_cC op_isN (pv 7) pe_non) pe_int (pv 7)) (pa_cons (pv 6) pa_nil))) (pe_callTy call_int1 rfl B2.int PyProof.Rows.boot_int (pa_cons (pe_cC op_notN (pv 6) pe_non) pa_nil))))
          (pss_one (ps_if (pt_val (pe_c0 G__law_truth hr (pa_cons (pv 0) (pa_cons (pe_c0 G__law_in hr (pa_cons (pv 1) (pa_cons (pv 8) pa_nil))) (pa_cons (pe_c0 G__law_in hr (pa_cons (pv 2) (pa_cons (pv 8) pa_nil))) pa_nil)))))
            (pss_one (ps_if (PW.pt (pw_and (pt_cC (op_neNil hu) (pv 4) (pe_lst pa_nil)) (pw_and (pt_cC op_gt (pv 5) pe_int) (pw_and1 (pt_cC op_eq (pe_xT K (pe_xL K (pv 4) (pe_un un_neg pe_int)) pe_int) (pe_op op_sub (pv 6) pe_int))))))
                (pss_one (ps_asg (pe_tup (pa_cons (pe_xT K (pe_xL K (pv 4) (pe_un un_neg pe_int)) pe_int) (pa_cons (pv 7) pa_nil))) (pg_sub (pv 4) (pe_un un_neg pe_int) set_list)))
                (pss_one (ps_expr (pe_bm PySem.F.plainAttrs_list PySem.F.slot_list_append PySem.F.type_list_append mt_append (pv 4) (pa_cons (pe_tup (pa_cons (pv 6) (pa_cons (pv 7) pa_nil))) pa_nil))))))
            pss_nil))))))
      (pss_ret (pe_tup (pa_cons pe_str (pa_cons (pe_callTy call_tuple_of rfl B.tuple PyProof.Rows.boot_tuple (pa_cons (pv 4) pa_nil)) pa_nil))))))),?_⟩
  refine ⟨_,rfl,_,rfl,a,b,sps,tps,rfl,ha,hb,la,lb,fun BA ms H1 s1 hBA hms hmem hml=>?_⟩
  refine gName_go ?_
  dsimp only
  refine ⟨szl0,fun L hL=>?_⟩
  refine gName_go ?_
  dsimp only
  have nBL:BA ≠ L:=ne_of_none hBA hL
  have fL:H L = none:=s1.free hL
  have hlm:(ms.map V.int).length = ms.length:=List.length_map _
  have big:∀ m:Nat,m ≤ 1000→m ≤ sizeLine:=fun m hm=>Nat.le_trans hm (by decide)
  refine seq_mid (fun σ H'=>∃ (o5 o6 o7 o8:Option V) (as:List Addr) (acc:List Spn),σ = [some (.int n),some (.ref a),some (.ref b),some (.ref BA),some (.ref L),o5,o6,o7,o8]∧SpL H' L as acc∧acc = (match due n (.num sps) (.num tps) with | .num x=>x | .wrd _ _=>[])∧Same H H') (fun T hT=>?_) ?_
  · refine ⟨_,rfl,BA,_,rfl,.inl (SqL.of (same_new hL _ _ _ hBA)),_,_,rfl,rfl,_,rfl,(p62a (by omega) (by rw [hlm]; omega)).1,(p62a (by omega) (by rw [hlm]; omega)).2,?_⟩
    have en:(((ms.map V.int).length:Nat) + 1:Int).toNat = ms.length + 1:=by rw [hlm]; omega
    rw [en]
    refine for_range (n:=ms.length + 1) (fun i σ H'=>∃ (o5 o6 o7 o8:Option V) (as:List Addr) (acc:List Spn),σ = [some (.int n),some (.ref a),some (.ref b),some (.ref BA),some (.ref L),o5,o6,o7,o8]∧SpL H' L as acc∧acc.length ≤ i∧BInv (fun x=>tru n (hasS sps x) (hasS tps x)) ms i acc∧∀ c o,c ≠ L→H1 c = some o→H' c = some o)
      ⟨none,none,none,none,[],[],rfl,⟨upd_same,rfl,fun i a s e=>by cases e⟩,Nat.le_refl _,BInv.nil,fun c o nc e=>by rw [upd_ne nc]; exact e⟩ ?_ ?_
    · rintro i σ H' hi ⟨o5,o6,o7,o8,as,acc,rfl,hS,hlen,hI,kp⟩
      have hil:i ≤ ms.length:=by omega
      refine gName_go ?_
      dsimp only
      have hB':=kp BA _ nBL hBA
      refine seq_mid (fun σ H2=>σ = [some (.int n),some (.ref a),some (.ref b),some (.ref BA),some (.ref L),some (.int (0 + (i:Nat))),some (eV (lowB ms i)),o7,o8]∧Same H' H2) (fun T2 hT2=>?_) ?_
      · refine ⟨szl1,fun p1 hp1=>⟨_,rfl,p1,BA,_,_,rfl,rfl,upd_same,same_new hp1 _ _ _ hB',by rw [hlm]; exact big _ (by simp; omega),fun p2 hp2=>⟨_,rfl,p2,_,_,_,rfl,rfl,SqL.of upd_same,low_at hil,?_⟩⟩⟩
        exact hT2 _ _ ⟨rfl,(same_new hp1 _).trans (same_new hp2 _)⟩
      rintro σ H2 ⟨rfl,sm2⟩
      have hB2:=sm2 _ _ hB'
      refine seq_mid (fun σ H3=>σ = [some (.int n),some (.ref a),some (.ref b),some (.ref BA),some (.ref L),some (.int (0 + (i:Nat))),some (eV (lowB ms i)),some (eV (highB ms i)),o8]∧H3 = H2) (fun T2 hT2=>?_) ?_
      · refine ⟨_,rfl,_,rfl,BA,_,rfl,.inl (SqL.of hB2),rfl,_,rfl,?_⟩
        refine ite2 (fun c=>?_) fun c=>?_
        · have c':(0 + (i:Nat):Int) = ((ms.map V.int).length:Nat):=by simpa using c
          have e:highB ms i = none:=by
            unfold highB
            rw [List.getElem?_eq_none (by rw [hlm] at c'; omega)]
            rfl
          refine hT2 _ _ ⟨?_,rfl⟩
          rw [e]
          rfl
        · have c':¬ (0 + (i:Nat):Int) = ((ms.map V.int).length:Nat):=by simpa using c
          have hi2:i < ms.length:=by rw [hlm] at c'; omega
          have e:highB ms i = some (ms[i] - 1):=by unfold highB; rw [List.getElem?_eq_getElem hi2]; rfl
          have ea:atI (ms.map V.int) (0 + (i:Nat)) = some (.int ms[i]):=by
            rw [Int.zero_add]
            refine atI_nat ?_
            rw [List.getElem?_map,List.getElem?_eq_getElem hi2]
            rfl
          refine ⟨_,rfl,_,rfl,BA,_,_,_,rfl,rfl,SqL.of hB2,ea,_,_,rfl,rfl,hT2 _ _ ⟨?_,rfl⟩⟩
          rw [e]
          rfl
      rintro σ H3 ⟨rfl,rfl⟩
      refine seq_mid (fun σ H4=>σ = [some (.int n),some (.ref a),some (.ref b),some (.ref BA),some (.ref L),some (.int (0 + (i:Nat))),some (eV (lowB ms i)),some (eV (highB ms i)),some (.int (probe (lowB ms i) (highB ms i)))]∧Same H' H4) (fun T2 hT2=>?_) ?_
      · have idx:∀ h:Option Int,atI [V.int (h.getD 0),eV (lowB ms i)] (if (!decide (eV (lowB ms i) = V.non)) = true then 1 else 0) = some (.int (probe (lowB ms i) h)):=fun h=>by
          unfold probe
          cases lowB ms i <;> rfl
        refine ⟨_,rfl,rfl,_,rfl,?_⟩
        have ix:=idx (highB ms i)
        cases eh:highB ms i with
        | none =>
          rw [eh] at ix hT2
          exact iteT ⟨_,rfl,szl2,fun p hp=>⟨_,rfl,rfl,.inr ⟨_,rfl,p,_,_,_,rfl,rfl,SqL.of upd_same,ix,hT2 _ _ ⟨rfl,sm2.trans (same_new hp _)⟩⟩⟩⟩
        | some x =>
          rw [eh] at ix hT2
          exact iteF ⟨_,rfl,_,rfl,szl2,fun p hp=>⟨_,rfl,rfl,.inr ⟨_,rfl,p,_,_,_,rfl,rfl,SqL.of upd_same,ix,hT2 _ _ ⟨rfl,sm2.trans (same_new hp _)⟩⟩⟩⟩
      rintro σ H4 ⟨rfl,sm4⟩
      have sH:Same H H4:=fun c o e=>sm4 _ _ (kp c o (ne_of_none e fL) (s1 _ _ e))
      refine ⟨_,rfl,_,rfl,_,rfl,a,sps,_,rfl,ha.same sH,_,rfl,_,rfl,b,tps,_,rfl,hb.same sH,n,_,_,rfl,n0,n3,fun H5 s5=>⟨_,rfl,?_⟩⟩
      have sm5:=sm4.trans s5
      have hS5:=hS.same sm5
      have kp5:∀ c o,c ≠ L→H1 c = some o→H5 c = some o:=fun c o nc e=>sm5 _ _ (kp c o nc e)
      obtain ⟨pr1,pr2⟩:=probe_in hms hil
      have hbo:∀ x ∈ bordS sps,x ∈ ms:=fun x hx=>(hmem x).mpr (by unfold bordS at hx ⊢; rw [List.flatMap_append]; exact List.mem_append_left _ hx)
      have hbo':∀ x ∈ bordS tps,x ∈ ms:=fun x hx=>(hmem x).mpr (by unfold bordS at hx ⊢; rw [List.flatMap_append]; exact List.mem_append_right _ hx)
      have cst:∀ x,¬ cov ms i x→cov ms (i + 1) x→tru n (hasS sps x) (hasS tps x) = tru n (hasS sps (probe (lowB ms i) (highB ms i))) (hasS tps (probe (lowB ms i) (highB ms i))):=fun x c1 c2=>by
        rw [stretch hms hbo c1 c2 pr1 pr2,stretch hms hbo' c1 c2 pr1 pr2]
      refine ite2 (fun ct=>?_) fun ct=>?_
      · have hT1:∀ x,¬ cov ms i x→cov ms (i + 1) x→tru n (hasS sps x) (hasS tps x) = true:=fun x c1 c2=>(cst x c1 c2).trans ct
        have app:∀ {H6:Hp},SpL H6 L as acc→(∀ c o,c ≠ L→H1 c = some o→H6 c = some o)→(∀ s ∈ acc,∃ x l,s.2 = some x∧lowB ms i = some l∧x + 1 < l)→∀ D':Ends,D'.nx = (fun σ H'=>∃ (o5 o6 o7 o8:Option V) (as:List Addr) (acc:List Spn),σ = [some (.int n),some (.ref a),some (.ref b),some (.ref BA),some (.ref L),o5,o6,o7,o8]∧SpL H' L as acc∧acc.length ≤ i + 1∧BInv (fun x=>tru n (hasS sps x) (hasS tps x)) ms (i + 1) acc∧∀ c o,c ≠ L→H1 c = some o→H' c = some o) →
            tDrop (tBM K "list" rAppend (tVar 4) (tCons (tTup (tCons (tVar 6) (tCons (tVar 7) tNil))) tNil)) D' [some (.int n),some (.ref a),some (.ref b),some (.ref BA),some (.ref L),some (.int (0 + (i:Nat))),some (eV (lowB ms i)),some (eV (highB ms i)),some (.int (probe (lowB ms i) (highB ms i)))] H6:=fun {H6} hS6 kp6 hg D' eD=>by
          refine ⟨_,rfl,.inl ⟨rfl,_,SqL.of hS6.lst⟩,_,rfl,_,rfl,szl2,fun t ht=>?_⟩
          have st:=same_new ht (.tup [eV (lowB ms i),eV (highB ms i)])
          have hS7:=hS6.same st
          refine ⟨L,_,_,rfl,rfl,hS7.lst,?_,?_⟩
          · rw [List.length_map,hS6.len]; exact Nat.lt_of_le_of_lt (show acc.length ≤ 1000 by omega) (by decide)
          rw [eD]
          refine ⟨_,_,_,_,as ++ [t],acc ++ [(lowB ms i,highB ms i)],rfl,?_,by rw [List.length_append]; exact Nat.add_le_add_right hlen 1,hI.app hms hil hT1 hg,fun c o nc e=>by rw [upd_ne nc]; exact st _ _ (kp6 c o nc e)⟩
          have:=SpL.put (as:=as) (sps:=acc) (as2:=as ++ [t]) (sps2:=acc ++ [(lowB ms i,highB ms i)]) hS7.lst (by rw [List.length_append,List.length_append,hS6.len]; rfl) (pair_snoc hS7.len (R:=fun a s=>_ = some (HO.tup [eV s.1,eV s.2])) hS7.at_ upd_same)
          rw [List.map_append] at this
          exact this
        refine rd_nn rfl hS5.lst fun z hz=>?_
        have sz:=same_new hz (.lst [])
        have hSz:=hS5.same sz
        have kpz:∀ c o,c ≠ L→H1 c = some o→upd H5 z (.lst []) c = some o:=fun c o nc e=>sz _ _ (kp5 c o nc e)
        rw [emp_ref hS5.len]
        by_cases ne:acc = []
        · subst ne
          exact iteF (iteF (app hSz kpz (by simp) _ rfl))
        have e1:acc.isEmpty = false:=by simpa using ne
        rw [e1]
        obtain ⟨as',c,acc',sp,ea,eacc,hl',hat',hc⟩:=hSz.unsnoc ne
        have hmem2:sp ∈ acc:=by rw [eacc]; exact List.mem_append_right _ (List.mem_singleton.mpr rfl)
        obtain ⟨x,ex,cx⟩:=hI.hi hil sp hmem2
        have i0:0 < i:=cx.1
        have el:lowB ms i = some ms[i - 1]:=by
          unfold lowB
          rw [if_neg (by omega),List.getElem?_eq_getElem (by omega)]
        have hlst:upd H5 z (.lst []) L = some (.lst (as'.map V.ref ++ [.ref c])):=by
          have:=hSz.lst
          rw [ea,List.map_append] at this
          exact this
        refine iteT ⟨_,rfl,_,_,rfl,rfl,_,rfl,?_⟩
        rw [decide_eq_true (show (0:Int) < 0 + (i:Nat) by omega)]
        refine iteT ⟨_,rfl,_,rfl,L,_,_,.ref c,rfl,rfl,SqL.of hlst,L2.atI_last _ _,c,_,_,_,rfl,rfl,SqT.of hc,rfl,_,rfl,ms[i - 1],1,(by rw [el]; rfl),rfl,(by rw [ex]; rfl),_,rfl,?_⟩
        have hxl:x < ms[i - 1]:=cx.2 _ (List.getElem?_eq_getElem (by omega))
        refine ite2 (fun cc=>?_) fun cc=>?_
        · have cc':x = ms[i - 1] - 1:=by rw [ex] at cc; simpa [eV] using cc
          refine ⟨_,rfl,_,rfl,L,_,_,.ref c,rfl,rfl,SqL.of hlst,L2.atI_last _ _,c,_,_,_,rfl,rfl,SqT.of hc,rfl,_,rfl,szl2,fun t ht=>?_⟩
          have st:=same_new ht (.tup [eV sp.1,eV (highB ms i)])
          refine ⟨_,rfl,_,rfl,L,_,_,as'.length,rfl,rfl,st _ _ hlst,?_,?_⟩
          · have:=ixN_last (as'.map V.ref) (V.ref c)
            rw [List.length_map] at this
            exact this
          have es:(as'.map V.ref ++ [V.ref c]).set as'.length (.ref t) = (as' ++ [t]).map V.ref:=by
            have:=set_last (as'.map V.ref) (V.ref c) (V.ref t)
            rw [List.length_map] at this
            rw [this,List.map_append]
            rfl
          rw [es]
          have esp:sp = (sp.1,some x):=by rw [← ex]
          rw [eacc,esp] at hI
          refine ⟨_,_,_,_,as' ++ [t],acc' ++ [(sp.1,highB ms i)],rfl,?_,?_,hI.mer hms hil hT1 (by rw [el,cc']; congr 1; omega),fun d o nd e=>by rw [upd_ne nd]; exact st _ _ (kpz d o nd e)⟩
          · exact SpL.put (as:=as') (sps:=acc') (st _ _ hlst) (by rw [List.length_append,List.length_append,hl']; rfl) (pair_snoc hl' (R:=fun a s=>_ = some (HO.tup [eV s.1,eV s.2])) (fun i a s e1 e2=>st _ _ (hat' i a s e1 e2)) upd_same)
          · rw [eacc,List.length_append] at hlen
            rw [List.length_append]
            exact Nat.le_succ_of_le hlen
        · have cc':¬ x = ms[i - 1] - 1:=by rw [ex] at cc; simpa [eV] using cc
          refine app hSz kpz (fun s hs=>?_) _ rfl
          obtain ⟨y,ey,cy⟩:=hI.hi hil s hs
          refine ⟨y,ms[i - 1],ey,el,?_⟩
          rw [eacc] at hs
          rcases List.mem_append.mp hs with zz | zz
          · have hpw:=hI.can.1
            rw [eacc] at hpw
            obtain ⟨h',l',e1',e2',e3'⟩:=(List.pairwise_append.mp hpw).2.2 s zz sp (by simp)
            rw [ey] at e1'
            cases e1'
            have:=hI.can.2 sp hmem2 l' x e2' ex
            omega
          · rw [List.mem_singleton.mp zz,ex] at ey
            cases ey
            omega
      · exact ⟨_,_,_,_,as,acc,rfl,hS5,by omega,hI.skip hms fun x c1 c2=>by rw [cst x c1 c2]; simpa using ct,kp5⟩
    · rintro σ H' ⟨o5,o6,o7,o8,as,acc,rfl,hS,hlen,hI,kp⟩
      refine hT _ _ ⟨o5,o6,o7,o8,as,acc,rfl,hS,?_,fun c o e=>kp c o (ne_of_none e fL) (s1 _ _ e)⟩
      have e:CSet.num acc = due n (.num sps) (.num tps):=due_eq rfl ca cb rfl hI.can fun v hv=>by
        obtain ⟨x,rfl⟩:=hv
        exact hI.fin x
      rw [← e]
  rintro σ H' ⟨o5,o6,o7,o8,as,acc,rfl,hS,he,sm⟩
  refine ⟨_,rfl,L,_,rfl,.inl ⟨SqL.of hS.lst,fun t ht=>⟨szl2,fun u hu=>?_⟩⟩⟩
  have t1:=same_new ht (.tup (as.map V.ref))
  have t2:=same_new hu (.tup [.str "n", .ref t])
  have hnum:due n (.num sps) (.num tps) = .num acc:=by
    have:=num_due (n:=n) (A:=.num sps) (B:=.num tps) rfl
    cases hd:due n (.num sps) (.num tps) with
    | num x=>rw [hd] at he; rw [he]
    | wrd _ _=>rw [hd] at this; cases this
  refine q u _ (sm.trans (t1.trans t2)) ?_
  rw [hnum]
  exact ⟨t,as,upd_same,t2 _ _ upd_same,hS.len,fun i b sp e1 e2=>t2 _ _ (t1 _ _ (hS.at_ i b sp e1 e2))⟩
def dE:Option Int→D
  | none=>.non
  | some i=>.int i
theorem dE_at {K:PySem.W.Frag} {H:Hp} (e:Option Int):DAt K H (dE e) (eV e):=by
  cases e <;> (unfold dE; rw [DAt]; rfl)
def dS:CSet→D
  | .num sps=>.tup [.str "n", .tup (sps.map fun s=>.tup [dE s.1,dE s.2])]
  | .wrd b ws=>.tup [.str "w", .bl b,.tup (ws.map D.str)]
theorem dat_set {K:PySem.W.Frag} {H:Hp} {a:Addr} {S:CSet} (h:SetAt H a S):DAt K H (dS S) (.ref a):=by
  cases S with
  | num sps =>
    obtain ⟨t,as,ha,hs⟩:=h
    refine dat_tup ha (DsAt.cons (dat_str _) (DsAt.cons (dat_tup hs.tup (DsAt.of (by rw [List.length_map,List.length_map,hs.len]) fun i d v e1 e2=>?_)) DsAt.nil))
    rw [List.getElem?_map] at e1 e2
    cases q1:sps[i]? with
    | none=>rw [q1] at e1; cases e1
    | some s =>
      cases q2:as[i]? with
      | none=>rw [q2] at e2; cases e2
      | some b =>
        rw [q1] at e1
        rw [q2] at e2
        cases e1
        cases e2
        exact dat_tup (hs.at_ i b s q2 q1) (DsAt.cons (dE_at _) (DsAt.cons (dE_at _) DsAt.nil))
  | wrd b ws =>
    obtain ⟨t,ha,ht⟩:=h
    refine dat_tup ha (DsAt.cons (dat_str _) (DsAt.cons (dat_bl _) (DsAt.cons (dat_tup ht (DsAt.of (by rw [List.length_map,List.length_map]) fun i d v e1 e2=>?_)) DsAt.nil)))
    rw [List.getElem?_map] at e1 e2
    cases q1:ws[i]? with
    | none=>rw [q1] at e1; cases e1
    | some x =>
      rw [q1] at e1 e2
      cases e1
      cases e2
      exact dat_str x
theorem depth_flat {α:Type} {f:α→D} {n:Nat} (h:∀ a,(f a).depth ≤ n):∀ l:List α,depths (l.map f) ≤ n
  | []=>Nat.zero_le _
  | a :: l=>by rw [List.map_cons,depths]; have:=h a; have:=depth_flat h l; omega
theorem dE_depth (e:Option Int):(dE e).depth = 0:=by cases e <;> simp [dE,D.depth]
theorem dS_depth (S:CSet):(dS S).depth ≤ 3:=by
  cases S with
  | num sps =>
    have:=depth_flat (f:=fun s:Spn=>D.tup [dE s.1,dE s.2]) (n:=1) (fun s=>by simp [D.depth,depths,dE_depth]) sps
    simp only [dS,D.depth,depths]; omega
  | wrd b ws =>
    have:=depth_flat (f:=D.str) (n:=0) (fun s=>by simp [D.depth]) ws
    simp only [dS,D.depth,depths]; omega
theorem neD_go {K:PySem.W.Frag} {A:Around} {d e:D} {x y:V} {H:Hp} {Q:VK} (hx:DAt K H d x) (hy:DAt K H e y) (hu:A.units + d.depth < cLine) (he:d = e) (q:Q (.bl false) H):rNeD K A x y H Q:=⟨d,e,hx,hy,hu,by rw [he,eqD_self]; exact q⟩
theorem bl_eq (x y:Bool):decide (V.bl x = V.bl y) = (x == y):=by cases x <;> cases y <;> rfl
def spWD:Sp:=fun vs H Q _=>∃ (n:Int) (a b:Addr) (c c':Bool) (ws us:List Str),vs = [.int n,.ref a,.ref b]∧0 ≤ n∧n < 3∧SetAt H a (.wrd c ws)∧SetAt H b (.wrd c' us)∧Can (.wrd c ws)∧Can (.wrd c' us)∧ws.length ≤ 40∧us.length ≤ 40∧∀ u H',Same H H'→SetAt H' u (due n (.wrd c ws) (.wrd c' us))→Q (.ref u) H'
theorem wd_eq {n:Int} {c c':Bool} {ws us ms:List Str} (ca:Can (.wrd c ws)) (cb:Can (.wrd c' us)) (hms:ms.Pairwise ltS) (hmem:∀ x,x ∈ ms ↔ x ∈ ws ++ us) :
    CSet.wrd (!tru n (!c) (!c')) (ms.filter fun x=>tru n (hasV (.wrd c ws) (.str x)) (hasV (.wrd c' us) (.str x)) != tru n (!c) (!c')) = due n (.wrd c ws) (.wrd c' us):=by
  refine due_eq rfl ca cb rfl ⟨hms.filter _,fun x hx=>?_⟩ fun v hv=>?_
  · rcases List.mem_append.mp ((hmem x).mp (List.mem_filter.mp hx).1) with z | z
    · exact ca.2 x z
    · exact cb.2 x z
  · obtain ⟨x,rfl⟩:=hv
    have eD:hasV (.wrd (!tru n (!c) (!c')) (ms.filter fun x=>tru n (hasV (.wrd c ws) (.str x)) (hasV (.wrd c' us) (.str x)) != tru n (!c) (!c'))) (.str x) = (decide (x ∈ ms.filter fun x=>tru n (hasV (.wrd c ws) (.str x)) (hasV (.wrd c' us) (.str x)) != tru n (!c) (!c')) == !tru n (!c) (!c')):=rfl
    rw [eD]
    by_cases hx:x ∈ ms
    · have e:decide (x ∈ ms.filter fun x=>tru n (hasV (.wrd c ws) (.str x)) (hasV (.wrd c' us) (.str x)) != tru n (!c) (!c')) = (tru n (hasV (.wrd c ws) (.str x)) (hasV (.wrd c' us) (.str x)) != tru n (!c) (!c')):=by
        rw [Bool.eq_iff_iff,decide_eq_true_eq,List.mem_filter]
        exact ⟨fun z=>z.2,fun z=>⟨hx,z⟩⟩
      rw [e]
      generalize tru n (hasV (.wrd c ws) (.str x)) (hasV (.wrd c' us) (.str x)) = p
      generalize tru n (!c) (!c') = r
      cases p <;> cases r <;> rfl
    · have e:decide (x ∈ ms.filter fun x=>tru n (hasV (.wrd c ws) (.str x)) (hasV (.wrd c' us) (.str x)) != tru n (!c) (!c')) = false:=decide_eq_false fun z=>hx (List.mem_filter.mp z).1
      have hx2:x ∉ ws ++ us:=fun z=>hx ((hmem x).mpr z)
      have w1:hasV (.wrd c ws) (.str x) = !c:=by
        show (decide (x ∈ ws) == c) = !c
        rw [decide_eq_false fun z=>hx2 (List.mem_append_left _ z)]
        cases c <;> rfl
      have w2:hasV (.wrd c' us) (.str x) = !c':=by
        show (decide (x ∈ us) == c') = !c'
        rw [decide_eq_false fun z=>hx2 (List.mem_append_right _ z)]
        cases c' <;> rfl
      rw [e,w1,w2]
      generalize tru n (!c) (!c') = r
      cases r <;> rfl
abbrev s__law_words_due:Stmt:=top 31
theorem sc__law_words_due:FnScope ["_law_way", "_law_one", "_law_other", "_law_rest", "_law_found", "_law_word_here"] ["_law_way", "_law_one", "_law_other"] (defScope s__law_words_due):=fs
theorem ok_wd (B:Blt mg) (B2:Blt2 mg) (F:FA K mg "_law_words_due" s__law_words_due) 
    (G__law_truth:Cal CX0 P w K mg base 1 "_law_truth" ["_law_way", "_law_here", "_law_there"] spTruth) :
    Cal CX0 P w K mg base 2 "_law_words_due" ["_law_way", "_law_one", "_law_other"] spWD:=by
  refine F.ok sc__law_words_due fun f cdv A outer s H vs Q E hr h=>?_
  have hu:=hu8 hr
  obtain ⟨n,a,b,c,c',ws,us,rfl,n0,n3,ha,hb,ca,cb,la,lb,q⟩:=h
  refine ⟨_,(pss_cons (ps_set (i:=3) sc__law_words_due.nd rfl (Or.inl rfl) (pe_c0 G__law_truth hr (pa_cons (pv 0) (pa_cons (pe_not (pe_xT K (pv 1) pe_int)) (pa_cons (pe_not (pe_xT K (pv 2) pe_int)) pa_nil)))))
      (pss_cons (ps_set (i:=4) sc__law_words_due.nd rfl (Or.inl rfl) (pe_lst pa_nil))
      (pss_cons (ps_for PassesOwn.never rfl (pi_list (pe_sortset rfl rfl B2.sorted rfl B2.set (pe_op op_catH (pe_xT K (pv 1) pe_int) (pe_xT K (pv 2) pe_int)))) (pg_name (i:=5) sc__law_words_due.nd rfl (Or.inl rfl))
        (pss_one (ps_if (pt_cC op_ne (pe_c0 G__law_truth hr (pa_cons (pv 0) (pa_cons (pe_cC op_eq (pe_cmpR op_in_seq (pv 5) (pe_xT K (pv 1) pe_int) rfl) (pe_xT K (pv 1) pe_int)) (pa_cons (pe_cC op_eq (pe_cmpR op_in_seq (pv 5) (pe_xT K (pv 2) pe_int) rfl) (pe_xT K (pv 2) pe_int)) pa_nil)))) (pv 3))
            (pss_one (ps_expr (pe_bm PySem.F.plainAttrs_list PySem.F.slot_list_append PySem.F.type_list_append mt_append (pv 4) (pa_cons (pv 5) pa_nil))))
            pss_nil)))
      (pss_ret (pe_tup (pa_cons pe_str (pa_cons (pe_not (pv 3)) (pa_cons (pe_callTy call_tuple_of rfl B.tuple PyProof.Rows.boot_tuple (pa_cons (pv 4) pa_nil)) pa_nil)))))))),?_⟩
  obtain ⟨t,h1,h2⟩:=ha
  obtain ⟨t',h1',h2'⟩:=hb
  refine ⟨_,rfl,_,rfl,a,_,1,_,rfl,rfl,SqT.of h1,rfl,_,rfl,_,rfl,b,_,1,_,rfl,rfl,SqT.of h1',rfl,_,rfl,n,_,_,rfl,n0,n3,fun H1 s1=>?_⟩
  refine gName_go ?_
  dsimp only
  refine ⟨szl0,fun F hF=>?_⟩
  refine gName_go ?_
  dsimp only
  have s0:=same_new hF (.lst [])
  have sF:=s1.trans s0
  refine seq_mid (fun σ H'=>∃ (o:Option V) (ms:List Str),σ = [some (.int n),some (.ref a),some (.ref b),some (.bl (tru n (!c) (!c'))),some (.ref F),o]∧ms.Pairwise ltS∧(∀ x,x ∈ ms ↔ x ∈ ws ++ us)∧H' F = some (.lst ((ms.filter fun x=>tru n (hasV (.wrd c ws) (.str x)) (hasV (.wrd c' us) (.str x)) != tru n (!c) (!c')).map V.str))∧Same H H') (fun T hT=>?_) ?_
  · refine ⟨_,rfl,a,_,2,_,rfl,rfl,SqT.of (sF _ _ h1),rfl,_,rfl,b,_,2,_,rfl,rfl,SqT.of (sF _ _ h1'),rfl,t,t',_,_,rfl,rfl,sF _ _ h2,sF _ _ h2',?_,fun u H2 s2 hu=>⟨u,_,rfl,.inr (SqT.of hu),?_,.inr ⟨ws ++ us,by rw [List.map_append]⟩,fun SA ys hSA hso=>?_⟩⟩
    · rw [List.length_map,List.length_map]
      exact Nat.le_trans (show _ ≤ 100 by omega) (by decide)
    · rw [List.length_append,List.length_map,List.length_map]; omega
    rw [← List.map_append] at hso
    obtain ⟨ms,rfl,hms,hmem⟩:=sorted_strs2 hso
    have hml:ms.length ≤ 80:=by
      have:=nodup_le (nodup_of hms) fun m hm=>(hmem m).mp hm
      rw [List.length_append] at this
      omega
    have s3:=same_new hSA (.lst (ms.map V.str))
    have nF:F ≠ SA:=ne_of_none (s2 _ _ (upd_same (H:=H1) (a:=F) (o:=.lst []))) hSA
    have fF:H F = none:=s1.free hF
    refine ⟨SA,rfl,⟨_,SqL.of upd_same⟩,?_⟩
    refine for_list (xs:=ms.map V.str) (fun i σ H'=>∃ (o:Option V),σ = [some (.int n),some (.ref a),some (.ref b),some (.bl (tru n (!c) (!c'))),some (.ref F),o]∧H' F = some (.lst (((ms.take i).filter fun x=>tru n (hasV (.wrd c ws) (.str x)) (hasV (.wrd c' us) (.str x)) != tru n (!c) (!c')).map V.str))∧H' SA = some (.lst (ms.map V.str))∧Same H H')
      ⟨none,rfl,s3 _ _ (s2 _ _ upd_same),upd_same,sF.trans (s2.trans s3)⟩ ?_ ?_ ?_
    · rintro i σ H' _ ⟨_,_,_,h,_⟩
      exact SqL.of h
    · rintro i v σ H' hv ⟨o,rfl,hF',hSA',sm⟩
      rw [List.getElem?_map] at hv
      cases ex:ms[i]? with
      | none=>rw [ex] at hv; cases hv
      | some x =>
        rw [ex] at hv
        have hv':V.str x = v:=Option.some.inj hv
        subst hv'
        refine gName_go ?_
        dsimp only
        have g1:=sm _ _ h1
        have g2:=sm _ _ h2
        have g1':=sm _ _ h1'
        have g2':=sm _ _ h2'
        refine ⟨_,rfl,_,rfl,_,rfl,a,_,2,_,rfl,rfl,SqT.of g1,rfl,t,_,rfl,.inr (SqT.of g2),rfl,flat_str ws,_,rfl,a,_,1,_,rfl,rfl,SqT.of g1,rfl,rfl,_,rfl,_,rfl,b,_,2,_,rfl,rfl,SqT.of g1',rfl,t',_,rfl,.inr (SqT.of g2'),rfl,flat_str us,_,rfl,b,_,1,_,rfl,rfl,SqT.of g1',rfl,rfl,n,_,_,rfl,n0,n3,fun H3 t3=>?_⟩
        have e1:decide (V.bl (inV (.str x) (ws.map V.str)) = V.bl c) = hasV (.wrd c ws) (.str x):=by rw [inV_str,bl_eq]; rfl
        have e2:decide (V.bl (inV (.str x) (us.map V.str)) = V.bl c') = hasV (.wrd c' us) (.str x):=by rw [inV_str,bl_eq]; rfl
        refine ⟨_,rfl,rfl,_,rfl,?_⟩
        show if (!decide (V.bl (tru n (decide (V.bl (inV (.str x) (ws.map V.str)) = V.bl c)) (decide (V.bl (inV (.str x) (us.map V.str)) = V.bl c'))) = V.bl (tru n (!c) (!c')))) = true then _ else _
        rw [bl_eq,e1,e2]
        have et:((ms.take (i + 1)).filter fun x=>tru n (hasV (.wrd c ws) (.str x)) (hasV (.wrd c' us) (.str x)) != tru n (!c) (!c')) = ((ms.take i).filter fun x=>tru n (hasV (.wrd c ws) (.str x)) (hasV (.wrd c' us) (.str x)) != tru n (!c) (!c')) ++ (if (!(tru n (hasV (.wrd c ws) (.str x)) (hasV (.wrd c' us) (.str x)) == tru n (!c) (!c'))) = true then [x] else []):=by
          rw [take_one ex,List.filter_append,List.filter_cons]
          rfl
        have hF3:=t3 _ _ hF'
        have hSA3:=t3 _ _ hSA'
        refine ite2 (fun cc=>?_) fun cc=>?_
        · rw [if_pos cc] at et
          refine ⟨_,rfl,.inl ⟨rfl,_,SqL.of hF3⟩,_,rfl,F,_,_,rfl,rfl,hF3,?_,_,rfl,?_,?_,sam_put (sm.trans t3) fF⟩
          · rw [List.length_map]
            have:=List.length_filter_le (fun x=>tru n (hasV (.wrd c ws) (.str x)) (hasV (.wrd c' us) (.str x)) != tru n (!c) (!c')) (ms.take i)
            rw [List.length_take] at this
            exact Nat.lt_of_le_of_lt (show _ ≤ 80 by omega) (by decide)
          · rw [upd_same,et,List.map_append]
            rfl
          · rw [upd_ne (Ne.symm nF)]; exact hSA3
        · rw [if_neg cc,List.append_nil] at et
          exact ⟨_,rfl,by rw [et]; exact hF3,hSA3,sm.trans t3⟩
    · rintro σ H' ⟨o,rfl,hF',hSA',sm⟩
      rw [List.length_map,List.take_length] at hF'
      exact hT _ _ ⟨o,ms,rfl,hms,hmem,hF',sm⟩
  rintro σ H' ⟨o,ms,rfl,hms,hmem,hF',sm⟩
  refine ⟨_,rfl,_,rfl,_,rfl,F,_,rfl,.inl ⟨SqL.of hF',fun p hp=>⟨szl3,fun u hu=>?_⟩⟩⟩
  refine q u _ (sm.trans ((same_new hp _).trans (same_new hu _))) ?_
  rw [← wd_eq ca cb hms hmem]
  exact ⟨p,upd_same,same_new hu _ _ _ upd_same⟩
def spDue:Sp:=fun vs H Q _=>∃ (n:Int) (a b:Addr) (A B:CSet),vs = [.int n,.ref a,.ref b]∧0 ≤ n∧n < 3∧CAt H a A 40 40∧CAt H b B 40 40∧isNum A = isNum B∧∀ u H',Same H H'→SetAt H' u (due n A B)→Q (.ref u) H'
abbrev s__law_due:Stmt:=top 32
theorem sc__law_due:FnScope ["_law_way", "_law_one", "_law_other"] ["_law_way", "_law_one", "_law_other"] (defScope s__law_due):=fs
theorem ok_due (F:FA K mg "_law_due" s__law_due) 
    (G__law_numbers_due:Cal CX0 P w K mg base 2 "_law_numbers_due" ["_law_way", "_law_one", "_law_other"] spND)
    (G__law_words_due:Cal CX0 P w K mg base 2 "_law_words_due" ["_law_way", "_law_one", "_law_other"] spWD) :
    Cal CX0 P w K mg base 3 "_law_due" ["_law_way", "_law_one", "_law_other"] spDue:=by
  refine F.ok sc__law_due fun f cdv A outer s H vs Q E hr h=>?_
  obtain ⟨n,a,b,S,T,rfl,n0,n3,ha,hb,hs,q⟩:=h
  refine ⟨_,(pss_ifR (pt_cC op_eq (pe_xT K (pv 1) pe_int) pe_str) (pe_c0 G__law_numbers_due hr (pa_cons (pv 0) (pa_cons (pv 1) (pa_cons (pv 2) pa_nil))))
      (pss_ret (pe_c0 G__law_words_due hr (pa_cons (pv 0) (pa_cons (pv 1) (pa_cons (pv 2) pa_nil)))))),?_⟩
  cases S with
  | num x =>
    cases T with
    | wrd c y=>cases hs
    | num y =>
      obtain ⟨t,as,h1,h2⟩:=ha.at_
      refine ⟨_,rfl,a,_,0,_,rfl,rfl,SqT.of h1,rfl,rfl,_,rfl,?_⟩
      refine ite2 (fun _=>?_) (fun c=>absurd (decide_eq_true rfl) c)
      exact ⟨_,rfl,_,rfl,_,rfl,n,a,b,x,y,rfl,n0,n3,ha.at_,hb.at_,ha.can,hb.can,ha.len,hb.len,q⟩
  | wrd c x =>
    cases T with
    | num y=>cases hs
    | wrd c' y =>
      obtain ⟨t,h1,h2⟩:=ha.at_
      refine ⟨_,rfl,a,_,0,_,rfl,rfl,SqT.of h1,rfl,rfl,_,rfl,?_⟩
      refine ite2 (fun z=>absurd z (by decide)) (fun _=>?_)
      exact ⟨_,rfl,_,rfl,_,rfl,n,a,b,c,c',x,y,rfl,n0,n3,ha.at_,hb.at_,ha.can,hb.can,ha.len,hb.len,q⟩
def spRight:Sp:=fun vs H Q _=>∃ (a b:Addr) (A B:CSet),vs = [.ref a,.ref b]∧CAt H a A 40 40∧CAt H b B 40 40∧isNum A = isNum B∧∀ H',Same H H'→Q (.bl true) H'
theorem none_in (S:CSet):inDs (dS S) [D.tup [.str "n", .tup []],D.tup [.str "w", .bl true,.tup []]] = noneB S:=by
  cases S with
  | num sps =>
    cases sps with
    | nil=>rfl
    | cons s r=>rfl
  | wrd b ws =>
    cases b <;> cases ws <;> rfl
abbrev s__law_right:Stmt:=top 33
theorem sc__law_right:FnScope ["_law_one", "_law_other", "_law_rest", "_law_found"] ["_law_one", "_law_other"] (defScope s__law_right):=fs
theorem ok_right (B:Blt mg) (B2:Blt2 mg) (F:FA K mg "_law_right" s__law_right) 
    (G_common:Cal CX0 P w K mg base 4 "common" ["one", "other"] spCmn)
    (G__law_due:Cal CX0 P w K mg base 3 "_law_due" ["_law_way", "_law_one", "_law_other"] spDue)
    (G_either:Cal CX0 P w K mg base 5 "either" ["one", "other"] spEi)
    (G_less:Cal CX0 P w K mg base 5 "less" ["one", "other"] spLss)
    (G_lies_in:Cal CX0 P w K mg base 6 "lies_in" ["one", "other"] spLies) :
    Cal CX0 P w K mg base 7 "_law_right" ["_law_one", "_law_other"] spRight:=by
  refine F.ok sc__law_right fun f cdv A outer s H vs Q E hr h=>?_
  have hu:=hu8 hr
  obtain ⟨a,b,S,T,rfl,ha,hb,hs,q⟩:=h
  refine ⟨_,(pss_ifR (PW.pt (pw_or (pt_cC op_neD (pe_c0 G_common hr (pa_cons (pv 0) (pa_cons (pv 1) pa_nil))) (pe_c0 G__law_due hr (pa_cons pe_int (pa_cons (pv 0) (pa_cons (pv 1) pa_nil))))) (pw_or1 (pt_cC op_neD (pe_c0 G_either hr (pa_cons (pv 0) (pa_cons (pv 1) pa_nil))) (pe_c0 G__law_due hr (pa_cons pe_int (pa_cons (pv 0) (pa_cons (pv 1) pa_nil)))))))) pe_bl
      (pss_cons (ps_set (i:=2) sc__law_right.nd rfl (Or.inl rfl) (pe_c0 G__law_due hr (pa_cons pe_int (pa_cons (pv 0) (pa_cons (pv 1) pa_nil)))))
      (pss_ifR (pt_cC op_neD (pe_c0 G_less hr (pa_cons (pv 0) (pa_cons (pv 1) pa_nil))) (pv 2)) pe_bl
      (pss_cons (ps_set (i:=3) sc__law_right.nd rfl (Or.inl rfl) (pe_c0 G_lies_in hr (pa_cons (pv 0) (pa_cons (pv 1) pa_nil))))
      (pss_ret (pe_and (pe_callB call_isinst rfl B.isinstance PyProof.Rows.boot_isinstance (pa_cons (pv 3) (pa_cons (pe_bty (n:="bool") rfl B2.bool (by decide +kernel)) pa_nil))) (pe_one (pe_cC op_eq (pv 3) (pe_cmpR op_inD (pv 2) (pe_lst (pa_cons (pe_tup (pa_cons pe_str (pa_cons (pe_tup pa_nil) pa_nil))) (pa_cons (pe_tup (pa_cons pe_str (pa_cons pe_bl (pa_cons (pe_tup pa_nil) pa_nil)))) pa_nil))) rfl))))))))),?_⟩
  have hd:∀ S,(A.deeper (PyProof.Rows.envOfC "_law_right" (defScope s__law_right) s.heap.objs.size f cdv)).units + (dS S).depth < cLine:=fun S=>by have:=dS_depth S; have:=hu; omega
  refine ⟨_,rfl,_,rfl,a,S,40,40,b,T,40,40,rfl,ha,hb,hs,by decide,by decide,fun u1 H1 s1 c1=>?_⟩
  refine ⟨_,rfl,_,rfl,0,a,b,S,T,rfl,by decide,by decide,ha.same s1,hb.same s1,hs,fun u2 H2 s2 c2=>?_⟩
  refine neD_go (dat_set (c1.at_.same s2)) (dat_set c2) (hd _) rfl ⟨_,rfl,?_⟩
  have t2:=s1.trans s2
  refine iteF ⟨_,rfl,_,rfl,a,S,40,40,b,T,40,40,rfl,ha.same t2,hb.same t2,hs,by decide,by decide,by decide,by decide,fun u3 H3 s3 c3=>?_⟩
  have t3:=t2.trans s3
  refine ⟨_,rfl,_,rfl,1,a,b,S,T,rfl,by decide,by decide,ha.same t3,hb.same t3,hs,fun u4 H4 s4 c4=>?_⟩
  refine neD_go (dat_set (c3.at_.same s4)) (dat_set c4) (hd _) rfl ⟨_,rfl,?_⟩
  have t4:=t3.trans s4
  refine iteF ⟨_,rfl,_,rfl,2,a,b,S,T,rfl,by decide,by decide,ha.same t4,hb.same t4,hs,fun u5 H5 s5 c5=>?_⟩
  refine gName_go ?_
  dsimp only
  have t5:=t4.trans s5
  refine ⟨_,rfl,_,rfl,a,S,40,40,b,T,40,40,rfl,ha.same t5,hb.same t5,hs,by decide,by decide,by decide,fun u6 H6 s6 c6=>⟨_,rfl,?_⟩⟩
  refine neD_go (dat_set c6.at_) (dat_set (c5.same s6)) (hd _) rfl ⟨_,rfl,?_⟩
  have t6:=t5.trans s6
  refine iteF ⟨_,rfl,_,rfl,a,S,40,40,b,T,40,40,rfl,ha.same t6,hb.same t6,hs,by decide,by decide,by decide,fun H7 s7=>?_⟩
  refine gName_go ?_
  dsimp only
  have t7:=t6.trans s7
  refine ⟨_,rfl,_,_,_,_,_,rfl,rfl,.inl (.bl _),kit_same (by decide),true,rfl,?_⟩
  refine iteT ⟨_,rfl,_,rfl,szl0,fun e1 he1=>⟨szl2,fun p1 hp1=>⟨szl0,fun e2 he2=>⟨szl3,fun p2 hp2=>⟨szl2,fun l hl=>?_⟩⟩⟩⟩⟩
  have a1:=same_new he1 (.tup [])
  have a2:=same_new hp1 (.tup [.str "n", .ref e1])
  have a3:=same_new he2 (.tup [])
  have a4:=same_new hp2 (.tup [.str "w", .bl true,.ref e2])
  have a5:=same_new hl (.lst [.ref p1,.ref p2])
  refine ⟨dS (due 2 S T),[D.tup [.str "n", .tup []],D.tup [.str "w", .bl true,.tup []]],l,_,rfl,.inl (SqL.of upd_same),dat_set (c5.same (s6.trans (s7.trans (a1.trans (a2.trans (a3.trans (a4.trans a5))))))),?_,?_,rfl,?_⟩
  · refine DsAt.cons (dat_tup (a5 _ _ (a4 _ _ (a3 _ _ upd_same))) (DsAt.cons (dat_str _) (DsAt.cons (dat_tup (a5 _ _ (a4 _ _ (a3 _ _ (a2 _ _ upd_same)))) DsAt.nil) DsAt.nil))) (DsAt.cons (dat_tup (a5 _ _ upd_same) (DsAt.cons (dat_str _) (DsAt.cons (dat_bl _) (DsAt.cons (dat_tup (a5 _ _ (a4 _ _ upd_same)) DsAt.nil) DsAt.nil)))) DsAt.nil)
  · have e:depths [D.tup [.str "n", .tup []],D.tup [.str "w", .bl true,.tup []]] = 2:=by decide +kernel
    rw [e]
    exact (show (A.deeper (PyProof.Rows.envOfC "_law_right" (defScope s__law_right) s.heap.objs.size f cdv)).units + 1 + 2 < cLine by have:=hu; omega)
  have e:decide (V.bl (noneB (lss S T)) = V.bl (if false = true then !inDs (dS (due 2 S T)) [D.tup [.str "n", .tup []],D.tup [.str "w", .bl true,.tup []]] else inDs (dS (due 2 S T)) [D.tup [.str "n", .tup []],D.tup [.str "w", .bl true,.tup []]])) = true:=by
    rw [if_neg (by simp),none_in]
    exact decide_eq_true rfl
  show Q (.bl (decide (V.bl (noneB (lss S T)) = V.bl (if false = true then !inDs (dS (due 2 S T)) [D.tup [.str "n", .tup []],D.tup [.str "w", .bl true,.tup []]] else inDs (dS (due 2 S T)) [D.tup [.str "n", .tup []],D.tup [.str "w", .bl true,.tup []]])))) _
  rw [e]
  exact q _ (t7.trans (a1.trans (a2.trans (a3.trans (a4.trans a5)))))
def spLaw (K:PySem.W.Frag):Sp:=fun vs H Q _=>∃ (a:Addr) (ns:List Int),vs = [.ref a]∧SqL K H a (ns.map V.int)∧ns.length ≤ 63∧∀ H',Q (.bl true) H'
abbrev s_law:Stmt:=top 34
theorem sc_law:FnScope ["_law_script", "_law_k", "_law_one", "_law_other"] ["_law_script"] (defScope s_law):=fs
section
variable {P:Program} {w:World} {K:PySem.W.Frag} {mg:Str→Option Value} {base:Heap}
theorem ok_law {f:Addr} {fd:FuncData} (B:Blt mg) (B2:Blt2 mg) (F:Fun K "law" "law" s_law f fd) 
    (G__law_two:Cal CX0 P w K mg base 4 "_law_two" ["_law_script", "_law_k"] (spTwo K))
    (G__law_right:Cal CX0 P w K mg base 7 "_law_right" ["_law_one", "_law_other"] spRight) :
    FnOk P w K mg base CX0 8 f fd ["_law_script"] (spLaw K):=by
  refine F.ok sc_law (fun vs H Q E h=>?_) (fun cdv A outer s H vs Q E hr h=>?_)
  · obtain ⟨a,ns,rfl,_⟩:=h
    rfl
  have hu:=hu8 hr
  obtain ⟨a,ns,rfl,hS,h63,q⟩:=h
  refine ⟨_,(pss_cons (ps_for PassesOwn.never rfl (pi_range1 rfl B.range (pa_cons (pe_op op_add pe_int (pe_callB (call_min2 rfl) rfl B2.min PyProof.Rows.boot_min (pa_cons pe_int (pa_cons (pe_callB call_len_seq rfl B.len PySem.boot_len (pa_cons (pv 0) pa_nil)) pa_nil)))) pa_nil)) (pg_name (i:=1) sc_law.nd rfl (Or.inl rfl))
        (pss_cons (ps_asg (pe_c0 G__law_two hr (pa_cons (pv 0) (pa_cons (pv 1) pa_nil))) (pg_tup rfl (pgs_cons (pg_name (i:=2) sc_law.nd rfl (Or.inl rfl)) (pgs_cons (pg_name (i:=3) sc_law.nd rfl (Or.inl rfl)) pgs_nil))))
          (pss_ifR (PW.pt (pw_or (pt_not (pt_val (pe_c0 G__law_right hr (pa_cons (pv 2) (pa_cons (pv 3) pa_nil))))) (pw_or (pt_not (pt_val (pe_c0 G__law_right hr (pa_cons (pv 3) (pa_cons (pv 2) pa_nil))))) (pw_or1 (pt_not (pt_val (pe_c0 G__law_right hr (pa_cons (pv 2) (pa_cons (pv 2) pa_nil))))))))) pe_bl
          (pss_one (ps_if (pt_not (pt_val (pe_c0 G__law_right hr (pa_cons (pv 2) (pa_cons (pv 3) pa_nil)))))
            (pss_ret pe_bl)
            pss_nil)))))
      (pss_ret pe_bl)),?_⟩
  have hlm:(ns.map V.int).length = ns.length:=List.length_map _
  refine ⟨_,rfl,a,_,rfl,.inl hS,_,_,rfl,_,_,rfl,rfl,?_⟩
  have hj:∃ j:Int,j = 2 + (if (((ns.map V.int).length:Nat):Int) < 10 then (((ns.map V.int).length:Nat):Int) else 10)∧0 ≤ j∧j ≤ 12:=⟨_,rfl,by split <;> omega,by split <;> omega⟩
  obtain ⟨j,ej,j0,j12⟩:=hj
  refine ⟨j,by rw [ej],(p62a j0 (by omega)).1,(p62a j0 (by omega)).2,?_⟩
  refine for_range (n:=j.toNat) (fun i σ H'=>(∃ o1 o2 o3,σ = [some (.ref a),o1,o2,o3])∧Same H H') ⟨⟨none,none,none,rfl⟩,fun _ _ e=>e⟩ ?_ ?_
  · rintro i σ H' hi ⟨⟨o1,o2,o3,rfl⟩,sm⟩
    refine gName_go ?_
    dsimp only
    refine ⟨_,rfl,_,rfl,a,ns,_,rfl,Same.seq sm hS,by omega,by omega,fun t u v S T H1 s1 ht hu hv hs=>?_⟩
    refine ⟨t,_,rfl,SqT.of ht,rfl,_,_,rfl,_,_,rfl,rfl,?_⟩
    refine ⟨_,rfl,_,rfl,u,v,S,T,rfl,hu,hv,hs,fun H2 s2=>⟨_,rfl,?_⟩⟩
    refine iteF ⟨_,rfl,_,rfl,v,u,T,S,rfl,hv.same s2,hu.same s2,hs.symm,fun H3 s3=>⟨_,rfl,?_⟩⟩
    have t3:=s2.trans s3
    refine iteF ⟨_,rfl,_,rfl,u,u,S,S,rfl,hu.same t3,hu.same t3,rfl,fun H4 s4=>⟨_,rfl,?_⟩⟩
    have t4:=t3.trans s4
    refine iteF ⟨_,rfl,_,rfl,u,v,S,T,rfl,hu.same t4,hv.same t4,hs,fun H5 s5=>⟨_,rfl,?_⟩⟩
    exact iteF ⟨⟨_,_,_,rfl⟩,sm.trans (s1.trans (t4.trans s5))⟩
  · rintro σ H' ⟨_,sm⟩
    exact q _
end
theorem fkm {K:PySem.W.Frag} {x:Str} {st:Stmt} {f:Addr} {oc:Value} {od an:Option Addr} {osl:Array (Option Value)} {kV doc pm cdv ct:Value} (a:PySem.W.nsIn K mainGlobals x = some (some (.ref f)):=by k_is)
    (l:K.lookup f = some ⟨oc,od,.func (PySem.W.fnOf x x (defArgs st) (defBody st) (defScope st) .none kV doc pm an cdv ct),osl⟩:=by k_is) (c:PySem.W.codeIn K cdv x = true:=by k_is) (k:PySem.W.keepIn K (.ref f) = true:=by k_is):FK K x st f:=fk_mk a l c k
theorem all_mk {l:PySem.W.OpenLaw} {w:World} {K:PySem.W.Frag} {h:Heap} {mg:Str→Option Value} {fa:Addr} (X:K.In h) (G:h.Ns mainGlobals mg) (hfa:mg "law" = some (.ref fa))
    {f__law_cell_at f__law_pot f__law_draw f__law_number f__law_word f_is_number f_in_span f_is_none f_has f_greater_low f_lesser_high f_common_spans f_gaps f_common_words f_rest_of f_common f_either f_less f_lies_in f__law_truth f__law_in f__law_ends f__law_beside f__law_spans f__law_words f__law_two f__law_borders f__law_numbers_due f__law_words_due f__law_due f__law_right:Addr}
    (a0:FK K "_law_cell_at" sCell f__law_cell_at:=by exact My.fkm)
    (a1:FK K "_law_pot" sPot f__law_pot:=by exact My.fkm)
    (a2:FK K "_law_draw" sDraw f__law_draw:=by exact My.fkm)
    (a3:FK K "_law_number" sNumber f__law_number:=by exact My.fkm)
    (a4:FK K "_law_word" sWord f__law_word:=by exact My.fkm)
    (a5:FK K "is_number" sIsNumber f_is_number:=by exact My.fkm)
    (a6:FK K "in_span" sInSpan f_in_span:=by exact My.fkm)
    (a7:FK K "is_none" sIsNone f_is_none:=by exact My.fkm)
    (a8:FK K "has" sHas f_has:=by exact My.fkm)
    (a9:FK K "greater_low" sGreaterLow f_greater_low:=by exact My.fkm)
    (a10:FK K "lesser_high" sLesserHigh f_lesser_high:=by exact My.fkm)
    (a11:FK K "common_spans" sCommonSpans f_common_spans:=by exact My.fkm)
    (a12:FK K "gaps" sGaps f_gaps:=by exact My.fkm)
    (a13:FK K "common_words" sCommonWords f_common_words:=by exact My.fkm)
    (a14:FK K "rest_of" sRestOf f_rest_of:=by exact My.fkm)
    (a15:FK K "common" sCommon f_common:=by exact My.fkm)
    (a16:FK K "either" sEither f_either:=by exact My.fkm)
    (a17:FK K "less" sLess f_less:=by exact My.fkm)
    (a18:FK K "lies_in" sLiesIn f_lies_in:=by exact My.fkm)
    (a19:FK K "_law_truth" s__law_truth f__law_truth:=by exact My.fkm)
    (a20:FK K "_law_in" s__law_in f__law_in:=by exact My.fkm)
    (a21:FK K "_law_ends" s__law_ends f__law_ends:=by exact My.fkm)
    (a22:FK K "_law_beside" s__law_beside f__law_beside:=by exact My.fkm)
    (a23:FK K "_law_spans" s__law_spans f__law_spans:=by exact My.fkm)
    (a24:FK K "_law_words" s__law_words f__law_words:=by exact My.fkm)
    (a25:FK K "_law_two" s__law_two f__law_two:=by exact My.fkm)
    (a26:FK K "_law_borders" s__law_borders f__law_borders:=by exact My.fkm)
    (a27:FK K "_law_numbers_due" s__law_numbers_due f__law_numbers_due:=by exact My.fkm)
    (a28:FK K "_law_words_due" s__law_words_due f__law_words_due:=by exact My.fkm)
    (a29:FK K "_law_due" s__law_due f__law_due:=by exact My.fkm)
    (a30:FK K "_law_right" s__law_right f__law_right:=by exact My.fkm)
    (z_len:PySem.W.nsIn K mainGlobals "len" = some none:=by k_is)
    (z_max:PySem.W.nsIn K mainGlobals "max" = some none:=by k_is)
    (z_abs:PySem.W.nsIn K mainGlobals "abs" = some none:=by k_is)
    (z_divmod:PySem.W.nsIn K mainGlobals "divmod" = some none:=by k_is)
    (z_range:PySem.W.nsIn K mainGlobals "range" = some none:=by k_is)
    (z_tuple:PySem.W.nsIn K mainGlobals "tuple" = some none:=by k_is)
    (z_list:PySem.W.nsIn K mainGlobals "list" = some none:=by k_is)
    (z_isinstance:PySem.W.nsIn K mainGlobals "isinstance" = some none:=by k_is)
    (z_str:PySem.W.nsIn K mainGlobals "str" = some none:=by k_is)
    (z_int:PySem.W.nsIn K mainGlobals "int" = some none:=by k_is)
    (z_bool:PySem.W.nsIn K mainGlobals "bool" = some none:=by k_is)
    (z_any:PySem.W.nsIn K mainGlobals "any" = some none:=by k_is)
    (z_min:PySem.W.nsIn K mainGlobals "min" = some none:=by k_is)
    (z_sorted:PySem.W.nsIn K mainGlobals "sorted" = some none:=by k_is)
    (z_set:PySem.W.nsIn K mainGlobals "set" = some none:=by k_is)
    {f_law:Addr} {od_law an_law:Option Addr} {sl_law:Array (Option Value)} {oc_law kV_law dc_law pm_law cd_law ct_law:Value}
    (a_law:PySem.W.nsIn K mainGlobals "law" = some (some (.ref f_law)):=by k_is) (l_law:K.lookup f_law = some ⟨oc_law,od_law,.func (PySem.W.fnOf "law" "law" (defArgs s_law) (defBody s_law) (defScope s_law) .none kV_law dc_law pm_law an_law cd_law ct_law),sl_law⟩:=by k_is) (c_law:PySem.W.codeIn K cd_law "law" = true:=by k_is) (k_law:PySem.W.keepIn K (.ref f_law) = true:=by k_is)
    (kib:PySem.W.kitOne K (.type "int") (.type "bool") = some false:=by kernel_rfl)
    (ksi:PySem.W.kitOne K (.type "str") (.type "int") = some false:=by kernel_rfl)
    (kis:PySem.W.kitOne K (.type "int") (.type "str") = some false:=by kernel_rfl) :
    ∃ fd:FuncData,(∀ (s:Shared) (v:Value),BindsTo s fd ⟨[v],[]⟩ [("_law_script", v)])∧∀ base:Heap,K.In base→base.Ns mainGlobals mg→FnOk l.prog w K mg base CX0 8 fa fd ["_law_script"] (spLaw K):=by
  have F:=fun {x:Str} {st:Stmt} {f:Addr} (a:FK K x st f)=>a.fa X G
  cases hfa.symm.trans (PySem.W.mg_of X G a_law)
  have Fl:=fun_mk (st:=s_law) l_law c_law k_law
  have B:Blt mg:=⟨PySem.W.mg_none_of X G z_len,PySem.W.mg_none_of X G z_max,PySem.W.mg_none_of X G z_abs,PySem.W.mg_none_of X G z_divmod,PySem.W.mg_none_of X G z_range,PySem.W.mg_none_of X G z_tuple,PySem.W.mg_none_of X G z_list,PySem.W.mg_none_of X G z_isinstance⟩
  have B2:Blt2 mg:=⟨PySem.W.mg_none_of X G z_str,PySem.W.mg_none_of X G z_int,PySem.W.mg_none_of X G z_bool,PySem.W.mg_none_of X G z_any,PySem.W.mg_none_of X G z_min,PySem.W.mg_none_of X G z_sorted,PySem.W.mg_none_of X G z_set⟩
  have Kt:Kit K:=⟨kib,ksi,kis⟩
  refine ⟨PySem.W.fnOf "law" "law" (defArgs s_law) (defBody s_law) (defScope s_law) .none kV_law dc_law pm_law an_law cd_law ct_law,fun s v=>.of_eq rfl,fun base _ _=>?_⟩
  have g0:=ok_cell (P:=l.prog) (w:=w) (base:=base) B (F a0)
  have g1:=ok_pot B (F a1) g0.m
  have g2:=ok_draw (P:=l.prog) (w:=w) (base:=base) B (F a2)
  have g3:=ok_number (F a3) g2.m
  have g4:=ok_word B (F a4) g2.m
  have g5:=ok_isnumber (P:=l.prog) (w:=w) (base:=base) B B2 Kt (F a5)
  have g6:=ok_inspan (P:=l.prog) (w:=w) (base:=base) (F a6)
  have g7:=ok_isnone (P:=l.prog) (w:=w) (base:=base) B (F a7)
  have g8:=ok_has B B2 Kt (F a8) g5.m g6.m
  have g9:=ok_gl (P:=l.prog) (w:=w) (base:=base) B (F a9)
  have g10:=ok_lh (P:=l.prog) (w:=w) (base:=base) B2 (F a10)
  have g11:=ok_cs B (F a11) g9.m g10.m
  have g12:=ok_gaps (P:=l.prog) (w:=w) (base:=base) B (F a12)
  have g13:=ok_cw B B2 (F a13) g8.m
  have g14:=ok_rst (F a14) g12.m
  have g15:=ok_cmn (F a15) g11.m g13.m
  have g16:=ok_ei (F a16) g14.m g15.m
  have g17:=ok_lss (F a17) g14.m g15.m
  have g18:=ok_lies (F a18) g7.m g17.m
  have g19:=ok_truth (P:=l.prog) (w:=w) (base:=base) (F a19)
  have g20:=ok_in (P:=l.prog) (w:=w) (base:=base) (F a20)
  have g21:=ok_ends (P:=l.prog) (w:=w) (base:=base) (F a21)
  have g22:=ok_beside B B2 (F a22) g2.m
  have g23:=ok_spans B B2 (F a23) g2.m g22.m g3.m
  have g24:=ok_words B B2 (F a24) g2.m g4.m
  have g25:=ok_two B (F a25) g1.m g2.m g23.m g21.m g24.m
  have g26:=ok_borders (P:=l.prog) (w:=w) (base:=base) B B2 (F a26)
  have g27:=ok_nd B B2 (F a27) g26.m g19.m g20.m
  have g28:=ok_wd B B2 (F a28) g19.m
  have g29:=ok_due (F a29) g27.m g28.m
  have g30:=ok_right B B2 (F a30) g15.m g29.m g16.m g17.m g18.m
  exact ok_law B B2 Fl g25.m g30.m
theorem walk {l:PySem.W.OpenLaw} {q:Program} {loose:List Str} {XP:(Str→Option Value)→Heap→Prop} {YP:World→Heap→Prop} {d:DefRec} {K:Params→PySem.W.Frag} (hn:l.most = some 63) (hdf:d.params.defaults = [])
    (hY:∀ (w:World) (h:Heap),YP w h→(K w.params).In h)
    (F:∀ (w:World) (mg:Str→Option Value) (fa:Addr) (h:Heap),(K w.params).In h→h.Ns mainGlobals mg→mg d.name = some (.ref fa) →
      ∃ fd:FuncData,(∀ (s:Shared) (u:Value),BindsTo s fd ⟨[u],[]⟩ [("_law_script", u)])∧∀ base:Heap,(K w.params).In base→base.Ns mainGlobals mg→FnOk l.prog w (K w.params) mg base CX0 8 fa fd ["_law_script"] (spLaw (K w.params))) :
    PySem.W.WalkO q loose XP YP l.row.toRowW d [] (fun f vs=>PySem.call f vs) :=
  L2.walk_of (n:=63) (k:=8) (x:="_law_script") (CX:=fun _=>CX0) (sp:=fun w=>spLaw (K w.params)) hn (by decide) hdf ⟨rfl,by decide,by decide⟩ hY F (fun _ _ a ns hl _ hS=>⟨a,ns,rfl,hS,hl,fun _=>rfl⟩) fun _ _ _ _ _ z=>z
end My
open PySem PySem.W PyProof.Rows
set_option maxRecDepth 100000 in
set_option maxHeartbeats 0 in
theorem PySem.Challenge.cw_rowpipes_k14_whole_sets_combined_holds : PySem.Challenge.rw_rowpipes_k14_whole_sets_combined.Holds := by
  w_on; o_law; k_head; (case hw=>w_witness2)
  k_fill
  refine My.walk (l:=PySem.Challenge.rw_rowpipes_k14_whole_sets_combined) rfl rfl (fun w h Y=>PySem.W.kIn_of Y) ?F
  case F =>
    intro w mg fa h KX G hmg
    exact My.all_mk KX G hmg
